import PyProof.Rows.All
import Wide.All
import OpenK.AllK
import Wide.FinOn
import Lean
import PyProof.EqAt
import PyProof.EqKinds
import PyProof.TupleCall
import PyProof.Rows.SortShellK
import PyProof.Rows.SortStr
import PyProof.Rows.SortWalk
import PyProof.StrBlockH
import PyProof.StrLawsIn
import PyProof.Rows.SetFrom
import PyProof.CollectWalk
import KE.KDictSum
import PyProof.ListStr
import PyProof.SeqI3
import PyProof.Rows.CallKwBuiltin
import PyProof.ListRange
import PyProof.AttrMissSeq
import PyProof.DictUpdate
import PyProof.DictList
import PyProof.ListNew
import PyProof.FactsAll.dict_1
import PyProof.SliceList
import PyProof.WalkInts
import PyProof.StationsW
import OpenK.KOwn
import KE.KTryMore
import PyProof.NsDelKeeps
import PyProof.ExcArgsOwn
import PyProof.ExcAttrAll.Exception
import OpenK.KDescr
import KE.KIsAll
import PyProof.ExcBaseAll.ValueError
import PyProof.StrBlock
import PyProof.StrCalls
import PyProof.StrLawsOccR
import KE.KDictOf
import PySem.Challenge.RW_allparts_k09_whole_how_many_stands
set_option linter.all false
set_option maxRecDepth 100000
set_option Elab.async false
set_option maxHeartbeats 4000000
abbrev Ww:=PySem.Value->PySem.Shared->Prop
abbrev Wv:=List (PySem.Addr×PySem.Obj)
abbrev Wu:=List (List PySem.Addr)
abbrev Wt:=PySem.W.Frag
abbrev Ws:=PySem.Str->Option PySem.Value
abbrev Wr:=List PySem.Addr
abbrev Wq:=List PySem.Value
abbrev Wp:=Option PySem.Value
abbrev Wo:=List Nat
abbrev Wm:=List Int
abbrev Wk:=List (List (List Nat))
abbrev Zq:=@if_pos
abbrev Zo:=@if_neg
abbrev ZZ:=@decide_eq_false
abbrev ZV:=@beq_eq_false_iff_ne
open Option renaming bind_eq_some_iff->Zz,map_eq_some_iff->Zu,bind_some->Zt,isSome_map->Yo,getD_some->Yf,isSome_iff_exists->YX,getD_none->X7
open List renaming length_map->Zy,mem_cons_of_mem->Zx,mem_cons_self->Zw,length_append->Zv,getD_eq_getElem?_getD->Zr,map_cons->Zn,getElem?_eq_getElem->Zm,length_cons->Zk,nodup_cons->Zh,mem_cons->Zg,getElem?_eq_some_iff->Zd,zip_cons_cons->Zc,mem_singleton->Zb,size_toArray->Za,mem_append->ZY,mem_append_right->ZX,flatten_cons->ZW,length_singleton->ZS,nodup_append->ZP,getElem?_map->ZO,append_nil->ZK,mem_map->ZG,getElem?_append_left->ZE,mem_append_left->ZD,length_range->ZC,getElem?_eq_none->Z0,map_map->Z1,getElem?_append_right->Z2,append_assoc->Z3,sublist_cons_self->Z5,map_append->Z6,length_set->Z7,find?_cons->Z8,suffix_refl->Z9,lookup_cons->Yz,getElem_mem->Yy,length_zip->Yw,getElem?_eq_none_iff->Yv,map_congr_left->Yu,flatten_append->Yt,all_eq_true->Yq,nodup_nil->Yn,getElem?_replicate->Yj,any_cons->Yg,mem_range->Ye,sublist_append_right->Yc,getElem?_zip_eq_some->Yb,suffix_nil->Ya,mem_filter->YZ,getElem?_set_ne->YY,sum_cons->YW,getD_cons_succ->YU,any_eq_true->YS,drop_of_length_le->YQ,length_replicate->YN,mem_range'_1->YM,mem_of_getElem?->YI,length_drop->YE,getElem_inj->YD,length_range'->Y1,cons_lt_cons_iff->Xz,all_cons->Xw,nil_suffix->Xt,pairwise_map->Xn,length_take->Xh,cons_append->Xg,take_of_length_le->Xf,getElem?_set_self->Xe,nil_append->Xc,length_nil->Xb,idxOf_cons->Xa,set_getElem_self->XY,length_filter_le->XX,eq_nil_or_concat->XW,cons_prefix_cons->XU,concat_eq_append->XT,map_id->XQ,filterMap_cons->XJ,pairwise_cons->XE,findIdx?_cons->XD,append_ne_nil_of_right_ne_nil->XC,nodup_range'->X1,map_set->X2,getElem?_set->X3,find?_isSome->X4,prefix_of_prefix_length_le->X6,map_fst_zip->Wz,append_cons->Wy
open PySem renaming wpAny_bind->Zs,wpAny_pure->Zj,wpAny_newObj_type->Yh,wpAny_truthy_bool->YT,wpAny_mono->YL,wpAny_passesOwn->YK,mem_of_lookup->YC,wpAny_call_entry->Y0,wpAny_holding->Y3,wpAny_Call_Name_kw->Y6,tupleKind_room_in1->Y7,sizeLine_eq->Y9,wpAny_typeNameOfWhole_keyiter->Xp,wpAny_field->Xd,wpAny_callSpecial?_slot->XS,wpAny_execs_nil->XH
open Option.some renaming inj->Zp
open Nat renaming le_refl->Zl,lt_of_lt_of_le->ZU,ne_of_lt->ZQ,le_of_not_lt->ZJ,le_trans->ZF,pos_of_ne_zero->Z4,lt_irrefl->Yp,lt_succ_self->Yl,zero_le->Yk,le_add_right->YF,le_of_not_le->Xy,min_eq_left->Xu,zero_add->Xr,le_of_eq->Xq,add_sub_cancel->Xo,succ_le_succ->Xi,lt_succ_of_lt->XA,le_of_lt->X0,min_le_right->X8,min_eq_right->X9
open PySem.Heap renaming get?_push_of_some->Zi,lt_size->ZR,get?_push_size->ZM,get?_update_other->XI,size_push->X5
open Bool renaming and_eq_true->Zf,false_ne_true->Ze,eq_iff_iff->YA,false_eq_true->Y2,and_eq_true_iff->XO
open PySem.W renaming mg_none_of->ZA,mg_of->Ys,kia_one->Yr,plainGet_of->XM,callWith_K->XG
open PySem.PassesOwn renaming never->Yx
open Array renaming getElem?_toList->Ym,length_toList->Yi
open Int renaming emod_lt_of_pos->Yd,emod_nonneg->YO,toNat_natCast->Xm,mul_le_mul_of_nonneg_right->Wx
open Ne renaming symm->YV
open PySem.F renaming slot_dict_keyiterator_next->YH,type_list_append->Xl,slot_list_append->Xk,plainAttrs_list->Xj,slot_dict_get->XZ
open PySem.Paired renaming length->Y4
open List.Sublist renaming refl->Y5
open PyProof.Rows renaming slot_tuple_getitem->Y8,callWith_type1->Xs
open Prod.mk renaming inj->Xv
open PySem.W.KFB renaming if_not->XF
section
namespace L2
theorem jl {G:Prop} (h:∀ P:Prop,(G->P)->P):G:=h G id
end L2
namespace VS
noncomputable abbrev Tx:=Wo
inductive T where
 | non | bl (b:Bool) | int (i:Int) | str (s:Tx) | scr (ns:Wm)
 | tup (l:List T) | lst (l:List T) | dct (kd:Nat) (l:List (T×T)) | obj (c:Nat) (fs:List (Nat×T))
 deriving Inhabited
abbrev Wg:=List T
noncomputable def eO:Nat:=16777216
mutual
@[simp] noncomputable def imm:T->Bool
 | .lst _=>false
 | .dct _ _=>false
 | .obj _ _=>false
 | .tup l=>eK l
 | _=>true
@[simp] noncomputable def eK:Wg->Bool
 | []=>true
 | t :: r=>imm t && eK r
end
mutual
@[simp] noncomputable def eqT:T->T->Bool
 | .non,.non=>true
 | .bl a,.bl b=>a == b
 | .bl a,.int i=>(if a then 1 else 0) == i
 | .int i,.bl a=>i == (if a then 1 else 0)
 | .int i,.int j=>i == j
 | .str s,.str t=>s == t
 | .tup a,.tup b=>pS a b
 | .lst a,.lst b=>pS a b
 | _,_=>false
@[simp] noncomputable def pS:Wg->Wg->Bool
 | [],[]=>true
 | a :: as,b :: bs=>eqT a b && pS as bs
 | _,_=>false
end
@[simp] noncomputable def eqD:Nat->T->Bool
 | _,.non=>true
 | _,.bl _=>true
 | _,.int _=>true
 | _,.str _=>true
 | n+1,.tup l=>l.all (eqD n)
 | n+1,.lst l=>l.all (eqD n)
 | _,_=>false
inductive Md where | fr | pu | bo
 deriving DecidableEq,Inhabited
@[simp] noncomputable def Md.join:Md->Md->Md
 | .bo,_=>.bo
 | _,.bo=>.bo
 | .pu,_=>.pu
 | _,.pu=>.pu
 | .fr,.fr=>.fr
inductive Cell where | pu (t:T) | ow (t:T)
 deriving Inhabited
abbrev Wj:=Option Cell
noncomputable abbrev Env:=List (Wj)
noncomputable abbrev Val:=Md×T
abbrev Wh:=Option Val
abbrev Wi:=List Val
noncomputable abbrev Ex:=Env->Wh
noncomputable abbrev Exs:=Env->Option (Wi)
@[simp] noncomputable def up (m:Md) (t:T):Val:=(if imm t then .fr else m,t)
@[simp] noncomputable def CU:T->Bool
 | .lst _=>true
 | .dct _ _=>true
 | .obj _ _=>true
 | _=>false
@[simp] noncomputable def cellOf:Val->Wj
 | (.fr,t)=>some (if CU t then .ow t else .pu t)
 | (.pu,t)=>some (.pu t)
 | (.bo,_)=>none
inductive Out where | nx (η:Env) | rt (v:Val) (η:Env) | bk (η:Env) | ct (η:Env)
noncomputable abbrev Sx:=Env->Option Out
@[simp] noncomputable def eC (t:T) (_:Env):Wh:=some (.fr,t)
@[simp] noncomputable def ab (i:Nat) (η:Env):Wh:=match η[i]? with
 | some (some (.pu t))=>some (up .pu t)
 | some (some (.ow t))=>some (.bo,t)
 | _=>none
@[simp] noncomputable def e1 (f:Val->Wh) (a:Ex) (η:Env):Wh:=(a η).bind f
@[simp] noncomputable def e2 (f:Val->Val->Wh) (a b:Ex) (η:Env):Wh:=(a η).bind fun x=>(b η).bind fun y=>f x y
@[simp] noncomputable def aj (_:Env):Option (Wi):=some []
@[simp] noncomputable def ae (a:Ex) (r:Exs) (η:Env):Option (Wi):=(a η).bind fun x=>(r η).bind fun xs=>some (x :: xs)
@[simp] noncomputable def eN (f:Wi->Wh) (as:Exs) (η:Env):Wh:=(as η).bind f
@[simp] noncomputable def cz:Wi->Md
 | []=>.fr
 | v :: r=>v.1.join (cz r)
@[simp] noncomputable def trees (l:Wi):Wg:=l.map (·.2)
noncomputable def mkL (m:Md) (l:Wg):Wh:=if l.length<=eO then some (if eK l then .fr else m,.lst l) else none
@[simp] noncomputable def fL (as:Exs) (η:Env):Wh:=(as η).bind fun l=>mkL (cz l) (trees l)
noncomputable def rA (l:Wi):Wh:=if l.length<=eO then some (up (cz l) (.tup (trees l))) else none
@[simp] noncomputable def j7 (as:Exs) (η:Env):Wh:=(as η).bind rA
noncomputable def dput (l:List (T×T)) (k v:T):List (T×T):=if l.any (fun p=>eqT p.1 k) then l.map (fun p=>if eqT p.1 k then (p.1,v) else p) else l++[(k,v)]
noncomputable def hV:T->Bool
 | .int _=>true
 | .str _=>true
 | _=>false
noncomputable def keyOk:Nat->T->Bool
 | 0,t=>hV t
 | 1,.tup l=>l.all hV
 | _,_=>false
noncomputable def pairs:List (Ex×Ex)->Env->Option (List (Val×Val))
 | [],_=>some []
 | (a,b) :: r,η=>(a η).bind fun x=>(b η).bind fun y=>(pairs r η).map ((x,y) :: ·)
noncomputable def iV (kd:Nat) (ps:List (Ex×Ex)) (η:Env):Wh:=(pairs ps η).bind fun l=>if l.all (fun p=>keyOk kd p.1.2)/\l.length<=15 then
 some (cz (l.map (·.2)),.dct kd (l.foldl (fun d p=>dput d p.1.2 p.2.2) [])) else none
@[simp] noncomputable def tru:T->Option Bool
 | .bl b=>some b
 | .int i=>some (i != 0)
 | .str s=>some (!s.isEmpty)
 | .lst l=>some (!l.isEmpty)
 | .tup l=>some (!l.isEmpty)
 | .dct 0 l=>some (!l.isEmpty)
 | .non=>some false
 | _=>none
@[simp] noncomputable def gu (a b:Ex) (η:Env):Wh:=(a η).bind fun x=>match x.2 with
 | .bl true=>b η
 | .bl false=>some (.fr,.bl false)
 | _=>none
@[simp] noncomputable def eOr (a b:Ex) (η:Env):Wh:=(a η).bind fun x=>match x.2 with
 | .bl true=>some (.fr,.bl true)
 | .bl false=>b η
 | _=>none
@[simp] noncomputable def j9 (a:Ex) (η:Env):Wh:=(a η).bind fun x=>match x.2 with
 | .bl b=>some (.fr,.bl (!b))
 | _=>none
@[simp] noncomputable def eIf (c a b:Ex) (η:Env):Wh:=(c η).bind fun x=>(tru x.2).bind fun t=>if t then a η else b η
@[simp] noncomputable def isN:T->Bool
 | .non=>true
 | _=>false
@[simp] noncomputable def qi (a:Ex) (η:Env):Wh:=(a η).bind fun x=>some (.fr,.bl (isN x.2))
@[simp] noncomputable def eW (a:Ex) (η:Env):Wh:=(a η).bind fun x=>some (.fr,.bl (!isN x.2))
@[simp] noncomputable def iH (f g:Val->Val->Wh) (a b c:Ex) (η:Env):Wh:=(a η).bind fun x=>(b η).bind fun y=>(f x y).bind fun r=>match r.2 with
 | .bl true=>(c η).bind fun z=>g y z
 | .bl false=>some (.fr,.bl false)
 | _=>none
@[simp] noncomputable def int?:T->Option Int
 | .int i=>some i
 | _=>none
noncomputable def cG:Val->Val->Wh
 | (_,.int i),(_,.int j)=>some (.fr,.int (i+j))
 | (_,.str s),(_,.str t)=>if s.length+t.length<=eO then some (.fr,.str (s++t)) else none
 | (m,.lst s),(n,.lst t)=>mkL (m.join n) (s++t)
 | _,_=>none
@[simp] noncomputable def jF:Val->Val->Wh
 | (_,.int i),(_,.int j)=>some (.fr,.int (i - j))
 | _,_=>none
noncomputable def B62:Int:=4611686018427387904
noncomputable def B64:Int:=18446744073709551616
noncomputable def gC:Val->Val->Wh
 | (_,.int i),(_,.int j)=>if (-B64 < i/\i < B64)\/(-B64 < j/\j < B64) then some (.fr,.int (i * j)) else none
 | _,_=>none
noncomputable def bY:Val->Val->Wh
 | (_,.int i),(_,.int j)=>if 0 < j/\j < 1073741824 then some (.fr,.int (i / j)) else none
 | _,_=>none
noncomputable def oMod:Val->Val->Wh
 | (_,.int i),(_,.int j)=>if 0 < j then some (.fr,.int (i % j)) else none
 | _,_=>none
noncomputable def ltx:Tx->Tx->Bool
 | [],[]=>false
 | [],_ :: _=>true
 | _ :: _,[]=>false
 | a :: as,b :: bs=>if a < b then true else if b < a then false else ltx as bs
@[simp] noncomputable def oLt:Val->Val->Wh
 | (_,.int i),(_,.int j)=>some (.fr,.bl (decide (i < j)))
 | (_,.str s),(_,.str t)=>some (.fr,.bl (ltx s t))
 | _,_=>none
@[simp] noncomputable def oLe:Val->Val->Wh
 | (_,.int i),(_,.int j)=>some (.fr,.bl (decide (i<=j)))
 | (_,.str s),(_,.str t)=>some (.fr,.bl (!ltx t s))
 | _,_=>none
@[simp] noncomputable def oGt (a b:Val):Wh:=oLt b a
@[simp] noncomputable def oGe (a b:Val):Wh:=oLe b a
@[simp] noncomputable def oEq (a b:Val):Wh:=if eqD 60 a.2/\eqD 60 b.2 then some (.fr,.bl (eqT a.2 b.2)) else none
@[simp] noncomputable def oNe (a b:Val):Wh:=if eqD 60 a.2/\eqD 60 b.2 then some (.fr,.bl (!eqT a.2 b.2)) else none
noncomputable def dI (l:List (T×T)) (k:T):Option T:=(l.find? fun p=>eqT p.1 k).map (·.2)
noncomputable def ixP (n:Nat) (i:Int):Option Nat:=if 0<=i then (if i < n then some i.toNat else none) else (if 0<=i+n then some (i+n).toNat else none)
@[simp] noncomputable def sub (m:Md) (t:T):Val:=up m t
@[simp] noncomputable def ax:Val->Val->Wh
 | (m,.lst l),(_,.int i)=>(ixP l.length i).bind fun k=>(l[k]?).map (sub m)
 | (m,.tup l),(_,.int i)=>(ixP l.length i).bind fun k=>(l[k]?).map (sub m)
 | (_,.scr l),(_,.int i)=>(ixP l.length i).bind fun k=>(l[k]?).map fun n=>(.fr,.int n)
 | (_,.str l),(_,.int i)=>(ixP l.length i).bind fun k=>(l[k]?).map fun n=>(.fr,.str [n])
 | _,_=>none
noncomputable def clip (n:Nat) (i:Int):Nat:=if i < 0 then (i+n).toNat else min i.toNat n
noncomputable def cut {α:Type} (l:List α) (a b:Option Int):List α :=
 let lo:=match a with | none=>0 | some i=>clip l.length i
 let hi:=match b with | none=>l.length | some i=>clip l.length i
 (l.drop lo).take (hi - lo)
@[simp] noncomputable def oSl (v:Val) (a b:Option Int):Wh:=match v with
 | (_,.str s)=>some (.fr,.str (cut s a b))
 | (m,.lst l)=>mkL m (cut l a b)
 | _=>none
@[simp] noncomputable def uR (c:Option Ex) (η:Env):Option (Option Int):=match c with
 | none=>some none
 | some e=>(e η).bind fun y=>(int? y.2).map some
@[simp] noncomputable def eSl (a:Ex) (lo hi:Option Ex) (η:Env):Wh:=(a η).bind fun x=>(uR lo η).bind fun l=>(uR hi η).bind fun h=>oSl x l h
@[simp] noncomputable def D3:T->Option Nat
 | .lst l=>some l.length
 | .tup l=>some l.length
 | .str l=>some l.length
 | .scr l=>some l.length
 | .dct 0 l=>some l.length
 | _=>none
@[simp] noncomputable def bX:Wi->Wh
 | [x]=>(D3 x.2).map fun n=>(.fr,.int n)
 | _=>none
@[simp] noncomputable def mh:Wi->Wh
 | [(_,.int i),(_,.int j)]=>some (.fr,.int (if j < i then j else i))
 | _=>none
@[simp] noncomputable def mL:Wi->Wh
 | [(_,.int i),(_,.int j)]=>some (.fr,.int (if j > i then j else i))
 | _=>none
noncomputable def jX:Wg->Option (Wm)
 | []=>some []
 | .int i :: r=>(jX r).map (i :: ·)
 | _=>none
noncomputable def strs?:Wg->Option (List Tx)
 | []=>some []
 | .str i :: r=>(strs? r).map (i :: ·)
 | _=>none
noncomputable def oA:Wi->Wh
 | [(_,.lst l)]=>(jX l).bind fun is=>some (.fr,.int is.sum)
 | _=>none
@[simp] noncomputable def Ee:T->Option (Wg)
 | .lst l=>some l
 | .tup l=>some l
 | .scr l=>some (l.map T.int)
 | .str l=>some (l.map fun c=>T.str [c])
 | .dct _ l=>some (l.map (·.1))
 | _=>none
@[simp] noncomputable def y9:Wi->Wh
 | [(m,.lst l)]=>mkL m l
 | [(m,.tup l)]=>mkL m l
 | _=>none
noncomputable def ik:Wi->Wh
 | [(m,.lst l)]=>if l.length<=eO then some (up m (.tup l)) else none
 | _=>none
noncomputable def kA (x:Tx):List Tx->List Tx
 | []=>[x]
 | y :: r=>if ltx y x then y :: kA x r else x :: y :: r
noncomputable def d5 (l:List Tx):List Tx:=l.foldr kA []
inductive Ty where | int | str | bool | list | tuple | dict
@[simp] noncomputable def oh:Ty->T->Bool
 | .int,.int _=>true
 | .int,.bl _=>true
 | .bool,.bl _=>true
 | .str,.str _=>true
 | .list,.lst _=>true
 | .tuple,.tup _=>true
 | .dict,.dct _ _=>true
 | _,_=>false
@[simp] noncomputable def rN:T->Bool
 | .obj _ _=>false
 | .scr _=>false
 | .dct 0 _=>true
 | .dct 1 _=>true
 | .dct _ _=>false
 | _=>true
@[simp] noncomputable def eIs (t:Ty) (a:Ex) (η:Env):Wh:=(a η).bind fun x=>if rN x.2 then some (.fr,.bl (oh t x.2)) else none
noncomputable def total:List Tx->Nat
 | []=>0
 | x :: r=>x.length+total r
noncomputable def dm (sep:Tx):List Tx->Tx
 | []=>[]
 | [x]=>x
 | x :: r=>x++sep++dm sep r
noncomputable def ia:Val->Wi->Wh
 | (_,.str sep),[(_,.lst l)]=>(strs? l).bind fun ss=>if total ss+ss.length * sep.length<=eO then some (.fr,.str (dm sep ss)) else none
 | _,_=>none
@[simp] noncomputable def eM (f:Val->Wi->Wh) (o:Ex) (as:Exs) (η:Env):Wh:=(o η).bind fun x=>(as η).bind fun xs=>f x xs
noncomputable abbrev Fn:=Wg->Wh
@[simp] noncomputable def bG (g:Fn) (as:Exs) (η:Env):Wh:=(as η).bind fun xs=>(g (trees xs)).bind fun r=>match r with
 | (.fr,t)=>some (.fr,t)
 | (_,t)=>some ((Md.pu).join (cz xs),t)
noncomputable abbrev Its:=Env->Option (Md×Wg)
@[simp] noncomputable def xr:Val->Option (Md×Wg)
 | (m,.lst l)=>some (m,l)
 | (m,.tup l)=>some (m,l)
 | (_,.str l)=>some (.fr,l.map fun c=>.str [c])
 | _=>none
@[simp] noncomputable def fK (a:Ex) (η:Env):Option (Md×Wg):=(a η).bind xr
noncomputable def rng (lo:Int) (n:Nat):Wg:=(List.range n).map fun (k:Nat)=>T.int (lo+k)
noncomputable def ed (a:Ex) (η:Env):Option (Md×Wg):=(a η).bind fun x=>(int? x.2).bind fun j=>if -B62<=j/\j < B62 then some (.fr,rng 0 j.toNat) else none
noncomputable def fe (a b:Ex) (η:Env):Option (Md×Wg):=(a η).bind fun x=>(b η).bind fun y=>(int? x.2).bind fun i=>(int? y.2).bind fun j =>
 if (-B62<=i/\i < B62)/\-B62<=j/\j < B62 then some (.fr,rng i (j - i).toNat) else none
noncomputable def zm (k:Nat):Wg->Wg
 | []=>[]
 | t :: r=>.tup [.int k,t] :: zm (k+1) r
@[simp] noncomputable def C5:Val->Option (Md×Wg)
 | (m,.lst l)=>some (m,zm 0 l)
 | _=>none
@[simp] noncomputable def Ec (a:Ex) (η:Env):Option (Md×Wg):=(a η).bind C5
noncomputable abbrev Tg:=T->Env->Option Env
@[simp] noncomputable def bw (i:Nat) (t:T) (η:Env):Option Env:=if i < η.length then some (η.set i (some (.pu t))) else none
@[simp] noncomputable def pV:List Tg->Wg->Env->Option Env
 | [],[],η=>some η
 | g :: gs,t :: ts,η=>(g t η).bind fun η'=>pV gs ts η'
 | _,_,_=>none
@[simp] noncomputable def oJ (gs:List Tg) (t:T) (η:Env):Option Env:=match t with
 | .tup l=>pV gs l η
 | _=>none
@[simp] noncomputable def okI (m:Md) (l:Wg):Bool:=match m with
 | .bo=>eK l
 | _=>true
noncomputable def iz (tg:Tg) (cond:Option Ex) (elt:Ex) (η:Env):Wg->Option (Wi)
 | []=>some []
 | t :: r=>(tg t η).bind fun η'=>(match cond with | none=>some true | some c=>(c η').bind fun x=>tru x.2).bind fun b =>
  if b then (elt η').bind fun v=>(iz tg cond elt η r).map (v :: ·) else iz tg cond elt η r
noncomputable def cM (k:Nat) (tg:Tg) (it:Its) (cond:Option Ex) (elt:Ex) (η:Env):Wh:=(it η).bind fun (m,l)=>if okI m l then
 (iz tg cond elt (List.replicate k none++η) l).bind fun vs=>mkL (cz vs) (trees vs) else none
@[simp] noncomputable def eR (η:Env):Option Out:=some (.nx η)
@[simp] noncomputable def ar (a b:Sx) (η:Env):Option Out:=(a η).bind fun o=>match o with
 | .nx η'=>b η'
 | o=>some o
@[simp] noncomputable def lX (i:Nat) (e:Ex) (η:Env):Option Out:=(e η).bind fun v=>(cellOf v).bind fun c=>if i < η.length then some (.nx (η.set i (some c))) else none
@[simp] noncomputable def aC (i:Nat) (e:Ex) (η:Env):Option Out:=(e η).bind fun v=>match v.1 with
 | .bo=>none
 | _=>if i < η.length then some (.nx (η.set i (some (.pu v.2)))) else none
@[simp] noncomputable def eY (e:Ex) (η:Env):Option Out:=(e η).bind fun v=>some (.rt (match v.1 with | .bo=>.pu | m=>m,v.2) η)
@[simp] noncomputable def gZ (i:Nat) (η:Env):Option Out:=match η[i]? with
 | some (some (.ow t))=>some (.rt (.fr,t) (η.set i none))
 | some (some (.pu t))=>some (.rt (up .pu t) η)
 | _=>none
@[simp] noncomputable def Eg (η:Env):Option Out:=some (.rt (.fr,.non) η)
@[simp] noncomputable def Ej (η:Env):Option Out:=some (.bk η)
@[simp] noncomputable def Ed (η:Env):Option Out:=some (.ct η)
@[simp] noncomputable def sIf (c:Ex) (a b:Sx) (η:Env):Option Out:=(c η).bind fun x=>(tru x.2).bind fun t=>if t then a η else b η
noncomputable def forL (tg:Tg) (body:Sx):Wg->Env->Option Out
 | [],η=>some (.nx η)
 | t :: r,η=>(tg t η).bind fun η1=>(body η1).bind fun o=>match o with
  | .nx η2=>forL tg body r η2
  | .ct η2=>forL tg body r η2
  | .bk η2=>some (.nx η2)
  | .rt v η2=>some (.rt v η2)
@[simp] noncomputable def okF:Md->Bool
 | .bo=>false
 | _=>true
@[simp] noncomputable def hU (tg:Tg) (it:Its) (body:Sx) (η:Env):Option Out:=(it η).bind fun (m,l)=>if okF m then forL tg body l η else none
noncomputable def eQ (c:Ex) (body:Sx):Nat->Env->Option Out
 | 0,_=>none
 | n+1,η=>(c η).bind fun x=>(tru x.2).bind fun t=>if t then (body η).bind fun o=>match o with
  | .nx η2=>eQ c body n η2
  | .ct η2=>eQ c body n η2
  | .bk η2=>some (.nx η2)
  | .rt v η2=>some (.rt v η2)
  else some (.nx η)
noncomputable def uY:Nat:=1000000
noncomputable def jP (c:Ex) (body:Sx) (η:Env):Option Out:=eQ c body uY η
@[simp] noncomputable def qo (i:Nat) (η:Env):Option Out:=match η[i]? with
 | some (some (.ow t))=>some (.nx (η.set i (some (.pu t))))
 | some (some (.pu _))=>some (.nx η)
 | _=>none
inductive Stp where | fld (k:Nat) | ix (e:Ex)
inductive Ky where | fld (k:Nat) | at (t:T)
@[simp] noncomputable def keys:List Stp->Env->Option (List Ky)
 | [],_=>some []
 | .fld k :: r,η=>(keys r η).map (.fld k :: ·)
 | .ix e :: r,η=>(e η).bind fun x=>(keys r η).map (.at x.2 :: ·)
noncomputable def D6 (fs:List (Nat×T)) (k:Nat):Option T:=fs.lookup k
noncomputable def DI (fs:List (Nat×T)) (k:Nat) (v:T):List (Nat×T):=if fs.any (fun p=>p.1 == k) then fs.map (fun p=>if p.1 == k then (p.1,v) else p) else fs++[(k,v)]
@[simp] noncomputable def yF {α:Type} (f:T->Option (T×α)):List Ky->T->Option (T×α)
 | [],t=>f t
 | .fld k :: r,.obj c fs=>(D6 fs k).bind fun x=>(yF f r x).map fun (y,a)=>(.obj c (DI fs k y),a)
 | .at (.int i) :: r,.lst l=>(ixP l.length i).bind fun j=>(l[j]?).bind fun x=>(yF f r x).map fun (y,a)=>(.lst (l.set j y),a)
 | .at k :: r,.dct d l=>(dI l k).bind fun x=>(yF f r x).map fun (y,a)=>(.dct d (dput l k y),a)
 | _,_=>none
noncomputable abbrev Xx:=Env->Option (Val×Env)
@[simp] noncomputable def xP (e:Ex) (η:Env):Option (Val×Env):=(e η).map fun v=>(v,η)
@[simp] noncomputable def lW (i:Nat) (way:List Stp) (f:T->Wi->Option (T×Val)) (as:Exs) (η:Env):Option (Val×Env):=match η[i]? with
 | some (some (.ow t))=>(keys way η).bind fun ks=>(as η).bind fun xs=>(yF (fun x=>f x xs) ks t).map fun (t',v)=>(v,η.set i (some (.ow t')))
 | _=>none
@[simp] noncomputable def fit (v:Val):Option T:=match v.1 with
 | .fr=>some v.2
 | _=>none
noncomputable def aD:T->Wi->Option (T×Val)
 | .lst l,[v]=>(fit v).bind fun t=>if l.length < eO then some (.lst (l++[t]),(.fr,.non)) else none
 | _,_=>none
@[simp] noncomputable def sX (x:Xx) (η:Env):Option Out:=(x η).map fun r=>.nx r.2
@[simp] noncomputable def Eb (i:Nat) (x:Xx) (η:Env):Option Out:=(x η).bind fun (v,η')=>(cellOf v).bind fun c=>if i < η'.length then some (.nx (η'.set i (some c))) else none
@[simp] noncomputable def Eh (x:Xx) (η:Env):Option Out:=(x η).bind fun (v,η')=>some (.rt (match v.1 with | .bo=>.pu | m=>m,v.2) η')
@[simp] noncomputable def fn (np nn:Nat) (body:Sx):Fn:=fun ts=>if ts.length=np then
 (body (ts.map (fun t=>some (.pu t))++List.replicate (nn - np) none)).bind fun o=>match o with
  | .rt v _=>some v
  | .nx _=>some (.fr,.non)
  | _=>none else none
@[simp] theorem Dv {m n:Md} {i j:Int}:cG (m,.int i) (n,.int j)=some (.fr,.int (i+j)):=rfl
theorem uL {m n:Md} {s t:Tx} (h:s.length+t.length<=16777216):cG (m,.str s) (n,.str t)=some (.fr,.str (s++t)):=Zq h
theorem kx {m n:Md} {i j:Int} (h:-18446744073709551616 < i/\i < 18446744073709551616):gC (m,.int i) (n,.int j)=some (.fr,.int (i * j)):=Zq (.inl h)
theorem gU {m n:Md} {i j:Int} (h:0 < j/\j < 1073741824):bY (m,.int i) (n,.int j)=some (.fr,.int (i / j)):=Zq h
theorem fR {m n:Md} {i j:Int} (h:0 < j):oMod (m,.int i) (n,.int j)=some (.fr,.int (i % j)):=Zq h
theorem dY {l:Wg} {t:T} (h:l.length < 16777216):aD (.lst l) [(.fr,t)]=some (.lst (l++[t]),(.fr,.non)):=by
 simp only [aD,fit,Zt]
 exact Zq h
theorem kQ {a:Ex} {η:Env} {m:Md} {j:Int} (e:a η=some (m,.int j)) (h:-4611686018427387904<=j/\j < 4611686018427387904):ed a η=some (.fr,rng 0 j.toNat):=by
 simp only [ed,e,Zt,int?]
 exact Zq h
theorem uq {m:Md} {l:Wg} (h:l.length<=16777216):mkL m l=some (if eK l then .fr else m,.lst l):=Zq h
theorem jc {tg:Tg} {body:Sx} {t:T} {r:Wg} {η η1 η2:Env} (h1:tg t η=some η1) (h2:body η1=some (.nx η2)):forL tg body (t :: r) η=forL tg body r η2:=by
 simp [forL,h1,h2]
theorem strs_map {α:Type} (f:α->Tx):∀ l:List α,strs? (l.map fun x=>T.str (f x))=some (l.map f)
 | []=>rfl
 | a :: r=>by simp [strs?,strs_map f r]
theorem ints_map {α:Type} (f:α->Int):∀ l:List α,jX (l.map fun x=>T.int (f x))=some (l.map f)
 | []=>rfl
 | a :: r=>by simp [jX,ints_map f r]
theorem kL:∀ ss:List Tx,dm [] ss=ss.flatten
 | []=>rfl
 | [x]=>by simp [dm]
 | x :: y :: r=>by
  have:=kL (y :: r)
  simp [dm] at this ⊢
  exact this
theorem ku:∀ ss:List Tx,total ss=ss.flatten.length
 | []=>rfl
 | x :: r=>by simp [total,ku r]
theorem md {m n:Md} {l:Wg} {ss:List Tx} (e:strs? l=some ss) (h1:ss.flatten.length<=16777216):ia (m,.str []) [(n,.lst l)]=some (.fr,.str ss.flatten):=by
 simp only [ia,Zt,e,kL]
 refine Zq ?_
 rw [ku]
 show _<=16777216
 simpa using h1
theorem iS {α:Type} (l:List α):(l.map fun x=>[x]).flatten=l:=by
 induction l with
 | nil=>rfl
 | cons a r ih=>rw [Zn,ZW,ih];rfl
theorem n4 (n:Nat):rng 0 n=(List.range n).map fun (k:Nat)=>T.int (k:Int):=by
 unfold rng
 simp
theorem oo {α:Type} (f:α->T) (h:∀ x,imm (f x)=true):∀ l:List α,eK (l.map f)=true
 | []=>rfl
 | a :: r=>by simp [h,oo f h r]
theorem mR {α:Type} {tg:Tg} {elt:Ex} {η:Env} (g:α->T) (f:α->Val):∀ l:List α,(∀ a∈l,∃ η',tg (g a) η=some η'/\elt η'=some (f a))->iz tg none elt η (l.map g)=some (l.map f)
 | [],_=>rfl
 | a :: r,h=>by
  obtain ⟨η',h1,h2⟩:=h a Zw
  simp [iz,h1,h2,mR g f r fun b hb=>h b (Zx _ hb)]
theorem jb {α:Type} {tg:Tg} {c elt:Ex} {η:Env} (g:α->T) (p:α->Bool) (f:α->Val):∀ l:List α,(∀ a∈l,∃ η' x,tg (g a) η=some η'/\c η'=some x/\tru x.2=some (p a)/\(p a=true->elt η'=some (f a))) →
  iz tg (some c) elt η (l.map g)=some ((l.filter p).map f)
 | [],_=>rfl
 | a :: r,h=>by
  obtain ⟨η',x,h1,h2,h3,h4⟩:=h a Zw
  have ih:=jb (c:=c) g p f r fun b hb=>h b (Zx _ hb)
  cases e:p a with
  | true=>simp [-tru,iz,h1,h2,h3,e,h4 e,ih]
  | false=>simp [-tru,iz,h1,h2,h3,e,ih]
theorem kW {α:Type} (f:α->T):∀ l:List α,cz (l.map fun a=>(Md.fr,f a))=.fr
 | []=>rfl
 | a :: r=>by simp [kW f r]
theorem mV {α:Type} (f:α->Val) (l:List α):trees (l.map f)=l.map fun a=>(f a).2:=by simp
theorem gw {α:Type} {k:Nat} {tg:Tg} {it:Its} {elt:Ex} {η:Env} {m:Md} (g:α->T) (f:α->T) (l:List α) (hi:it η=some (m,l.map g)) (hk:okI m (l.map g)=true) (hl:l.length<=16777216)
  (h:∀ a∈l,∃ η',tg (g a) (List.replicate k none++η)=some η'/\elt η'=some (.fr,f a)):cM k tg it none elt η=some (.fr,.lst (l.map f)):=by
 simp only [cM,hi,Zt]
 rw [Zq hk,mR g (fun a=>(Md.fr,f a)) l h]
 simp only [Zt,kW,mV]
 rw [uq (by rw [Zy];exact hl)]
 simp
theorem nQ {α:Type} {k:Nat} {tg:Tg} {it:Its} {c elt:Ex} {η:Env} {m:Md} (g:α->T) (p:α->Bool) (f:α->T) (l:List α) (hi:it η=some (m,l.map g)) (hk:okI m (l.map g)=true) (hl:l.length<=16777216)
  (h:∀ a∈l,∃ η' x,tg (g a) (List.replicate k none++η)=some η'/\c η'=some x/\tru x.2=some (p a)/\(p a=true->elt η'=some (.fr,f a))):cM k tg it (some c) elt η=some (.fr,.lst ((l.filter p).map f)):=by
 simp only [cM,hi,Zt]
 rw [Zq hk,jb g p (fun a=>(Md.fr,f a)) l h]
 simp only [Zt,kW,mV]
 rw [uq (by rw [Zy];exact ZF (XX _ _) hl)]
 simp
theorem uI {α:Type} {m n:Md} (f:α->T) (l:List α) (i:Int) (d:α) (h0:0<=i) (h1:i < l.length) (hi:imm (f (l.getD i.toNat d))=true):ax (m,.lst (l.map f)) (n,.int i)=some (.fr,f (l.getD i.toNat d)):=by
 have b2:i.toNat < l.length:=by lia
 simp only [Zr,Zm b2,Yf] at hi ⊢
 simp [ixP,h0,h1,b2,hi]
end VS
end
section
namespace L2
open PySem PySem.Spec PyProof.Rows
noncomputable abbrev Key:=Sum Int Str
noncomputable def jU:Key->Value->Bool
 | .inl k,v=>Value.isInt k v
 | .inr x,v=>Value.isStrOf x v
noncomputable def DM (w:World):Key->Int
 | .inl k=>hashInt k
 | .inr x=>hashStr w x
theorem bJ:∀ {k:Key} {v:Value},jU k v=true->(∃ i t,k=Sum.inl i/\v=Value.int i t)\/(∃ x t,k=Sum.inr x/\v=Value.str x t)
 | .inl i,v,h=>by
  obtain ⟨t,e⟩:=Value.isInt_shape (k:=i) (v:=v) h
  exact .inl ⟨i,t,rfl,e⟩
 | .inr x,v,h=>by
  obtain ⟨t,e⟩:=Value.isStrOf_shape (x:=x) (v:=v) h
  exact .inr ⟨x,t,rfl,e⟩
theorem sP (i:Int) (t:Tok):jU (.inl i) (.int i t)=true:=by simp [jU,Value.isInt]
theorem sQ (x:Str) (t:Tok):jU (.inr x) (.str x t)=true:=by simp [jU,Value.isStrOf]
theorem BS (a b:Int):decide ((Sum.inl a:Key)=Sum.inl b)=(a == b):=by
 by_cases e:a=b
 ·subst e;simp
 ·have h:¬ (Sum.inl a:Key)=Sum.inl b:=fun q=>e (Sum.inl.inj q)
  rw [ZZ h]
  exact (ZV.mpr e).symm
theorem zM (a b:Str):decide ((Sum.inr a:Key)=Sum.inr b)=decide (a=b):=by
 by_cases e:a=b
 ·subst e;simp
 ·have h:¬ (Sum.inr a:Key)=Sum.inr b:=fun q=>e (Sum.inr.inj q)
  rw [ZZ h,ZZ e]
theorem BI (a:Int) (b:Str):decide ((Sum.inl a:Key)=Sum.inr b)=false:=ZZ (fun q=>nomatch q)
theorem Bh (a:Str) (b:Int):decide ((Sum.inr a:Key)=Sum.inl b)=false:=ZZ (fun q=>nomatch q)
noncomputable def bB (prog:Program) (w:World):PySem.KeyKind prog w Key where
 is:=jU
 hash:=DM w
 inj:=fun v a b ha hb=>by
  rcases bJ ha with ⟨i,t,rfl,rfl⟩ | ⟨x,t,rfl,rfl⟩
  ·rcases bJ hb with ⟨j,u,rfl,e⟩ | ⟨y,u,rfl,e⟩
   ·injection e with e1 _;rw [e1]
   ·exact nomatch e
  ·rcases bJ hb with ⟨j,u,rfl,e⟩ | ⟨y,u,rfl,e⟩
   ·exact nomatch e
   ·injection e with e1 _;rw [e1]
 byValue:=fun k v h=>by
  rcases bJ h with ⟨i,t,rfl,rfl⟩ | ⟨x,t,rfl,rfl⟩ <;> rfl
 pyHash:=fun hv h=>by
  rcases bJ hv with ⟨i,t,rfl,rfl⟩ | ⟨x,t,rfl,rfl⟩
  ·exact wpAny_pyHash_int h
  ·exact wpAny_pyHash_str h
 eqBool:=fun hu hv h=>by
  rcases bJ hu with ⟨i,t,rfl,rfl⟩ | ⟨x,t,rfl,rfl⟩
  ·rcases bJ hv with ⟨j,u,rfl,rfl⟩ | ⟨y,u,rfl,rfl⟩
   ·rw [BS] at h;exact wpAny_eqBool_int h
   ·rw [BI] at h;exact SeqAt.EqAt.int_str i t y u _ _ _ _ h
  ·rcases bJ hv with ⟨j,u,rfl,rfl⟩ | ⟨y,u,rfl,rfl⟩
   ·rw [Bh] at h;exact SeqAt.EqAt.str_int x t j u _ _ _ _ h
   ·rw [zM] at h;exact wpAny_eqBool_str h
 «strs» := fun k x t v h=>by
  rcases bJ h with ⟨i,u,rfl,e⟩ | ⟨y,u,rfl,e⟩
  ·exact nomatch e
  ·injection e with e1 _
   subst e1
   cases v <;> rfl
theorem pq (prog:Program) (w:World) (i:Int) (t:Tok):(bB prog w).is (.inl i) (.int i t)=true:=sP i t
theorem oR (prog:Program) (w:World) (x:Str) (t:Tok):(bB prog w).is (.inr x) (.str x t)=true:=sQ x t
inductive V where
 | non | bl (b:Bool) | int (i:Int) | str (x:Str) | byt (b:Array UInt8) | flt (b:UInt64) | ref (a:Addr) | ty (n:String)
 deriving DecidableEq
noncomputable def RelV:V->Value->Prop
 | .non,u=>u=Value.none
 | .bl b,u=>u=Value.bool b
 | .int i,u=>∃ t,u=Value.int i t
 | .str x,u=>∃ t,u=Value.str x t
 | .byt b,u=>∃ t,u=Value.bytes b t
 | .flt b,u=>∃ t,u=Value.float b t
 | .ref a,u=>u=Value.ref a
 | .ty n,u=>u=Value.type n
noncomputable abbrev aO:List V->Wq->Prop:=Paired RelV
theorem aO.length {xs:List V} {us:Wq} (r:aO xs us):xs.length=us.length:=Y4 r
theorem aO.get:∀ {xs:List V} {us:Wq} {i:Nat} {x:V},aO xs us->xs[i]?=some x->∃ u,us[i]?=some u/\RelV x u
 | _,_,_,_,.nil,e=>by simp at e
 | _,_,0,_,.cons r _,e=>by simp at e;subst e;exact ⟨_,rfl,r⟩
 | _,_,i+1,x,.cons _ t,e=>by
  obtain ⟨u,h1,h2⟩:=aO.get (i:=i) (x:=x) t (by simpa using e)
  exact ⟨u,by simpa using h1,h2⟩
theorem aO.set {x:V} {u:Value} (r:RelV x u):∀ {xs:List V} {us:Wq} (i:Nat),aO xs us->aO (xs.set i x) (us.set i u)
 | _,_,_,.nil=>.nil
 | _,_,0,.cons _ t=>.cons r t
 | _,_,i+1,.cons q t=>.cons q (aO.set r i t)
theorem aO.append:∀ {xs ys:List V} {us ws:Wq},aO xs us->aO ys ws->aO (xs++ys) (us++ws)
 | _,_,_,_,.nil,s=>s
 | _,_,_,_,.cons r t,s=>.cons r (aO.append t s)
theorem aO.take:∀ {xs:List V} {us:Wq} (n:Nat),aO xs us->aO (xs.take n) (us.take n)
 | _,_,0,_=>.nil
 | _,_,_+1,.nil=>.nil
 | _,_,n+1,.cons r t=>.cons r (aO.take n t)
theorem aO.drop:∀ {xs:List V} {us:Wq} (n:Nat),aO xs us->aO (xs.drop n) (us.drop n)
 | _,_,0,r=>r
 | _,_,_+1,.nil=>.nil
 | _,_,n+1,.cons _ t=>aO.drop n t
theorem aO.none_of:∀ {xs:List V} {us:Wq} {i:Nat},aO xs us->xs[i]?=none->us[i]?=none:=fun {xs us i} r e=>by
 have h1:=r.length
 have h2:xs.length<=i:=Yv.mp e
 exact Yv.mpr (by lia)
noncomputable def gQ:Option V->Wp->Prop
 | some v,some u=>RelV v u
 | none,none=>True
 | _,_=>False
noncomputable def KV {κ:Type}:List (κ×V)->List (κ×Value)->Prop:=Paired fun (p:κ×V) (q:κ×Value)=>p.1=q.1/\RelV p.2 q.2
noncomputable def kV:Key->V
 | .inl i=>.int i
 | .inr x=>.str x
inductive HO where
 | lst (xs:List V)
 | tup (xs:List V)
 | dK (kvs:List (Key×V)) | dT (kvs:List (List Key×V))
 | set (S:Int->Bool) (n:Nat)
 | ins (C dx:Addr) (fs:List (Str×V))
 | own (x:Addr)
 | xd (fs:List (Str×V))
 | met (f x:Addr)
 | rng (lo hi:Int)
 | frz (o:Obj) (u:HO)
 | tbl (ps:Array Value)
 | ext (φ:Heap->Prop)
noncomputable abbrev Hp:=Addr->Option HO
noncomputable def upd (H:Hp) (a:Addr) (o:HO):Hp:=fun b=>if b=a then some o else H b
theorem ay {H:Hp} {a:Addr} {o:HO}:upd H a o a=some o:=by unfold upd;rw [Zq rfl]
theorem aG {H:Hp} {a b:Addr} {o:HO} (h:b ≠ a):upd H a o b=H b:=by unfold upd;rw [Zo h]
theorem qz {H:Hp} {a:Addr} {o u:HO}:upd (upd H a o) a u=upd H a u:=by
 funext b;unfold upd;split <;> rfl
theorem B4 {H:Hp} {a b:Addr} {o u:HO} (h:H a=some o) (h':H b=some u) (d:o ≠ u):a ≠ b:=by
 intro e;subst e;rw [h] at h';exact d (Zp h')
theorem d2 {H:Hp} {a b:Addr} {o:HO} (h:H a=some o) (h':H b=none):a ≠ b:=by
 intro e;subst e;rw [h] at h';cases h'
noncomputable def NoD (h:Heap) (a:Addr):Prop:=∀ o,h.get? a=some o->o.dict=none
theorem NoD.new (h:Heap) (its:Array Value):NoD (h.push { cls:=.type "tuple",data:=.seq its }) h.objs.size:=fun o e=>by
 rw [ZM _ rfl] at e
 cases e
 rfl
theorem NoD.of {h:Heap} {a:Addr} {o:Obj} (e:h.get? a=some o) (d:o.dict=none):NoD h a:=fun o' e'=>by
 rw [e] at e'
 cases e'
 exact d
section
variable (P:Program) (w:World)
noncomputable def cq (H:Hp) (h:Heap) (a:Addr):HO->Prop
 | .lst xs=>xs.length<=sizeLine/\∃ (its:Wq) (n:Nat),aO xs its/\h.get? a=some { cls:=.type "list",data:=.seq its.toArray n }
 | .tup xs=>xs.length<=sizeLine/\∃ its:Wq,aO xs its/\NoD h a/\IsTup h a its.toArray
 | .dK kvs=>kvs.length<=sizeLine/\(a == sysModules)=false/\∃ vs,KV kvs vs/\h.DictOf (bB P w) a vs
 | .dT kvs=>kvs.length<=sizeLine/\(a == sysModules)=false/\∃ xs:List (List Key×Addr×Value),
   Paired (fun (p:List Key×V) (q:List Key×Addr×Value)=>p.1=q.1/\H q.2.1=some (.tup (p.1.map kV))/\RelV p.2 q.2.2) kvs xs ∧
   ∃ o es ep,h.get? a=some o/\o.ExactDict/\o.data=.dict es ep/\es.toList=xs.map (entryOfKey (tupleKind (bB P w)))/\(xs.map (·.1)).Nodup
 | .set S n=>h.SetOf (intKind P w) a S n
 | .ins C dx fs=>H dx=some (.own a)/\fs.length<=1000/\dx ≠ a/\h.get? a=some (PySem.W.instObj C dx) ∧
   ∃ mA,h.Ns1 dx mA/\(∀ f,gQ (fs.lookup f) (mA f))/\PySem.Within mA (fs.map (·.1))
 | .own _=>∃ o,h.get? a=some o
 | .xd fs=>∃ mA,h.Ns1 a mA/\∀ f,gQ (fs.lookup f) (mA f)
 | .rng lo hi=>∃ t u v,h.get? a=some { cls:=.type "range",data:=.fields #[.int lo t,.int hi u,.int 1 v] }
 | .frz o u=>h.get? a=some o/\cq H h a u
 | .tbl ps=>h.get? a=some { cls:=.none,data:=.fields ps }
 | .met f x=>h.get? a=some (PySem.W.methodObj (.ref f) (.ref x))
 | .ext φ=>φ h/\(∃ o,h.get? a=some o)/\∀ h1 h2:Heap,φ h1->(∀ o,h1.get? a=some o->h2.get? a=some o)->φ h2
noncomputable def HOk (H:Hp) (h:Heap):Prop:=∀ a o,H a=some o->cq P w H h a o
end
section
variable {P:Program} {w:World} {H H':Hp} {h h':Heap} {a:Addr} {o:HO}
theorem cq.lt (x:cq P w H h a o):a < h.objs.size:=by
 cases o with
 | lst xs=>obtain ⟨_,_,_,_,e⟩:=x;exact ZR e
 | tup xs=>obtain ⟨_,_,_,_,p⟩:=x;exact p.lt
 | dK kvs=>obtain ⟨_,_,_,_,o,_,_,e,_⟩:=x;exact ZR e
 | dT kvs=>obtain ⟨_,_,_,_,o,_,_,e,_⟩:=x;exact ZR e
 | set S n=>obtain ⟨o,_,_,_,e,_⟩:=x;exact ZR e
 | ins C dx fs=>obtain ⟨_,_,_,e,_⟩:=x;exact ZR e
 | own y=>obtain ⟨_,e⟩:=x;exact ZR e
 | xd fs=>obtain ⟨_,⟨_,_,_,e,_⟩,_⟩:=x;exact ZR e
 | rng lo hi=>obtain ⟨_,_,_,e⟩:=x;exact ZR e
 | frz ob u=>obtain ⟨e,_⟩:=x;exact ZR e
 | tbl ps=>exact ZR (show h.get? a=some _ from x)
 | met f y=>exact ZR (show h.get? a=some _ from x)
 | ext φ=>obtain ⟨_,⟨_,e⟩,_⟩:=x;exact ZR e
theorem Paired.mapP {α β:Type} {F G:α->β->Prop}:∀ {l₁:List α} {l₂:List β},Paired F l₁ l₂->(∀ a b,F a b->G a b)->Paired G l₁ l₂
 | _,_,.nil,_=>.nil
 | _,_,.cons r t,f=>.cons (f _ _ r) (Paired.mapP t f)
theorem cq.stay (x:cq P w H h a o) (k:∀ b u,(b=a\/H b=some (.own a))->h.get? b=some u->h'.get? b=some u)
  (ho:∀ b,H b=some (.own a)->H' b=some (.own a)) (ht:∀ b xs,H b=some (.tup xs)->H' b=some (.tup xs)):cq P w H' h' a o:=by
 induction o with
 | lst xs=>obtain ⟨z,its,n,r,e⟩:=x;exact ⟨z,its,n,r,k _ _ (.inl rfl) e⟩
 | tup xs=>obtain ⟨z,its,r,nd,ob,e,c⟩:=x;exact ⟨z,its,r,NoD.of (k _ _ (.inl rfl) e) (nd _ e),ob,k _ _ (.inl rfl) e,c⟩
 | dK kvs=>obtain ⟨z,y,vs,r,ob,es,ep,e,c⟩:=x;exact ⟨z,y,vs,r,ob,es,ep,k _ _ (.inl rfl) e,c⟩
 | dT kvs =>
  obtain ⟨z,y,xs,r,ob,es,ep,e,c⟩:=x
  exact ⟨z,y,xs,Paired.mapP r fun p q z=>⟨z.1,ht _ _ z.2.1,z.2.2⟩,ob,es,ep,k _ _ (.inl rfl) e,c⟩
 | set S n=>obtain ⟨ob,es,ep,t,e,c⟩:=x;exact ⟨ob,es,ep,t,k _ _ (.inl rfl) e,c⟩
 | ins C dx fs =>
  obtain ⟨d,z,ne,e,mA,⟨od,es,ep,e2,c⟩,r⟩:=x
  exact ⟨ho _ d,z,ne,k _ _ (.inl rfl) e,mA,⟨od,es,ep,k _ _ (.inr d) e2,c⟩,r⟩
 | own y=>obtain ⟨ob,e⟩:=x;exact ⟨ob,k _ _ (.inl rfl) e⟩
 | xd fs=>obtain ⟨mA,⟨od,es,ep,e,c⟩,r⟩:=x;exact ⟨mA,⟨od,es,ep,k _ _ (.inl rfl) e,c⟩,r⟩
 | rng lo hi=>obtain ⟨t,u,v,e⟩:=x;exact ⟨t,u,v,k _ _ (.inl rfl) e⟩
 | frz ob u ih=>obtain ⟨e,q⟩:=x;exact ⟨k _ _ (.inl rfl) e,ih q⟩
 | tbl ps =>
  have e:h.get? a=some { cls:=.none,data:=.fields ps }:=x
  show h'.get? a=some { cls:=.none,data:=.fields ps }
  exact k a _ (.inl rfl) e
 | met f y =>
  have e:h.get? a=some (PySem.W.methodObj (.ref f) (.ref y)):=x
  show h'.get? a=some (PySem.W.methodObj (.ref f) (.ref y))
  exact k a _ (.inl rfl) e
 | ext φ=>obtain ⟨p,⟨o,e⟩,st⟩:=x;exact ⟨st _ _ p fun o q=>k _ _ (.inl rfl) q,⟨o,k _ _ (.inl rfl) e⟩,st⟩
theorem HOk.lt (x:HOk P w H h) (e:H a=some o):a < h.objs.size:=(x a o e).lt
theorem HOk.fresh (x:HOk P w H h) (e:h.objs.size<=a):H a=none:=by
 cases q:H a with
 | none=>rfl
 | some u=>exact absurd (ZU (x.lt q) e) (Yp _)
theorem HOk.kept (x:HOk P w H h) (k:∀ b u,h.get? b=some u->h'.get? b=some u):HOk P w H h':=fun a o e =>
 (x a o e).stay (fun b u _ q=>k b u q) (fun _ q=>q) fun _ _ q=>q
theorem HOk.laid (x:HOk P w H h) (k:∀ b u,h.get? b=some u->h'.get? b=some u) (hp:h.objs.size<=a) (new:cq P w (upd H a o) h' a o):HOk P w (upd H a o) h':=fun b u e=>by
 have hn:=x.fresh hp
 by_cases hb:b=a
 ·subst hb;rw [ay] at e;cases e;exact new
 ·rw [aG hb] at e
  exact (x b u e).stay (fun c v _ q=>k c v q) (fun c q=>by rw [aG (d2 q hn)];exact q) fun c xs q=>by rw [aG (d2 q hn)];exact q
end
noncomputable def Rd (H:Hp) (a:Addr) (u:HO):Prop:=H a=some u\/∃ o,H a=some (.frz o u)
theorem Rd.ok {P:Program} {w:World} {H:Hp} {h:Heap} {a:Addr} {u:HO} (r:Rd H a u) (x:HOk P w H h):cq P w H h a u:=by
 rcases r with r | ⟨o,r⟩
 ·exact x a u r
 ·obtain ⟨_,q⟩:=x a _ r
  exact q
noncomputable def Mut:Option HO->Prop
 | some (.lst _)=>True
 | some (.dK _)=>True
 | some (.dT _)=>True
 | some (.set _ _)=>True
 | some (.ins _ _ _)=>True
 | some (.ext _)=>True
 | _=>False
section
variable {P:Program} {w:World} {H:Hp} {h h':Heap} {x e:Addr} {o':HO}
theorem HOk.write (ok:HOk P w H h) (mu:Mut (H x)) (he:e=x\/H e=some (.own x)) (k:∀ b u,b ≠ e->h.get? b=some u->h'.get? b=some u) (heo:∃ u,h'.get? e=some u)
  (new:cq P w (upd H x o') h' x o'):HOk P w (upd H x o') h':=fun b u q=>by
 have nown:∀ c y,H c=some (.own y)->c ≠ x:=fun c y r z=>by subst z;rw [r] at mu;exact mu
 have ntup:∀ c xs,H c=some (.tup xs)->c ≠ x:=fun c xs r z=>by subst z;rw [r] at mu;exact mu
 by_cases hb:b=x
 ·subst hb;rw [ay] at q;cases q;exact new
 ·rw [aG hb] at q
  by_cases hbe:b=e
  ·have q':H b=some (.own x):=by
    rcases he with z | z
    ·exact absurd (hbe.trans z) hb
    ·rw [hbe];exact z
   rw [q] at q';cases q'
   obtain ⟨v,hv⟩:=heo
   exact ⟨v,by rw [hbe];exact hv⟩
  ·refine (ok b u q).stay (fun c v hc r=>k c v ?_ r) (fun c r=>by rw [aG (nown c b r)];exact r) fun c xs r=>by rw [aG (ntup c xs r)];exact r
   rcases hc with rfl | hc
   ·exact hbe
   ·rintro rfl
    rcases he with z | z
    ·exact nown c b hc z
    ·rw [hc] at z;cases z;exact hb rfl
end
structure Un (fs ex:Wr) (H H':Hp) (h h':Heap):Prop where
 keep:∀ b o,h.get? b=some o->H b=none->b ∉ fs->b ∉ ex->h'.get? b=some o
 slot:∀ b o,h.get? b=some o->H b=none->b∈fs->b ∉ ex->∃ sl,h'.get? b=some { o with slots:=sl }
 free:∀ b o,h.get? b=some o->H b=none->b ∉ ex->H' b=none
 there:∀ b o,h.get? b=some o->b ∉ ex->∃ o',h'.get? b=some o'
 tups:∀ b xs,H b=some (.tup xs)->H' b=some (.tup xs)
 frzs:∀ b o u,H b=some (.frz o u)->H' b=some (.frz o u)
 tbls:∀ b ps,H b=some (.tbl ps)->∃ more,H' b=some (.tbl (ps++more))
section
variable {fs fs' ex ex':Wr} {H H1 H2:Hp} {h h1 h2 h':Heap} {a x e:Addr} {o:HO}
theorem Un.any (u:Un fs ex H H1 h h1) {b:Addr} {ob:Obj} (q:h.get? b=some ob) (n:H b=none) (hx:b ∉ ex):∃ sl,h1.get? b=some { ob with slots:=sl }:=by
 by_cases hb:b∈fs
 ·exact u.slot b ob q n hb hx
 ·exact ⟨ob.slots,u.keep b ob q n hb hx⟩
theorem Un.kept (k:∀ b u,h.get? b=some u->h'.get? b=some u):Un fs ex H H h h' :=
 ⟨fun b ob q _ _ _=>k b ob q,fun b ob q _ _ _=>⟨ob.slots,k b ob q⟩,fun _ _ _ n _=>n,fun b ob q _=>⟨ob,k b ob q⟩,fun _ _ q=>q,fun _ _ _ q=>q,fun _ ps q=>⟨#[],by rw [q];simp⟩⟩
theorem Un.refl:Un fs ex H H h h:=Un.kept fun _ _ q=>q
theorem Un.laid (k:∀ b u,h.get? b=some u->h'.get? b=some u) (hp:h.objs.size<=a) (hn:H a=none):Un fs ex H (upd H a o) h h' where
 keep:=fun b u q _ _ _=>k b u q
 slot:=fun b u q _ _ _=>⟨u.slots,k b u q⟩
 free:=fun b u q n _=>by rw [aG (ZQ (ZU (ZR q) hp))];exact n
 there:=fun b u q _=>⟨u,k b u q⟩
 tups:=fun b xs q=>by rw [aG (d2 q hn)];exact q
 frzs:=fun b u xs q=>by rw [aG (d2 q hn)];exact q
 tbls:=fun b ps q=>⟨#[],by rw [aG (d2 q hn),q];simp⟩
theorem Un.write (mu:Mut (H x)) (he:e=x\/H e=some (.own x)) (k:∀ b u,b ≠ e->h.get? b=some u->h'.get? b=some u) (heo:∃ u,h'.get? e=some u):Un fs ex H (upd H x o) h h':=by
 have hx:∀ b,H b=none->b ≠ x:=fun b n z=>by subst z;rw [n] at mu;exact mu
 have hb:∀ b,H b=none->b ≠ e:=fun b n z=>by
  subst z
  rcases he with r | r
  ·exact hx b n r
  ·rw [n] at r;cases r
 have hm:∀ b u,H b=some u->¬ Mut (some u)->b ≠ x:=fun b u q nm z=>by subst z;rw [q] at mu;exact nm mu
 refine ⟨fun b u q n _ _=>k b u (hb b n) q,fun b u q n _ _=>⟨u.slots,k b u (hb b n) q⟩,fun b u q n _=>by rw [aG (hx b n)];exact n,fun b u q _=>?_,
  fun b xs q=>by rw [aG (hm b _ q fun z=>z)];exact q,fun b u xs q=>by rw [aG (hm b _ q fun z=>z)];exact q,fun b ps q=>⟨#[],by rw [aG (hm b _ q fun z=>z),q];simp⟩⟩
 by_cases hbe:b=e
 ·subst hbe;exact heo
 ·exact ⟨u,k b u hbe q⟩
end
noncomputable def trk (h:Heap) (H:Hp):Wr:=(List.range h.objs.size).filter fun a=>(H a).isSome
noncomputable def mY (h:Heap) (H:Hp):Heap:=PySem.W.hideAll h (trk h H)
theorem rT (h:Heap) (H:Hp):(mY h H).objs.size=h.objs.size:=PySem.W.hideAll_size _ _
theorem tK {h:Heap} {H:Hp} {b:Addr} {o:Obj} (e:h.get? b=some o) (n:H b=none):(mY h H).get? b=some o :=
 PySem.W.hideAll_get _ e fun hm=>by
  have q:(H b).isSome=true:=(YZ.mp hm).2
  rw [n] at q;simp at q
theorem xh {h:Heap} {H:Hp} {b:Addr} {o:Obj} (e:(mY h H).get? b=some o):h.get? b=some o/\H b=none:=by
 have e':h.get? b=some o:=PySem.W.of_hideAll (trk h H) e
 refine ⟨e',?_⟩
 cases q:H b with
 | none=>rfl
 | some x =>
  have hm:b∈trk h H:=YZ.mpr ⟨Ye.mpr (ZR e'),by simp [q]⟩
  have z:(mY h H).get? b=none:=PySem.W.hideAll_none (trk h H) hm
  rw [z] at e;cases e
noncomputable def xj (g h:Heap) (L:Addr):Wv:=(List.range h.objs.size).filterMap fun a=>if a=L\/(g.get? a).isSome=true then none else (h.get? a).map fun o=>(a,o)
noncomputable def rest (g h:Heap) (L d:Addr):Wv:=(xj g h L).filter fun p=>decide (p.1 ≠ d)
structure Mod (K:Wt) (mg:Ws) (base:Heap):Prop where
 kin:K.In base
 glob:base.Ns mainGlobals mg
 blt:∃ mb,base.Ns builtinsNs mb/\∀ x:Str,x ≠ "__name__" → mb x=bootBuiltins x
 nolimit:base.NoLimit
structure Cx where
 prog:Program
 w:World
 K:Wt
 mg:Ws
 base:Heap
 A:Around
 N:List Str
 s₀:Shared
 H₀:Hp
 env:Env
 outer:List Env
 stack:List Env
 ex:Wr
 fn:Str->Bool
 calm:Bool
 pn:Wv
 xe:Ww
noncomputable def frs (l:List Env):Wr:=l.filterMap (·.frame)
noncomputable abbrev Cx.fs (X:Cx):Wr:=frs X.outer
noncomputable def Vis (sc:Scope) (x:Str):Prop:=sc.names.lookup x=some .local\/sc.names.lookup x=some .cell\/sc.names.lookup x=some .free
noncomputable def Loc (sc:Scope) (x:Str):Prop:=sc.names.lookup x=some .local\/sc.names.lookup x=some .cell
noncomputable def Look (env:Env) (h:Heap) (m:Ws) (x:Str) (u:Value):Prop :=
 (env.kindOf x=some .local/\m x=some u)\/((env.kindOf x=some .cell\/env.kindOf x=some .free)/\∃ c,env.cells.lookup x=some c/\h.IsCell c (some u))
structure Cx.Ok (X:Cx):Prop where
 mod:Mod X.K X.mg X.base
 kind:X.env.scope.kind=.function
 glob:X.env.globals=mainGlobals
 blt:X.env.builtins=builtinsNs
 above:X.s₀.heap.objs.size<=X.env.locals
 inj:∀ x y c,X.env.cells.lookup x=some c->X.env.cells.lookup y=some c->x=y
 has:∀ x,(X.env.kindOf x=some .cell\/X.env.kindOf x=some .free)->∃ c,X.env.cells.lookup x=some c
 cab:∀ x c,X.fn x=true->X.env.cells.lookup x=some c->X.s₀.heap.objs.size<=c
 hd:X.calm=true->X.A.handled=none
 frames:X.A.frames=some X.stack
 stk:X.stack=X.outer\/(X.stack=X.env :: X.outer/\X.env.frame=some X.env.locals)
 exf:∀ b∈X.ex,b ≠ X.env.locals/\∀ x c,X.env.cells.lookup x=some c->c ≠ b
 bs:∀ b o,X.base.get? b=some o->X.s₀.heap.get? b=some o/\X.H₀ b=none
 bsz:X.base.objs.size<=X.s₀.heap.objs.size
 noex:∀ b o,X.base.get? b=some o->b ∉ X.ex
 exfs:∀ b∈X.ex,b ∉ X.fs
 funs:X.s₀.heap.FunFrames X.base X.outer
 frf:∀ b∈X.fs,X.H₀ b=none
structure Inv (X:Cx) (pins:Wv) (σ:List (Option V)) (H:Hp) (s:Shared):Prop where
 ok:X.Ok
 os:s.os=X.s₀.os
 bare:AllBare s.gens
 base:Un X.fs X.ex X.H₀ H X.s₀.heap s.heap
 loc:∃ m,s.heap.Ns X.env.locals m/\∀ (i:Nat) (x:Str) (v:V),X.N[i]?=some x->σ[i]?=some (some v)->Vis X.env.scope x->∃ u,RelV v u/\Look X.env s.heap m x u
 cell:∀ x c,X.env.cells.lookup x=some c->∃ v,s.heap.IsCell c v
 free:H X.env.locals=none
 freeC:∀ x c,X.env.cells.lookup x=some c->H c=none
 pin:∀ p∈X.pn++pins,s.heap.get? p.1=some p.2/\H p.1=none/\p.1 ≠ X.env.locals/\p.1 ∉ X.fs/\∀ v,p.2.data ≠ .cell v
 hok:HOk X.prog X.w H s.heap
 len:σ.length=X.N.length
section
variable {X:Cx} {pins:Wv} {σ:List (Option V)} {H H':Hp} {s:Shared} {h':Heap}
theorem Cx.Ok.nofr (ok:X.Ok) {b:Addr} {o:Obj} (e:X.base.get? b=some o):b ∉ X.fs:=fun hb=>by
 have:=(ok.funs.mem hb).1
 rw [e] at this;cases this
theorem Inv.bs (I:Inv X pins σ H s):∀ b o,X.base.get? b=some o->s.heap.get? b=some o/\H b=none:=fun b o e =>
 ⟨I.base.keep b o (I.ok.bs b o e).1 (I.ok.bs b o e).2 (I.ok.nofr e) (I.ok.noex b o e),I.base.free b o (I.ok.bs b o e).1 (I.ok.bs b o e).2 (I.ok.noex b o e)⟩
theorem Inv.bk (I:Inv X pins σ H s):∀ b o,X.base.get? b=some o->s.heap.get? b=some o:=fun b o e=>(I.bs b o e).1
theorem Inv.mod (I:Inv X pins σ H s):Mod X.K X.mg X.base:=I.ok.mod
theorem Inv.kIn (I:Inv X pins σ H s):X.K.In s.heap:=I.ok.mod.kin.keeps I.bk
theorem Inv.lt (I:Inv X pins σ H s):X.env.locals < s.heap.objs.size:=let ⟨_,hn,_⟩:=I.loc;hn.lt
theorem Inv.sz (I:Inv X pins σ H s):X.s₀.heap.objs.size<=s.heap.objs.size:=ZF I.ok.above (X0 I.lt)
theorem Inv.nofs (I:Inv X pins σ H s) {a:Addr} (h:s.heap.objs.size<=a):a ∉ X.fs:=fun hb=>by
 obtain ⟨_,o,ho,_⟩:=I.ok.funs.mem hb
 exact absurd (ZU (ZR ho) (ZF I.sz h)) (Yp _)
theorem Inv.cne (I:Inv X pins σ H s):∀ x c,X.env.cells.lookup x=some c->c ≠ X.env.locals:=fun x c e z=>by
 obtain ⟨v,o,ho,hd⟩:=I.cell x c e
 obtain ⟨m,⟨o',es,ep,ho',hd',_⟩,_⟩:=I.loc
 rw [z,ho'] at ho;cases ho;rw [hd'] at hd;cases hd
theorem Inv.funs (I:Inv X pins σ H s):s.heap.FunFrames X.base X.outer:=by
 have all:∀ (l:List Env),(∀ b∈frs l,b∈X.fs)->X.s₀.heap.FunFrames X.base l->s.heap.FunFrames X.base l:=by
  intro l
  induction l with
  | nil=>intro _ _;trivial
  | cons env r ih =>
   intro hs hl
   obtain ⟨hk,⟨L,o,hf,hn,ho,hd⟩,hr⟩:=hl
   have hL:L∈X.fs:=hs L (by unfold frs;rw [XJ,hf];exact Zw)
   obtain ⟨sl,e⟩:=I.base.slot L o ho (I.ok.frf L hL) hL fun z=>I.ok.exfs L z hL
   exact ⟨hk,⟨L,_,hf,hn,e,hd⟩,ih (fun b hb=>hs b (by unfold frs;rw [XJ,hf];exact Zx _ hb)) hr⟩
 exact all X.outer (fun _ hb=>hb) I.ok.funs
theorem Inv.stack (I:Inv X pins σ H s):s.heap.FunFrames X.base X.stack:=by
 rcases I.ok.stk with e | ⟨e,hf⟩
 ·rw [e];exact I.funs
 ·rw [e]
  obtain ⟨m,hn,_⟩:=I.loc
  refine .cons (by rw [I.ok.kind];decide) hf hn ?_ I.funs
  exact Heap.get?_none_of_le (ZF I.ok.bsz I.ok.above)
theorem Inv.stkSub (I:Inv X pins σ H s):∀ b∈frs X.stack,b∈X.env.locals :: X.fs:=fun b hb=>by
 rcases I.ok.stk with e | ⟨e,hf⟩
 ·rw [e] at hb;exact Zx _ hb
 ·rw [e] at hb
  unfold frs at hb
  rw [XJ,hf] at hb
  exact hb
theorem Inv.stkFree (I:Inv X pins σ H s):∀ b∈frs X.stack,H b=none:=fun b hb=>by
 rcases Zg.mp (I.stkSub b hb) with e | hb
 ·rw [e];exact I.free
 ·obtain ⟨_,o,ho,_⟩:=I.ok.funs.mem hb
  exact I.base.free b o ho (I.ok.frf b hb) fun z=>I.ok.exfs b z hb
theorem Inv.step {g':Array GenState} {t':Nat} {d':Drawn} {ch:Wr} (I:Inv X pins σ H s)
  (hch:∀ b∈ch,(b∈X.ex\/X.s₀.heap.objs.size<=b)/\b ≠ X.env.locals/\(∀ x c,X.env.cells.lookup x=some c->c ≠ b)/\∀ p∈X.pn++pins,p.1 ≠ b)
  (keep:∀ b o,b ≠ X.env.locals->b ∉ X.fs->b ∉ ch->s.heap.get? b=some o->H b=none->h'.get? b=some o)
  (slot:∀ b o,b ≠ X.env.locals->b∈X.fs->b ∉ ch->s.heap.get? b=some o->H b=none->∃ sl,h'.get? b=some { o with slots:=sl }) (free:∀ b o,b ∉ ch->s.heap.get? b=some o->H b=none->H' b=none)
  (there:∀ b o,b ∉ ch->s.heap.get? b=some o->∃ o',h'.get? b=some o')
  (tups:∀ b xs,H b=some (.tup xs)->H' b=some (.tup xs)) (frzs:∀ b o u,H b=some (.frz o u)->H' b=some (.frz o u)) (tbls:∀ b ps,H b=some (.tbl ps)->∃ more,H' b=some (.tbl (ps++more)))
  (ns:∀ m,s.heap.Ns X.env.locals m->h'.Ns X.env.locals m) (hok:HOk X.prog X.w H' h') (hg:AllBare g') :
  Inv X pins σ H' { s with heap:=h',gens:=g',drawn:=d',toks:=t' }:=by
 have neL:∀ b o,X.s₀.heap.get? b=some o->b ≠ X.env.locals:=fun b o e=>ZQ (ZU (ZR e) I.ok.above)
 have neC:∀ b o,X.s₀.heap.get? b=some o->b ∉ X.ex->b ∉ ch:=fun b o e hx hb=>by
  rcases (hch b hb).1 with z | z
  ·exact hx z
  ·exact absurd (ZU (ZR e) z) (Yp _)
 have cellK:∀ x c,X.env.cells.lookup x=some c->∀ v,s.heap.IsCell c v->h'.IsCell c v:=fun x c e v ⟨o,ho,hd⟩=>by
  have nch:c ∉ ch:=fun z=>(hch c z).2.2.1 x c e rfl
  by_cases hc:c∈X.fs
  ·obtain ⟨sl,q⟩:=slot c o (I.cne x c e) hc nch ho (I.freeC x c e)
   exact ⟨_,q,hd⟩
  ·exact ⟨o,keep c o (I.cne x c e) hc nch ho (I.freeC x c e),hd⟩
 refine ⟨I.ok,I.os,hg,⟨fun b o e n hb hx=>?_,fun b o e n hb hx=>?_,fun b o e n hx=>?_,fun b o e hx=>?_,fun b xs e=>tups b xs (I.base.tups b xs e),fun b o xs e=>frzs b o xs (I.base.frzs b o xs e),fun b ps e=>?_⟩,?_,fun x c e=>?_,?_,fun x c e=>?_,fun p hp=>?_,hok,I.len⟩
 ·exact keep b o (neL b o e) hb (neC b o e hx) (I.base.keep b o e n hb hx) (I.base.free b o e n hx)
 ·obtain ⟨sl,e1⟩:=I.base.slot b o e n hb hx
  obtain ⟨sl',e2⟩:=slot b _ (neL b o e) hb (neC b o e hx) e1 (I.base.free b o e n hx)
  exact ⟨sl',e2⟩
 ·obtain ⟨o',e1⟩:=I.base.there b o e hx
  exact free b o' (neC b o e hx) e1 (I.base.free b o e n hx)
 ·obtain ⟨o',e1⟩:=I.base.there b o e hx
  exact there b o' (neC b o e hx) e1
 ·obtain ⟨m1,e1⟩:=I.base.tbls b ps e
  obtain ⟨m2,e2⟩:=tbls b _ e1
  exact ⟨m1++m2,by rw [e2,Array.append_assoc]⟩
 ·obtain ⟨m,hn,hl⟩:=I.loc
  refine ⟨m,ns m hn,fun i x v e1 e2 e3=>?_⟩
  obtain ⟨u,r,l⟩:=hl i x v e1 e2 e3
  refine ⟨u,r,?_⟩
  rcases l with l | ⟨k,c,e,z⟩
  ·exact .inl l
  ·exact .inr ⟨k,c,e,cellK x c e _ z⟩
 ·obtain ⟨v,z⟩:=I.cell x c e
  exact ⟨v,cellK x c e v z⟩
 ·obtain ⟨m,⟨o,_,_,ho,_⟩,_⟩:=I.loc
  exact free _ o (fun z=>(hch _ z).2.1 rfl) ho I.free
 ·obtain ⟨v,o,ho,hd⟩:=I.cell x c e
  exact free c o (fun z=>(hch c z).2.2.1 x c e rfl) ho (I.freeC x c e)
 ·obtain ⟨e,n,ne,nf,d⟩:=I.pin p hp
  have nch:p.1 ∉ ch:=fun z=>(hch p.1 z).2.2.2 p hp rfl
  exact ⟨keep p.1 p.2 ne nf nch e n,free p.1 p.2 nch e n,ne,nf,d⟩
theorem Inv.un {t':Nat} (I:Inv X pins σ H s) (u:Un X.fs [] H H' s.heap h') (hok:HOk X.prog X.w H' h'):Inv X pins σ H' { s with heap:=h',toks:=t' }:=by
 obtain ⟨m,⟨o,es,ep,ho,r⟩,_⟩:=id I.loc
 obtain ⟨sl,hL⟩:=u.any ho I.free (by simp)
 exact I.step (g':=s.gens) (d':=s.drawn) (ch:=[]) (fun _ z=>nomatch z) (fun b o _ hb _ e n=>u.keep b o e n hb (by simp)) (fun b o _ hb _ e n=>u.slot b o e n hb (by simp)) (fun b o _ e n=>u.free b o e n (by simp)) (fun b o _ e=>u.there b o e (by simp)) u.tups u.frzs u.tbls (fun m' hm=>by
  obtain ⟨o',es',ep',ho',r'⟩:=hm
  rw [ho] at ho';cases ho'
  exact ⟨_,es',ep',hL,r'⟩) hok I.bare
theorem Inv.call {g':Array GenState} {t':Nat} {d':Drawn} {ch:Wr} (I:Inv X pins σ H s) (u:Un (frs X.stack) ch H H' s.heap h') (hok:HOk X.prog X.w H' h') (hg:AllBare g')
  (hch:∀ b∈ch,(b∈X.ex\/X.s₀.heap.objs.size<=b)/\b ≠ X.env.locals/\(∀ x c,X.env.cells.lookup x=some c->c ≠ b)/\∀ p∈X.pn++pins,p.1 ≠ b) :
  Inv X pins σ H' { s with heap:=h',gens:=g',drawn:=d',toks:=t' }:=by
 obtain ⟨m,⟨o,es,ep,ho,r⟩,_⟩:=id I.loc
 obtain ⟨sl,hL⟩:=u.any ho I.free fun z=>(hch _ z).2.1 rfl
 exact I.step (ch:=ch) hch (fun b o hL hb hc e n=>u.keep b o e n (fun z=>(Zg.mp (I.stkSub b z)).elim hL hb) hc) (fun b o _ _ hc e n=>u.any e n hc) (fun b o hc e n=>u.free b o e n hc) (fun b o hc e=>u.there b o e hc) u.tups u.frzs u.tbls (fun m' hm=>by
  obtain ⟨o',es',ep',ho',r'⟩:=hm
  rw [ho] at ho';cases ho'
  exact ⟨_,es',ep',hL,r'⟩) hok hg
theorem Inv.turned {t':Nat} {it:Addr} (I:Inv X pins σ H s) (k:∀ b o,b ≠ it->s.heap.get? b=some o->h'.get? b=some o) (hn:H it=none) (hL:it ≠ X.env.locals)
  (h1:it∈X.ex\/X.s₀.heap.objs.size<=it) (h2:∀ x c,X.env.cells.lookup x=some c->c ≠ it) (h3:∀ p∈X.pn++pins,p.1 ≠ it):Inv X pins σ H { s with heap:=h',toks:=t' }:=by
 have nit:∀ b u,H b=some u->b ≠ it:=fun b u e z=>by rw [z,hn] at e;cases e
 refine I.step (g':=s.gens) (d':=s.drawn) (ch:=[it]) (fun b hb=>?_) (fun b o _ _ hc e _=>k b o (fun z=>hc (by simp [z])) e) (fun b o _ _ hc e _=>⟨o.slots,k b o (fun z=>hc (by simp [z])) e⟩) (fun _ _ _ _ n=>n)
  (fun b o hc e=>⟨o,k b o (fun z=>hc (by simp [z])) e⟩) (fun _ _ e=>e) (fun _ _ _ e=>e) (fun b ps e=>⟨#[],by rw [e];simp⟩) (fun m hm=>?_) (fun b u e=>?_) I.bare
 ·have e:b=it:=by simpa using hb
  subst e
  exact ⟨h1,hL,h2,h3⟩
 ·obtain ⟨o,es,ep,ho,r⟩:=hm
  exact ⟨o,es,ep,k _ o (YV hL) ho,r⟩
 ·refine (I.hok b u e).stay (fun c v hc q=>k c v ?_ q) (fun _ q=>q) fun _ _ q=>q
  rcases hc with z | z
  ·rw [z];exact nit b u e
  ·exact nit c _ z
theorem Inv.tok (I:Inv X pins σ H s) (t:Nat):Inv X pins σ H { s with toks:=t }:=I.un (h':=s.heap) (t':=t) Un.refl I.hok
theorem Inv.kept {t':Nat} (I:Inv X pins σ H s) (k:∀ b u,s.heap.get? b=some u->h'.get? b=some u):Inv X pins σ H { s with heap:=h',toks:=t' }:=I.un (Un.kept k) (I.hok.kept k)
theorem Inv.laid {a:Addr} {o:HO} {t':Nat} (I:Inv X pins σ H s) (k:∀ b u,s.heap.get? b=some u->h'.get? b=some u) (hp:s.heap.objs.size<=a) (new:cq X.prog X.w (upd H a o) h' a o) :
  Inv X pins σ (upd H a o) { s with heap:=h',toks:=t' }:=I.un (Un.laid k hp (I.hok.fresh hp)) (I.hok.laid k hp new)
theorem Inv.write {x e:Addr} {o:HO} {t':Nat} (I:Inv X pins σ H s) (mu:Mut (H x)) (he:e=x\/H e=some (.own x)) (k:∀ b u,b ≠ e->s.heap.get? b=some u->h'.get? b=some u) (heo:∃ u,h'.get? e=some u)
  (new:cq X.prog X.w (upd H x o) h' x o):Inv X pins σ (upd H x o) { s with heap:=h',toks:=t' }:=I.un (Un.write mu he k heo) (I.hok.write mu he k heo new)
theorem Inv.pins_of {pins':Wv} (I:Inv X pins σ H s) (h:∀ p∈pins',s.heap.get? p.1=some p.2/\H p.1=none/\p.1 ≠ X.env.locals/\p.1 ∉ X.fs/\∀ v,p.2.data ≠ .cell v):Inv X pins' σ H s :=
 ⟨I.ok,I.os,I.bare,I.base,I.loc,I.cell,I.free,I.freeC,fun p hp=>(ZY.mp hp).elim (fun z=>I.pin p (ZD _ z)) (h p),I.hok,I.len⟩
theorem nU {N:List Str} (hN:N.Nodup) {i j:Nat} {x:Str} (a:N[i]?=some x) (b:N[j]?=some x):i=j:=by
 obtain ⟨h1,e1⟩:=Zd.mp a
 obtain ⟨h2,e2⟩:=Zd.mp b
 exact (YD hN).mp (e1.trans e2.symm)
theorem sI {M:Model} {A:Around} {E:Ww} {i:Nat} {x:Str} {v:V} {u:Value} {Q:Unit->Shared->Prop} (I:Inv X pins σ H s) (hN:X.N.Nodup) (hi:X.N[i]?=some x) (hx:Loc X.env.scope x) (r:RelV v u)
  (h:∀ s',Inv X pins (σ.set i (some v)) H s'->(∃ a,Heap.SameBut a s.heap s'.heap/\(a=X.env.locals\/X.env.cells.lookup x=some a))->Q () s') (hf:X.fn x=true\/X.env.scope.names.lookup x=some .local:=by first | exact .inl rfl | exact .inr rfl | assumption):wpAny M A (storeName X.env x u) Q E s:=by
 obtain ⟨m,hn,hl⟩:=id I.loc
 have hcls:(X.env.scope.kind == .class || (X.env.scope.kind == .module && X.env.locals != X.env.globals))=false:=by rw [I.ok.kind];rfl
 have hiσ:i < σ.length:=by rw [I.len];exact (Zd.mp hi).1
 have cne:=I.cne
 have tracked:∀ {a:Addr} {h':Heap},(∃ o,s.heap.get? a=some o/\H a=none)->Heap.SameBut a s.heap h'->HOk X.prog X.w H h':=fun {a h'} ha hs b ob e=>by
  obtain ⟨_,_,hfree⟩:=ha
  refine (I.hok b ob e).stay (fun c w' hc q=>(hs.2 c ?_).trans q) (fun _ q=>q) fun _ _ q=>q
  rintro rfl
  rcases hc with rfl | hc
  ·rw [hfree] at e;cases e
  ·rw [hfree] at hc;cases hc
 rcases hx with hk | hk
 ·refine wpAny_storeName_local hk hn (fun h' hn' hs=>?_) hcls
  obtain ⟨oL,_,_,hoL,_⟩:=id hn
  refine h _ ⟨I.ok,I.os,I.bare,⟨fun b o e n hb hx=>?_,fun b o e n hb hx=>?_,I.base.free,fun b o e hx=>?_,I.base.tups,I.base.frzs,I.base.tbls⟩,⟨_,hn',fun j y v' e1 e2 e3=>?_⟩,fun y c e=>?_,I.free,I.freeC,fun p hp=>?_,tracked ⟨oL,hoL,I.free⟩ hs,by simpa using I.len⟩ ⟨_,hs,.inl rfl⟩
  ·exact (hs.2 b (ZQ (ZU (ZR e) I.ok.above))).trans (I.base.keep b o e n hb hx)
  ·obtain ⟨sl,e1⟩:=I.base.slot b o e n hb hx
   exact ⟨sl,(hs.2 b (ZQ (ZU (ZR e) I.ok.above))).trans e1⟩
  ·obtain ⟨o',e1⟩:=I.base.there b o e hx
   exact ⟨o',(hs.2 b (ZQ (ZU (ZR e) I.ok.above))).trans e1⟩
  ·by_cases hj:j=i
   ·subst hj
    rw [hi] at e1;cases e1
    rw [Xe hiσ] at e2
    cases e2
    exact ⟨u,r,.inl ⟨hk,by simp⟩⟩
   ·rw [YY (YV hj)] at e2
    obtain ⟨u',r',q⟩:=hl j y v' e1 e2 e3
    refine ⟨u',r',?_⟩
    rcases q with ⟨k,e⟩ | ⟨k,c,e,z⟩
    ·refine .inl ⟨k,?_⟩
     have:y ≠ x:=fun e=>hj (nU hN e1 (e ▸ hi))
     simp [this,e]
    ·exact .inr ⟨k,c,e,z.sameBut hs (cne y c e)⟩
  ·obtain ⟨w',z⟩:=I.cell y c e
   exact ⟨w',z.sameBut hs (cne y c e)⟩
  ·obtain ⟨e,n,ne,nf,d⟩:=I.pin p hp
   exact ⟨(hs.2 p.1 ne).trans e,n,ne,nf,d⟩
 ·have hfn:X.fn x=true:=by
   rcases hf with z | z
   ·exact z
   ·rw [z] at hk;cases hk
  obtain ⟨c,hc⟩:=I.ok.has x (.inl hk)
  obtain ⟨w',z⟩:=I.cell x c hc
  refine wpAny_storeName_cell I.ok.kind hk hc z (fun h' hc' hs=>?_)
  obtain ⟨oc,hoc,hocd⟩:=id z
  refine h { s with heap:=h' } ⟨I.ok,I.os,I.bare,⟨fun b o e n hb hx=>?_,fun b o e n hb hx=>?_,I.base.free,fun b o e hx=>?_,I.base.tups,I.base.frzs,I.base.tbls⟩,⟨m,hn.sameBut hs (YV (cne x c hc)),fun j y v' e1 e2 e3=>?_⟩,fun y c' e=>?_,I.free,I.freeC,fun p hp=>?_,tracked ⟨oc,hoc,I.freeC x c hc⟩ hs,by simpa using I.len⟩ ⟨c,hs,.inr hc⟩
  ·exact (hs.2 b (ZQ (ZU (ZR e) (I.ok.cab x c hfn hc)))).trans (I.base.keep b o e n hb hx)
  ·obtain ⟨sl,e1⟩:=I.base.slot b o e n hb hx
   exact ⟨sl,(hs.2 b (ZQ (ZU (ZR e) (I.ok.cab x c hfn hc)))).trans e1⟩
  ·obtain ⟨o',e1⟩:=I.base.there b o e hx
   exact ⟨o',(hs.2 b (ZQ (ZU (ZR e) (I.ok.cab x c hfn hc)))).trans e1⟩
  ·by_cases hj:j=i
   ·subst hj
    rw [hi] at e1;cases e1
    rw [Xe hiσ] at e2
    cases e2
    exact ⟨u,r,.inr ⟨.inl hk,c,hc,hc'⟩⟩
   ·rw [YY (YV hj)] at e2
    obtain ⟨u',r',q⟩:=hl j y v' e1 e2 e3
    refine ⟨u',r',?_⟩
    rcases q with q | ⟨k,c',e,z'⟩
    ·exact .inl q
    ·refine .inr ⟨k,c',e,z'.sameBut hs ?_⟩
     rintro rfl
     exact hj (nU hN e1 (I.ok.inj _ _ _ e hc ▸ hi))
  ·by_cases hcc:c'=c
   ·subst hcc;exact ⟨_,hc'⟩
   ·obtain ⟨w2,z2⟩:=I.cell y c' e
    exact ⟨w2,z2.sameBut hs hcc⟩
  ·obtain ⟨e,n,ne,nf,d⟩:=I.pin p hp
   refine ⟨(hs.2 p.1 ?_).trans e,n,ne,nf,d⟩
   intro q
   rw [q,hoc] at e
   have q':oc=p.2:=Zp e
   exact d w' (by rw [← q'];exact hocd)
theorem n9 {M:Model} {A:Around} {E:Ww} {i:Nat} {x:Str} {v:V} {u:Value} {Q:Unit->Shared->Prop} (I:Inv X pins σ H s) (hN:X.N.Nodup) (hi:X.N[i]?=some x) (hx:Loc X.env.scope x) (r:RelV v u)
  (h:∀ s',Inv X pins (σ.set i (some v)) H s'->Q () s') (hf:X.fn x=true\/X.env.scope.names.lookup x=some .local:=by first | exact .inl rfl | exact .inr rfl | assumption):wpAny M A (storeName X.env x u) Q E s :=
 sI I hN hi hx r (fun s' I' _=>h s' I') hf
theorem Inv.call' {s':Shared} {ch:Wr} (I:Inv X pins σ H s) (ho:s'.os=s.os) (u:Un (frs X.stack) ch H H' s.heap s'.heap) (hok:HOk X.prog X.w H' s'.heap) (hg:AllBare s'.gens)
  (hch:∀ b∈ch,(b∈X.ex\/X.s₀.heap.objs.size<=b)/\b ≠ X.env.locals/\(∀ x c,X.env.cells.lookup x=some c->c ≠ b)/\∀ p∈X.pn++pins,p.1 ≠ b):Inv X pins σ H' s':=by
 obtain ⟨h',g',d',t',o'⟩:=s'
 have e:o'=s.os:=ho
 subst e
 exact I.call (g':=g') (t':=t') (d':=d') u hok hg hch
end
noncomputable abbrev XK:=Value->Option Addr->Hp->Prop
noncomputable abbrev St:=List (Option V)
noncomputable abbrev VK:=V->Hp->Prop
noncomputable abbrev TE:=St->Hp->VK->Prop
noncomputable abbrev TT:=St->Hp->(Bool->Hp->Prop)->Prop
noncomputable abbrev TA:=St->Hp->(List V->Hp->Prop)->Prop
structure Ends where
 nx:St->Hp->Prop
 rt:VK
 bk:St->Hp->Prop:=fun _ _=>False
 ct:St->Hp->Prop:=fun _ _=>False
noncomputable abbrev TS:=Ends->St->Hp->Prop
noncomputable def EP (X:Cx) (pins:Wv) (σ:St) (Q:VK) (u:Value) (s':Shared):Prop:=∃ v H',Inv X pins σ H' s'/\RelV v u/\Q v H'
noncomputable def TP (X:Cx) (pins:Wv) (σ:St) (Q:Bool->Hp->Prop) (b:Bool) (s':Shared):Prop:=∃ H',Inv X pins σ H' s'/\Q b H'
noncomputable def AP (X:Cx) (pins:Wv) (σ:St) (Q:List V->Hp->Prop) (us:Wq) (s':Shared):Prop:=∃ vs H',Inv X pins σ H' s'/\aO vs us/\Q vs H'
noncomputable def SP (X:Cx) (pins:Wv) (D:Ends) (f:Flow) (s':Shared):Prop :=
 match f with
 | .next=>∃ σ' H',Inv X pins σ' H' s'/\D.nx σ' H'
 | .brk=>∃ σ' H',Inv X pins σ' H' s'/\D.bk σ' H'
 | .cont=>∃ σ' H',Inv X pins σ' H' s'/\D.ct σ' H'
 | .ret u=>∃ v σ' H',Inv X pins σ' H' s'/\RelV v u/\D.rt v H'
noncomputable def PE (X:Cx) (e:Expr) (t:TE):Prop :=
 ∀ (pins:Wv) (s:Shared) (σ:St) (H:Hp) (Q:VK),Inv X pins σ H s->t σ H Q->wpAny (model X.prog X.w) X.A (eval e X.env) (EP X pins σ Q) X.xe s
noncomputable def PT (X:Cx) (e:Expr) (t:TT):Prop :=
 ∀ (pins:Wv) (s:Shared) (σ:St) (H:Hp) (Q:Bool->Hp->Prop),Inv X pins σ H s->t σ H Q->wpAny (model X.prog X.w) X.A (isTrue e X.env (eval e X.env)) (TP X pins σ Q) X.xe s
noncomputable def PW (X:Cx) (e:Expr) (t:TT):Prop :=
 ∀ (whole:Sem Value) (pins:Wv) (s:Shared) (σ:St) (H:Hp) (Q:Bool->Hp->Prop),Inv X pins σ H s->t σ H Q->wpAny (model X.prog X.w) X.A (isTrue e X.env whole) (TP X pins σ Q) X.xe s
theorem PW.pt {X:Cx} {e:Expr} {t:TT} (h:PW X e t):PT X e t:=h _
noncomputable def PA (X:Cx) (es:List Expr) (t:TA):Prop :=
 ∀ (pos:Pos) (pins:Wv) (s:Shared) (σ:St) (H:Hp) (Q:List V->Hp->Prop),Inv X pins σ H s->t σ H Q->wpAny (model X.prog X.w) X.A (spliced (backTo pos (starEach es X.env))) (AP X pins σ Q) X.xe s
noncomputable def PS (X:Cx) (st:Stmt) (t:TS):Prop :=
 ∀ (pins:Wv) (s:Shared) (σ:St) (H:Hp) (D:Ends),Inv X pins σ H s->t D σ H->wpAny (model X.prog X.w) X.A (exec st X.env) (SP X pins D) X.xe s
noncomputable def PSs (X:Cx) (st:List Stmt) (t:TS):Prop :=
 ∀ (pins:Wv) (s:Shared) (σ:St) (H:Hp) (D:Ends),Inv X pins σ H s->t D σ H->wpAny (model X.prog X.w) X.A (execs st X.env) (SP X pins D) X.xe s
theorem thn {α:Type} {t:Sem α} {Q Q':α->Shared->Prop} {M:Model} {A:Around} {E:Ww} {s:Shared} (h:wpAny M A t Q E s) (hQ:∀ a s,Q a s->Q' a s):wpAny M A t Q' E s:=YL h hQ fun _ _ x=>x
section
variable {X:Cx}
noncomputable def Ea (i:Nat):TE:=fun σ H Q=>∃ v,σ[i]?=some (some v)/\Q v H
noncomputable def tC (v:V):TE:=fun _ H Q=>Q v H
theorem gH {i:Nat} {x:Str} {pos:Pos} (hN:X.N[i]?=some x) (hv:Vis X.env.scope x) (hd:(x == ("__debug__" : Str))=false:=by decide) (hcd:(x == ("__classdict__" : Str))=false:=by decide):PE X (.Name x pos) (Ea i):=by
 intro pins s σ H Q I h
 obtain ⟨v,e,h⟩:=h
 obtain ⟨m,hn,hl⟩:=I.loc
 obtain ⟨u,r,l⟩:=hl i x v hN e hv
 have fin:EP X pins σ Q u s:=⟨v,H,I,r,h⟩
 rcases l with ⟨hk,hm⟩ | ⟨hk,c,hc,hcell⟩
 ·exact wpAny_Name (wpAny_loadName_local I.ok.kind hk hn hm fin) hd
 ·rcases hk with hk | hk
  ·exact wpAny_Name (wpAny_loadName_cell I.ok.kind hk hc hcell fin) hd
  ·exact wpAny_Name (wpAny_loadName_free I.ok.kind hk hc hcell fin hcd) hd
theorem mZ {i j pos}:PE X (.Constant (.int i) j pos) (tC (.int i)):=fun _ _ _ H _ I h=>wpAny_Constant_int ⟨.int i,H,I.tok _,⟨_,rfl⟩,h⟩
theorem zg {b j pos}:PE X (.Constant (.bool b) j pos) (tC (.bl b)):=fun _ _ _ H _ I h=>Constant_bool ⟨.bl b,H,I,rfl,h⟩
theorem Bx {j pos}:PE X (.Constant .none j pos) (tC .non):=fun _ _ _ H _ I h=>Constant_none ⟨.non,H,I,rfl,h⟩
theorem Ag {x j pos}:PE X (.Constant (.str x) j pos) (tC (.str x)):=fun _ _ _ H _ I h=>Calls.Constant_str ⟨.str x,H,I.tok _,⟨_,rfl⟩,h⟩
noncomputable def Gl (X:Cx) (x:Str):Prop:=X.env.kindOf x=some .globalImplicit
theorem ko {E:Ww} {pins:Wv} {s:Shared} {σ:St} {H:Hp} {x:Str} {u:Value} {pos:Pos} {Q:Ww} (I:Inv X pins σ H s) (hg:Gl X x) (hm:X.mg x=some u) (h:Q u s)
  (hd:(x == ("__debug__" : Str))=false:=by decide):wpAny (model X.prog X.w) X.A (eval (.Name x pos) X.env) Q E s :=
 Calls.Name_function_global I.ok.kind hg (Calls.loadGlobal_global (by rw [I.ok.glob];exact I.mod.glob.keeps I.bk) hm h) hd
theorem lK {E:Ww} {pins:Wv} {s:Shared} {σ:St} {H:Hp} {x:Str} {u:Value} {pos:Pos} {Q:Ww} (I:Inv X pins σ H s) (hg:Gl X x) (hm:X.mg x=none) (hv:bootBuiltins x=some u) (h:Q u s)
  (hn:x ≠ "__name__" := by decide) (hd:(x == ("__debug__" : Str))=false:=by decide):wpAny (model X.prog X.w) X.A (eval (.Name x pos) X.env) Q E s:=by
 obtain ⟨mb,h1,h2⟩:=I.mod.blt
 exact Calls.Name_function_global I.ok.kind hg (Calls.loadGlobal_builtin (by rw [I.ok.glob];exact I.mod.glob.keeps I.bk) hm (by rw [I.ok.blt];exact h1.keeps I.bk) ((h2 x hn).trans hv) h) hd
theorem wY {x:Str} {v:V} {u:Value} {pos:Pos} (hg:Gl X x) (hm:X.mg x=some u) (r:RelV v u) (hd:(x == ("__debug__" : Str))=false:=by decide):PE X (.Name x pos) (tC v) :=
 fun _ _ _ H _ I h=>ko I hg hm ⟨v,H,I,r,h⟩ hd
theorem wC {x:Str} {v:V} {u:Value} {pos:Pos} (hg:Gl X x) (hm:X.mg x=none) (hv:bootBuiltins x=some u) (r:RelV v u) (hn:x ≠ "__name__" := by decide) (hd:(x == ("__debug__" : Str))=false:=by decide):PE X (.Name x pos) (tC v) :=
 fun _ _ _ H _ I h=>lK I hg hm hv ⟨v,H,I,r,h⟩ hn hd
variable {a b:Expr} {ta tb:TE} {pos:Pos}
noncomputable def PC (X:Cx) (op:CmpOp) (a b:Expr) (t:TE):Prop :=
 ∀ (pins:Wv) (s:Shared) (σ:St) (H:Hp) (Q:VK),Inv X pins σ H s->t σ H Q →
  wpAny (model X.prog X.w) X.A (eval a X.env) (fun v s₁=>wpAny (model X.prog X.w) X.A (eval b X.env) (fun u s₂=>wpAny (model X.prog X.w) X.A (compareOp op v u) (EP X pins σ Q) X.xe s₂) X.xe s₁) X.xe s
theorem vC (b:Expr) {op:CmpOp} (h:op ≠ .In) (h2:op ≠ .NotIn):behindInMarks op b=false:=by
 have e1:(op == CmpOp.In)=false:=by cases op <;> first | rfl | exact absurd rfl h
 have e2:(op == CmpOp.NotIn)=false:=by cases op <;> first | rfl | exact absurd rfl h2
 cases b <;> simp [behindInMarks,e1,e2]
noncomputable def DW (ta:TE):TE:=fun σ H Q=>ta σ H fun x H1=>Q (.bl (decide (x=.non))) H1
noncomputable def Ct (ta:TE):TE:=fun σ H Q=>ta σ H fun x H1=>Q (.bl (!decide (x=.non))) H1
theorem RelV.none_iff {x:V} {v:Value} (r:RelV x v):(v == Value.none)=decide (x=.non):=by
 cases x with
 | non=>cases r;rfl
 | bl _=>cases r;rfl
 | int _=>obtain ⟨t,rfl⟩:=r;rfl
 | str _=>obtain ⟨t,rfl⟩:=r;rfl
 | byt _=>obtain ⟨t,rfl⟩:=r;rfl
 | flt _=>obtain ⟨t,rfl⟩:=r;rfl
 | ref _=>cases r;rfl
 | ty _=>cases r;rfl
theorem zY {j pos'} (ha:PE X a ta):PC X .Is a (.Constant .none j pos') (DW ta):=by
 intro pins s σ H Q I h
 refine thn (ha pins s σ H _ I h) fun v s1 ⟨x,H1,I1,r1,q1⟩=>?_
 exact Constant_none (is_none_gen ⟨.bl _,H1,I1,by rw [r1.none_iff];rfl,q1⟩)
theorem wI {j pos'} (ha:PE X a ta):PC X .IsNot a (.Constant .none j pos') (Ct ta):=by
 intro pins s σ H Q I h
 refine thn (ha pins s σ H _ I h) fun v s1 ⟨x,H1,I1,r1,q1⟩=>?_
 exact Constant_none (isnot_none_gen ⟨.bl _,H1,I1,by rw [r1.none_iff];rfl,q1⟩)
noncomputable def tB (t:TE):TT:=fun σ H Q=>t σ H fun x H1=>∃ c,x=.bl c/\Q c H1
theorem uZ {op:CmpOp} {t:TE} (h:PC X op a b t) (h1:behindInMarks op b=false:=by first | exact vC _ (by decide) (by decide) | rfl):PT X (.Compare a [op] [b] pos) (tB t):=by
 intro pins s σ H Q I hw
 refine wpAny_isTrue_Compare1 (thn (h pins s σ H _ I hw) fun v s1 h1=>thn h1 fun u s2 h2=>thn h2 fun c s3 ⟨x,H1,I1,r1,q1⟩=>?_) h1
 obtain ⟨d,rfl,q⟩:=q1
 cases r1
 exact YT ⟨H1,I1,q⟩
variable {tA tB':TT} {rest:List Expr}
noncomputable def DD (t u:TT):TT:=fun σ H Q=>t σ H fun c H1=>if c=true then u σ H1 Q else Q false H1
noncomputable def tOr (t u:TT):TT:=fun σ H Q=>t σ H fun c H1=>if c=true then Q true H1 else u σ H1 Q
noncomputable def DX (t:TT):TT:=fun σ H Q=>t σ H fun c H1=>Q (!c) H1
theorem xu (ha:PT X a tA):PW X (.BoolOp .And [a] pos) tA:=by
 intro wh pins s σ H Q I h
 refine isTrue_and (thn (ha pins s σ H Q I h) fun c s1 e=>?_)
 cases c with
 | true=>exact isTrue_and_nil e
 | false=>exact e
theorem zL (ha:PT X a tA):PW X (.BoolOp .Or [a] pos) tA:=by
 intro wh pins s σ H Q I h
 refine isTrue_or (thn (ha pins s σ H Q I h) fun c s1 e=>?_)
 cases c with
 | false=>exact isTrue_or_nil e
 | true=>exact e
theorem AH (ha:PT X a tA) (hb:PW X (.BoolOp .And (b :: rest) pos) tB'):PW X (.BoolOp .And (a :: b :: rest) pos) (DD tA tB'):=by
 intro wh pins s σ H Q I h
 refine isTrue_and (thn (ha pins s σ H _ I h) fun c s1 ⟨H1,I1,q1⟩=>?_)
 cases c with
 | true=>exact hb wh pins s1 σ H1 Q I1 q1
 | false=>exact ⟨H1,I1,q1⟩
theorem B9 (ha:PT X a tA) (hb:PW X (.BoolOp .Or (b :: rest) pos) tB'):PW X (.BoolOp .Or (a :: b :: rest) pos) (tOr tA tB'):=by
 intro wh pins s σ H Q I h
 refine isTrue_or (thn (ha pins s σ H _ I h) fun c s1 ⟨H1,I1,q1⟩=>?_)
 cases c with
 | true=>exact ⟨H1,I1,q1⟩
 | false=>exact hb wh pins s1 σ H1 Q I1 q1
theorem BO (ha:PT X a tA):PT X (.UnaryOp .Not a pos) (DX tA):=by
 intro pins s σ H Q I h
 exact isTrue_not (ha pins s σ H (fun c H1=>Q (!c) H1) I h)
noncomputable def CB (ta tb:TE):TE:=fun σ H Q=>ta σ H fun x H1=>∃ c,x=.bl c/\if c=true then tb σ H1 Q else Q (.bl false) H1
noncomputable def Cf (ta:TE):TE:=fun σ H Q=>ta σ H fun x H1=>∃ c,x=.bl c/\Q (.bl (!c)) H1
theorem A2 {op} {t:TE} (h:PE X a t):PE X (.BoolOp op [a] pos) t:=fun pins s σ H Q I hw=>BoolOp_one (h pins s σ H Q I hw)
theorem Au (ha:PE X a ta) (hb:PE X (.BoolOp .And (b :: rest) pos) tb):PE X (.BoolOp .And (a :: b :: rest) pos) (CB ta tb):=by
 intro pins s σ H Q I h
 refine BoolOp_and (thn (ha pins s σ H _ I h) fun v s1 ⟨x,H1,I1,r1,q1⟩=>?_)
 obtain ⟨c,rfl,q1⟩:=q1
 cases r1
 refine YT ?_
 cases c with
 | true=>exact hb pins s1 σ H1 Q I1 q1
 | false=>exact ⟨.bl false,H1,I1,rfl,q1⟩
theorem zP (ha:PE X a ta):PE X (.UnaryOp .Not a pos) (Cf ta):=by
 intro pins s σ H Q I h
 refine UnaryOp_ (thn (ha pins s σ H _ I h) fun v s1 ⟨x,H1,I1,r1,q1⟩=>?_)
 obtain ⟨c,rfl,q1⟩:=q1
 cases r1
 exact not_of (YT ⟨.bl (!c),H1,I1,rfl,q1⟩)
end
noncomputable def SqL (K:Wt) (H:Hp) (a:Addr) (xs:List V):Prop :=
 Rd H a (.lst xs) ∨
  ∃ (o:Obj) (its:Array Value) (n:Nat),K.lookup a=some o/\o.cls=.type "list" ∧ o.dict=none/\o.data=.seq its n/\its.size<=sizeLine/\aO xs its.toList
noncomputable def SqT (K:Wt) (H:Hp) (a:Addr) (xs:List V):Prop :=
 Rd H a (.tup xs) ∨
  ∃ (o:Obj) (its:Array Value) (n:Nat),K.lookup a=some o/\o.cls=.type "tuple" ∧ o.data=.seq its n/\its.size<=sizeLine/\aO xs its.toList
noncomputable def D4:Value->Option V
 | .none=>some .non
 | .bool b=>some (.bl b)
 | .int i _=>some (.int i)
 | .str x _=>some (.str x)
 | .bytes b _=>some (.byt b)
 | .float b _=>some (.flt b)
 | .ref a=>some (.ref a)
 | .type n=>some (.ty n)
 | _=>none
theorem RelV.abs {x:V} {u:Value} (r:RelV x u):D4 u=some x:=by
 cases x with
 | non=>cases r;rfl
 | bl _=>cases r;rfl
 | int _=>obtain ⟨t,rfl⟩:=r;rfl
 | str _=>obtain ⟨t,rfl⟩:=r;rfl
 | byt _=>obtain ⟨t,rfl⟩:=r;rfl
 | flt _=>obtain ⟨t,rfl⟩:=r;rfl
 | ref _=>cases r;rfl
 | ty _=>cases r;rfl
theorem RelV.inj {x y:V} {u:Value} (r:RelV x u) (q:RelV y u):x=y:=Zp (r.abs.symm.trans q.abs)
theorem aO.inj:∀ {xs ys:List V} {us:Wq},aO xs us->aO ys us->xs=ys
 | _,_,_,.nil,.nil=>rfl
 | _,_,_,.cons r t,.cons r' t'=>by rw [r.inj r',aO.inj t t']
section
variable {X:Cx} {pins:Wv} {σ:St} {H:Hp} {s:Shared} {a:Addr} {xs ys:List V}
theorem SqL.of {K:Wt} (h:H a=some (.lst xs)):SqL K H a xs:=.inl (.inl h)
theorem SqT.of {K:Wt} (h:H a=some (.tup xs)):SqT K H a xs:=.inl (.inl h)
theorem Inv.list (I:Inv X pins σ H s) (h:SqL X.K H a xs):∃ its:Wq,aO xs its/\PlainL s.heap a its.toArray/\xs.length<=sizeLine:=by
 rcases h with h | ⟨o,its,n,hk,hc,hd,hs,hz,r⟩
 ·obtain ⟨z,its,n,r,e⟩:=h.ok I.hok
  exact ⟨its,r,⟨_,n,e,rfl,rfl,rfl⟩,z⟩
 ·refine ⟨its.toList,r,⟨o,n,I.kIn a o hk,hc,hd,by simpa using hs⟩,?_⟩
  have e:=r.length
  simp only [Yi] at e
  lia
theorem Inv.tuple (I:Inv X pins σ H s) (h:SqT X.K H a xs):∃ its:Wq,aO xs its/\IsTup s.heap a its.toArray/\xs.length<=sizeLine:=by
 rcases h with h | ⟨o,its,n,hk,hc,hs,hz,r⟩
 ·obtain ⟨z,its,r,_,p⟩:=h.ok I.hok
  exact ⟨its,r,p,z⟩
 ·refine ⟨its.toList,r,⟨o,I.kIn a o hk,hc,n,by simpa using hs⟩,?_⟩
  have e:=r.length
  simp only [Yi] at e
  lia
theorem Inv.list_inj (I:Inv X pins σ H s) (h:SqL X.K H a xs) (h':SqL X.K H a ys):xs=ys:=by
 obtain ⟨its,r,⟨o,n,e,_,_,d⟩,_⟩:=I.list h
 obtain ⟨its',r',⟨o',n',e',_,_,d'⟩,_⟩:=I.list h'
 rw [e] at e';cases e'
 rw [d] at d'
 injection d' with d1 _
 have:its=its':=by simpa using congrArg Array.toList d1
 subst this
 exact r.inj r'
theorem Inv.tuple_inj (I:Inv X pins σ H s) (h:SqT X.K H a xs) (h':SqT X.K H a ys):xs=ys:=by
 obtain ⟨its,r,⟨o,e,_,n,d⟩,_⟩:=I.tuple h
 obtain ⟨its',r',⟨o',e',_,n',d'⟩,_⟩:=I.tuple h'
 rw [e] at e';cases e'
 rw [d] at d'
 injection d' with d1 _
 have:its=its':=by simpa using congrArg Array.toList d1
 subst this
 exact r.inj r'
end
noncomputable abbrev Cx.wish (X:Cx) (E:Ww):Cx:={ X with xe:=E }
noncomputable abbrev Cx.nox (X:Cx):Cx:=X.wish fun _ _=>False
theorem Cx.Ok.wish {X:Cx} (ok:X.Ok) (E:Ww):(X.wish E).Ok :=
 ⟨ok.mod,ok.kind,ok.glob,ok.blt,ok.above,ok.inj,ok.has,ok.cab,ok.hd,ok.frames,ok.stk,ok.exf,ok.bs,ok.bsz,ok.noex,ok.exfs,ok.funs,ok.frf⟩
theorem Cx.Ok.unwish {X:Cx} {E:Ww} (ok:(X.wish E).Ok):X.Ok :=
 ⟨ok.mod,ok.kind,ok.glob,ok.blt,ok.above,ok.inj,ok.has,ok.cab,ok.hd,ok.frames,ok.stk,ok.exf,ok.bs,ok.bsz,ok.noex,ok.exfs,ok.funs,ok.frf⟩
section
variable {X:Cx} {pins:Wv} {σ:St} {H:Hp} {s:Shared} {E:Ww}
theorem Inv.wish (I:Inv X pins σ H s) (E:Ww):Inv (X.wish E) pins σ H s:=⟨I.ok.wish E,I.os,I.bare,I.base,I.loc,I.cell,I.free,I.freeC,I.pin,I.hok,I.len⟩
theorem Inv.unwish (I:Inv (X.wish E) pins σ H s):Inv X pins σ H s:=⟨I.ok.unwish,I.os,I.bare,I.base,I.loc,I.cell,I.free,I.freeC,I.pin,I.hok,I.len⟩
theorem SP.unwish {D:Ends} {f:Flow} {s':Shared} (h:SP (X.wish E) pins D f s'):SP X pins D f s':=by
 cases f with
 | next=>obtain ⟨σ',H',I,q⟩:=h;exact ⟨σ',H',I.unwish,q⟩
 | brk=>obtain ⟨σ',H',I,q⟩:=h;exact ⟨σ',H',I.unwish,q⟩
 | cont=>obtain ⟨σ',H',I,q⟩:=h;exact ⟨σ',H',I.unwish,q⟩
 | ret u=>obtain ⟨v,σ',H',I,r,q⟩:=h;exact ⟨v,σ',H',I.unwish,r,q⟩
theorem PSs.nox {st:List Stmt} {t:TS} (h:PSs X.nox st t):PSs X st t:=fun pins s σ H D I hw =>
 YL (h pins s σ H D (I.wish _) hw) (fun _ _ q=>q.unwish) fun _ _ z=>False.elim z
end
section
variable {X:Cx} {st:Stmt} {rest:List Stmt} {t u:TS} {e:Expr} {te:TE} {pos:Pos}
noncomputable def Dn:TS:=fun D σ H=>D.nx σ H
noncomputable def DQ (t u:TS):TS:=fun D σ H=>t { D with nx:=u D } σ H
theorem yG:PSs X [] Dn:=fun _ _ σ H _ I h=>XH ⟨σ,H,I,h⟩
theorem tR (h1:PS X st t) (h2:PSs X rest u):PSs X (st :: rest) (DQ t u):=by
 intro pins s σ H D I h
 refine wpAny_execs_cons (thn (h1 pins s σ H { D with nx:=u D } I h) fun f s1 q=>?_)
 cases f with
 | next =>
  obtain ⟨σ',H',I',q⟩:=q
  exact h2 pins s1 σ' H' D I' q
 | ret v=>exact q
 | brk=>exact q
 | cont=>exact q
theorem wV (h1:PS X st t):PSs X [st] t:=by
 intro pins s σ H D I h
 refine wpAny_execs_cons (thn (h1 pins s σ H D I h) fun f s1 q=>?_)
 cases f with
 | next=>exact XH q
 | ret v=>exact q
 | brk=>exact q
 | cont=>exact q
theorem Inv.quiet {pins:Wv} {σ:St} {H:Hp} {s:Shared} (I:Inv X pins σ H s):interactive X.env=false:=by simp [interactive,I.ok.kind]
noncomputable def Ca (te:TE):TS:=fun D σ H=>te σ H fun _ H1=>D.nx σ H1
theorem jo (he:PE X e te) (hs:swapsWith e none pos.line X.env=pure false:=by rfl):PS X (.Expr e pos) (Ca te):=by
 intro pins s σ H D I h
 exact wpAny_Expr_any (thn (he pins s σ H _ I h) fun v s1 ⟨x,H1,I1,r1,q1⟩=>⟨σ,H1,I1,q1⟩) I.quiet hs
noncomputable def DG (te:TE):TS:=fun D σ H=>te σ H D.rt
theorem ng (he:PE X e te):PS X (.Return (some e) pos) (DG te):=by
 intro pins s σ H D I h
 exact wpAny_Return_some (thn (he pins s σ H _ I h) fun v s1 ⟨x,H1,I1,r1,q1⟩=>⟨x,σ,H1,I1,r1,q1⟩)
noncomputable def D8 (c:TT) (t u:TS):TS:=fun D σ H=>c σ H fun b H1=>if b=true then t D σ H1 else u D σ H1
theorem CZ {c:Expr} {a b:List Stmt} {tc:TT} (hc:PT X c tc) (ha:PSs X a t) (hb:PSs X b u):PS X (.If c a b pos) (D8 tc t u):=by
 intro pins s σ H D I h
 refine wpAny_If (thn (hc pins s σ H _ I h) fun d s1 ⟨H1,I1,q1⟩=>?_)
 cases d with
 | true=>exact ha pins s1 σ H1 D I1 q1
 | false=>exact hb pins s1 σ H1 D I1 q1
end
noncomputable abbrev TG:=V->St->Hp->(St->Hp->Prop)->Prop
noncomputable abbrev TGs:=List V->St->Hp->(St->Hp->Prop)->Prop
noncomputable def PG (X:Cx) (target:Expr) (t:TG):Prop :=
 ∀ (pins:Wv) (s:Shared) (σ:St) (H:Hp) (v:V) (u:Value) (Q:St->Hp->Prop),Inv X pins σ H s->RelV v u->t v σ H Q →
  wpAny (model X.prog X.w) X.A (assign target X.env u) (fun _ s'=>∃ σ' H',Inv X pins σ' H' s'/\Q σ' H') X.xe s
noncomputable def PGs (X:Cx) (ts:List Expr) (t:TGs):Prop :=
 ∀ (pins:Wv) (s:Shared) (σ:St) (H:Hp) (vs:List V) (us:Wq) (Q:St->Hp->Prop),Inv X pins σ H s->aO vs us->t vs σ H Q →
  wpAny (model X.prog X.w) X.A (assignInOrder ((assignEach ts X.env).map (·.2)) us) (fun _ s'=>∃ σ' H',Inv X pins σ' H' s'/\Q σ' H') X.xe s
noncomputable abbrev yT:=V->V->V->Hp->(Hp->Prop)->Prop
noncomputable def zG (X:Cx) (t:yT):Prop :=
 ∀ (pins:Wv) (s:Shared) (σ:St) (H:Hp) (o i v:V) (ov iv u:Value) (Q:Hp->Prop),Inv X pins σ H s->RelV o ov->RelV i iv->RelV v u->t o i v H Q →
  wpAny (model X.prog X.w) X.A (setItem ov iv u) (fun _ s'=>∃ H',Inv X pins σ H' s'/\Q H') X.xe s
section
variable {X:Cx} {pos:Pos}
noncomputable def zf (i:Nat):TG:=fun v σ H Q=>Q (σ.set i (some v)) H
theorem yX {i:Nat} {x:Str} (hN:X.N.Nodup) (hi:X.N[i]?=some x) (hx:Loc X.env.scope x) (hf:X.fn x=true\/X.env.scope.names.lookup x=some .local:=by first | exact .inl rfl | exact .inr rfl | assumption):PG X (.Name x pos) (zf i):=by
 intro pins s σ H v u Q I r h
 exact wpAny_assign_Name (n9 I hN hi hx r (fun s' I'=>⟨_,H,I',h⟩) hf)
noncomputable def DB:TGs:=fun vs σ H Q=>vs=[]/\Q σ H
noncomputable def Cb (t:TG) (u:TGs):TGs:=fun vs σ H Q=>∃ v r,vs=v :: r/\t v σ H fun σ' H'=>u r σ' H' Q
theorem xC:PGs X [] DB:=by
 intro pins s σ H vs us Q I r h
 obtain ⟨e,h⟩:=h
 subst e
 cases r
 exact assignInOrder_nil ⟨σ,H,I,h⟩
theorem tu {e:Expr} {es:List Expr} {t:TG} {u:TGs} (h1:PG X e t) (h2:PGs X es u)
  (hs:(assignEach (e :: es) X.env).map (·.2)=assign e X.env :: (assignEach es X.env).map (·.2):=by rfl):PGs X (e :: es) (Cb t u):=by
 intro pins s σ H vs us Q I r h
 obtain ⟨v,vr,e1,h⟩:=h
 subst e1
 cases r with
 | cons r rr =>
  rw [hs]
  refine assignInOrder_cons (thn (h1 pins s σ H _ _ _ I r h) fun _ s1 ⟨σ1,H1,I1,q1⟩=>?_)
  exact h2 pins s1 σ1 H1 _ _ Q I1 rr q1
noncomputable def oJ (K:Wt) (n:Nat) (t:TGs):TG:=fun v σ H Q=>∃ a xs,v=.ref a/\SqT K H a xs/\xs.length=n/\t xs σ H Q
theorem AJ {es:List Expr} {k:Nat} {t:TGs} {n:Nat} (hc:X.calm=true) (h:PGs X es t)
  (hn:(assignEach es X.env).length=n:=by rfl) (hst:(assignEach es X.env).findIdx? (·.1)=none:=by rfl):PG X (.Tuple es k pos) (oJ X.K n t):=by
 intro pins s σ H v u Q I r hw
 obtain ⟨a,xs,e1,hq,hl,hw⟩:=hw
 subst e1
 cases r
 obtain ⟨its,rv,ht,hz⟩:=I.tuple hq
 refine assign_Tuple_tuple (I.ok.hd hc) ht (by simp [hn,← hl,rv.length]) hst fun h' hx=>?_
 have I1:Inv X pins σ H { s with heap:=h' }:=I.kept (t':=s.toks) fun b o e=>hx b o (ZQ (ZR e)) e
 exact h pins _ σ H xs _ Q I1 (by simpa using rv) hw
noncomputable def CN (to ti:TE) (t:yT):TG:=fun v σ H Q=>to σ H fun o H1=>ti σ H1 fun i H2=>t o i v H2 fun H3=>Q σ H3
theorem pR {o i:Expr} {to ti:TE} {t:yT} (ho:PE X o to) (hi:PE X i ti) (hs:zG X t)
  (ha:∀ v,assign (.Subscript o i pos) X.env v=(do
   let ov ← holding [v] (eval o X.env)
   let iv ← holding [v,ov] (eval i X.env)
   standAt pos
   holding [v,ov,iv] (setItem ov iv v)
   release [v,ov,iv] []):=by intro _;rfl):PG X (.Subscript o i pos) (CN to ti t):=by
 intro pins s σ H v u Q I r h
 rw [ha]
 refine Zs (Y3 (thn (ho pins s σ H _ I h) fun ov s1 ⟨x,H1,I1,r1,q1⟩=>?_))
 refine Zs (Y3 (thn (hi pins s1 σ H1 _ I1 q1) fun iv s2 ⟨y,H2,I2,r2,q2⟩=>?_))
 refine Zs (wpAny_standAt (Zs (Y3 (thn (hs pins s2 σ H2 x y v ov iv u _ I2 r1 r2 r q2) fun _ s3 ⟨H3,I3,q3⟩=>?_))))
 exact wpAny_release ⟨σ,H3,I3,q3⟩
noncomputable def CA (te:TE) (g:TG):TS:=fun D σ H=>te σ H fun x H1=>g x σ H1 D.nx
theorem pO {tg e:Expr} {te:TE} {g:TG} (he:PE X e te) (hg:PG X tg g) (hs:swapsWithSole [tg] e pos.line X.env=pure false:=by rfl) (hw:swappedStores [tg] e X.env=pure none:=by rfl)
  (h1:(assignEach [tg] X.env).map (·.2)=[assign tg X.env]:=by rfl):PS X (.Assign [tg] e pos) (CA te g):=by
 intro pins s σ H D I h
 refine wpAny_Assign_stores (thn (he pins s σ H _ I h) fun v s1 ⟨x,H1,I1,r1,q1⟩=>?_) hs hw
 rw [h1]
 exact thn (hg pins s1 σ H1 x v _ I1 r1 q1) fun _ s2 q=>q
theorem pB {i:Nat} {x:Str} {e:Expr} {te:TE} {pos':Pos} (hN:X.N.Nodup) (hi:X.N[i]?=some x) (hx:Loc X.env.scope x) (he:PE X e te) (hs:swapsWith e (some (.Name x pos')) pos.line X.env=pure false:=by rfl) (hf:X.fn x=true\/X.env.scope.names.lookup x=some .local:=by first | exact .inl rfl | exact .inr rfl | assumption) :
  PS X (.Assign [.Name x pos'] e pos) (CA te (zf i)):=by
 intro pins s σ H D I h
 refine wpAny_Assign_Name (thn (he pins s σ H _ I h) fun v s1 ⟨y,H1,I1,r1,q1⟩=>?_) hs
 exact n9 I1 hN hi hx r1 (fun s2 I2=>⟨_,H1,I2,q1⟩) hf
end
section
variable {X:Cx} {pos:Pos}
noncomputable def Ba (c:TT) (tb:TS):TS:=fun D σ H=>∃ W:Nat->St->Hp->Prop,(∃ m,W m σ H)/\∀ m σ H,W m σ H →
 c σ H fun b H1=>if b=true then ∃ N:St->Hp->Prop,(∀ σ' H',N σ' H'->∃ m',m' < m/\W m' σ' H')/\tb { D with nx:=N,ct:=N,bk:=D.nx } σ H1 else D.nx σ H1
theorem vJ {c:Expr} {body:List Stmt} {tc:TT} {tb:TS} (hp:PassesOwn (model X.prog X.w) X.A X.env X.xe) (hc:PT X c tc) (hb:PSs X body tb):PS X (.While c body [] pos) (Ba tc tb):=by
 intro pins s σ H D I h
 obtain ⟨W,⟨m0,w0⟩,turn⟩:=h
 refine wpAny_While (codeAny_whileLoop (fun n s'=>∃ σ' H',Inv X pins σ' H' s'/\W n σ' H') ?_ m0 ⟨σ,H,I,w0⟩)
 rintro n s1 ⟨σ1,H1,I1,w1⟩
 refine YK hp (thn (hc pins s1 σ1 H1 _ I1 (turn n σ1 H1 w1)) fun b s2 ⟨H2,I2,q2⟩=>?_)
 cases b with
 | true =>
  obtain ⟨N,hN,q2⟩:=q2
  rw [Zq rfl]
  refine YK hp (thn (hb pins s2 σ1 H2 _ I2 q2) fun f s3 q3=>?_)
  cases f with
  | next =>
   obtain ⟨σ3,H3,I3,n3⟩:=q3
   obtain ⟨m',hm,w3⟩:=hN σ3 H3 n3
   exact ⟨m',hm,σ3,H3,I3,w3⟩
  | cont =>
   obtain ⟨σ3,H3,I3,n3⟩:=q3
   obtain ⟨m',hm,w3⟩:=hN σ3 H3 n3
   exact ⟨m',hm,σ3,H3,I3,w3⟩
  | brk=>exact q3
  | ret v=>exact q3
 | false =>
  rw [Zo Ze]
  exact XH ⟨σ1,H2,I2,q2⟩
end
structure It where
 go:Nat->Hp->Prop
 yld:Nat->Hp->V->Hp->Prop
 stop:Nat->Hp->Prop
noncomputable def lV (X:Cx) (pins:Wv) (H:Hp) (b:Addr):Prop :=
 H b=none/\b ≠ X.env.locals/\b ∉ X.fs/\(b∈X.ex\/X.s₀.heap.objs.size<=b)/\(∀ x c,X.env.cells.lookup x=some c->c ≠ b)/\∀ p∈X.pn++pins,p.1 ≠ b
theorem Inv.fpOk {X:Cx} {pins:Wv} {σ:St} {H H':Hp} {s:Shared} {b:Addr} (I:Inv X pins σ H s) (hb:s.heap.objs.size<=b) (hn:H' b=none):lV X pins H' b:=by
 refine ⟨hn,Nat.ne_of_gt (ZU I.lt hb),I.nofs hb,.inr (ZF I.sz hb),fun x c e z=>?_,fun p hp z=>?_⟩
 ·obtain ⟨v,q⟩:=I.cell x c e
  exact absurd (ZU q.lt (by rw [z];exact hb)) (Yp _)
 ·exact absurd (ZU (ZR (I.pin p hp).1) (by rw [z];exact hb)) (Yp _)
structure Turn (P:Program) (w:World) (K:Wt) (tg:Expr) (J:It) (fp:Wr) (it:Addr) (tn:Nat->Heap->Prop):Prop where
 mem:it∈fp
 obj:∀ i h,tn i h->∀ b∈fp,∃ o,h.get? b=some o/\∀ v,o.data ≠ .cell v
 keep:∀ i h h',tn i h->(∀ b∈fp,∀ o,h.get? b=some o->h'.get? b=some o)->tn i h'
 item:∀ (X:Cx),X.prog=P->X.w=w->X.K=K->X.calm=true->∀ (i:Nat) (pins:Wv) (s:Shared) (σ:St) (H:Hp) (E:Ww),Inv X pins σ H s->(∀ b∈fp,lV X pins H b)->tn i s.heap->J.go i H →
  wpAny (model P w) X.A (pyNext (.ref it)) (fun r s1=>∃ u,r=some u ∧
   wpAny (model P w) X.A (letOwnedTupleGo tg (.ref it) u) (fun _ s2=>∃ x H',Inv X pins σ H' s2/\RelV x u/\J.yld i H x H'/\tn (i+1) s2.heap/\∀ b∈fp,H' b=none) E s1) E s
 done:∀ (X:Cx),X.prog=P->X.w=w->X.K=K->X.calm=true->∀ (i:Nat) (pins:Wv) (s:Shared) (σ:St) (H:Hp) (E:Ww),Inv X pins σ H s->(∀ b∈fp,lV X pins H b)->tn i s.heap->J.stop i H →
  wpAny (model P w) X.A (pyNext (.ref it)) (fun r s1=>r=none/\Inv X pins σ H s1) E s
 self:∀ (A:Around) (i:Nat) (s:Shared) (Q:Ww) (E:Ww),tn i s.heap->Q (.ref it) s->wpAny (model P w) A (pyIter (.ref it)) Q E s
noncomputable abbrev TI:=St->Hp->(It->Hp->Prop)->Prop
noncomputable def PIE (X:Cx) (pins:Wv) (σ:St) (tg:Expr) (R:It->Hp->Prop) (itv:Value) (s2:Shared):Prop :=
 ∃ (it:Addr) (fp:Wr) (tn:Nat->Heap->Prop) (J:It) (H':Hp),itv=.ref it/\Inv X pins σ H' s2/\Turn X.prog X.w X.K tg J fp it tn/\tn 0 s2.heap/\(∀ b∈fp,lV X pins H' b)/\R J H'
noncomputable def PI (X:Cx) (tg iter:Expr) (wi:TI):Prop :=
 ∀ (pins:Wv) (s:Shared) (σ:St) (H:Hp) (R:It->Hp->Prop),Inv X pins σ H s->wi σ H R →
  wpAny (model X.prog X.w) X.A (eval iter X.env) (fun v s1=>wpAny (model X.prog X.w) X.A (pyIter v) (PIE X pins σ tg R) X.xe s1) X.xe s
theorem oV {M:Model} {A:Around} {E:Ww} {s:Shared} {tg:Expr} {it:Addr} {u:Value} {o:Obj} {n:String} {vs:Array Value} {Q:Unit->Shared->Prop} (ho:s.heap.get? it=some o) (hc:o.cls=.type n) (hd:o.data=.fields vs)
  (hn:["enumerate", "zip", "dict_itemiterator", "dict_reverseitemiterator", "odict_iterator", "itertools.zip_longest", "itertools.pairwise"].contains n=false) (hQ:Q () s):wpAny M A (letOwnedTupleGo tg (.ref it) u) Q E s:=by
 unfold letOwnedTupleGo
 cases tg <;> first
  | exact Zj hQ
  | (cases u <;> first
    | exact Zj hQ
    | (refine Zs (wpAny_load ho ?_)
       rw [hc,hd]
       show wpAny M A (if (["enumerate", "zip", "dict_itemiterator", "dict_reverseitemiterator", "odict_iterator", "itertools.zip_longest", "itertools.pairwise"].contains n && vs[0]? == some (rawInt _))=true then _ else _) Q E s
       rw [Zo (by intro h;rw [hn,Bool.false_and] at h;cases h)]
       exact Zj hQ))
noncomputable def Itl (K:Wt) (a:Addr):It :=
 ⟨fun i H=>∃ xs x,SqL K H a xs/\xs[i]?=some x,fun i H x H'=>H'=H/\∀ xs,SqL K H a xs->xs[i]?=some x,fun i H=>∃ xs,SqL K H a xs/\xs.length<=i⟩
noncomputable def Itt (K:Wt) (a:Addr):It :=
 ⟨fun i H=>∃ xs x,SqT K H a xs/\xs[i]?=some x,fun i H x H'=>H'=H/\∀ xs,SqT K H a xs->xs[i]?=some x,fun i H=>∃ xs,SqT K H a xs/\xs.length<=i⟩
noncomputable def Itr (lo:Int) (n:Nat):It:=⟨fun i _=>i < n,fun i H x H'=>H'=H/\x=.int (lo+i),fun i _=>n<=i⟩
theorem se {P:Program} {w:World} {K:Wt} {tg:Expr} (a it:Addr):Turn P w K tg (Itl K a) [it] it (fun i h=>h.IsListIter it a i) where
 mem:=by simp
 obj:=fun i h st b hb=>by
  have e:b=it:=by simpa using hb
  subst e
  obtain ⟨o,e,c,d⟩:=st
  exact ⟨o,e,fun v z=>by rw [d] at z;cases z⟩
 keep:=fun i h h' st k=>st.at fun o e=>k it (by simp) o e
 item:=by
  intro X hP hw hK hc i pins s σ H E I hf st hg
  subst hP hw hK
  obtain ⟨xs,x,hq,hx⟩:=hg
  obtain ⟨its,rv,p,hz⟩:=I.list hq
  obtain ⟨u,hu,ru⟩:=rv.get hx
  obtain ⟨f0,f1,f2,f3,f4,f5⟩:=hf it (by simp)
  refine wpAny_pyNext_list_item st p.isList (x:=u) (by simpa using hu) fun h' st' sb=>?_
  have I1:Inv X pins σ H { s with heap:=h' }:=I.turned (t':=s.toks) (fun b o hb e=>(sb.2 b hb).trans e) f0 f1 f3 f4 f5
  obtain ⟨o,e,c,d⟩:=id st'
  exact ⟨u,rfl,oV (s:={ s with heap:=h' }) e c d (by decide) ⟨x,H,I1,ru,⟨rfl,fun ys hy=>by rw [I.list_inj hy hq];exact hx⟩,st',fun b hb=>(hf b hb).1⟩⟩
 done:=by
  intro X hP hw hK hc i pins s σ H E I hf st hg
  subst hP hw hK
  obtain ⟨xs,hq,hx⟩:=hg
  obtain ⟨its,rv,p,hz⟩:=I.list hq
  obtain ⟨f0,f1,f2,f3,f4,f5⟩:=hf it (by simp)
  have hl:=rv.length
  exact wpAny_pyNext_list_end (I.ok.hd hc) st p.isList (by simp;lia) fun h' eb=>⟨rfl,I.turned (t':=s.toks) (fun b o hb e=>eb b o hb e) f0 f1 f3 f4 f5⟩
 self:=fun _ _ _ _ _ st h=>wpAny_pyIter_listiter st h
theorem p8 {P:Program} {w:World} {K:Wt} {tg:Expr} (a it:Addr):Turn P w K tg (Itt K a) [it] it (fun i h=>h.IsTupleIter it a i) where
 mem:=by simp
 obj:=fun i h st b hb=>by
  have e:b=it:=by simpa using hb
  subst e
  obtain ⟨o,e,c,d⟩:=st
  exact ⟨o,e,fun v z=>by rw [d] at z;cases z⟩
 keep:=fun i h h' st k=>st.at fun o e=>k it (by simp) o e
 item:=by
  intro X hP hw hK hc i pins s σ H E I hf st hg
  subst hP hw hK
  obtain ⟨xs,x,hq,hx⟩:=hg
  obtain ⟨its,rv,p,hz⟩:=I.tuple hq
  obtain ⟨u,hu,ru⟩:=rv.get hx
  obtain ⟨f0,f1,f2,f3,f4,f5⟩:=hf it (by simp)
  refine wpAny_pyNext_tuple_item st (show s.heap.IsTuple a its.toArray from p) (x:=u) (by simpa using hu) fun h' st' sb=>?_
  have I1:Inv X pins σ H { s with heap:=h' }:=I.turned (t':=s.toks) (fun b o hb e=>(sb.2 b hb).trans e) f0 f1 f3 f4 f5
  obtain ⟨o,e,c,d⟩:=id st'
  exact ⟨u,rfl,oV (s:={ s with heap:=h' }) e c d (by decide) ⟨x,H,I1,ru,⟨rfl,fun ys hy=>by rw [I.tuple_inj hy hq];exact hx⟩,st',fun b hb=>(hf b hb).1⟩⟩
 done:=by
  intro X hP hw hK hc i pins s σ H E I hf st hg
  subst hP hw hK
  obtain ⟨xs,hq,hx⟩:=hg
  obtain ⟨its,rv,p,hz⟩:=I.tuple hq
  obtain ⟨f0,f1,f2,f3,f4,f5⟩:=hf it (by simp)
  have hl:=rv.length
  exact wpAny_pyNext_tuple_end (I.ok.hd hc) st (show s.heap.IsTuple a its.toArray from p) (by simp;lia) fun h' eb=>⟨rfl,I.turned (t':=s.toks) (fun b o hb e=>eb b o hb e) f0 f1 f3 f4 f5⟩
 self:=fun _ _ _ _ _ st h=>wpAny_pyIter_tupleiter st h
theorem ql {P:Program} {w:World} {K:Wt} {tg:Expr} (it:Addr) (lo:Int) (n:Nat):Turn P w K tg (Itr lo n) [it] it (fun i h=>IsRangeIter h it (lo+(i:Nat) * 1) ((n:Int) - (i:Nat)) 1) where
 mem:=by simp
 obj:=fun i h st b hb=>by
  have e:b=it:=by simpa using hb
  subst e
  exact ⟨_,st,fun v z=>by
   have z':Data.fields _=Data.cell v:=z
   cases z'⟩
 keep:=fun i h h' st k=>k it (by simp) _ st
 item:=by
  intro X hP hw hK hc i pins s σ H E I hf st hg
  subst hP hw hK
  obtain ⟨f0,f1,f2,f3,f4,f5⟩:=hf it (by simp)
  have W:=Walks.range (prog:=X.prog) (w:=X.w) (I.ok.hd hc) it lo 1 n
  refine W.item i s _ _ hg st fun v h' tk hv st' kk=>?_
  obtain ⟨t,rfl⟩:=hv
  have I1:Inv X pins σ H { s with heap:=h',toks:=tk }:=I.turned (fun b o hb e=>kk b o (by simpa using hb) e) f0 f1 f3 f4 f5
  refine ⟨_,rfl,oV (s:={ s with heap:=h',toks:=tk }) (n := "range_iterator") st' rfl rfl (by decide) ⟨.int (lo+i),H,I1,⟨t,?_⟩,⟨rfl,rfl⟩,st',fun b hb=>(hf b hb).1⟩⟩
  rw [Int.mul_one]
 done:=by
  intro X hP hw hK hc i pins s σ H E I hf st hg
  subst hP hw hK
  obtain ⟨f0,f1,f2,f3,f4,f5⟩:=hf it (by simp)
  exact wpAny_pyNext_range_end (I.ok.hd hc) st (by have:n<=i:=hg;lia) fun h' eb=>⟨rfl,I.turned (t':=s.toks) (fun b o hb e=>eb b o hb e) f0 f1 f3 f4 f5⟩
 self:=fun _ _ _ _ _ st h=>wpAny_pyIter_rangeiter st h
section
variable {X:Cx} {tg:Expr}
theorem oK {pins:Wv} {σ:St} {H:Hp} {s:Shared} {R:It->Hp->Prop} {E:Ww} {lo hi:Int} {t u v:Tok} {tk:Nat} (I:Inv X pins σ H s) (h1:-(2 ^ 62)<=lo) (h2:lo < 2 ^ 62) (h3:-(2 ^ 62)<=hi) (h4:hi < 2 ^ 62)
  (q:R (Itr lo (hi - lo).toNat) H):wpAny (model X.prog X.w) X.A (pyIter (.ref s.heap.objs.size)) (PIE X pins σ tg R) E { s with heap:=s.heap.push { cls:=.type "range",data:=.fields #[.int lo t,.int hi u,.int 1 v] },toks:=tk }:=by
 refine wpAny_pyIter_range (IsRange.new ..) (small_one h1 h2 h3 h4) ?_
 have I1:Inv X pins σ H { s with heap:=s.heap.push { cls:=.type "range",data:=.fields #[.int lo t,.int hi u,.int 1 v] },toks:=tk }:=I.kept fun b o e=>Zi _ e
 refine ⟨(s.heap.push { cls:=.type "range",data:=.fields #[.int lo t,.int hi u,.int 1 v] }).objs.size,[(s.heap.push { cls:=.type "range",data:=.fields #[.int lo t,.int hi u,.int 1 v] }).objs.size],_,_,H,rfl,
  I1.kept (t':=tk) fun b o e=>Zi _ e,ql _ lo (hi - lo).toNat,?_,fun b hb=>?_,q⟩
 ·have e1:lo+((0:Nat):Int) * 1=lo:=by simp
  have e2:(((hi - lo).toNat:Nat):Int) - ((0:Nat):Int)=Builtin.Range.rangeSize lo hi 1:=by rw [rangeSize_one];split <;> lia
  show IsRangeIter _ _ (lo+((0:Nat):Int) * 1) ((((hi - lo).toNat:Nat):Int) - ((0:Nat):Int)) 1
  rw [e1,e2]
  exact ZM _ rfl
 ·have e:b=(s.heap.push { cls:=.type "range",data:=.fields #[.int lo t,.int hi u,.int 1 v] }).objs.size:=by simpa using hb
  subst e
  exact I1.fpOk (Zl _) (I1.hok.fresh (Zl _))
noncomputable def CK (ta:TA):TI:=fun σ H R=>ta σ H fun vs H1=>∃ j:Int,vs=[.int j]/\-(2 ^ 62)<=j/\j < 2 ^ 62/\R (Itr 0 j.toNat) H1
noncomputable def Cc (ta:TA):TI:=fun σ H R=>ta σ H fun vs H1=>∃ i j:Int,vs=[.int i,.int j]/\(-(2 ^ 62)<=i/\i < 2 ^ 62/\-(2 ^ 62)<=j/\j < 2 ^ 62)/\R (Itr i (j - i).toNat) H1
theorem sS {a:Expr} {ta:TA} {p pos:Pos} (hg:Gl X "range") (hm:X.mg "range" = none) (ha:PA X [a] ta) (hs:starEach [a] X.env=[(false,eval a X.env)]:=by rfl):PI X tg (.Call (.Name "range" p) [a] [] pos) (CK ta):=by
 intro pins s σ H R I h
 refine Call_ (lK I hg hm boot_range (Xs (thn (ha pos pins s σ H _ I h) fun us s1 ⟨vs,H1,I1,r1,q1⟩=>?_) hs rfl))
 obtain ⟨j,e,q1,q2,q⟩:=q1
 subst e
 cases r1 with
 | cons r rr =>
  cases rr
  obtain ⟨t,rfl⟩:=r
  exact call_range_1 (oK I1 (by lia) (by lia) q1 q2 (by simpa using q))
theorem sT {a b:Expr} {ta:TA} {p pos:Pos} (hg:Gl X "range") (hm:X.mg "range" = none) (ha:PA X [a,b] ta) (hs:starEach [a,b] X.env=[(false,eval a X.env),(false,eval b X.env)]:=by rfl) (hs2:starEach [b] X.env=[(false,eval b X.env)]:=by rfl) :
  PI X tg (.Call (.Name "range" p) [a,b] [] pos) (Cc ta):=by
 intro pins s σ H R I h
 refine Call_ (lK I hg hm boot_range (Xs (thn (ha pos pins s σ H _ I h) fun us s1 ⟨vs,H1,I1,r1,q1⟩=>?_) (by rw [hs,hs2]) (by rw [hs2];rfl)))
 obtain ⟨i,j,e,⟨q1,q2,q3,q4⟩,q⟩:=q1
 subst e
 cases r1 with
 | cons r rr =>
  cases rr with
  | cons r' rr =>
   cases rr
   obtain ⟨t,rfl⟩:=r
   obtain ⟨t',rfl⟩:=r'
   exact call_range_2 (oK I1 q1 q2 q3 q4 q)
noncomputable def DK (wi:TI) (g:TG) (tb:TS):TS:=fun D σ H=>wi σ H fun J H1=>∃ W:Nat->Nat->St->Hp->Prop,(∃ m,W 0 m σ H1)/\∀ i m σ H,W i m σ H →
 (J.stop i H/\D.nx σ H)\/(J.go i H/\∃ N:St->Hp->Prop,(∀ σ' H',N σ' H'->∃ m',m' < m/\W (i+1) m' σ' H')/\∀ x H',J.yld i H x H'->g x σ H' fun σ2 H2=>tb { D with nx:=N,ct:=N,bk:=D.nx } σ2 H2)
noncomputable def kF (fp:Wr) (h:Heap):Wv:=fp.filterMap fun b=>(h.get? b).map fun o=>(b,o)
theorem gF {fp:Wr} {h:Heap} {b:Addr} {o:Obj} (hb:b∈fp) (e:h.get? b=some o):(b,o)∈kF fp h:=List.mem_filterMap.mpr ⟨b,hb,by rw [e];rfl⟩
theorem sA {fp:Wr} {h:Heap} {p:Addr×Obj} (hp:p∈kF fp h):p.1∈fp/\h.get? p.1=some p.2:=by
 obtain ⟨b,hb,e⟩:=List.mem_filterMap.mp hp
 cases q:h.get? b with
 | none=>rw [q] at e;cases e
 | some o =>
  rw [q] at e
  have e':(b,o)=p:=Zp e
  subst e'
  exact ⟨hb,q⟩
theorem Inv.pinned {pins:Wv} {σ:St} {H:Hp} {s:Shared} {fp:Wr} (I:Inv X pins σ H s) (hf:∀ b∈fp,lV X pins H b) (ho:∀ b∈fp,∃ o,s.heap.get? b=some o/\∀ v,o.data ≠ .cell v):Inv X (pins++kF fp s.heap) σ H s :=
 I.pins_of fun p hp=>(ZY.mp hp).elim (fun z=>I.pin p (ZX _ z)) fun z=>by
  obtain ⟨hb,e⟩:=sA z
  obtain ⟨f0,f1,f2,_⟩:=hf p.1 hb
  obtain ⟨o,e',d⟩:=ho p.1 hb
  rw [e] at e';cases e'
  exact ⟨e,f0,f1,f2,d⟩
theorem Inv.unpinned {pins pl:Wv} {σ:St} {H:Hp} {s:Shared} (I:Inv X (pins++pl) σ H s):Inv X pins σ H s:=I.pins_of fun p hp=>I.pin p (ZX _ (ZD _ hp))
theorem Ai {iter:Expr} {body:List Stmt} {wi:TI} {g:TG} {tb:TS} {pos:Pos} (hp:PassesOwn (model X.prog X.w) X.A X.env X.xe) (hc:X.calm=true) (hi:PI X tg iter wi) (hg:PG X tg g) (hb:PSs X body tb)
  (hs:∀ x,foldedSetIterable iter X.env x=pure x:=by intro _;rfl):PS X (.For tg iter body [] pos) (DK wi g tb):=by
 intro pins s σ H D I h
 refine wpAny_For (thn (hi pins s σ H _ I h) fun v s1 h1=>thn h1 fun itv s2 h2=>?_) hs
 obtain ⟨it,fp,tn,J,H2,e,I2,T,st2,f2,W,⟨m0,w0⟩,turn⟩:=h2
 subst e
 have stat:∀ {H':Hp},(∀ b∈fp,H' b=none)->∀ b∈fp,lV X pins H' b:=fun hn b hb=>⟨hn b hb,(f2 b hb).2⟩
 refine codeAny_forLoop_any (fun n s'=>∃ i σ' H',Inv X pins σ' H' s'/\tn i s'.heap/\(∀ b∈fp,H' b=none)/\W i n σ' H') ?_ m0 ⟨0,σ,H2,I2,st2,fun b hb=>(f2 b hb).1,w0⟩
 rintro n s3 ⟨i,σ3,H3,I3,st3,fr3,w3⟩
 rcases turn i n σ3 H3 w3 with ⟨stop,qn⟩ | ⟨go,N,hN,step⟩
 ·refine YK hp (thn (T.done X rfl rfl rfl hc i pins s3 σ3 H3 X.xe I3 (stat fr3) st3 stop) fun r s4 ⟨hr,I4⟩=>?_)
  subst hr
  exact XH ⟨σ3,H3,I4,qn⟩
 ·refine YK hp (thn (T.item X rfl rfl rfl hc i pins s3 σ3 H3 X.xe I3 (stat fr3) st3 go) fun r s4 ⟨u,hr,h4⟩=>?_)
  subst hr
  refine YK hp (thn h4 fun _ s5 ⟨x,H5,I5,r5,y5,st5,fr5⟩=>?_)
  have I5':=I5.pinned (stat fr5) (T.obj _ _ st5)
  refine YK hp (thn (hg _ s5 σ3 H5 x u _ I5' r5 (step x H5 y5)) fun _ s6 ⟨σ6,H6,I6,q6⟩=>?_)
  refine YK hp (thn (hb _ s6 σ6 H6 _ I6 q6) fun f s7 q7=>?_)
  have again:∀ {σ7:St} {H7:Hp},Inv X (pins++kF fp s5.heap) σ7 H7 s7->N σ7 H7->∃ m,m < n/\∃ i σ' H',Inv X pins σ' H' s7/\tn i s7.heap/\(∀ b∈fp,H' b=none)/\W i m σ' H':=fun {σ7 H7} I7 n7=>by
   obtain ⟨m',hm,w7⟩:=hN σ7 H7 n7
   refine ⟨m',hm,i+1,σ7,H7,I7.unpinned,T.keep _ _ _ st5 fun b hb o e=>(I7.pin (b,o) (ZX _ (ZX _ (gF hb e)))).1,fun b hb=>?_,w7⟩
   obtain ⟨o,e,d⟩:=T.obj _ _ st5 b hb
   exact (I7.pin (b,o) (ZX _ (ZX _ (gF hb e)))).2.1
  cases f with
  | next=>obtain ⟨σ7,H7,I7,n7⟩:=q7;exact again I7 n7
  | cont=>obtain ⟨σ7,H7,I7,n7⟩:=q7;exact again I7 n7
  | brk=>obtain ⟨σ7,H7,I7,q7⟩:=q7;exact ⟨σ7,H7,I7.unpinned,q7⟩
  | ret v=>obtain ⟨x7,σ7,H7,I7,r7,q7⟩:=q7;exact ⟨x7,σ7,H7,I7.unpinned,r7,q7⟩
end
noncomputable abbrev R2:=V->V->Hp->VK->Prop
noncomputable def OpR (X:Cx) (f:Value->Value->Sem Value) (r:R2):Prop :=
 ∀ (pins:Wv) (s:Shared) (σ:St) (H:Hp) (x y:V) (v u:Value) (Q:VK),Inv X pins σ H s->RelV x v->RelV y u->r x y H Q →
  wpAny (model X.prog X.w) X.A (f v u) (EP X pins σ Q) X.xe s
noncomputable def dD (X:Cx) (f:Value) (r:List V->Hp->VK->Prop):Prop :=
 ∀ (pins:Wv) (s:Shared) (σ:St) (H:Hp) (xs:List V) (us:Wq) (Q:VK),Inv X pins σ H s->aO xs us->r xs H Q →
  wpAny (model X.prog X.w) X.A (call f us) (EP X pins σ Q) X.xe s
noncomputable def D0 (X:Cx) (r:V->Hp->(Bool->Hp->Prop)->Prop):Prop :=
 ∀ (pins:Wv) (s:Shared) (σ:St) (H:Hp) (x:V) (v:Value) (Q:Bool->Hp->Prop),Inv X pins σ H s->RelV x v->r x H Q →
  wpAny (model X.prog X.w) X.A (truthy v) (TP X pins σ Q) X.xe s
noncomputable def tOp (r:R2) (ta tb:TE):TE:=fun σ H Q=>ta σ H fun x H1=>tb σ H1 fun y H2=>r x y H2 Q
noncomputable def rI (C:Int->Int->Prop) (g:Int->Int->V):R2:=fun x y H Q=>∃ i j,x=.int i/\y=.int j/\C i j/\Q (g i j) H
noncomputable def rI0 (g:Int->Int->V):R2:=fun x y H Q=>∃ i j,x=.int i/\y=.int j/\Q (g i j) H
section
variable {X:Cx} {a b c:Expr} {ta tb tc:TE} {pos:Pos}
theorem BH (ha:PE X a ta) (hb:PE X b tb) {pins:Wv} {s:Shared} {σ:St} {H:Hp} {R:V->V->Hp->Prop} (I:Inv X pins σ H s)
  (h:ta σ H fun x H1=>tb σ H1 fun y H2=>R x y H2) {Q:Ww} {f:Value->Value->Sem Value}
  (hf:∀ v u s2 x y H2,Inv X pins σ H2 s2->RelV x v->RelV y u->R x y H2->wpAny (model X.prog X.w) X.A (f v u) Q X.xe s2) :
  wpAny (model X.prog X.w) X.A (eval a X.env) (fun v s₁=>wpAny (model X.prog X.w) X.A (eval b X.env) (fun u s₂=>wpAny (model X.prog X.w) X.A (f v u) Q X.xe s₂) X.xe s₁) X.xe s:=by
 refine thn (ha pins s σ H _ I h) fun v s1 ⟨x,H1,I1,r1,q1⟩=>?_
 refine thn (hb pins s1 σ H1 _ I1 q1) fun u s2 ⟨y,H2,I2,r2,q2⟩=>?_
 exact hf v u s2 x y H2 I2 r1 r2 q2
theorem Cr {op:Operator} {r:R2} (ho:OpR X (binaryOp op) r) (ha:PE X a ta) (hb:PE X b tb):PE X (.BinOp a op b pos) (tOp r ta tb):=by
 intro pins s σ H Q I h
 exact wpAny_BinOp (BH ha hb I h fun v u s2 x y H2 I2 rx ry q=>ho pins s2 σ H2 x y v u Q I2 rx ry q)
theorem opI {f:Value->Value->Sem Value} {C:Int->Int->Prop} {g:Int->Int->Int}
  (rule:∀ (i j:Int) (t u:Tok) (s:Shared) (Q:Ww) (E:Ww),C i j->Q (.int (g i j) s.toks) { s with toks:=s.toks+1 }->wpAny (model X.prog X.w) X.A (f (.int i t) (.int j u)) Q E s) :
  OpR X f (rI C fun i j=>.int (g i j)):=by
 intro pins s σ H x y v u Q I rx ry h
 obtain ⟨i,j,rfl,rfl,hc,q⟩:=h
 obtain ⟨t,rfl⟩:=rx
 obtain ⟨t',rfl⟩:=ry
 exact rule i j t t' s _ _ hc ⟨.int (g i j),H,I.tok _,⟨_,rfl⟩,q⟩
theorem C0 {f:Value->Value->Sem Value} {g:Int->Int->Int}
  (rule:∀ (i j:Int) (t u:Tok) (s:Shared) (Q:Ww) (E:Ww),Q (.int (g i j) s.toks) { s with toks:=s.toks+1 }->wpAny (model X.prog X.w) X.A (f (.int i t) (.int j u)) Q E s) :
  OpR X f (rI0 fun i j=>.int (g i j)):=by
 intro pins s σ H x y v u Q I rx ry h
 obtain ⟨i,j,rfl,rfl,q⟩:=h
 obtain ⟨t,rfl⟩:=rx
 obtain ⟨t',rfl⟩:=ry
 exact rule i j t t' s _ _ ⟨.int (g i j),H,I.tok _,⟨_,rfl⟩,q⟩
theorem xW {f:Value->Value->Sem Value} {g:Int->Int->Bool}
  (rule:∀ (i j:Int) (t u:Tok) (s:Shared) (Q:Ww) (E:Ww),Q (.bool (g i j)) s->wpAny (model X.prog X.w) X.A (f (.int i t) (.int j u)) Q E s) :
  OpR X f (rI0 fun i j=>.bl (g i j)):=by
 intro pins s σ H x y v u Q I rx ry h
 obtain ⟨i,j,rfl,rfl,q⟩:=h
 obtain ⟨t,rfl⟩:=rx
 obtain ⟨t',rfl⟩:=ry
 exact rule i j t t' s _ _ ⟨.bl (g i j),H,I,rfl,q⟩
noncomputable def CQ (i j:Int):Prop:=0 < j/\j < 1073741824
noncomputable def xE (i j:Int):Prop:=(-(2 ^ 64) < i/\i < 2 ^ 64)\/(-(2 ^ 64) < j/\j < 2 ^ 64)
theorem xE.ok {i j:Int} (h:xE i j):IntMulOk i j:=by
 rcases h with ⟨h1,h2⟩ | ⟨h1,h2⟩
 ·exact .of_left (intBits_le_64 h1 h2)
 ·exact .of_right (intBits_le_64 h1 h2)
theorem BQ:OpR X (binaryOp .Add) (rI0 fun i j=>.int (i+j)):=C0 fun _ _ _ _ _ _ _ q=>add_int q
theorem Bk:OpR X (binaryOp .Sub) (rI0 fun i j=>.int (i - j)):=C0 fun _ _ _ _ _ _ _ q=>sub_int q
theorem A6:OpR X (binaryOp .Mult) (rI xE fun i j=>.int (i * j)):=opI fun _ _ _ _ _ _ _ hc q=>mul_int q hc.ok
theorem x8:OpR X (binaryOp .FloorDiv) (rI CQ fun i j=>.int (i / j)):=opI fun i j _ _ _ _ _ hc q=>by
 have h1:(0:Int) < j:=hc.1
 have h2:j < 1073741824:=hc.2
 exact floordiv_int (by lia) (by rw [Int.fdiv_eq_ediv_of_nonneg i (by lia)];exact q) (.inl (PyProof.noPylong_small (by omega)))
theorem Ac:OpR X (binaryOp .Mod) (rI (fun _ j=>0 < j) fun i j=>.int (i % j)):=opI fun i j _ _ _ _ _ hc q=>by
 have h1:(0:Int) < j:=hc
 exact mod_int' (by lia) (by rw [Int.fmod_eq_emod_of_nonneg i (by lia)];exact q)
end
section
variable {X:Cx} {a b c:Expr} {ta tb tc:TE} {pos:Pos}
theorem Ar {pins:Wv} {σ:St} {H:Hp} {s:Shared} {Q:VK} {k k':Bool} (I:Inv X pins σ H s) (q:Q (.bl k) H) (e:k=k'):EP X pins σ Q (.bool k') s:=by
 subst e
 exact ⟨.bl k,H,I,rfl,q⟩
theorem CC:OpR X (compareOp .Lt) (rI0 fun i j=>.bl (decide (i < j))):=xW fun _ _ _ _ _ _ _ q=>lt_int q
theorem B7:OpR X (compareOp .LtE) (rI0 fun i j=>.bl (decide (i<=j))):=xW fun _ _ _ _ _ _ _ q=>le_int q
theorem B6:OpR X (compareOp .Gt) (rI0 fun i j=>.bl (decide (j < i))):=xW fun _ _ _ _ _ _ _ q=>gt_int q
theorem Dk:OpR X (compareOp .GtE) (rI0 fun i j=>.bl (decide (j<=i))):=xW fun _ _ _ _ _ _ _ q=>ge_int q
theorem sV:OpR X (compareOp .Lt) (fun x y H Q=>∃ i j,x=.str i/\y=.str j/\Q (.bl (decide (i.cps.toList < j.cps.toList))) H):=by
 intro pins s σ H x y v u Q I rx ry h
 obtain ⟨i,j,rfl,rfl,q⟩:=h
 obtain ⟨t,rfl⟩:=rx
 obtain ⟨t',rfl⟩:=ry
 exact lt_str (Ar I q rfl)
theorem OpR.or {f:Value->Value->Sem Value} {r r':R2} (h:OpR X f r) (h':OpR X f r'):OpR X f (fun x y H Q=>r x y H Q\/r' x y H Q):=by
 intro pins s σ H x y v u Q I rx ry q
 rcases q with q | q
 ·exact h pins s σ H x y v u Q I rx ry q
 ·exact h' pins s σ H x y v u Q I rx ry q
theorem iD (b:Expr) {op:CmpOp} (h:op ≠ .In:=by decide) (h2:op ≠ .NotIn:=by decide):behindInMarks op b=false:=by
 have e1:(op == CmpOp.In)=false:=by cases op <;> first | rfl | exact absurd rfl h
 have e2:(op == CmpOp.NotIn)=false:=by cases op <;> first | rfl | exact absurd rfl h2
 cases b <;> simp [behindInMarks,e1,e2]
theorem wH {op:CmpOp} {r:R2} (ho:OpR X (compareOp op) r) (ha:PE X a ta) (hb:PE X b tb) (hm:behindInMarks op b=false):PE X (.Compare a [op] [b] pos) (tOp r ta tb):=by
 intro pins s σ H Q I h
 exact wpAny_Compare1 (BH ha hb I h fun v u s2 x y H2 I2 rx ry q=>ho pins s2 σ H2 x y v u Q I2 rx ry q) hm
noncomputable def vv (t:TE):TT:=fun σ H Q=>t σ H fun x H'=>∃ k,x=.bl k/\Q k H'
theorem yc {op:CmpOp} {r:R2} (ho:OpR X (compareOp op) r) (ha:PE X a ta) (hb:PE X b tb) (hm:behindInMarks op b=false):PT X (.Compare a [op] [b] pos) (vv (tOp r ta tb)):=by
 intro pins s σ H Q I h
 refine wpAny_isTrue_Compare1 (thn (ha pins s σ H _ I h) fun v s1 ⟨x,H1,I1,r1,q1⟩=>thn (hb pins s1 σ H1 _ I1 q1) fun u s2 ⟨y,H2,I2,r2,q2⟩ =>
  thn (ho pins s2 σ H2 x y v u _ I2 r1 r2 q2) fun c s3 ⟨z,H3,I3,r3,k,e,q3⟩=>?_) hm
 subst e
 cases r3
 exact YT ⟨H3,I3,q3⟩
noncomputable def uG (r r':R2) (ta tb tc:TE):TE:=fun σ H Q=>ta σ H fun x H1=>tb σ H1 fun y H2=>r x y H2 fun z H3=>∃ k,z=.bl k ∧
 (if k=true then tc σ H3 fun w' H4=>r' y w' H4 Q else Q (.bl false) H3)
theorem v9 {op op':CmpOp} {r r':R2} (ho:OpR X (compareOp op) r) (ho':OpR X (compareOp op') r') (ha:PE X a ta) (hb:PE X b tb) (hc:PE X c tc)
  (hm:lastMarks [op,op'] [b,c]=false:=by with_unfolding_all rfl):PT X (.Compare a [op,op'] [b,c] pos) (vv (uG r r' ta tb tc)):=by
 intro pins s σ H Q I h
 refine isTrue_chain (thn (ha pins s σ H _ I h) fun v s1 ⟨x,H1,I1,r1,q1⟩=>test_link (thn (hb pins s1 σ H1 _ I1 q1) fun u s2 ⟨y,H2,I2,r2,q2⟩ =>
  thn (ho pins s2 σ H2 x y v u _ I2 r1 r2 q2) fun d s3 ⟨z,H3,I3,r3,k,e,q3⟩=>?_)) hm
 subst e
 cases r3
 refine YT ?_
 cases k with
 | false =>
  obtain ⟨k',e',q'⟩:=q3
  cases e'
  exact ite_ff ⟨H3,I3,q'⟩
 | true =>
  refine ite_tt (test_last (thn (hc pins s3 σ H3 _ I3 q3) fun w' s4 ⟨z',H4,I4,r4,q4⟩=>thn (ho' pins s4 σ H4 y z' u w' _ I4 r2 r4 q4) fun d' s5 ⟨z2,H5,I5,r5,k2,e2,q5⟩=>?_))
  subst e2
  cases r5
  exact YT ⟨H5,I5,q5⟩
noncomputable def AZ (K:Wt) (x:V) (H:Hp) (k:Bool):Prop :=
 match x with
 | .non=>k=false
 | .bl b=>k=b
 | .int i=>k=(i != 0)
 | .str y=>y.length<=sizeLine/\k=((y.length:Int) != 0)
 | .byt y=>y.size<=sizeLine/\k=((y.size:Int) != 0)
 | .ref p=>(∃ xs,SqL K H p xs/\k=!xs.isEmpty)\/(∃ xs,SqT K H p xs/\k=!xs.isEmpty)\/∃ kvs,H p=some (.dK kvs)/\k=!kvs.isEmpty
 | _=>False
theorem qu {κ:Type} {kvs:List (κ×V)} {vs:List (κ×Value)} (r:KV kvs vs):(!vs.isEmpty)=!kvs.isEmpty:=by
 cases r <;> rfl
theorem lG {xs:List V} {its:Wq} (r:aO xs its):(!its.toArray.isEmpty)=!xs.isEmpty:=by
 cases r <;> simp
theorem jE:(sizeLine:Nat) < 2 ^ 63:=by rw [Y9];decide
theorem AN:D0 X (fun x H Q=>∃ k,AZ X.K x H k/\Q k H):=by
 intro pins s σ H x v Q I rx h
 obtain ⟨k,e,q⟩:=h
 have hl:=jE
 have hs:sizeLine=16777216:=Y9
 cases x with
 | non =>
  cases rx
  have e':k=false:=e
  subst e'
  exact truthy_none ⟨H,I,q⟩
 | bl b =>
  cases rx
  have e':k=b:=e
  subst e'
  exact YT ⟨H,I,q⟩
 | int i =>
  obtain ⟨t,rfl⟩:=rx
  have e':k=(i != 0):=e
  subst e'
  exact PySem.P.truthy_int ⟨H,I,q⟩
 | str y =>
  obtain ⟨t,rfl⟩:=rx
  obtain ⟨hy,e'⟩:y.length<=sizeLine/\k=((y.length:Int) != 0):=e
  subst e'
  exact PySem.P.truthy_str (by lia) ⟨H,I.tok _,q⟩
 | byt y =>
  obtain ⟨t,rfl⟩:=rx
  obtain ⟨hy,e'⟩:y.size<=sizeLine/\k=((y.size:Int) != 0):=e
  subst e'
  exact PySem.W.truthy_bytes (by lia) ⟨H,I.tok _,q⟩
 | ref p =>
  cases rx
  have e':(∃ xs,SqL X.K H p xs/\k=!xs.isEmpty)\/(∃ xs,SqT X.K H p xs/\k=!xs.isEmpty)\/∃ kvs,H p=some (.dK kvs)/\k=!kvs.isEmpty:=e
  rcases e' with ⟨xs,hx,e'⟩ | ⟨xs,hx,e'⟩ | ⟨kvs,hx,e'⟩
  ·subst e'
   obtain ⟨its,r,pl,hz⟩:=I.list hx
   have hlen:=r.length
   exact wpAny_truthy_list pl.isList (by simp only [Za];lia) ⟨H,I.tok _,by rw [lG r];exact q⟩
  ·subst e'
   obtain ⟨its,r,pl,hz⟩:=I.tuple hx
   have hlen:=r.length
   exact truthy_tuple pl (by simp only [Za];lia) ⟨H,I.tok _,by rw [lG r];exact q⟩
  ·subst e'
   obtain ⟨hz,hS,vs,r,m⟩:kvs.length<=sizeLine/\(p == sysModules)=false/\∃ vs,KV kvs vs/\s.heap.DictOf (bB X.prog X.w) p vs:=I.hok p _ hx
   have hlen:kvs.length=vs.length:=Y4 r
   exact wpAny_truthy_dict hS m (by lia) ⟨H,I.tok _,by rw [qu r];exact q⟩
 | _=>exact (show False from e).elim
theorem vD (ha:PE X a ta) (he:∀ whole,isTrue a X.env whole=(do let v ← whole;standAt a.pos;holding [v] (truthy v))) :
  PT X a (fun σ H Q=>ta σ H fun x H'=>∃ k,AZ X.K x H' k/\Q k H'):=by
 intro pins s σ H Q I h
 exact isTrue_plain (thn (ha pins s σ H _ I h) fun v s1 ⟨x,H1,I1,r1,q1⟩=>AN pins s1 σ H1 x v Q I1 r1 q1) (he _)
theorem p9:OpR X (binaryOp .Add) (fun x y H Q=>∃ i j,x=.str i/\y=.str j/\i.length+j.length<=sizeLine/\Q (.str (i++j)) H):=by
 intro pins s σ H x y v u Q I rx ry h
 obtain ⟨i,j,rfl,rfl,hz,q⟩:=h
 obtain ⟨t,rfl⟩:=rx
 obtain ⟨t',rfl⟩:=ry
 exact add_str (fun t' tk=>⟨.str (i++j),H,I.tok _,⟨_,rfl⟩,q⟩) hz
theorem vals1 {x:V} {us:Wq} (r:aO [x] us):∃ u,us=[u]/\RelV x u:=by
 cases r with
 | cons r1 r2=>cases r2;exact ⟨_,rfl,r1⟩
theorem vals2 {x y:V} {us:Wq} (r:aO [x,y] us):∃ u w',us=[u,w']/\RelV x u/\RelV y w':=by
 cases r with
 | cons r1 r2 =>
  cases r2 with
  | cons r3 r4=>cases r4;exact ⟨_,_,rfl,r1,r3⟩
theorem rP (hc:X.calm=true):dD X (.builtin "max") (fun xs H Q=>∃ i j,xs=[.int i,.int j]/\Q (.int (if j > i then j else i)) H):=by
 intro pins s σ H xs us Q I r h
 obtain ⟨i,j,rfl,q⟩:=h
 obtain ⟨u,w',rfl,⟨t,rfl⟩,⟨t',rfl⟩⟩:=vals2 r
 refine max_two_ints (I.ok.hd hc) fun h' tk k=>⟨_,H,I.kept k,?_,q⟩
 by_cases hj:j > i
 ·rw [Zq hj,Zq hj];exact ⟨_,rfl⟩
 ·rw [Zo hj,Zo hj];exact ⟨_,rfl⟩
theorem r9 (hc:X.calm=true):dD X (.builtin "min") (fun xs H Q=>∃ i j,xs=[.int i,.int j]/\Q (.int (if j < i then j else i)) H):=by
 intro pins s σ H xs us Q I r h
 obtain ⟨i,j,rfl,q⟩:=h
 obtain ⟨u,w',rfl,⟨t,rfl⟩,⟨t',rfl⟩⟩:=vals2 r
 refine min_two_ints (I.ok.hd hc) fun h' tk k=>⟨_,H,I.kept k,?_,q⟩
 by_cases hj:j < i
 ·rw [Zq hj,Zq hj];exact ⟨_,rfl⟩
 ·rw [Zo hj,Zo hj];exact ⟨_,rfl⟩
noncomputable def Cs (K:Wt) (x:V) (H:Hp) (n:Nat):Prop :=
 match x with
 | .str y=>y.length<=sizeLine/\n=y.length
 | .byt y=>y.size<=sizeLine/\n=y.size
 | .ref p=>(∃ xs,SqL K H p xs/\n=xs.length)\/∃ xs,SqT K H p xs/\n=xs.length
 | _=>False
theorem ve:dD X (.builtin "len") (fun xs H Q=>∃ x n,xs=[x]/\Cs X.K x H n/\Q (.int n) H):=by
 intro pins s σ H xs us Q I r h
 obtain ⟨x,n,rfl,e,q⟩:=h
 obtain ⟨u,rfl,rx⟩:=vals1 r
 have hl:=jE
 have hs:sizeLine=16777216:=Y9
 cases x with
 | str y =>
  obtain ⟨t,rfl⟩:=rx
  obtain ⟨hy,e'⟩:y.length<=sizeLine/\n=y.length:=e
  subst e'
  exact len_str (by lia) ⟨.int _,H,I.tok _,⟨_,rfl⟩,q⟩
 | byt y =>
  obtain ⟨t,rfl⟩:=rx
  obtain ⟨hy,e'⟩:y.size<=sizeLine/\n=y.size:=e
  subst e'
  exact PySem.W.len_bytes (by lia) ⟨.int _,H,I.tok _,⟨_,rfl⟩,q⟩
 | ref p =>
  cases rx
  have e':(∃ xs,SqL X.K H p xs/\n=xs.length)\/∃ xs,SqT X.K H p xs/\n=xs.length:=e
  rcases e' with ⟨xs,hx,e'⟩ | ⟨xs,hx,e'⟩
  ·subst e'
   obtain ⟨its,r',pl,hz⟩:=I.list hx
   have hlen:=r'.length
   exact Calls.call_len_list pl.isList (by simp only [Za];lia) ⟨.int xs.length,H,I.tok _,⟨_,by simp only [Za];rw [hlen]⟩,q⟩
  ·subst e'
   obtain ⟨its,r',pl,hz⟩:=I.tuple hx
   have hlen:=r'.length
   exact len_tuple pl (by simp only [Za];lia) ⟨.int xs.length,H,I.tok _,⟨_,by simp only [Za];rw [hlen]⟩,q⟩
 | _=>exact (show False from e).elim
end
structure ObjM (h:Heap) (x dx C:Addr) (mA:Ws):Prop where
 obj:h.get? x=some (PySem.W.instObj C dx)
 ns:h.Ns1 dx mA
 ne:dx ≠ x
theorem sv {h:Heap} {dx:Addr} {mA:Ws} (n:h.Ns1 dx mA):∃ od,h.get? dx=some od/\∀ name,PySem.W.lookIn name od=some (mA name):=by
 obtain ⟨o,es,ep,ho,hd,hk,_,hm⟩:=n
 refine ⟨o,ho,fun name=>?_⟩
 have e:=hm name
 unfold nsFind findBy at e
 rw [← Array.find?_toList] at e
 unfold PySem.W.lookIn
 rw [hd]
 dsimp only
 split
 ·rename_i y q
  rw [q] at e
  exact congrArg some e
 ·rename_i q
  rw [q] at e
  have a:es.toList.any (·.refKey)=false:=by
   rw [List.any_eq_false]
   intro y hy
   obtain ⟨z,t,hkey⟩:=hk y (Array.mem_toList_iff.mp hy)
   simp [DictEntry.refKey,hkey]
  have a':¬ es.toList.any (·.refKey)=true:=by rw [a];exact Ze
  rw [Zo a']
  exact congrArg some e
theorem ObjM.look {h:Heap} {x dx C:Addr} {mA:Ws} (I:ObjM h x dx C mA):∃ od,PySem.W.InstAt h x (PySem.W.instObj C dx) C (some od)/\∀ name,PySem.W.lookIn name od=some (mA name) :=
 let ⟨od,ho,hl⟩:=sv I.ns
 ⟨od,⟨I.obj,rfl,rfl,ho⟩,hl⟩
section
variable {prog:Program} {w:World} {A:Around} {E:Ww} {s:Shared} {K:Wt} {x dx C f:Addr} {mA:Ws} {name:Str} {v:Value}
theorem get_map {expr:Bool} {Q:Ww} (X:K.In s.heap) (I:ObjM s.heap x dx C mA) (hg:PySem.W.plainGet K C name=true) (hh:PySem.W.hasDictIn K C=true)
  (ha:PySem.W.findIn K (.ref C) name=some none) (hv:mA name=some v) (hv':PySem.W.handedIn v=true) (h:Q v { s with toks:=s.toks+1 }) :
  wpAny (model prog w) A (getAttr (.ref x) name expr) Q E s:=by
 obtain ⟨od,J,hl⟩:=I.look
 exact PySem.W.get_value X J (XM hg).1 (PySem.W.findObj_own hh ha rfl (by rw [hl,hv])) hv' h
theorem vR {pl:Sem Bool} {Q:Value×Wq->Shared->Prop} (X:K.In s.heap) (I:ObjM s.heap x dx C mA) (hg:PySem.W.plainGet K C name=true)
  (hf:PySem.W.findIn K (.ref C) name=some (some (.ref f))) (ht:PySem.W.isFn K (.ref f)=true) (hv:mA name=none) (h:Q (.ref f,[.ref x]) s) :
  wpAny (model prog w) A (getMethod (.ref x) name pl) Q E s:=by
 obtain ⟨od,J,hl⟩:=I.look
 exact PySem.W.method_fn X J (XM hg).1 (XM hg).2 hf (beq_iff_eq.mp ht) (by show (PySem.W.lookIn name od).map (·.isSome)=some false;rw [hl,hv];rfl) h
theorem w6 {ns:List Str} {Q:Unit->Shared->Prop} (X:K.In s.heap) (I:ObjM s.heap x dx C mA)
  (hs:PySem.W.findIn K (.ref C) "__setattr__" = some (some (.builtin "object.__setattr__"))) (hp:PySem.W.plainOver K C=true) (ht:PySem.W.takerIn K C name=some none) (hh:PySem.W.hasDictIn K C=true)
  (hw:PySem.Within mA ns) (hsz:ns.length<=sizeLine)
  (h:∀ h',ObjM h' x dx C (fun y=>if y=name then some v else mA y)->Heap.SameBut dx s.heap h'->Q () { s with heap:=h',toks:=s.toks+2 }) :
  wpAny (model prog w) A (setAttr (.ref x) name v) Q E s:=by
 obtain ⟨od,J,hl⟩:=I.look
 refine PySem.W.set_plain X J hs (PySem.W.osa_open (s:={ s with toks:=s.toks+1 }) (r:=none) X J hp ht fun b=>?_)
 obtain ⟨cd,hc,hd'⟩:=PySem.W.any_some hh
 have hx:s.heap.get? x=some ⟨.ref C,some dx,.plain,#[]⟩:=I.obj
 refine Zs (Zj (Zs (Zs (wpAny_loadPart hx (Zs (PySem.W.Looks.here (s:={ s with toks:=s.toks+1 }) (PySem.W.looks_clsIn X hc) ?_))))))
 rw [hd']
 refine Zj (a:=some dx) (Zs (Zj (Zs ?_)))
 refine wpAny_nsSet1 (s:={ s with toks:=s.toks+1 }) I.ns fun h' hn2 hs2=>?_
 obtain ⟨oD,esD,epD,hoD,hdD,hcD⟩:=hn2.count (PySem.Within.cons name v hw)
 refine Zs (wpAny_lookBehind hoD (by rw [hdD];exact pastItsLine_dict (ZF hcD (by rw [Zk];exact Xi hsz))) ?_)
 exact Zj (h _ ⟨(hs2.2 _ (YV I.ne)).trans I.obj,hn2,I.ne⟩ hs2)
theorem vx {R:Result->Shared->Prop} {vs:Wq} {kw:List (Str×Value)} (X:K.In s.heap) (hm:PySem.W.makesIn K C=true)
  (hi:PySem.W.findIn K (.ref C) "__init__" = some (some (.ref f))) (hf:PySem.W.typeIn K (.ref f)=some (.type "function"))
  (h:codeAny (model prog w) (A.under (.builtin "type.__call__" ⟨.ref C :: vs,kw⟩)) (.call (.ref f) ⟨.ref (s.heap.objs.size+1) :: vs,kw⟩) (PySem.W.InitBack (s.heap.objs.size+1) R)
   { s with heap:=(s.heap.push PySem.W.emptyDict).push (PySem.W.instObj C s.heap.objs.size) }) :
  codeAny (model prog w) A (.call (.ref C) ⟨vs,kw⟩) R s:=by
 obtain ⟨hh,g,d,t,os⟩:=s
 exact PySem.W.make_core (PySem.W.makes_of X hm) (PySem.W.looks_findIn X hi) (fun self=>PySem.W.bind_fn X self hf) (.inl rfl) h
end
noncomputable def gP (f:Str) (v:V):List (Str×V)->List (Str×V)
 | []=>[(f,v)]
 | (g,x) :: r=>if g=f then (g,v) :: r else (g,x) :: gP f v r
theorem jV (f g:Str) (v:V):∀ fs:List (Str×V),(gP f v fs).lookup g=if g=f then some v else fs.lookup g
 | []=>by
  show List.lookup g [(f,v)]=_
  by_cases h:g=f
  ·have hb:(g == f)=true:=beq_iff_eq.mpr h
   simp only [List.lookup,hb,Zq h]
  ·have hb:(g == f)=false:=ZV.mpr h
   simp only [List.lookup,hb,Zo h]
 | (k,x) :: r=>by
  have ih:=jV f g v r
  rw [show gP f v ((k,x) :: r)=(if k=f then (k,v) :: r else (k,x) :: gP f v r) from rfl]
  by_cases hk:k=f
  ·rw [Zq hk]
   by_cases h:g=k
   ·have hb:(g == k)=true:=beq_iff_eq.mpr h
    simp only [List.lookup,hb,Zq (h.trans hk)]
   ·have hb:(g == k)=false:=ZV.mpr h
    simp only [List.lookup,hb,Zo (fun e:g=f=>h (e.trans hk.symm))]
  ·rw [Zo hk]
   by_cases h:g=k
   ·have hb:(g == k)=true:=beq_iff_eq.mpr h
    simp only [List.lookup,hb,Zo (fun e:g=f=>hk (h.symm.trans e))]
   ·have hb:(g == k)=false:=ZV.mpr h
    simp only [List.lookup,hb]
    exact ih
theorem jx (f:Str) (v:V):∀ fs:List (Str×V),f∈(gP f v fs).map (·.1)/\∀ g,g∈fs.map (·.1)->g∈(gP f v fs).map (·.1)
 | []=>⟨by simp [gP],fun g h=>by simp at h⟩
 | (k,x) :: r=>by
  obtain ⟨i1,i2⟩:=jx f v r
  rw [show gP f v ((k,x) :: r)=(if k=f then (k,v) :: r else (k,x) :: gP f v r) from rfl]
  by_cases hk:k=f
  ·rw [Zq hk]
   subst hk
   exact ⟨by simp,fun g h=>by simpa using h⟩
  ·rw [Zo hk]
   refine ⟨?_,fun g h=>?_⟩
   ·rw [Zn]
    exact Zx _ i1
   ·rw [Zn] at h ⊢
    rcases Zg.mp h with e | e
    ·exact Zg.mpr (.inl e)
    ·exact Zx _ (i2 g e)
theorem jY (f:Str) (v:V):∀ fs:List (Str×V),(gP f v fs).length<=fs.length+1
 | []=>by simp [gP]
 | (k,x) :: r=>by
  have ih:=jY f v r
  rw [show gP f v ((k,x) :: r)=(if k=f then (k,v) :: r else (k,x) :: gP f v r) from rfl]
  by_cases hk:k=f
  ·rw [Zq hk,Zk,Zk];exact YF _ _
  ·rw [Zo hk,Zk,Zk];exact Xi ih
theorem gQ.some_of {v:V} {o:Wp} (r:gQ (some v) o):∃ u,o=some u/\RelV v u:=by
 cases o with
 | none=>exact (show False from r).elim
 | some u=>exact ⟨u,rfl,r⟩
theorem gQ.none_of {o:Wp} (r:gQ none o):o=none:=by
 cases o with
 | none=>rfl
 | some u=>exact (show False from r).elim
theorem sZ {v:V} {u:Value} (r:RelV v u):PySem.W.handedIn u=true:=by
 cases v with
 | non=>cases (show u=Value.none from r);rfl
 | bl b=>cases (show u=Value.bool b from r);rfl
 | int i=>obtain ⟨t,e⟩:=(show ∃ t,u=Value.int i t from r);cases e;rfl
 | str x=>obtain ⟨t,e⟩:=(show ∃ t,u=Value.str x t from r);cases e;rfl
 | byt b=>obtain ⟨t,e⟩:=(show ∃ t,u=Value.bytes b t from r);cases e;rfl
 | flt b=>obtain ⟨t,e⟩:=(show ∃ t,u=Value.float b t from r);cases e;rfl
 | ref a=>cases (show u=Value.ref a from r);rfl
 | ty n=>cases (show u=Value.type n from r);rfl
section
variable {P:Program} {w:World} {H H':Hp} {h h':Heap} {a C dx:Addr} {fs fs':List (Str×V)}
theorem kg (hok:HOk P w H h) (e:H a=some (.ins C dx fs)):∃ mA,ObjM h a dx C mA/\(∀ f,gQ (fs.lookup f) (mA f))/\PySem.Within mA (fs.map (·.1))/\fs.length<=1000/\H dx=some (.own a):=by
 obtain ⟨d,z,ne,ob,mA,n,r,q⟩:=(show cq P w H h a (.ins C dx fs) from hok a _ e)
 exact ⟨mA,⟨ob,n,ne⟩,r,q,z,d⟩
end
structure Cls (K:Wt) (C:Addr):Prop where
 pg:PySem.W.plainGet K C Str.empty=true
 hd:PySem.W.hasDictIn K C=true
 po:PySem.W.plainOver K C=true
 sa:PySem.W.findIn K (.ref C) "__setattr__" = some (some (.builtin "object.__setattr__"))
theorem Cls.get {K:Wt} {C:Addr} (c:Cls K C) (f:Str):PySem.W.plainGet K C f=true:=c.pg
noncomputable def b6 (K:Wt) (C:Addr) (f:Str):Prop:=PySem.W.findIn K (.ref C) f=some none
theorem b6.taker {K:Wt} {C:Addr} {f:Str} (n:b6 K C f):PySem.W.takerIn K C f=some none:=by
 unfold PySem.W.takerIn
 rw [show PySem.W.findIn K (.ref C) f=some none from n]
 rfl
structure Meth (K:Wt) (C:Addr) (m:Str) (f:Addr):Prop where
 at_:PySem.W.findIn K (.ref C) m=some (some (.ref f))
 fn:PySem.W.isFn K (.ref f)=true
 kp:PySem.W.keepIn K (.ref f)=true
section
variable {X:Cx} {pins:Wv} {σ:St} {H:Hp} {s:Shared} {a C dx:Addr} {fs:List (Str×V)} {f:Str} {v:V} {A:Around} {E:Ww}
theorem qg {b:Bool} {Q:Ww} (I:Inv X pins σ H s) (e:H a=some (.ins C dx fs)) (c:Cls X.K C) (n:b6 X.K C f) (l:fs.lookup f=some v)
  (h:∀ u s',Inv X pins σ H s'->RelV v u->Q u s'):wpAny (model X.prog X.w) A (getAttr (.ref a) f b) Q E s:=by
 obtain ⟨mA,O,r,_,_,_⟩:=kg I.hok e
 obtain ⟨u,hu,ru⟩:=gQ.some_of (v:=v) (o:=mA f) (by rw [← l];exact r f)
 exact get_map I.kIn O (c.get f) c.hd n hu (sZ ru) (h u _ (I.tok _) ru)
theorem lB {m:Str} {g:Addr} {pl:Sem Bool} {Q:Value×Wq->Shared->Prop} (I:Inv X pins σ H s) (e:H a=some (.ins C dx fs)) (c:Cls X.K C) (k:Meth X.K C m g) (l:fs.lookup m=none)
  (h:Q (.ref g,[.ref a]) s):wpAny (model X.prog X.w) A (getMethod (.ref a) m pl) Q E s:=by
 obtain ⟨mA,O,r,_,_,_⟩:=kg I.hok e
 have hn:mA m=none:=gQ.none_of (by rw [← l];exact r m)
 exact vR I.kIn O (c.get m) k.at_ k.fn hn h
theorem pN {y:V} {u:Value} {Q:Unit->Shared->Prop} (I:Inv X pins σ H s) (e:H a=some (.ins C dx fs)) (c:Cls X.K C) (n:b6 X.K C f) (hl:fs.length < 1000) (ry:RelV y u)
  (h:∀ s',Inv X pins σ (upd H a (.ins C dx (gP f y fs))) s'->Q () s'):wpAny (model X.prog X.w) A (setAttr (.ref a) f u) Q E s:=by
 obtain ⟨mA,O,r,wi,_,ho⟩:=kg I.hok e
 have hz:(fs.map (·.1)).length<=sizeLine:=by rw [Zy,Y9];lia
 refine w6 I.kIn O c.sa c.po n.taker c.hd wi hz fun h' O' sb=>h _ ?_
 have hd:∃ o,h'.get? dx=some o:=let ⟨o,_,_,e',_⟩:=O'.ns;⟨o,e'⟩
 refine I.write (x:=a) (e:=dx) (by rw [e];exact True.intro) (.inr ho) (fun b q hb z=>(sb.2 b hb).trans z) hd ?_
 refine ⟨by rw [aG O.ne];exact ho,?_,O.ne,O'.obj,_,O'.ns,fun g=>?_,fun g hg=>?_⟩
 ·have:=jY f y fs;lia
 ·show gQ ((gP f y fs).lookup g) (if g=f then some u else mA g)
  rw [jV]
  by_cases q:g=f
  ·rw [Zq q,Zq q];exact ry
  ·rw [Zo q,Zo q];exact r g
 ·by_cases q:g=f
  ·rw [q];exact (jx f y fs).1
  ·refine (jx f y fs).2 g (wi g fun z=>hg ?_)
   show (if g=f then some u else mA g)=none
   rw [Zo q];exact z
theorem Inv.made (I:Inv X pins σ H s):Inv X pins σ (upd (upd H s.heap.objs.size (.own (s.heap.objs.size+1))) (s.heap.objs.size+1) (.ins C s.heap.objs.size []))
  { s with heap:=(s.heap.push PySem.W.emptyDict).push (PySem.W.instObj C s.heap.objs.size) }:=by
 have e1:(s.heap.push PySem.W.emptyDict).get? s.heap.objs.size=some PySem.W.emptyDict:=ZM s.heap rfl
 have e2:((s.heap.push PySem.W.emptyDict).push (PySem.W.instObj C s.heap.objs.size)).get? (s.heap.objs.size+1)=some (PySem.W.instObj C s.heap.objs.size):=by
  have:=ZM (s.heap.push PySem.W.emptyDict) (o:=PySem.W.instObj C s.heap.objs.size) rfl
  rwa [X5] at this
 have e3:(s.heap.push PySem.W.emptyDict).Ns s.heap.objs.size (fun _=>none):=⟨PySem.W.emptyDict,#[],_,e1,rfl,(fun e he=>absurd he (by simp)),fun _=>rfl⟩
 have I1:=I.laid (a:=s.heap.objs.size) (o:=.own (s.heap.objs.size+1)) (h':=s.heap.push PySem.W.emptyDict) (t':=s.toks) (fun b u q=>Zi _ q) (Zl _) ⟨_,e1⟩
 refine I1.laid (a:=s.heap.objs.size+1) (o:=.ins C s.heap.objs.size []) (t':=s.toks) (fun b u q=>Zi _ q) (Xq (X5 _ _)) ?_
 have ne:s.heap.objs.size ≠ s.heap.objs.size+1:=ZQ (Yl _)
 refine ⟨by rw [aG ne,ay],Yk _,ne,e2,fun _=>none,(Heap.Ns1.of_empty e3).at fun o q=>Zi _ q,fun _=>True.intro,fun y hy=>absurd rfl hy⟩
theorem wN {prog:Program} {w:World} {env:Env} {e:Expr} {f:Str} {pos:Pos} {s:Shared} {Q:Ww} (hb:attributeBase e f env (eval e env)=eval e env)
  (h:wpAny (model prog w) A (eval e env) (fun o s₁=>wpAny (model prog w) A (getAttr o f true) Q E s₁) E s):wpAny (model prog w) A (eval (.Attribute e f pos) env) Q E s :=
 Attribute_any_ h (by rw [arm_eval_Attribute,hb])
end
noncomputable def DT (K:Wt) (ta:TE) (f:Str):TE:=fun σ H Q=>ta σ H fun x H1=>∃ a C dx fs v,x=.ref a/\H1 a=some (.ins C dx fs)/\Cls K C/\b6 K C f/\fs.lookup f=some v/\Q v H1
noncomputable def DV (K:Wt) (ta tv:TE) (f:Str):TS:=fun D σ H=>tv σ H fun y H1=>ta σ H1 fun x H2=>∃ a C dx fs,x=.ref a/\H2 a=some (.ins C dx fs)/\Cls K C/\b6 K C f/\fs.length < 1000 ∧
 D.nx σ (upd H2 a (.ins C dx (gP f y fs)))
section
variable {X:Cx} {o e value:Expr} {f:Str} {pos pos' tpos:Pos} {ta tv:TE}
theorem vL (he:PE X e ta) (hb:attributeBase e f X.env (eval e X.env)=eval e X.env):PE X (.Attribute e f pos) (DT X.K ta f):=by
 intro pins s σ H Q I h
 refine wN hb (thn (he pins s σ H _ I h) fun u s1 ⟨x,H1,I1,rx,a,C,dx,fs,v,ex,ea,c,n,l,q⟩=>?_)
 subst ex
 obtain rfl:u=Value.ref a:=rx
 exact qg I1 ea c n l fun u' s2 I2 ru=>⟨v,H1,I2,ru,q⟩
theorem Bc (ha:PE X o ta) (hv:PE X value tv) (hs:swapsWith value (some (.Attribute o f pos')) pos.line X.env=pure false):PS X (.Assign [.Attribute o f pos'] value pos) (DV X.K ta tv f):=by
 intro pins s σ H D I h
 refine plainObj_wpAny_Assign_Attribute (thn (hv pins s σ H _ I h) fun u s1 ⟨y,H1,I1,ry,q⟩=>thn (ha pins s1 σ H1 _ I1 q) fun ov s2 ⟨x,H2,I2,rx,a,C,dx,fs,ex,ea,c,n,l,q2⟩=>?_) hs
 subst ex
 obtain rfl:ov=Value.ref a:=rx
 exact pN I2 ea c n l ry fun s3 I3=>⟨σ,_,I3,q2⟩
end
section
variable {X:Cx} {pins:Wv} {σ:St} {H:Hp} {s:Shared} {A:Around} {E:Ww} {Q:Ww} {c:Value} {b:Bool}
inductive TyOf (K:Wt) (H:Hp):V->Value->Prop where
 | non:TyOf K H .non (.type "NoneType")
 | bl (x:Bool):TyOf K H (.bl x) (.type "bool")
 | int (i:Int):TyOf K H (.int i) (.type "int")
 | str (x:Str):TyOf K H (.str x) (.type "str")
 | flt (x:UInt64):TyOf K H (.flt x) (.type "float")
 | lst {a:Addr} {xs:List V} (e:H a=some (.lst xs)):TyOf K H (.ref a) (.type "list")
 | frz {a:Addr} {o:Obj} {xs:List V} (e:H a=some (.frz o (.lst xs))):TyOf K H (.ref a) (.type "list")
 | tup {a:Addr} {xs:List V} (e:H a=some (.tup xs)):TyOf K H (.ref a) (.type "tuple")
 | dK {a:Addr} {kvs:List (Key×V)} (e:H a=some (.dK kvs)):TyOf K H (.ref a) (.type "dict")
 | dT {a:Addr} {kvs:List (List Key×V)} (e:H a=some (.dT kvs)):TyOf K H (.ref a) (.type "dict")
 | ins {a C dx:Addr} {fs:List (Str×V)} (e:H a=some (.ins C dx fs)) (cl:Cls K C) (ha:PySem.W.findIn K (.ref C) "__class__" = some (some (.builtin "object.__class__")))
   (hn:PySem.W.specialIn K (.builtin "object.__class__") "__get__" = some (some (.builtin "getset_descriptor.__get__"))) (htk:PySem.W.takesIn K (.builtin "object.__class__")=some true)
   (hm:PySem.W.mroIn K C (.type "object")=some true):TyOf K H (.ref a) (.ref C)
theorem rR {x:V} {u t:Value} (I:Inv X pins σ H s) (rx:RelV x u) (ty:TyOf X.K H x t) (e:PySem.W.kitOne X.K t c=some b) (h:∀ tk,Q (.bool b) { s with toks:=tk }) :
  wpAny (model X.prog X.w) A (call (.builtin "isinstance") [u,c]) Q E s:=by
 cases ty with
 | non=>cases (show u=Value.none from rx);exact Yr PySem.W.kitx_none I.kIn True.intro e (fun z=>nomatch z) h
 | bl y=>cases (show u=Value.bool y from rx);exact Yr PySem.W.kitx_bool I.kIn True.intro e (fun z=>nomatch z) h
 | int i=>obtain ⟨t,q⟩:=(show ∃ t,u=Value.int i t from rx);cases q;exact Yr PySem.W.kitx_int I.kIn True.intro e (fun z=>nomatch z) h
 | str y=>obtain ⟨t,q⟩:=(show ∃ t,u=Value.str y t from rx);cases q;exact Yr PySem.W.kitx_str I.kIn True.intro e (fun z=>nomatch z) h
 | flt y=>obtain ⟨t,q⟩:=(show ∃ t,u=Value.float y t from rx);cases q;exact Yr PySem.W.kitx_float I.kIn True.intro e (fun z=>nomatch z) h
 | @lst a xs ea =>
  cases (show u=Value.ref a from rx)
  obtain ⟨_,_,n,_,h1⟩:=(show cq X.prog X.w H s.heap a (.lst xs) from I.hok a _ ea)
  exact Yr PySem.W.kitx_list I.kIn ⟨_,h1,rfl⟩ e (fun z=>nomatch z) h
 | @frz a ob xs ea =>
  cases (show u=Value.ref a from rx)
  obtain ⟨_,_,_,n,_,h1⟩:=(show cq X.prog X.w H s.heap a (.frz ob (.lst xs)) from I.hok a _ ea)
  exact Yr PySem.W.kitx_list I.kIn ⟨_,h1,rfl⟩ e (fun z=>nomatch z) h
 | @tup a xs ea =>
  cases (show u=Value.ref a from rx)
  obtain ⟨_,_,_,_,p⟩:=(show cq X.prog X.w H s.heap a (.tup xs) from I.hok a _ ea)
  obtain ⟨o,h1,h2,_⟩:=p
  exact Yr PySem.W.kitx_tuple I.kIn ⟨o,h1,h2⟩ e (fun z=>nomatch z) h
 | @dK a kvs ea =>
  cases (show u=Value.ref a from rx)
  obtain ⟨_,_,vs,_,p⟩:=(show cq X.prog X.w H s.heap a (.dK kvs) from I.hok a _ ea)
  obtain ⟨o,es,ep,h1,h2,_⟩:=p
  exact Yr PySem.W.kitx_dict I.kIn ⟨o,h1,h2.1⟩ e (fun z=>nomatch z) h
 | @dT a kvs ea =>
  cases (show u=Value.ref a from rx)
  obtain ⟨_,_,xs,_,o,es,ep,h1,h2,_⟩:=(show cq X.prog X.w H s.heap a (.dT kvs) from I.hok a _ ea)
  exact Yr PySem.W.kitx_dict I.kIn ⟨o,h1,h2.1⟩ e (fun z=>nomatch z) h
 | @ins a C dx fs ea cl ha hn htk hm =>
  cases (show u=Value.ref a from rx)
  obtain ⟨mA,O,_⟩:=kg I.hok ea
  obtain ⟨od,J,_⟩:=O.look
  exact Yr (PySem.W.kitx_own (cl.get _) cl.hd ha hn htk hm) I.kIn J e (fun z=>nomatch z) h
end
structure Room (k:Nat) (A:Around):Prop where
 hd:A.handled=none
 dp:A.depth+3 * k+5 < recursionLimit
 un:A.units+16 * k+200 < cLine
theorem Room.mono {j k:Nat} {A:Around} (r:Room k A) (h:j<=k):Room j A:=⟨r.hd,by have:=r.dp;lia,by have:=r.un;lia⟩
theorem Room.deeper {k:Nat} {A:Around} (r:Room (k+1) A) (env:Env):Room k (A.deeper env) :=
 ⟨r.hd,by have:=r.dp;show A.depth+1+3 * k+5 < _;lia,by have:=r.un;show A.units+3+16 * k+200 < _;lia⟩
theorem pI {A:Around} {C:Addr} {us:Wq} {kw:List (Str×Value)}:(A.under (.builtin "type.__call__" ⟨.ref C :: us,kw⟩)).depth=A.depth+1:=by
 first | rfl | simp [Around.under,Code.weight,Code.isCreation,Code.isGuard,Code.isCaller,Code.frames,Code.isFrame,guardIds]
theorem p6 {A:Around} {C:Addr} {us:Wq} {kw:List (Str×Value)}:(A.under (.builtin "type.__call__" ⟨.ref C :: us,kw⟩)).units=A.units+1:=by
 first | rfl | simp [Around.under,Code.cUnits,Code.frames,Code.isFrame]
theorem Room.make {k:Nat} {A:Around} (r:Room (k+1) A) (C:Addr) (us:Wq) (kw:List (Str×Value)):Room k (A.under (.builtin "type.__call__" ⟨.ref C :: us,kw⟩)) :=
 ⟨r.hd,by have:=r.dp;rw [pI];lia,by have:=r.un;rw [p6];lia⟩
theorem Room.depth {k:Nat} {A:Around} (r:Room k A):A.depth < recursionLimit:=by have:=r.dp;lia
theorem Room.units {k:Nat} {A:Around} (r:Room k A):A.units+64 < cLine:=by have:=r.un;lia
noncomputable def sj:TA:=fun _ H Q=>Q [] H
noncomputable def Ck (ta:TE) (tr:TA):TA:=fun σ H Q=>ta σ H fun x H1=>tr σ H1 fun xs H2=>Q (x :: xs) H2
section
variable {X:Cx} {e:Expr} {es:List Expr} {te:TE} {t:TA} {pos:Pos}
theorem kC:PA X [] sj:=fun _ _ _ _ H Q I h=>Calls.spliced_nil ⟨[],H,I,.nil,h⟩
theorem fQ (ha:PE X e te) (hr:PA X es t) (hs:starEach (e :: es) X.env=(false,eval e X.env) :: starEach es X.env:=by rfl):PA X (e :: es) (Ck te t):=by
 intro pos pins s σ H Q I h
 rw [hs]
 show wpAny _ _ (spliced ((false,eval e X.env) :: backTo pos (starEach es X.env))) _ _ s
 refine Calls.spliced_cons (thn (ha pins s σ H _ I h) fun u s1 ⟨x,H1,I1,r1,q1⟩=>?_)
 exact thn (hr pos pins s1 σ H1 _ I1 q1) fun us s2 ⟨xs,H2,I2,r2,q2⟩=>⟨x :: xs,H2,I2,.cons r1 r2,q2⟩
noncomputable def D9 (t:TA):TE:=fun σ H Q=>t σ H fun xs H1=>xs.length<=sizeLine/\∀ p,H1 p=none->Q (.ref p) (upd H1 p (.tup xs))
noncomputable def D1 (t:TA):TE:=fun σ H Q=>t σ H fun xs H1=>xs.length<=sizeLine/\∀ p,H1 p=none->Q (.ref p) (upd H1 p (.lst xs))
theorem Bq {x1} (h:PA X es t):PE X (.Tuple es x1 pos) (D9 t):=by
 intro pins s σ H Q I hq
 refine wpAny_Tuple_spliced (thn (h pos pins s σ H _ I hq) fun us s1 ⟨xs,H1,I1,r,z,q⟩=>⟨by rw [← r.length];exact z,?_⟩)
 have hf:H1 s1.heap.objs.size=none:=I1.hok.fresh (Zl _)
 refine ⟨.ref s1.heap.objs.size,upd H1 s1.heap.objs.size (.tup xs),I1.laid (t':=s1.toks) (fun b u e=>Zi _ e) (Zl _) ?_,rfl,q _ hf⟩
 exact ⟨z,us,r,NoD.of (ZM _ rfl) rfl,⟨_,ZM _ rfl,rfl,_,rfl⟩⟩
theorem Av (h:PA X es t):PE X (.List es pos) (D1 t):=by
 intro pins s σ H Q I hq
 refine wpAny_List_spliced (thn (h pos pins s σ H _ I hq) fun us s1 ⟨xs,H1,I1,r,z,q⟩=>⟨by rw [← r.length];exact z,?_⟩)
 have hf:H1 s1.heap.objs.size=none:=I1.hok.fresh (Zl _)
 refine ⟨.ref s1.heap.objs.size,upd H1 s1.heap.objs.size (.lst xs),I1.laid (t':=s1.toks) (fun b u e=>Zi _ e) (Zl _) ?_,rfl,q _ hf⟩
 exact ⟨z,us,0,r,ZM _ rfl⟩
end
noncomputable abbrev Sp:=List V->Hp->VK->XK->Prop
noncomputable abbrev CXT:=List Env->Hp->Shared->XK->Ww
structure Env0 (P:Program) (w:World) (K:Wt) (mg:Ws) (base:Heap) (A:Around) (outer:List Env) (s:Shared) (H:Hp):Prop where
 frames:A.frames=some outer
 mod:Mod K mg base
 bs:∀ b o,base.get? b=some o->s.heap.get? b=some o/\H b=none
 bsz:base.objs.size<=s.heap.objs.size
 funs:s.heap.FunFrames base outer
 frf:∀ b∈frs outer,H b=none
 hok:HOk P w H s.heap
 bare:AllBare s.gens
noncomputable def CE (outer:List Env) (P:Program) (w:World) (H:Hp) (s:Shared) (Q:VK) (u:Value) (s':Shared):Prop :=
 ∃ v H',s'.os=s.os/\AllBare s'.gens/\Un (frs outer) [] H H' s.heap s'.heap/\HOk P w H' s'.heap/\RelV v u/\Q v H'
noncomputable def CR (CX:CXT) (outer:List Env) (P:Program) (w:World) (H:Hp) (s:Shared) (Q:VK) (E:XK) (r:Result) (s':Shared):Prop :=
 match r with
 | .ok (.ret u)=>CE outer P w H s Q u s'
 | .ok _=>False
 | .error e=>CX outer H s E e s'
structure FnOk (P:Program) (w:World) (K:Wt) (mg:Ws) (base:Heap) (CX:CXT) (k:Nat) (f:Addr) (fd:FuncData) (ps:List Str) (sp:Sp):Prop where
 len:∀ vs H Q E,sp vs H Q E->vs.length=ps.length
 run:∀ (A:Around) (outer:List Env) (s:Shared) (H:Hp) (args:Args) (us:Wq) (vs:List V) (Q:VK) (E:XK),Room k A->Env0 P w K mg base A outer s H->BindsTo s fd args (ps.zip us)->aO vs us->sp vs H Q E →
  codeAny (model P w) A (.call (.ref f) args) (CR CX outer P w H s Q E) s
theorem FnOk.imp {P:Program} {w:World} {K:Wt} {mg:Ws} {base:Heap} {CX:CXT} {k:Nat} {f:Addr} {fd:FuncData} {ps:List Str} {sp sp':Sp} (F:FnOk P w K mg base CX k f fd ps sp)
  (h:∀ vs H Q E,sp' vs H Q E->sp vs H Q E):FnOk P w K mg base CX k f fd ps sp' :=
 ⟨fun vs H Q E q=>F.len vs H Q E (h _ _ _ _ q),fun A outer s H args us vs Q E hr he hb hv hs=>F.run A outer s H args us vs Q E hr he hb hv (h _ _ _ _ hs)⟩
theorem Env0.make {P:Program} {w:World} {K:Wt} {mg:Ws} {base:Heap} {A:Around} {outer:List Env} {s:Shared} {H:Hp} (e:Env0 P w K mg base A outer s H) (C:Addr) (us:Wq) (kw:List (Str×Value)) :
  Env0 P w K mg base (A.under (.builtin "type.__call__" ⟨.ref C :: us,kw⟩)) outer s H:=⟨by first | exact e.frames | (simpa [Around.under,Code.envs,Code.isFrame,pushEnvs] using e.frames),e.mod,e.bs,e.bsz,e.funs,e.frf,e.hok,e.bare⟩
section
variable {X:Cx} {pins:Wv} {σ:St} {H:Hp} {s s':Shared}
theorem Inv.env0 (I:Inv X pins σ H s):Env0 X.prog X.w X.K X.mg X.base X.A X.stack s H :=
 ⟨I.ok.frames,I.ok.mod,I.bs,ZF I.ok.bsz I.sz,I.stack,I.stkFree,I.hok,I.bare⟩
theorem Inv.after {Q:VK} {u:Value} (I:Inv X pins σ H s) (h:CE X.stack X.prog X.w H s Q u s'):EP X pins σ Q u s':=by
 obtain ⟨v,H',os,bare,un,hok,r,q⟩:=h
 obtain ⟨hh,g,d,t,os'⟩:=s'
 obtain rfl:os'=s.os:=os
 exact ⟨v,H',I.call (h':=hh) (g':=g) (d':=d) (t':=t) (ch:=[]) un hok bare (fun b z=>absurd z (by simp)),r,q⟩
end
noncomputable def za (sp:Sp) (dvs:List V) (E:XK) (t:TA):TE:=fun σ H Q=>t σ H fun vs H1=>sp (vs++dvs) H1 Q E
noncomputable def qw (C:Addr) (m:Str) (sp:Sp) (dvs:List V) (E:XK) (ta:TE) (t:TA):TE:=fun σ H Q=>ta σ H fun x H1=>∃ a dx fs,x=.ref a/\H1 a=some (.ins C dx fs)/\fs.lookup m=none ∧
 t σ H1 fun vs H2=>sp (x :: (vs++dvs)) H2 Q E
noncomputable def uM (C:Addr) (sp:Sp) (dvs:List V) (E:XK) (t:TA):TE:=fun σ H Q=>t σ H fun vs H1=>∀ x dx,H1 x=none->H1 dx=none->dx ≠ x →
 sp (.ref x :: (vs++dvs)) (upd (upd H1 dx (.own x)) x (.ins C dx [])) (fun v H2=>v=.non/\Q (.ref x) H2) E
noncomputable def Binds (K:Wt) (fd:FuncData) (ps:List Str) (ds:Wq):Prop :=
 ∀ (s:Shared) (us:Wq),K.In s.heap->(us++ds).length=ps.length->BindsTo s fd ⟨us,[]⟩ (ps.zip (us++ds))
theorem Binds.all {K:Wt} {fd:FuncData} {ps:List Str} (h:∀ us:Wq,us.length=ps.length->bindArgs fd ⟨us,[]⟩=pure (ps.zip us)):Binds K fd ps []:=fun s us _ hl=>by
 rw [ZK] at hl ⊢
 exact .of_eq (h us hl)
noncomputable def g5 (CX:CXT) (X:Cx) (E:XK):Prop:=∀ (pins:Wv) (σ:St) (H:Hp) (s:Shared) (e:Value) (s':Shared),Inv X pins σ H s->CX X.stack H s E e s'->X.xe e s'
section
variable {X:Cx} {CX:CXT} {k:Nat} {f C:Addr} {fd:FuncData} {ps:List Str} {sp:Sp} {dvs:List V} {ds:Wq} {E:XK} {x m:Str} {p pos apos:Pos} {e o:Expr} {es:List Expr} {ta:TE} {t:TA}
theorem qk {pins:Wv} {σ:St} {H:Hp} {s:Shared} {Q:VK} {us:Wq} {vs:List V} (F:FnOk X.prog X.w X.K X.mg X.base CX k f fd ps sp) (hr:Room k X.A) (hb:Binds X.K fd ps ds) (hd:aO dvs ds) (hx:g5 CX X E)
  (I:Inv X pins σ H s) (r:aO vs us) (h:sp (vs++dvs) H Q E):wpAny (model X.prog X.w) X.A (call (.ref f) us) (EP X pins σ Q) X.xe s:=by
 have r2:aO (vs++dvs) (us++ds):=r.append hd
 have hl:(us++ds).length=ps.length:=by rw [← r2.length];exact F.len _ _ _ _ h
 refine wpAny_call (codeAny_mono (F.run X.A X.stack s H ⟨us,[]⟩ (us++ds) (vs++dvs) Q E hr I.env0 (hb s us I.kIn hl) r2 h) fun r s' hq=>?_)
 cases r with
 | error e=>exact hx pins σ H s e s' I hq
 | ok fl =>
  cases fl with
  | ret u=>exact I.after hq
  | next=>exact False.elim hq
  | brk=>exact False.elim hq
  | cont=>exact False.elim hq
theorem ye (F:FnOk X.prog X.w X.K X.mg X.base CX k f fd ps sp) (hr:Room k X.A) (hg:Gl X x) (hm:X.mg x=some (.ref f)) (hk:PySem.W.keepIn X.K (.ref f)=true) (hb:Binds X.K fd ps ds) (hd:aO dvs ds) (hx:g5 CX X E)
  (ha:PA X (e :: es) t) (hdb:(x == ("__debug__" : Str))=false:=by decide) (he:starEach (e :: es) X.env=(false,eval e X.env) :: starEach es X.env:=by rfl) (hpl:(backTo pos (starEach es X.env)).any (·.1)=false:=by rfl) :
  PE X (.Call (.Name x p) (e :: es) [] pos) (za sp dvs E t):=by
 intro pins s σ H Q I h
 refine Y6 (ko I hg hm ?_ hdb)
 refine XG (h₀:=X.base) I.ok.mod.kin hk (thn (ha pos pins s σ H _ I h) fun us s1 ⟨vs,H1,I1,r,q⟩=>⟨I1.kIn,?_⟩) he hpl
 exact qk F hr hb hd hx I1 r q
theorem m7 {pl:Sem Bool} (he:PE X o ta) (c:Cls X.K C) (hm:Meth X.K C m f) (F:FnOk X.prog X.w X.K X.mg X.base CX k f fd ps sp) (hr:Room k X.A) (hb:Binds X.K fd ps ds) (hd:aO dvs ds) (hx:g5 CX X E) (ha:PA X (e :: es) t)
  (hst:starEach (e :: es) X.env=(false,eval e X.env) :: starEach es X.env:=by rfl) (hpl:(backTo pos (starEach es X.env)).any (·.1)=false:=by rfl)
  (ht:eval (.Call (.Attribute o m apos) (e :: es) [] pos) X.env=(do
   let ov ← eval o X.env
   standAt apos.atName
   let (f,first) ← holding [ov] (getMethod ov m pl)
   callWith pos f first (backTo pos (starEach (e :: es) X.env)) (backToKw pos (keywordEach [] X.env))):=by rfl) :
  PE X (.Call (.Attribute o m apos) (e :: es) [] pos) (qw C m sp dvs E ta t):=by
 intro pins s σ H Q I h
 refine PySem.W.methodCall_KW (pl:=pl) (thn (he pins s σ H _ I h) fun u s1 ⟨x,H1,I1,rx,a,dx,fs,ex,ea,l,q⟩=>?_) ht
 subst ex
 obtain rfl:u=Value.ref a:=rx
 refine lB I1 ea c hm l ?_
 refine XG (first:=[.ref a]) (h₀:=X.base) I.ok.mod.kin hm.kp (thn (ha pos pins s1 σ H1 _ I1 q) fun us s2 ⟨vs,H2,I2,r,q2⟩=>⟨I2.kIn,?_⟩) hst hpl
 exact qk (us:=.ref a :: us) (vs:=.ref a :: vs) F hr hb hd hx I2 (.cons rfl r) q2
theorem pd {pl:Sem Bool} (he:PE X o ta) (c:Cls X.K C) (hm:Meth X.K C m f) (F:FnOk X.prog X.w X.K X.mg X.base CX k f fd ps sp) (hr:Room k X.A) (hb:Binds X.K fd ps ds) (hd:aO dvs ds) (hx:g5 CX X E)
  (ht:eval (.Call (.Attribute o m apos) [] [] pos) X.env=(do
   let ov ← eval o X.env
   standAt apos.atName
   let (f,first) ← holding [ov] (getMethod ov m pl)
   callWith pos f first (backTo pos (starEach [] X.env)) (backToKw pos (keywordEach [] X.env))):=by rfl) :
  PE X (.Call (.Attribute o m apos) [] [] pos) (qw C m sp dvs E ta sj):=by
 intro pins s σ H Q I h
 refine PySem.W.methodCall_KW (pl:=pl) (thn (he pins s σ H _ I h) fun u s1 ⟨x,H1,I1,rx,a,dx,fs,ex,ea,l,q⟩=>?_) ht
 subst ex
 obtain rfl:u=Value.ref a:=rx
 refine lB I1 ea c hm l ?_
 exact PySem.W.callWith_K0 (first:=[.ref a]) I1.kIn hm.kp (qk (us:=[.ref a]) (vs:=[.ref a]) F hr hb hd hx I1 (.cons rfl .nil) q)
structure Mk (K:Wt) (C f:Addr):Prop where
 makes:PySem.W.makesIn K C=true
 init:PySem.W.findIn K (.ref C) "__init__" = some (some (.ref f))
 fn:PySem.W.isFn K (.ref f)=true
 kp:PySem.W.keepIn K (.ref C)=true
theorem ot {pins:Wv} {σ:St} {H:Hp} {s:Shared} {Q:VK} {us:Wq} {vs:List V} (M:Mk X.K C f) (F:FnOk X.prog X.w X.K X.mg X.base CX k f fd ps sp) (hr:Room (k+1) X.A) (hb:Binds X.K fd ps ds) (hd:aO dvs ds)
  (hx:g5 CX X E) (I:Inv X pins σ H s) (r:aO vs us)
  (h:∀ x dx,H x=none->H dx=none->dx ≠ x->sp (.ref x :: (vs++dvs)) (upd (upd H dx (.own x)) x (.ins C dx [])) (fun v H2=>v=.non/\Q (.ref x) H2) E) :
  wpAny (model X.prog X.w) X.A (call (.ref C) us) (EP X pins σ Q) X.xe s:=by
 have hq:=h (s.heap.objs.size+1) s.heap.objs.size (I.hok.fresh (Nat.le_succ _)) (I.hok.fresh (Zl _)) (ZQ (Yl _))
 have I2:=Inv.made (C:=C) I
 have r2:aO (V.ref (s.heap.objs.size+1) :: (vs++dvs)) (Value.ref (s.heap.objs.size+1) :: (us++ds)):=.cons rfl (r.append hd)
 have hl:(Value.ref (s.heap.objs.size+1) :: us++ds).length=ps.length:=by
  have e:=r2.length
  rw [F.len _ _ _ _ hq] at e
  exact e.symm
 refine wpAny_call (vx (f:=f) I.kIn M.makes M.init (beq_iff_eq.mp M.fn) (codeAny_mono (F.run _ X.stack _ _ ⟨Value.ref (s.heap.objs.size+1) :: us,[]⟩ (Value.ref (s.heap.objs.size+1) :: (us++ds)) _ _ E (hr.make C us [])
  (I2.env0.make C us []) (hb _ (Value.ref (s.heap.objs.size+1) :: us) I2.kIn hl) r2 hq) fun r s' hq'=>?_))
 cases r with
 | error e=>exact hx pins σ _ _ e s' I2 hq'
 | ok fl =>
  cases fl with
  | ret u =>
   obtain ⟨v,H',I3,rv,ev,q3⟩:=I2.after hq'
   subst ev
   exact ⟨rv,⟨V.ref (s.heap.objs.size+1),H',I3,rfl,q3⟩⟩
  | next=>exact False.elim hq'
  | brk=>exact False.elim hq'
  | cont=>exact False.elim hq'
theorem xY (M:Mk X.K C f) (F:FnOk X.prog X.w X.K X.mg X.base CX k f fd ps sp) (hr:Room (k+1) X.A) (hg:Gl X x) (hm:X.mg x=some (.ref C)) (hb:Binds X.K fd ps ds) (hd:aO dvs ds) (hx:g5 CX X E)
  (ha:PA X (e :: es) t) (hdb:(x == ("__debug__" : Str))=false:=by decide) (he:starEach (e :: es) X.env=(false,eval e X.env) :: starEach es X.env:=by rfl) (hpl:(backTo pos (starEach es X.env)).any (·.1)=false:=by rfl) :
  PE X (.Call (.Name x p) (e :: es) [] pos) (uM C sp dvs E t):=by
 intro pins s σ H Q I h
 refine Y6 (ko I hg hm ?_ hdb)
 refine XG (h₀:=X.base) I.ok.mod.kin M.kp (thn (ha pos pins s σ H _ I h) fun us s1 ⟨vs,H1,I1,r,q⟩=>⟨I1.kIn,?_⟩) he hpl
 exact ot M F hr hb hd hx I1 r q
theorem vT (M:Mk X.K C f) (F:FnOk X.prog X.w X.K X.mg X.base CX k f fd ps sp) (hr:Room (k+1) X.A) (hg:Gl X x) (hm:X.mg x=some (.ref C)) (hb:Binds X.K fd ps ds) (hd:aO dvs ds) (hx:g5 CX X E)
  (hdb:(x == ("__debug__" : Str))=false:=by decide):PE X (.Call (.Name x p) [] [] pos) (uM C sp dvs E sj):=by
 intro pins s σ H Q I h
 refine Y6 (ko I hg hm ?_ hdb)
 exact PySem.W.callWith_K0 I.kIn M.kp (ot (us:=[]) M F hr hb hd hx I .nil h)
end
structure FnScope (N P:List Str) (sc:Scope):Prop where
 kind:sc.kind=.function
 co:sc.isCoroutine=false
 gen:sc.isGenerator=false
 nd:N.Nodup
 pre:N.take P.length=P
 par:∀ x∈P,sc.names.lookup x=some .local\/sc.names.lookup x=some .cell
 nofree:∀ y∈sc.names,y.2 ≠ .free
theorem mH {kindOf:Str->Option NameKind} {x:Str}:∀ {binds:List (Str×Value)} {m:Ws},(∀ v,(x,v) ∉ binds)->bindL kindOf binds m x=m x
 | [],_,_=>rfl
 | (n,v) :: r,m,h=>by
  unfold bindL
  rw [mH fun w hw=>h w (Zx _ hw)]
  split
  ·have:x ≠ n:=by rintro rfl;exact h v Zw
   simp [this]
  ·rfl
theorem ma {kindOf:Str->Option NameKind} {x:Str}:∀ {binds:List (Str×Value)} {m:Ws},(∀ v,(x,v) ∉ binds)->bindC kindOf binds m x=m x
 | [],_,_=>rfl
 | (n,v) :: r,m,h=>by
  unfold bindC
  rw [ma fun w hw=>h w (Zx _ hw)]
  split
  ·rfl
  ·have:x ≠ n:=by rintro rfl;exact h v Zw
   simp [this]
theorem mM {kindOf:Str->Option NameKind} {x:Str} {v:Value}:∀ {P:List Str} {vs:Wq} {i:Nat} {m:Ws},P.Nodup->P[i]?=some x->vs[i]?=some v->kindOf x=some .local →
  bindL kindOf (P.zip vs) m x=some v
 | [],_,_,_,_,h,_,_=>by simp at h
 | _ :: _,[],_,_,_,_,h,_=>by simp at h
 | p :: P,w :: vs,0,m,nd,h1,h2,hk=>by
  simp at h1 h2;subst h1;subst h2
  show bindL kindOf ((p,w) :: P.zip vs) m p=_
  unfold bindL
  rw [mH fun v hv=>(Zh.mp nd).1 (List.of_mem_zip hv).1,Zq hk]
  simp
 | p :: P,w :: vs,i+1,m,nd,h1,h2,hk=>by
  show bindL kindOf ((p,w) :: P.zip vs) m x=_
  unfold bindL
  exact mM (i:=i) (Zh.mp nd).2 (by simpa using h1) (by simpa using h2) hk
theorem mF {kindOf:Str->Option NameKind} {x:Str} {v:Value}:∀ {P:List Str} {vs:Wq} {i:Nat} {m:Ws},P.Nodup->P[i]?=some x->vs[i]?=some v->kindOf x ≠ some .local →
  bindC kindOf (P.zip vs) m x=some v
 | [],_,_,_,_,h,_,_=>by simp at h
 | _ :: _,[],_,_,_,_,h,_=>by simp at h
 | p :: P,w :: vs,0,m,nd,h1,h2,hk=>by
  simp at h1 h2;subst h1;subst h2
  show bindC kindOf ((p,w) :: P.zip vs) m p=_
  unfold bindC
  rw [ma fun v hv=>(Zh.mp nd).1 (List.of_mem_zip hv).1,Zo hk]
  simp
 | p :: P,w :: vs,i+1,m,nd,h1,h2,hk=>by
  show bindC kindOf ((p,w) :: P.zip vs) m x=_
  unfold bindC
  exact mF (i:=i) (Zh.mp nd).2 (by simpa using h1) (by simpa using h2) hk
noncomputable def start (N:List Str) (vs:List V):St:=vs.map some++List.replicate (N.length - vs.length) none
noncomputable def fM (CX:CXT) (P:Program) (w:World) (K:Wt) (mg:Ws) (base:Heap) (N:List Str) (qual:Str) (scope:Scope) (f:Addr) (cd:Value) (A:Around) (outer:List Env) (s:Shared) (H:Hp) (E:XK):Cx where
 prog:=P
 w:=w
 K:=K
 mg:=mg
 base:=base
 A:=A.deeper (envOfC qual scope s.heap.objs.size f cd)
 N:=N
 s₀:=s
 H₀:=H
 env:=envOfC qual scope s.heap.objs.size f cd
 outer:=outer
 stack:=envOfC qual scope s.heap.objs.size f cd :: outer
 ex:=[]
 calm:=true
 fn:=fun _=>true
 pn:=[]
 xe:=fun e s'=>wpAny (model P w) (A.deeper (envOfC qual scope s.heap.objs.size f cd)) (leaving (envOfC qual scope s.heap.objs.size f cd) e) (fun _ s''=>CX outer H s E e s'') (fun e' s''=>CX outer H s E e' s'') s'
theorem oi {sc:Scope} {n:Nat} {x:Str} (h:sc.names.lookup x=some .cell):∃ c,(cellsFrom n sc.names []).lookup x=some c:=by
 have q:=PySem.W.cellsFrom_some sc.names n [] (.inl h)
 exact YX.mp q
theorem sU {CX:CXT} {P:Program} {w:World} {K:Wt} {mg:Ws} {base:Heap} {N ps:List Str} {qual:Str} {scope:Scope} {f:Addr} {cd:Value} {A:Around} {outer:List Env} {s s1:Shared} {H:Hp} {E:XK} {us:Wq} {vs:List V}
  (S:FnScope N ps scope) (hd:A.handled=none) (e0:Env0 P w K mg base A outer s H) (hl:vs.length=ps.length) (r:aO vs us)
  (x:InCallC s s.heap.objs.size (bindL (envOfC qual scope s.heap.objs.size f cd).kindOf (ps.zip us) fun _=>none) (cellsFrom (s.heap.objs.size+1) scope.names []) (bindC (envOfC qual scope s.heap.objs.size f cd).kindOf (ps.zip us) fun _=>none) s1) :
  Inv (fM CX P w K mg base N qual scope f cd A outer s H E) [] (start N vs) H s1:=by
 have hpl:ps.length<=N.length:=by have:=congrArg List.length S.pre;rw [Xh] at this;lia
 obtain ⟨h1,tk,rfl,hk⟩:=x.done
 have noA:∀ b:Addr,b ∉ (fM CX P w K mg base N qual scope f cd A outer s H E).ex:=fun b z=>absurd (show b∈([]:Wr) from z) (by simp)
 refine ⟨⟨e0.mod,S.kind,rfl,rfl,Zl _,fun y z c h1 h2=>?_,fun y hy=>?_,fun y c _ h=>?_,fun _=>hd,Around.frames_deeper e0.frames,.inr ⟨rfl,rfl⟩,fun b z=>absurd z (noA b),e0.bs,e0.bsz,fun b _ _=>noA b,fun b z=>absurd z (noA b),e0.funs,e0.frf⟩,
  rfl,e0.bare,Un.kept hk,⟨_,x.toInCall.ns,fun i y v h1 h2 h3=>?_⟩,fun y c h=>⟨_,x.cell y c h⟩,e0.hok.fresh (Zl _),fun y c h=>?_,fun p hp=>absurd (show p∈([]:Wv) from hp) (by simp),e0.hok.kept hk,?_⟩
 ·exact name_of_addr x.apart (YC h1) (YC h2)
 ·have hy:scope.names.lookup y=some .cell\/scope.names.lookup y=some .free:=hy
  rcases hy with hy | hy
  ·exact oi hy
  ·exact absurd rfl (S.nofree _ (YC hy))
 ·exact X0 (x.above y c (YC h))
 ·have hi:i < vs.length:=by
   unfold start at h2
   by_cases hi:i < vs.length
   ·exact hi
   ·rw [Z2 (by simpa using hi)] at h2
    rw [Yj] at h2
    split at h2 <;> cases h2
  have ha:vs[i]?=some v:=by
   unfold start at h2
   rw [ZE (by simpa using hi),ZO] at h2
   cases e:vs[i]? with
   | none=>rw [e] at h2;cases h2
   | some a=>rw [e] at h2;cases h2;rfl
  obtain ⟨u,hu,rv⟩:=r.get ha
  have hp:ps[i]?=some y:=by
   rw [← S.pre,List.getElem?_take_of_lt (by lia)];exact h1
  have ndP:ps.Nodup:=by rw [← S.pre];exact S.nd.sublist (List.take_sublist _ _)
  refine ⟨u,rv,?_⟩
  rcases S.par y (YI hp) with k | k
  ·exact .inl ⟨k,mM ndP hp hu k⟩
  ·obtain ⟨c,e⟩:=oi (n:=s.heap.objs.size+1) k
   refine .inr ⟨.inl k,c,e,?_⟩
   have q:=x.cell y c e
   rw [mF ndP hp hu (by show scope.names.lookup y ≠ _;rw [k];decide)] at q
   exact q
 ·exact e0.hok.fresh (X0 (x.above y c (YC h)))
 ·unfold start
  show _=N.length
  rw [Zv,Zy,YN]
  lia
theorem yY {CX:CXT} {P:Program} {w:World} {K:Wt} {mg:Ws} {base:Heap} {k:Nat} {f:Addr} {name qual:Str} {params:Arguments} {body:List Stmt} {scope:Scope} {dV kV doc pm cdv ct oc:Value} {an od:Option Addr}
  {osl:Array (Wp)} {N ps:List Str} {sp:Sp} (lk:K.lookup f=some ⟨oc,od,.func (PySem.W.fnOf name qual params body scope dV kV doc pm an cdv ct),osl⟩) (hcd:PySem.W.codeIn K cdv qual=true) (S:FnScope N ps scope)
  (len:∀ vs H Q E,sp vs H Q E->vs.length=ps.length)
  (hbody:∀ (A:Around) (outer:List Env) (s:Shared) (H:Hp) (vs:List V) (Q:VK) (E:XK),Room k (A.deeper (envOfC qual scope s.heap.objs.size f cdv))->sp vs H Q E →
   ∃ t,PSs (fM CX P w K mg base N qual scope f cdv A outer s H E) body t/\t { nx:=fun _ H'=>Q .non H',rt:=Q } (start N vs) H) :
  FnOk P w K mg base CX (k+1) f (PySem.W.fnOf name qual params body scope dV kV doc pm an cdv ct) ps sp:=by
 refine ⟨len,fun A outer s H args us vs Q E hr e0 hb r hsp=>?_⟩
 have hl:=len _ _ _ _ hsp
 have KX:K.In s.heap:=e0.mod.kin.keeps fun b o e=>(e0.bs b o e).1
 have lim:s.heap.NoLimit:=e0.mod.nolimit.keeps fun b o e=>(e0.bs b o e).1
 have hkind:∀ y∈ps.zip us,scope.names.lookup y.1=some .local\/(scope.names.lookup y.1=some .cell/\((cellsFrom (s.heap.objs.size+1) scope.names []).lookup y.1).isSome=true):=fun ⟨n,v⟩ hy=>by
  rcases S.par n (List.of_mem_zip hy).1 with q | q
  ·exact .inl q
  ·exact .inr ⟨q,PySem.W.cellsFrom_some _ _ _ (.inl q)⟩
 refine codeAny_call_function hr.depth (KX _ _ lk) rfl S.co S.gen rfl (PySem.W.codeRec_of KX hcd) (hb _ _ _ _ ?_)
 refine wpAny_newFunctionEnv_cells S.kind hkind fun env he s1 x=>?_
 subst he
 refine ⟨lim.keeps x.toInCall.keep,codeAny_func ?_⟩
 obtain ⟨t,ht,hq⟩:=hbody A outer s H vs Q E (hr.deeper _) hsp
 have I:Inv (fM CX P w K mg base N qual scope f cdv A outer s H E) [] (start N vs) H s1:=sU S hr.hd e0 hl r x
 refine YL (ht [] s1 (start N vs) H _ I hq) (fun fl s' hs=>?_) fun e s' hs=>hs
 have fin:∀ {σ':St} {H':Hp} {v:V} {u:Value},Inv (fM CX P w K mg base N qual scope f cdv A outer s H E) [] σ' H' s'->RelV v u->Q v H'->CE outer P w H s Q u s' :=
  fun {σ' H' v u} J rv q=>⟨v,H',J.os,J.bare,J.base,J.hok,rv,q⟩
 cases fl with
 | ret u =>
  obtain ⟨v,σ',H',J,rv,q⟩:=hs
  exact fin J rv q
 | next =>
  obtain ⟨σ',H',J,q⟩:=hs
  exact fin (v:=V.non) (u:=Value.none) J rfl q
 | brk =>
  obtain ⟨_,_,_,q⟩:=hs
  exact False.elim q
 | cont =>
  obtain ⟨_,_,_,q⟩:=hs
  exact False.elim q
section
variable {X:Cx} {x:Str} {p pos:Pos} {e:Expr} {es:List Expr} {t:TA} {id T:String} {r:List V->Hp->VK->Prop}
noncomputable def tCB (r:List V->Hp->VK->Prop) (t:TA):TE:=fun σ H Q=>t σ H fun vs H1=>r vs H1 Q
theorem n0 (hc:dD X (.builtin id) r) (hg:Gl X x) (hm:X.mg x=none) (hv:bootBuiltins x=some (.builtin id)) (ha:PA X (e :: es) t) (hn:x ≠ "__name__" := by decide) (hdb:(x == ("__debug__" : Str))=false:=by decide)
  (he:starEach (e :: es) X.env=(false,eval e X.env) :: starEach es X.env:=by rfl) (hpl:(backTo pos (starEach es X.env)).any (·.1)=false:=by rfl):PE X (.Call (.Name x p) (e :: es) [] pos) (tCB r t):=by
 intro pins s σ H Q I h
 refine Y6 (lK I hg hm hv ?_ hn hdb)
 exact PyProof.Rows.callWith_builtin1 (thn (ha pos pins s σ H _ I h) fun us s1 ⟨vs,H1,I1,r1,q1⟩=>hc pins s1 σ H1 vs us Q I1 r1 q1) he hpl
theorem r6 (hc:dD X (.type T) r) (hg:Gl X x) (hm:X.mg x=none) (hv:bootBuiltins x=some (.type T)) (ha:PA X (e :: es) t) (hn:x ≠ "__name__" := by decide) (hdb:(x == ("__debug__" : Str))=false:=by decide)
  (he:starEach (e :: es) X.env=(false,eval e X.env) :: starEach es X.env:=by rfl) (hpl:(backTo pos (starEach es X.env)).any (·.1)=false:=by rfl):PE X (.Call (.Name x p) (e :: es) [] pos) (tCB r t):=by
 intro pins s σ H Q I h
 refine Y6 (lK I hg hm hv ?_ hn hdb)
 exact Xs (thn (ha pos pins s σ H _ I h) fun us s1 ⟨vs,H1,I1,r1,q1⟩=>hc pins s1 σ H1 vs us Q I1 r1 q1) he hpl
end
end L2
namespace HT
open PySem PyProof.Rows
section
variable {prog:Program} {w:World} {A:Around} {E:Ww} {s:Shared}
noncomputable def sIx (n d:Nat):Option Int->Nat
 | none=>d
 | some v=>if v < 0 then (v+(n:Int)).toNat else min v.toNat n
theorem qY (n d k:Nat):sIx n d (some (k:Int))=min k n:=by
 show (if (k:Int) < 0 then ((k:Int)+(n:Int)).toNat else min (k:Int).toNat n)=min k n
 rw [Zo (by lia),Xm]
theorem AQ (n d:Nat) (hd:d<=n) (o:Option Int):sIx n d o<=n:=by
 cases o with
 | none=>exact hd
 | some v =>
  show (if v < 0 then (v+(n:Int)).toNat else min v.toNat n)<=n
  by_cases hv:v < 0
  ·rw [Zq hv];lia
  ·rw [Zo hv];exact X8 _ _
theorem qN (v:Int) (n d:Nat):(if v < 0 then max (v+(n:Int)) 0 else min v (n:Int))=((sIx n d (some v):Nat):Int):=by
 show (if v < 0 then max (v+(n:Int)) 0 else min v (n:Int))=(((if v < 0 then (v+(n:Int)).toNat else min v.toNat n):Nat):Int)
 by_cases hv:v < 0
 ·simp only [Zq hv];lia
 ·simp only [Zo hv];lia
theorem p7 (lo hi:Option Int) (n:Nat):Builtin.Slice.sliceAdjust lo hi 1 (n:Int)=(((sIx n 0 lo:Nat):Int),((sIx n n hi:Nat):Int)):=by
 have h1:¬ ((1:Int) < 0):=by lia
 unfold Builtin.Slice.sliceAdjust
 simp only [h1,if_false]
 refine Prod.ext ?_ ?_
 ·cases lo with
  | none=>rfl
  | some v=>exact qN v n 0
 ·cases hi with
  | none=>rfl
  | some v=>exact qN v n n
theorem pY (i j:Nat):Builtin.Slice.slicePlaces (i:Int) (j:Int) 1=j - i:=by
 unfold Builtin.Slice.slicePlaces
 have h1:(1:Int) > 0:=by lia
 simp only [h1,if_true,Int.ediv_one]
 split <;> lia
theorem kD {v:Value} {o:Option Int} {Q:Option Int->Shared->Prop} (p:IsPart v o) (h:Q o s):wpAny (model prog w) A (Builtin.Slice.slicePartIndex v) Q E s:=by
 cases p with
 | none=>exact slicePart_none h
 | int i t=>exact slicePart_int h
theorem jJ {sl:Addr} {vl vu:Value} {lo hi:Option Int} {n:Nat} {Q:Int×Int×Nat->Shared->Prop} (hs:s.heap.IsSliceOf sl vl vu .none) (pl:IsPart vl lo) (pu:IsPart vu hi)
  (h:Q (((sIx n 0 lo:Nat):Int),1,sIx n n hi - sIx n 0 lo) s):wpAny (model prog w) A (Builtin.Slice.sliceApplied (.ref sl) (pure (n:Int))) Q E s:=by
 obtain ⟨os,hos,hcs,hds⟩:=id hs
 unfold Builtin.Slice.sliceApplied Builtin.Slice.sliceFields
 refine Zs (Zs (Xd hos hds (x:=vl) rfl (Zs (Xd hos hds (x:=vu) rfl (Zs (Xd hos hds (x:=.none) rfl (Zj ?_)))))))
 refine Zs (slicePart_none ?_)
 show wpAny _ _ (if ((1:Int) == 0)=true then _ else _) _ _ s
 rw [Zo (by decide)]
 refine Zs (kD pl (Zs (kD pu (Zs (Zj ?_)))))
 show wpAny _ _ (match Builtin.Slice.sliceAdjust lo hi 1 (n:Int) with | (lo,hi)=>pure (lo,(1:Int),Builtin.Slice.slicePlaces lo hi 1)) _ _ s
 rw [p7 lo hi n]
 show wpAny _ _ (pure (((sIx n 0 lo:Nat):Int),(1:Int),Builtin.Slice.slicePlaces ((sIx n 0 lo:Nat):Int) ((sIx n n hi:Nat):Int) 1)) _ _ s
 rw [pY]
 exact Zj h
theorem uO (xs:Array Value) (i k:Nat):((List.range k).filterMap fun (m:Nat)=>xs[((i:Int)+(m:Int) * 1).toNat]?).toArray=((xs.toList.drop i).take k).toArray:=by
 have e:(fun (m:Nat)=>xs[((i:Int)+(m:Int) * 1).toNat]?)=fun m=>xs[i+m]?:=by
  funext m
  have:((i:Int)+(m:Int) * 1).toNat=i+m:=by lia
  rw [this]
 rw [e]
 have:=pick_run xs i k
 rw [List.filterMap_map] at this
 have e2:((fun x=>xs[x]?) ∘ fun x=>i+x)=fun m=>xs[i+m]?:=rfl
 rw [e2] at this
 rw [this]
theorem jq {t sl:Addr} {items:Array Value} {vl vu:Value} {lo hi:Option Int} {Q:Ww} (ht:IsTup s.heap t items) (hs:s.heap.IsSliceOf sl vl vu .none) (pl:IsPart vl lo) (pu:IsPart vu hi)
  (hw:¬ (sIx items.size 0 lo=0/\sIx items.size items.size hi=items.size))
  (h:Q (.ref s.heap.objs.size) { s with heap:=s.heap.push { cls:=.type "tuple",data:=.seq ((items.toList.drop (sIx items.size 0 lo)).take (sIx items.size items.size hi - sIx items.size 0 lo)).toArray } })
  (hsz:items.size<=sizeLine):wpAny (model prog w) A (getItem (.ref t) (.ref sl)) Q E s:=by
 have htake:sizeOk (.seq ((items.toList.drop (sIx items.size 0 lo)).take (sIx items.size items.size hi - sIx items.size 0 lo)).toArray):=by
  show ((items.toList.drop (sIx items.size 0 lo)).take (sIx items.size items.size hi - sIx items.size 0 lo)).toArray.size<=sizeLine
  rw [Za,Xh,YE,Yi]
  omega
 have hj:sIx items.size items.size hi<=items.size:=AQ _ _ (Zl _) hi
 obtain ⟨os,hos,hcs,hds⟩:=id hs
 have hTs:s.TypeIs (.ref sl) "slice" := ⟨os,hos,hcs⟩
 unfold getItem
 try with_reducible refine Y3 ?_
 first | refine Zs (Zj ?_) | skip
 refine Zs (wpAny_sequenceKey ht.typeIs (by decide) ?_)
 refine Zs (XS (name:=Str.ofString "__getitem__") ht.typeIs Y8
  (Y0 Y8 ht.typeIs entry_tuple_getitem ?_ (args_tuple_getitem _ _)))
 show wpAny _ _ (Builtin.Tuple.tupleItemsOf (.ref t) >>= _) _ _ s
 refine Zs (tupleItemsOf_ ht ?_)
 refine Zs (wpAny_typeOf hTs ?_)
 rw [Zq (by decide)]
 refine Zs (jJ hs pl pu ?_)
 have hno:¬ ((((sIx items.size 0 lo:Nat):Int) == 0 && (1:Int) == 1 && (sIx items.size items.size hi - sIx items.size 0 lo) == items.size)=true):=by
  intro q
  rw [Zf,Zf] at q
  have q1:((sIx items.size 0 lo:Nat):Int)=0:=eq_of_beq q.1.1
  have q2:sIx items.size items.size hi - sIx items.size 0 lo=items.size:=eq_of_beq q.2
  exact hw ⟨by lia,by omega⟩
 show wpAny _ _ (if (((sIx items.size 0 lo:Nat):Int) == 0 && (1:Int) == 1 && (sIx items.size items.size hi - sIx items.size 0 lo) == items.size)=true then _ else _) _ _ s
 rw [Zo hno,uO]
 first
  | exact Zs (m:=Builtin.Tuple.tupleExact _) (Yh (Zj ⟨_,rfl,Zj h⟩) htake)
  | exact Zs (m:=Builtin.Tuple.tupleExact _) (Yh (Zs (Zj (Zj ⟨_,rfl,Zj h⟩))) htake)
  | exact Zs (Zs (m:=Builtin.Tuple.tupleExact _) (Yh (Zj (Zj ⟨_,rfl,Zj h⟩)) htake))
  | exact Zs (Zs (m:=Builtin.Tuple.tupleExact _) (Yh (Zj ⟨_,rfl,Zj h⟩) htake))
end
end HT
namespace L2
open PySem PySem.Spec PyProof.Rows
noncomputable abbrev TO:=St->Hp->(Option Int->Hp->Prop)->Prop
noncomputable def PO (X:Cx) (e:Option Expr) (t:TO):Prop :=
 ∀ (pins:Wv) (s:Shared) (σ:St) (H:Hp) (Q:Option Int->Hp->Prop),Inv X pins σ H s->t σ H Q →
  wpAny (model X.prog X.w) X.A (evalPart e X.env) (fun u s'=>∃ o H',Inv X pins σ H' s'/\IsPart u o/\Q o H') X.xe s
noncomputable def ym:TO:=fun _ H Q=>Q none H
noncomputable def Dr (t:TE):TO:=fun σ H Q=>t σ H fun x H1=>∃ i,x=.int i/\Q (some i) H1
section
variable {X:Cx} {e:Expr} {te:TE} {lo hi:Option Expr} {tl th:TO} {pos p2:Pos}
theorem wO:PO X none ym:=by
 intro pins s σ H Q I h
 rw [evalPart_none]
 exact Zj ⟨none,H,I,.none,h⟩
theorem yd (h:PE X e te):PO X (some e) (Dr te):=by
 intro pins s σ H Q I hw
 rw [evalPart_some]
 refine thn (h pins s σ H _ I hw) fun u s1 ⟨x,H1,I1,r1,q1⟩=>?_
 obtain ⟨i,rfl,q⟩:=q1
 obtain ⟨t,rfl⟩:=r1
 exact ⟨some i,H1,I1,.int i t,q⟩
noncomputable def SlR (X:Cx) (r:V->Option Int->Option Int->Hp->VK->Prop):Prop :=
 ∀ (pins:Wv) (s:Shared) (σ:St) (H:Hp) (x:V) (v vl vu:Value) (lo hi:Option Int) (sl:Addr) (Q:VK),Inv X pins σ H s->RelV x v->s.heap.IsSliceOf sl vl vu .none->IsPart vl lo->IsPart vu hi->r x lo hi H Q →
  ∃ T id,typeLookup (.type T) "__getitem__" = pure (some (.builtin id))/\s.TypeIs v T/\wpAny (model X.prog X.w) X.A (getItem v (.ref sl)) (EP X pins σ Q) X.xe s
theorem SlR.or {r r':V->Option Int->Option Int->Hp->VK->Prop} (h:SlR X r) (h':SlR X r'):SlR X (fun x lo hi H Q=>r x lo hi H Q\/r' x lo hi H Q):=by
 intro pins s σ H x v vl vu lo hi sl Q I rx hs pl pu q
 rcases q with q | q
 ·exact h pins s σ H x v vl vu lo hi sl Q I rx hs pl pu q
 ·exact h' pins s σ H x v vl vu lo hi sl Q I rx hs pl pu q
noncomputable def tSl (r:V->Option Int->Option Int->Hp->VK->Prop) (te:TE) (tl th:TO):TE:=fun σ H Q=>te σ H fun x H1=>tl σ H1 fun l H2=>th σ H2 fun u H3=>r x l u H3 Q
theorem og {r:V->Option Int->Option Int->Hp->VK->Prop} (hr:SlR X r) (he:PE X e te) (hl:PO X lo tl) (hu:PO X hi th):PE X (.Subscript e (.Slice lo hi none p2) pos) (tSl r te tl th):=by
 intro pins s σ H Q I h
 refine Subscript_ (thn (he pins s σ H _ I h) fun v s1 ⟨x,H1,I1,r1,q1⟩=>?_)
 refine wpAny_Slice (thn (hl pins s1 σ H1 _ I1 q1) fun vl s2 ⟨l,H2,I2,pl,q2⟩=>thn (hu pins s2 σ H2 _ I2 q2) fun vu s3 ⟨u,H3,I3,pu,q3⟩=>?_)
 rw [evalPart_none]
 refine Zj ?_
 have I4:Inv X pins σ H3 { s3 with heap:=s3.heap.push { cls:=.type "slice",data:=.fields #[vl,vu,.none] } }:=I3.kept (t':=s3.toks) fun b ob q=>Zi _ q
 obtain ⟨T,id,hT,ht,hg⟩:=hr pins { s3 with heap:=s3.heap.push { cls:=.type "slice",data:=.fields #[vl,vu,.none] } } σ H3 x v vl vu l u s3.heap.objs.size Q I4 r1 (Heap.IsSliceOf.new ..) pl pu q3
 show wpAny (model X.prog X.w) X.A (subscriptTail e (.Slice lo hi none p2) v (.ref s3.heap.objs.size)) (EP X pins σ Q) X.xe { s3 with heap:=s3.heap.push { cls:=.type "slice",data:=.fields #[vl,vu,.none] } }
 exact tail_any (ops:=[.ref s3.heap.objs.size,v]) ht hT hg (by with_unfolding_all rfl)
noncomputable def lY (xs:List V) (lo hi:Option Int):List V:=(xs.drop (HT.sIx xs.length 0 lo)).take (HT.sIx xs.length xs.length hi - HT.sIx xs.length 0 lo)
theorem j6 (xs:List V) (lo hi:Option Int):(lY xs lo hi).length<=xs.length:=by
 unfold lY
 rw [Xh,YE]
 lia
noncomputable def DL (K:Wt):V->Option Int->Option Int->Hp->VK->Prop:=fun x lo hi H Q=>∃ a xs,x=.ref a/\SqT K H a xs ∧
 ¬ (HT.sIx xs.length 0 lo=0/\HT.sIx xs.length xs.length hi=xs.length)/\∀ p,H p=none->Q (.ref p) (upd H p (.tup (lY xs lo hi)))
theorem Be:SlR X (DL X.K):=by
 intro pins s σ H x v vl vu lo hi sl Q I rx hs pl pu h
 obtain ⟨a,xs,rfl,hx,hw,q⟩:=h
 cases rx
 obtain ⟨its,r,ht,hz⟩:=I.tuple hx
 have hlen:its.toArray.size=xs.length:=by rw [Za];exact r.length.symm
 refine ⟨"tuple",_,Y8.lookup,ht.typeIs,?_⟩
 refine HT.jq ht hs pl pu (by rw [hlen];exact hw) ?_ (by rw [hlen];exact hz)
 rw [hlen]
 refine ⟨.ref s.heap.objs.size,_,I.laid (t':=s.toks) (o:=.tup (lY xs lo hi)) (fun b ob q=>Zi _ q) (Zl _) ?_,rfl,q _ (I.hok.fresh (Zl _))⟩
 exact ⟨ZF (j6 xs lo hi) hz,_,(r.drop (HT.sIx xs.length 0 lo)).take (HT.sIx xs.length xs.length hi - HT.sIx xs.length 0 lo),NoD.new _ _,IsTup.new _ _⟩
end
noncomputable def ixN (n:Nat) (i:Int):Option Nat:=if 0<=i then (if i < n then some i.toNat else none) else if -(n:Int)<=i then some (i+n).toNat else none
noncomputable def atI {α:Type} (xs:List α) (i:Int):Option α:=(ixN xs.length i).bind fun j=>xs[j]?
theorem rq {n:Nat} {i:Int} {j:Nat} (h:ixN n i=some j):seqIndex? i n=some j/\j < n/\-(n:Int)<=i/\i < n:=by
 unfold ixN at h
 by_cases h0:0<=i
 ·rw [Zq h0] at h
  by_cases h1:i < n
  ·rw [Zq h1] at h
   have e:i.toNat=j:=Zp h
   exact ⟨by rw [seqIndex_of h0 h1,e],by lia,by lia,h1⟩
  ·rw [Zo h1] at h;cases h
 ·rw [Zo h0] at h
  by_cases h1:-(n:Int)<=i
  ·rw [Zq h1] at h
   have e:(i+n).toNat=j:=Zp h
   exact ⟨by rw [seqIndex_neg (by lia) h1,e],by lia,h1,by lia⟩
  ·rw [Zo h1] at h;cases h
theorem nB {α:Type} {xs:List α} {i:Int} {v:α} (h:atI xs i=some v):∃ j,seqIndex? i xs.length=some j/\xs[j]?=some v/\j < xs.length/\-(xs.length:Int)<=i/\i < xs.length:=by
 unfold atI at h
 cases e:ixN xs.length i with
 | none=>rw [e] at h;cases h
 | some j =>
  rw [e] at h
  obtain ⟨h1,h2,h3,h4⟩:=rq e
  exact ⟨j,h1,h,h2,h3,h4⟩
noncomputable def eA (b:Expr):Prop:=∀ o i,subscripted b false o i=operate [o,i] (getItem o i)
noncomputable def IxR (X:Cx) (r:R2):Prop :=
 ∀ (value slice:Expr) (pins:Wv) (s:Shared) (σ:St) (H:Hp) (x y:V) (v u:Value) (Q:VK),Inv X pins σ H s->RelV x v->RelV y u->r x y H Q →
  subscripted slice false v u=operate [v,u] (getItem v u)->wpAny (model X.prog X.w) X.A (subscriptTail value slice v u) (EP X pins σ Q) X.xe s
noncomputable def MtR (X:Cx) (id:String) (r:V->List V->Hp->VK->Prop):Prop :=
 ∀ (pins:Wv) (s:Shared) (σ:St) (H:Hp) (x:V) (xs:List V) (v:Value) (us:Wq) (Q:VK),Inv X pins σ H s->RelV x v->aO xs us->r x xs H Q →
  wpAny (model X.prog X.w) X.A (call (.builtin id) (v :: us)) (EP X pins σ Q) X.xe s
section
variable {X:Cx} {a b:Expr} {ta tb:TE} {pos:Pos}
theorem IxR.or {r r':R2} (h:IxR X r) (h':IxR X r'):IxR X (fun x y H Q=>r x y H Q\/r' x y H Q):=by
 intro value slice pins s σ H x y v u Q I rx ry q hs
 rcases q with q | q
 ·exact h value slice pins s σ H x y v u Q I rx ry q hs
 ·exact h' value slice pins s σ H x y v u Q I rx ry q hs
theorem qZ {r:R2} (hr:IxR X r) (ha:PE X a ta) (hb:PE X b tb) (hs:eA b):PE X (.Subscript a b pos) (tOp r ta tb):=by
 intro pins s σ H Q I h
 exact Subscript_ (BH ha hb I h fun v u s2 x y H2 I2 rx ry q=>hr a b pins s2 σ H2 x y v u Q I2 rx ry q (hs _ _))
noncomputable def Du (K:Wt):R2:=fun x y H Q=>∃ p xs i v,x=.ref p/\y=.int i/\SqL K H p xs/\atI xs i=some v/\Q v H
noncomputable def B5 (K:Wt):R2:=fun x y H Q=>∃ p xs i v,x=.ref p/\y=.int i/\SqT K H p xs/\atI xs i=some v/\Q v H
noncomputable def Dh:R2:=fun x y H Q=>∃ z i c,x=.str z/\y=.int i/\z.length<=sizeLine/\atI z.cps.toList i=some c/\Q (.str ⟨#[c]⟩) H
theorem yQ:IxR X (Du X.K):=by
 intro value slice pins s σ H x y v u Q I rx ry h hs
 obtain ⟨p,xs,i,z,rfl,rfl,hq,he,q⟩:=h
 cases rx
 obtain ⟨t,rfl⟩:=ry
 obtain ⟨its,r,pl,hz⟩:=I.list hq
 obtain ⟨j,h1,h2,h3,h4,h5⟩:=nB he
 obtain ⟨w,ew,rw'⟩:=r.get h2
 have hl:=r.length
 have hn:=jE
 have fin:EP X pins σ Q w s:=⟨z,H,I,rw',q⟩
 by_cases h0:0<=i
 ·have hj:i.toNat=j:=by
   rw [seqIndex_of h0 h5] at h1
   exact Zp h1
  exact item_listR pl.isList h0 (by lia) (by rw [hj];simpa using ew) fin hs
 ·have hj:(i+(its.toArray.size:Int)).toNat=j:=by
   rw [seqIndex_neg (by lia) h4] at h1
   rw [Za,← hl]
   exact Zp h1
  exact subscriptTail_builtinR (x:=w) pl.isList.typeIs slot_list_getitem.lookup
   (wpAny_getItem_list_neg (Q:=fun r s'=>r=w/\EP X pins σ Q r s') pl.isList (by lia) (by rw [Za] <;> lia) (by lia) (by rw [hj];simpa using ew) ⟨rfl,fin⟩) hs
theorem Bl:IxR X (B5 X.K):=by
 intro value slice pins s σ H x y v u Q I rx ry h hs
 obtain ⟨p,xs,i,z,rfl,rfl,hq,he,q⟩:=h
 cases rx
 obtain ⟨t,rfl⟩:=ry
 obtain ⟨its,r,pl,hz⟩:=I.tuple hq
 obtain ⟨j,h1,h2,h3,h4,h5⟩:=nB he
 obtain ⟨w,ew,rw'⟩:=r.get h2
 have hl:=r.length
 have hn:=jE
 have fin:EP X pins σ Q w s:=⟨z,H,I,rw',q⟩
 exact subscriptTail_builtinR (x:=w) pl.typeIs slot_tuple_getitem.lookup
  (getItem_tuple (j:=j) (Q:=fun r s'=>r=w/\EP X pins σ Q r s') pl (by lia) (by lia) (by rw [Za,← hl];exact h1) (by simpa using ew) ⟨rfl,fin⟩) hs
theorem zz:IxR X Dh:=by
 intro value slice pins s σ H x y v u Q I rx ry h hs
 obtain ⟨z,i,c,rfl,rfl,hz,he,q⟩:=h
 obtain ⟨t,rfl⟩:=rx
 obtain ⟨t',rfl⟩:=ry
 obtain ⟨j,h1,h2,h3,h4,h5⟩:=nB he
 have hl:z.cps.toList.length=z.length:=by simp [Str.length]
 rw [hl] at h1 h4 h5
 have hn:=jE
 exact tail_any (typeIs_str s z t) slot_str_getitem.lookup (getItem_str (c:=c) (by
  have e1:decide (i < -(2 ^ 63:Int))=false:=ZZ (by lia)
  have e2:decide (i ≥ 2 ^ 63)=false:=ZZ (by lia)
  rw [e1,e2,Bool.or_false]) (by rw [h1];simpa using h2) ⟨.str ⟨#[c]⟩,H,I.tok _,⟨_,rfl⟩,q⟩) hs
noncomputable def rIx (K:Wt):R2:=fun x y H Q=>Du K x y H Q\/B5 K x y H Q\/Dh x y H Q
theorem nM:IxR X (rIx X.K):=yQ.or (Bl.or zz)
theorem pC (its:Wq) (n j:Nat) (u:Value):Obj.mapSeq (·.setIfInBounds j u) { cls:=.type "list",data:=.seq its.toArray n }={ cls:=.type "list",data:=.seq (its.set j u).toArray n }:=by
 simp [Obj.mapSeq]
theorem Inv.lst {pins:Wv} {σ:St} {H:Hp} {s:Shared} {p:Addr} {xs:List V} (I:Inv X pins σ H s) (h:H p=some (.lst xs)) :
  ∃ (its:Wq) (n:Nat),aO xs its/\s.heap.get? p=some { cls:=.type "list",data:=.seq its.toArray n }/\xs.length<=sizeLine:=by
 obtain ⟨z,its,n,r,e⟩:=I.hok p _ h
 exact ⟨its,n,r,e,z⟩
theorem Inv.lstUpd {pins:Wv} {σ:St} {H:Hp} {s:Shared} {p:Addr} {xs ys:List V} {its its':Wq} {n n':Nat} {f:Obj->Obj} (I:Inv X pins σ H s) (h:H p=some (.lst xs))
  (ho:s.heap.get? p=some { cls:=.type "list",data:=.seq its.toArray n }) (hf:f { cls:=.type "list",data:=.seq its.toArray n }={ cls:=.type "list",data:=.seq its'.toArray n' }) (r:aO ys its') (hz:ys.length<=sizeLine) (t:Nat) :
  Inv X pins σ (upd H p (.lst ys)) { s with heap:=s.heap.update p f,toks:=t }:=by
 have e:(s.heap.update p f).get? p=some { cls:=.type "list",data:=.seq its'.toArray n' }:=by
  rw [Heap.get?_update_self f ho (by rw [hf] <;> rfl),hf]
 refine I.write (x:=p) (e:=p) (by rw [h];trivial) (.inl rfl) (fun b u hb q=>(XI _ _ (YV hb)).trans q) ⟨_,e⟩ ?_
 exact ⟨hz,its',n',r,e⟩
noncomputable def zp:V->V->V->Hp->(Hp->Prop)->Prop:=fun o i v H Q=>∃ p xs k j,o=.ref p/\i=.int k/\H p=some (.lst xs)/\ixN xs.length k=some j/\Q (upd H p (.lst (xs.set j v)))
theorem set_list:zG X zp:=by
 intro pins s σ H o i v ov iv u Q I ro ri rv h
 obtain ⟨p,xs,k,j,rfl,rfl,hp,hj,q⟩:=h
 cases ro
 obtain ⟨t,rfl⟩:=ri
 obtain ⟨its,n,r,ho,hz⟩:=I.lst hp
 obtain ⟨h1,h2,h3,h4⟩:=rq hj
 have hl:=r.length
 have hn:=jE
 have I':Inv X pins σ (upd H p (.lst (xs.set j v))) { s with heap:=s.heap.update p (Obj.mapSeq (·.setIfInBounds j u)) } :=
  I.lstUpd hp ho (pC its n j u) (r.set rv j) (by rw [Z7];exact hz) s.toks
 by_cases h0:0<=k
 ·have hk:k.toNat=j:=by
   rw [seqIndex_of h0 h4] at h1
   exact Zp h1
  exact PySem.W.ki_setAt ho h0 (by lia) (by rw [Za,← hl];exact h4) (by rw [hk];exact ⟨_,I',q⟩)
 ·have hk:(k+(its.toArray.size:Int)).toNat=j:=by
   rw [seqIndex_neg (by lia) h3] at h1
   rw [Za,← hl]
   exact Zp h1
  exact PySem.W.ki_setBack ho (by lia) (by rw [Za,← hl];exact h3) (by lia) (by rw [hk];exact ⟨_,I',q⟩)
theorem nq (lo hi:Option Int) (n:Nat):(sliceBounds lo hi none n).1=((HT.sIx n 0 lo:Nat):Int)/\(sliceBounds lo hi none n).2.1=((HT.sIx n n hi:Nat):Int)/\(sliceBounds lo hi none n).2.2=1:=by
 refine ⟨?_,?_,rfl⟩
 ·cases lo with
  | none=>simp [sliceBounds,HT.sIx]
  | some i =>
   simp only [sliceBounds,HT.sIx,X7,show (1:Int) > 0 by decide,if_true]
   by_cases h:i < 0
   ·simp only [h,if_true] <;> lia
   ·simp only [h,if_false] <;> lia
 ·cases hi with
  | none=>simp [sliceBounds,HT.sIx]
  | some i =>
   simp only [sliceBounds,HT.sIx,X7,show (1:Int) > 0 by decide,if_true]
   by_cases h:i < 0
   ·simp only [h,if_true] <;> lia
   ·simp only [h,if_false] <;> lia
theorem lR (its:Wq) (lo hi:Option Int):slicePick its.toArray lo hi none=((its.drop (HT.sIx its.length 0 lo)).take (HT.sIx its.length its.length hi - HT.sIx its.length 0 lo)).toArray:=by
 obtain ⟨h1,h2,h3⟩:=nq lo hi its.toArray.size
 unfold slicePick
 rw [h1,h2,h3]
 simp only [sliceRange_one,pick_run,Za] <;> rfl
noncomputable def CL (K:Wt):V->Option Int->Option Int->Hp->VK->Prop:=fun x lo hi H Q=>∃ a xs,x=.ref a/\SqL K H a xs/\∀ p,H p=none->Q (.ref p) (upd H p (.lst (lY xs lo hi)))
theorem xt:SlR X (CL X.K):=by
 intro pins s σ H x v vl vu lo hi sl Q I rx hs pl pu h
 obtain ⟨a,xs,rfl,hx,q⟩:=h
 cases rx
 obtain ⟨its,r,ht,hz⟩:=I.list hx
 have hlen:=r.length
 refine ⟨"list",_,slot_list_getitem.lookup,ht.isList.typeIs,?_⟩
 refine wpAny_getItem_list_slice ht.isList hs pl pu .none (by simp) ?_ (by rw [Za] <;> lia)
 rw [lR,← hlen]
 refine ⟨.ref s.heap.objs.size,_,I.laid (t':=s.toks) (o:=.lst (lY xs lo hi)) (fun b ob q=>Zi _ q) (Zl _) ?_,rfl,q _ (I.hok.fresh (Zl _))⟩
 exact ⟨ZF (j6 xs lo hi) hz,_,0,(r.drop (HT.sIx xs.length 0 lo)).take (HT.sIx xs.length xs.length hi - HT.sIx xs.length 0 lo),ZM _ rfl⟩
noncomputable def eU:V->Bool
 | .non=>true
 | .bl _=>true
 | .int _=>true
 | .str _=>true
 | _=>false
noncomputable def eqV:V->V->Bool
 | .non,.non=>true
 | .bl a,.bl b=>a == b
 | .bl a,.int b=>(if a then 1 else 0) == b
 | .int a,.bl b=>a == (if b then 1 else 0)
 | .int a,.int b=>a == b
 | .str a,.str b=>a == b
 | _,_=>false
theorem zI {A:Around} {s:Shared} {y x:V} {u v:Value} (ry:RelV y u) (rx:RelV x v) (fy:eU y=true) (fx:eU x=true):SeqAt.EqAt A s u v (eqV y x):=by
 cases y with
 | non =>
  cases ry
  cases x with
  | non=>cases rx;exact SeqAt.EqAt.same _
  | bl b=>cases rx;exact SeqAt.EqAt.none_bool b
  | int b=>obtain ⟨t,rfl⟩:=rx;exact SeqAt.EqAt.none_int b t
  | str b=>obtain ⟨t,rfl⟩:=rx;exact SeqAt.EqAt.none_str b t
  | _=>exact absurd (show false=true from fx) Ze
 | bl a =>
  cases ry
  cases x with
  | non=>cases rx;exact SeqAt.EqAt.bool_none a
  | bl b=>cases rx;exact SeqAt.EqAt.bool_bool a b
  | int b=>obtain ⟨t,rfl⟩:=rx;exact SeqAt.EqAt.bool_int a b t
  | str b=>obtain ⟨t,rfl⟩:=rx;exact SeqAt.EqAt.bool_str a b t
  | _=>exact absurd (show false=true from fx) Ze
 | int a =>
  obtain ⟨t',rfl⟩:=ry
  cases x with
  | non=>cases rx;exact SeqAt.EqAt.int_none a t'
  | bl b=>cases rx;exact SeqAt.EqAt.int_bool a t' b
  | int b=>obtain ⟨t,rfl⟩:=rx;exact SeqAt.EqAt.int_int a t' b t
  | str b=>obtain ⟨t,rfl⟩:=rx;exact SeqAt.EqAt.int_str a t' b t
  | _=>exact absurd (show false=true from fx) Ze
 | str a =>
  obtain ⟨t',rfl⟩:=ry
  cases x with
  | non=>cases rx;exact SeqAt.EqAt.str_none a t'
  | bl b=>cases rx;exact SeqAt.EqAt.str_bool a t' b
  | int b=>obtain ⟨t,rfl⟩:=rx;exact SeqAt.EqAt.str_int a t' b t
  | str b=>obtain ⟨t,rfl⟩:=rx;exact SeqAt.EqAt.str_str a t' b t
  | _=>exact absurd (show false=true from fx) Ze
 | _=>exact absurd (show false=true from fy) Ze
noncomputable def eqU (x:V) (u:Value):Bool:=match u with
 | .none=>eqV .non x
 | .bool b=>eqV (.bl b) x
 | .int i _=>eqV (.int i) x
 | .str z _=>eqV (.str z) x
 | _=>false
theorem vq {x y:V} {u:Value} (r:RelV y u) (f:eU y=true):eqU x u=eqV y x:=by
 cases y with
 | non=>cases r;rfl
 | bl b=>cases r;rfl
 | int i=>obtain ⟨t,rfl⟩:=r;rfl
 | str z=>obtain ⟨t,rfl⟩:=r;rfl
 | _=>exact absurd (show false=true from f) Ze
theorem iR {x:V}:∀ {xs:List V} {us:Wq},aO xs us->xs.all eU=true->us.any (eqU x)=xs.any fun y=>eqV y x
 | _,_,.nil,_=>rfl
 | y :: xs,u :: us,.cons r t,f=>by
  rw [Xw,Zf] at f
  rw [Yg,Yg,vq r f.1,iR t f.2]
theorem g0 {A:Around} {s:Shared} {x:V} {v:Value} (rx:RelV x v) (fx:eU x=true):∀ {xs:List V} {us:Wq},aO xs us->xs.all eU=true->∀ u∈us,SeqAt.EqAt A s u v (eqU x u)
 | _,_,.nil,_=>fun u hu=>by cases hu
 | y :: xs,u :: us,.cons r t,f=>fun u' hu=>by
  rw [Xw,Zf] at f
  rcases Zg.mp hu with rfl | hu
  ·rw [vq r f.1];exact zI r rx f.1 fx
  ·exact g0 rx fx t f.2 u' hu
noncomputable def inV (x:V) (xs:List V):Bool:=xs.any fun y=>eqV y x
noncomputable def rIn (K:Wt) (neg:Bool):R2:=fun x y H Q=>∃ p xs,y=.ref p/\(SqL K H p xs\/SqT K H p xs)/\eU x=true/\xs.all eU=true/\Q (.bl (if neg then !inV x xs else inV x xs)) H
theorem sH:OpR X (compareOp .In) (rIn X.K false):=by
 intro pins s σ H x y v u Q I rx ry h
 obtain ⟨p,xs,rfl,hq,fx,fs,q⟩:=h
 cases ry
 rcases hq with hq | hq
 ·obtain ⟨its,r,pl,hz⟩:=I.list hq
  refine SeqAt.in_listAt (eqU x) pl.isList (fun w hw=>g0 rx fx r fs w (by simpa using hw)) ⟨.bl _,H,I,rfl,?_⟩
  rw [show its.toArray.any (eqU x)=its.any (eqU x) by simp,iR r fs]
  exact q
 ·obtain ⟨its,r,pl,hz⟩:=I.tuple hq
  refine SeqAt.in_tupleAt (eqU x) pl (fun w hw=>g0 rx fx r fs w (by simpa using hw)) ⟨.bl _,H,I,rfl,?_⟩
  rw [show its.toArray.any (eqU x)=its.any (eqU x) by simp,iR r fs]
  exact q
theorem nu:OpR X (compareOp .NotIn) (rIn X.K true):=by
 intro pins s σ H x y v u Q I rx ry h
 obtain ⟨p,xs,rfl,hq,fx,fs,q⟩:=h
 cases ry
 rcases hq with hq | hq
 ·obtain ⟨its,r,pl,hz⟩:=I.list hq
  refine SeqAt.notIn_listAt (eqU x) pl.isList (fun w hw=>g0 rx fx r fs w (by simpa using hw)) ⟨.bl _,H,I,rfl,?_⟩
  rw [show its.toArray.any (eqU x)=its.any (eqU x) by simp,iR r fs]
  exact q
 ·obtain ⟨its,r,pl,hz⟩:=I.tuple hq
  refine SeqAt.notIn_tupleAt (eqU x) pl (fun w hw=>g0 rx fx r fs w (by simpa using hw)) ⟨.bl _,H,I,rfl,?_⟩
  rw [show its.toArray.any (eqU x)=its.any (eqU x) by simp,iR r fs]
  exact q
theorem dD.or {f:Value} {r r':List V->Hp->VK->Prop} (h:dD X f r) (h':dD X f r'):dD X f (fun xs H Q=>r xs H Q\/r' xs H Q):=by
 intro pins s σ H xs us Q I rs q
 rcases q with q | q
 ·exact h pins s σ H xs us Q I rs q
 ·exact h' pins s σ H xs us Q I rs q
theorem nr:dD X (.type "list") (fun xs H Q=>∃ p ys,xs=[.ref p]/\(SqL X.K H p ys\/SqT X.K H p ys)/\∀ l,H l=none->Q (.ref l) (upd H l (.lst ys))):=by
 intro pins s σ H xs us Q I r h
 obtain ⟨p,ys,rfl,hq,q⟩:=h
 obtain ⟨u,rfl,rx⟩:=vals1 r
 cases rx
 have fin:∀ (its:Wq),aO ys its->ys.length<=sizeLine->∀ (h':Heap) (c':Nat),(∀ b o',s.heap.get? b=some o'->h'.get? b=some o') →
   h'.get? s.heap.objs.size=some { cls:=.type "list",dict:=none,data:=.seq its.toArray c',slots:=#[] }->EP X pins σ Q (.ref s.heap.objs.size) { s with heap:=h' }:=fun its r' hz h' c' kp e =>
  ⟨.ref s.heap.objs.size,_,I.laid (t':=s.toks) kp (Zl _) (show cq X.prog X.w _ h' _ (.lst ys) from ⟨hz,its,c',r',e⟩),rfl,q _ (I.hok.fresh (Zl _))⟩
 rcases hq with hq | hq
 ·obtain ⟨its,r',pl,hz⟩:=I.list hq
  have hlen:=r'.length
  obtain ⟨o,ho,hc,n,hd⟩:=pl.isList
  exact call_list_seq p (.inl rfl) ho hc hd (fun h' c' kp e=>fin its r' hz h' c' kp e) (by simp only [Za] <;> lia)
 ·obtain ⟨its,r',pl,hz⟩:=I.tuple hq
  have hlen:=r'.length
  obtain ⟨o,ho,hc,n,hd⟩:=pl
  exact call_list_seq p (.inr rfl) ho hc hd (fun h' c' kp e=>fin its r' hz h' c' kp e) (by simp only [Za] <;> lia)
theorem lU:dD X (.type "tuple") (fun xs H Q=>∃ p ys,xs=[.ref p]/\((SqL X.K H p ys/\∀ l,H l=none->Q (.ref l) (upd H l (.tup ys)))\/(SqT X.K H p ys/\Q (.ref p) H))):=by
 intro pins s σ H xs us Q I r h
 obtain ⟨p,ys,rfl,h⟩:=h
 obtain ⟨u,rfl,rx⟩:=vals1 r
 cases rx
 rcases h with ⟨hq,q⟩ | ⟨hq,q⟩
 ·obtain ⟨its,r',pl,hz⟩:=I.list hq
  have hlen:=r'.length
  refine call_tuple_list pl.isList (fun h' kp=>?_) (by simp only [Za] <;> lia)
  have I1:Inv X pins σ H { s with heap:=h' }:=I.kept (t':=s.toks) kp
  have I2:Inv X pins σ (upd H h'.objs.size (.tup ys)) { s with heap:=h'.push { cls:=.type "tuple",data:=.seq its.toArray } } :=
   I1.laid (t':=s.toks) (fun b o e=>Zi _ e) (Zl _) (show cq X.prog X.w _ _ _ (.tup ys) from ⟨hz,its,r',NoD.new _ _,IsTup.new _ _⟩)
  exact ⟨.ref h'.objs.size,_,I2,rfl,q _ (I1.hok.fresh (Zl _))⟩
 ·obtain ⟨its,r',pl,hz⟩:=I.tuple hq
  exact call_tuple_same pl ⟨.ref p,H,I,rfl,q⟩
noncomputable def tyV (K:Wt) (T:String) (x:V) (H:Hp):Prop:=match x with
 | .str _=>T = "str"
 | .int _=>T = "int"
 | .ref p=>(T = "list" ∧ ∃ xs,SqL K H p xs)\/(T = "tuple" ∧ ∃ o,K.lookup p=some o/\o.cls=.type "tuple" ∧ o.dict=none) ∨
   (T = "dict" ∧ ((∃ kvs,H p=some (.dK kvs))\/∃ kvs,H p=some (.dT kvs)))\/(T = "set" ∧ ∃ S n,H p=some (.set S n))
 | _=>False
theorem BC {pins:Wv} {σ:St} {H:Hp} {s:Shared} {T:String} {x:V} {v:Value} (I:Inv X pins σ H s) (r:RelV x v) (ty:tyV X.K T x H) :
  s.TypeIs v T/\∀ a,v=.ref a->∃ ob,s.heap.get? a=some ob/\ob.dict=none:=by
 cases x with
 | str z =>
  obtain ⟨t,rfl⟩:=r
  cases (show T = "str" from ty)
  exact ⟨typeIs_str s z t,fun _ e=>nomatch e⟩
 | int i =>
  obtain ⟨t,rfl⟩:=r
  cases (show T = "int" from ty)
  exact ⟨typeIs_int s i t,fun _ e=>nomatch e⟩
 | ref p =>
  cases r
  rcases ty with ⟨rfl,xs,hq⟩ | ⟨rfl,o,hk,hc,hd⟩ | ⟨rfl,hk⟩ | ⟨rfl,S,n,hk⟩
  ·obtain ⟨its,_,pl,_⟩:=I.list hq
   refine ⟨pl.isList.typeIs,fun a e=>?_⟩
   cases e
   obtain ⟨o,n,e,c,hd,_⟩:=pl
   exact ⟨o,e,hd⟩
  ·refine ⟨⟨o,I.kIn p o hk,hc⟩,fun a e=>?_⟩
   cases e
   exact ⟨o,I.kIn _ o hk,hd⟩
  ·have z:∃ o,s.heap.get? p=some o/\o.ExactDict:=by
    rcases hk with ⟨kvs,hk⟩ | ⟨kvs,hk⟩
    ·obtain ⟨_,_,_,_,o,_,_,e,ex,_⟩:=I.hok p _ hk
     exact ⟨o,e,ex⟩
    ·obtain ⟨_,_,_,_,o,_,_,e,ex,_⟩:=I.hok p _ hk
     exact ⟨o,e,ex⟩
   obtain ⟨o,e,ex⟩:=z
   refine ⟨⟨o,e,ex.1⟩,fun a e2=>?_⟩
   cases e2
   exact ⟨o,e,ex.2.1⟩
  ·obtain ⟨o,_,_,_,e,ex,_⟩:=I.hok p _ hk
   refine ⟨⟨o,e,ex.1⟩,fun a e2=>?_⟩
   cases e2
   exact ⟨o,e,ex.2.1⟩
 | _=>exact False.elim ty
noncomputable def tBM (K:Wt) (T:String) (r:V->List V->Hp->VK->Prop) (to:TE) (t:TA):TE:=fun σ H Q=>to σ H fun x H1=>tyV K T x H1/\t σ H1 fun xs H2=>r x xs H2 Q
variable {o e:Expr} {es:List Expr} {to:TE} {t:TA} {name:Str} {apos cpos:Pos} {T id:String} {r:V->List V->Hp->VK->Prop}
theorem qD (pa:PlainAttrs T) (slot:Slot T name id) (hty:typeOf (.builtin id)=pure (.type "method_descriptor")) (hm:MtR X id r) (ho:PE X o to) (ha:PA X (e :: es) t)
  (hbase:attributeBase o name X.env (eval o X.env)=eval o X.env:=by rfl)
  (hfew:((backTo cpos (starEach (e :: es) X.env)).all (fun x=>!x.1) && (backToKw cpos (keywordEach [] X.env)).all (fun x=>x.1.isSome)
   && decide ((e :: es).length+([]:List Keyword).length+(if ([]:List Keyword).isEmpty then 0 else 1) < 30))=true:=by rfl)
  (hline:(apos.endLine == cpos.line)=true:=by rfl) (hs:starEach (e :: es) X.env=(false,eval e X.env) :: starEach es X.env:=by rfl) (hplain:(backTo cpos (starEach es X.env)).any (·.1)=false:=by rfl) :
  PE X (.Call (.Attribute o name apos) (e :: es) [] cpos) (tBM X.K T r to t):=by
 intro pins s σ H Q I h
 refine wpAny_Call_method_late hbase hfew hline rfl (thn (ho pins s σ H _ I h) fun v s1 ⟨x,H1,I1,r1,ty,q1⟩=>?_)
 obtain ⟨h1,h2⟩:=BC I1 r1 ty
 refine ⟨T,id,pa,slot,hty,h1,h2,?_⟩
 have hA:=ha cpos pins s1 σ H1 _ I1 q1
 rw [hs] at hA ⊢
 refine Calls.callWith_builtin (by show (false || (backTo cpos (starEach es X.env)).any (·.1))=false;rw [hplain] <;> rfl) (Calls.evalArgs_plain ?_)
 exact thn hA fun us s2 ⟨vs,H2,I2,r2,q2⟩=>hm pins s2 σ H2 x vs v us Q I2 r1 r2 q2
end
noncomputable def MtM (X:Cx) (id:String) (r:V->List V->Hp->VK->Prop):Prop :=
 ∀ (pins:Wv) (s:Shared) (σ:St) (H:Hp) (x:V) (xs:List V) (v:Value) (us:Wq) (Q:VK),Inv X pins σ H s->RelV x v->aO xs us->r x xs H Q →
  wpAny (model X.prog X.w) X.A (call (.builtin id) (v :: us)) (EP X pins σ Q) X.xe s
theorem aO.nil_inv {us:Wq} (h:aO [] us):us=[]:=by
 cases h
 rfl
theorem aO.cons_inv {x:V} {xs:List V} {us:Wq} (h:aO (x :: xs) us):∃ u vs,us=u :: vs/\RelV x u/\aO xs vs:=by
 cases h with
 | cons r t=>exact ⟨_,_,rfl,r,t⟩
theorem aO.one {x:V} {us:Wq} (h:aO [x] us):∃ u,us=[u]/\RelV x u:=by
 obtain ⟨u,vs,rfl,r,t⟩:=h.cons_inv
 rw [t.nil_inv]
 exact ⟨_,rfl,r⟩
section
variable {X:Cx} {pins:Wv} {σ:St} {H:Hp} {s:Shared} {l b:Addr} {xs ys zs:List V}
theorem Inv.lset {its its':Wq} {n:Nat} {f:Array Value->Array Value} {t':Nat} (I:Inv X pins σ H s) (hH:H l=some (.lst xs))
  (e:s.heap.get? l=some { cls:=.type "list",data:=.seq its.toArray n }) (hf:f its.toArray=its'.toArray) (hv:aO ys its') (hz:ys.length<=sizeLine) :
  Inv X pins σ (upd H l (.lst ys)) { s with heap:=s.heap.update l (Obj.mapSeq f),toks:=t' }:=by
 have q:=PySem.IsL.update e f
 rw [hf] at q
 refine I.write (x:=l) (e:=l) (by rw [hH];exact trivial) (.inl rfl) (fun b' u hb hu=>(XI s.heap (Obj.mapSeq f) (YV hb)).trans hu) ⟨_,q⟩ ?_
 exact ⟨hz,its',_,hv,q⟩
theorem Inv.lnew {its:Wq} {t':Nat} (I:Inv X pins σ H s) (hv:aO ys its) (hz:ys.length<=sizeLine) :
  Inv X pins σ (upd H s.heap.objs.size (.lst ys)) { s with heap:=s.heap.push { cls:=.type "list",data:=.seq its.toArray },toks:=t' } :=
 I.laid (fun _ _ q=>Zi _ q) (Zl _) ⟨hz,its,0,hv,ZM _ rfl⟩
theorem Inv.fresh (I:Inv X pins σ H s):H s.heap.objs.size=none:=I.hok.fresh (Zl _)
theorem Inv.lstM (I:Inv X pins σ H s) (hH:H l=some (.lst xs)):xs.length<=sizeLine/\∃ (its:Wq) (n:Nat),aO xs its/\xs.length=its.length/\s.heap.get? l=some { cls:=.type "list",data:=.seq its.toArray n }:=by
 obtain ⟨z,its,n,r,e⟩:=I.hok l _ hH
 exact ⟨z,its,n,r,r.length,e⟩
theorem oX {n:Nat} (h:n<=sizeLine):Builtin.List.listTooLong n=false:=by
 unfold Builtin.List.listTooLong
 exact ZZ (by exact Nat.not_lt_of_le h)
end
section
variable {X:Cx}
noncomputable def qE:V->List V->Hp->VK->Prop:=fun x vs H Q=>∃ l xs y,x=.ref l/\vs=[y]/\H l=some (.lst xs)/\xs.length < sizeLine/\Q .non (upd H l (.lst (xs++[y])))
theorem ib:MtM X "list.append" qE:=by
 intro pins s σ H x vs v us Q I rx rv h
 obtain ⟨l,xs,y,rfl,rfl,hH,hz,q⟩:=h
 cases rx
 obtain ⟨u,rfl,ru⟩:=rv.one
 obtain ⟨z,its,n,r,hl,e⟩:=I.lstM hH
 refine call_meets F.slot_list_append ⟨_,e,rfl⟩ F.entry_list_append (F.args_list_append_2 _ _) (PySem.list_append l its.toArray n u (by rw [Za];lia)) ⟨e,?_⟩
 refine ⟨.non,_,I.lset (its':=its++[u]) hH e (by simp) (r.append (.cons ru .nil)) ?_,rfl,q⟩
 rw [Zv,ZS]
 exact Nat.succ_le_of_lt hz
noncomputable def CG:R2:=fun x y H Q=>∃ l b xs zs,x=.ref l/\y=.ref b/\H l=some (.lst xs)/\H b=some (.lst zs)/\xs.length+zs.length<=sizeLine/\∀ p,H p=none->Q (.ref p) (upd H p (.lst (xs++zs)))
theorem AR:OpR X (binaryOp .Add) CG:=by
 intro pins s σ H x y v u Q I rx ry h
 obtain ⟨l,b,xs,zs,rfl,rfl,hH,hB,hz,q⟩:=h
 cases rx
 cases ry
 obtain ⟨z,its,n,r,hl,e⟩:=I.lstM hH
 obtain ⟨z2,its2,n2,r2,hl2,e2⟩:=I.lstM hB
 refine PySem.P.add_list e e2 ?_ (by rw [Za,Za];lia)
 have ea:its.toArray++its2.toArray=(its++its2).toArray:=by simp
 rw [ea]
 exact ⟨.ref _,_,I.lnew (t':=s.toks) (r.append r2) (by rw [Zv];omega),rfl,q _ I.fresh⟩
end
section
variable {prog:Program} {w:World} {A:Around} {E:Ww} {s:Shared}
theorem pA {a c n:Nat} (hac:a<=c) (hc:c<=n):sliceBounds (some (a:Int)) (some (c:Int)) none n=((a:Int),(c:Int),1):=by
 simp only [sliceBounds,X7]
 have h1:¬ ((a:Int) < 0):=by lia
 have h2:¬ ((c:Int) < 0):=by lia
 simp only [h1,h2,if_false,show (1:Int) > 0 by decide,if_true]
 congr 1
 ·lia
 ·congr 1;lia
set_option maxRecDepth 100000 in
theorem wA {l b sl:Addr} {items new:Array Value} {n n2:Nat} {vl vu:Value} {a c:Nat} {Q:Unit->Shared->Prop}
  (e:s.heap.get? l=some { cls:=.type "list",data:=.seq items n }) (e2:s.heap.get? b=some { cls:=.type "list",data:=.seq new n2 }) (hne:l ≠ b)
  (hs:s.heap.IsSliceOf sl vl vu .none) (pl:IsPart vl (some (a:Int))) (pu:IsPart vu (some (c:Int))) (hac:a<=c) (hc:c<=items.size)
  (hsz:items.size+new.size<=sizeLine) (h:Q () { s with heap:=s.heap.update l (Obj.mapSeq fun xs=>xs.extract 0 a++new++xs.extract c xs.size) }) :
  wpAny (model prog w) A (setItem (.ref l) (.ref sl) (.ref b)) Q E s:=by
 have hl:s.heap.IsList l items:=PySem.IsL.isList e
 have hb:s.heap.IsList b new:=PySem.IsL.isList e2
 obtain ⟨os,hos,hcs,hds⟩:=id hs
 have hTs:s.TypeIs (.ref sl) "slice" := ⟨os,hos,hcs⟩
 have hstep:¬ ((rawPart none == rawInt 0)=true):=Ze
 have hsame:Builtin.List.listSameRef (.ref l) (.ref b)=false:=by
  unfold Builtin.List.listSameRef
  exact ZV.mpr hne
 have hmax:(max (a:Int) (c:Int)).toNat=c:=by lia
 have hz':((fun xs:Array Value=>xs.extract 0 a++new++xs.extract c xs.size) items).size<=sizeLine+1:=by
  simp only [Array.size_append,Array.size_extract]
  lia
 unfold setItem
 try with_reducible refine Y3 ?_
 first | refine Zs (Zj ?_) | skip
 refine Zs (wpAny_sequenceKey hl.typeIs (by decide) ?_)
 refine Zs (XS (name:=Str.ofString "__setitem__") hl.typeIs slot_list_setitem
  (Y0 slot_list_setitem hl.typeIs entry_list_setitem ?_ (args_list_setitem _ _ _)))
 show wpAny _ _ (Builtin.List.listSubscript? (.ref sl) >>= _) _ _ s
 refine Zs ?_
 unfold Builtin.List.listSubscript?
 refine Zs (wpAny_specialOf hTs slice_no_index ?_)
 simp only [Option.isNone_none,if_true]
 refine Zj ?_
 show wpAny _ _ (typeOf (.ref sl) >>= _) _ _ s
 refine Zs (wpAny_typeOf hTs ?_)
 first
  | rw [Zo (by decide)]
  | refine XF (by decide) ?_
 rw [listSliceParts_eq]
 refine Zs (Zs (Xd hos hds (x:=.none) rfl (Zs (wpAny_listPart .none ?_))))
 rw [Zo hstep]
 refine Zs (Xd hos hds (x:=vl) rfl (Zs (wpAny_listPart pl ?_)))
 refine Zs (Xd hos hds (x:=vu) rfl (Zs (wpAny_listPart pu (Zj ?_))))
 first
  | simp only [hsame,Y2,if_false]
  | refine XF hsame ?_
  | (dsimp only
     rw [Zo (by rw [hsame];exact Ze)])
 refine Zs (m:=Builtin.List.listAllItems (.ref b) "must assign iterable to extended slice") ?_
 unfold Builtin.List.listAllItems
 refine Zs (wpAny_typeOf hb.typeIs ?_)
 first
  | refine PySem.W.KFB.if_so (by decide) ?_
  | rw [Zq (by decide)]
  | simp only [beq_self_eq_true,Bool.true_or,if_true]
 unfold Builtin.List.listItems
 refine Zs (wpAny_seqItems e2 rfl (Zj ?_))
 refine Zs (Zs (wpAny_seqItems e rfl (Zj ?_)))
 refine Zs (wpAny_of_eq ((sliceIndices_raw (some (a:Int)) (some (c:Int)) none items.size (by simp)).trans (congrArg (pure:Int×Int×Int->Sem (Int×Int×Int)) (pA hac hc))) ?_)
 show wpAny _ _ (if ((1:Int) == 1)=true then _ else _) _ _ s
 rw [Zq (by decide)]
 refine Zs (wpAny_rule ?_)
 first
  | simp only [oX hsz,Y2,if_false]
  | refine XF (oX hsz) ?_
 first | refine Zs (Zj ?_) | skip
 show wpAny _ _ (updateSeq l (fun xs=>xs.extract 0 ((a:Int)).toNat++new++xs.extract (max (a:Int) (c:Int)).toNat xs.size) >>= _) _ _ s
 rw [hmax,Xm]
 refine Zs (wpAny_updateSeq (hz:=ZF (YF _ _) hsz) (_hz':=hz') e rfl ?_)
 refine Zs (wpAny_letGo ?_)
 first
  | exact Zs (Zj (Zj ⟨.none,rfl,Zj h⟩))
  | exact Zj ⟨.none,rfl,Zj h⟩
end
section
variable {κ:Type} [DecidableEq κ]
noncomputable def fN (kvs:List (κ×V)) (k:κ):Option V:=(kvs.find? fun kv=>decide (kv.1=k)).map (·.2)
noncomputable def putK (kvs:List (κ×V)) (k:κ) (v:V):List (κ×V) :=
 if (kvs.any fun kv=>decide (kv.1=k))=true then kvs.map (fun kv=>if kv.1=k then (kv.1,v) else kv) else kvs++[(k,v)]
theorem hR {p:κ×V} {r:List (κ×V)} {k:κ} (e:p.1=k):fN (p :: r) k=some p.2:=by simp [fN,Z8,e]
theorem kY {p:κ×V} {r:List (κ×V)} {k:κ} (e:¬ p.1=k):fN (p :: r) k=fN r k:=by simp [fN,Z8,e]
theorem nW (k:κ):∀ kvs:List (κ×V),(kvs.any fun kv=>decide (kv.1=k))=(fN kvs k).isSome
 | []=>rfl
 | p :: r=>by
  rw [Yg]
  by_cases e:p.1=k
  ·simp only [hR e,decide_eq_true e,Bool.true_or,Option.isSome_some]
  ·rw [kY e,ZZ e,Bool.false_or];exact nW k r
theorem gS (kvs:List (κ×V)) (k:κ) (v:V):(putK kvs k v).length<=kvs.length+1:=by
 unfold putK
 split
 ·rw [Zy];exact YF _ _
 ·rw [Zv,Zk,Xb];exact Zl _
theorem gQ.isSome_eq {o:Option V} {u:Wp} (r:gQ o u):o.isSome=u.isSome:=by
 cases o with
 | none=>cases u with
  | none=>rfl
  | some _=>exact (show False from r).elim
 | some _=>cases u with
  | none=>exact (show False from r).elim
  | some _=>rfl
theorem gQ.getD {o:Option V} {u:Wp} {d:V} {d':Value} (r:gQ o u) (rd:RelV d d'):RelV (o.getD d) (u.getD d'):=by
 cases o with
 | none=>cases u with
  | none=>exact rd
  | some _=>exact (show False from r).elim
 | some _=>cases u with
  | none=>exact (show False from r).elim
  | some _=>exact r
theorem KV.val {kvs:List (κ×V)} {vs:List (κ×Value)} (r:KV kvs vs) (k:κ):gQ (fN kvs k) (valueAt vs k):=by
 unfold KV at r
 induction r with
 | nil=>exact True.intro
 | @cons p q ps qs h t ih =>
  obtain ⟨h1,h2⟩:=h
  by_cases e:p.1=k
  ·have e':q.1=k:=h1.symm.trans e
   have b:valueAt (q :: qs) k=some q.2:=by simp [valueAt,Z8,e']
   rw [hR e,b];exact h2
  ·have e':¬ q.1=k:=fun z=>e (h1.trans z)
   have b:valueAt (q :: qs) k=valueAt qs k:=by simp [valueAt,Z8,e']
   rw [kY e,b];exact ih
theorem KV.any {kvs:List (κ×V)} {vs:List (κ×Value)} (r:KV kvs vs) (k:κ):(kvs.any fun kv=>decide (kv.1=k))=vs.any fun kv=>decide (kv.1=k):=by
 unfold KV at r
 induction r with
 | nil=>rfl
 | cons h t ih=>rw [Yg,Yg,ih,h.1]
theorem KV.repl {kvs:List (κ×V)} {vs:List (κ×Value)} (r:KV kvs vs) (k:κ) {y:V} {u:Value} (ry:RelV y u) :
  KV (kvs.map fun kv=>if kv.1=k then (kv.1,y) else kv) (vs.map fun kv=>if kv.1=k then (kv.1,u) else kv):=by
 unfold KV at r ⊢
 induction r with
 | nil=>exact .nil
 | @cons p q ps qs h t ih =>
  rw [Zn,Zn]
  refine .cons ?_ ih
  obtain ⟨h1,h2⟩:=h
  by_cases e:p.1=k
  ·rw [Zq e,Zq (h1.symm.trans e)];exact ⟨h1,ry⟩
  ·rw [Zo e,Zo (fun z=>e (h1.trans z))];exact ⟨h1,h2⟩
theorem KV.put {kvs:List (κ×V)} {vs:List (κ×Value)} (r:KV kvs vs) (k:κ) {y:V} {u:Value} (ry:RelV y u):KV (putK kvs k y) (stored vs k u):=by
 unfold putK stored
 rw [r.any k]
 by_cases e:(vs.any fun kv=>decide (kv.1=k))=true
 ·rw [Zq e,Zq e];exact r.repl k ry
 ·rw [Zo e,Zo e];exact Paired.snoc r ⟨rfl,ry⟩
theorem KV.keys {kvs:List (κ×V)} {vs:List (κ×Value)} (r:KV kvs vs):kvs.map (·.1)=vs.map (·.1):=by
 unfold KV at r
 induction r with
 | nil=>rfl
 | cons h t ih=>rw [Zn,Zn,ih,h.1]
theorem KV.length {kvs:List (κ×V)} {vs:List (κ×Value)} (r:KV kvs vs):kvs.length=vs.length:=Y4 r
end
theorem kz {P:Program} {w:World} {k:Key} {u:Value} (r:RelV (kV k) u):(bB P w).is k u=true:=by
 cases k with
 | inl i=>obtain ⟨t,e⟩:=(show ∃ t,u=Value.int i t from r);subst e;exact pq P w i t
 | inr x=>obtain ⟨t,e⟩:=(show ∃ t,u=Value.str x t from r);subst e;exact oR P w x t
theorem mU {P:Program} {w:World}:∀ {ks:List Key} {us:Wq},aO (ks.map kV) us->ItemsAre (bB P w) ks us
 | [],_,r=>by rw [List.map_nil] at r;cases r;exact .nil
 | k :: ks,_,r=>by
  rw [Zn] at r
  cases r with
  | cons h t=>exact .cons (kz h) (mU t)
noncomputable abbrev KT (H:Hp):List (List Key×V)->List (List Key×Addr×Value)->Prop:=Paired fun p q=>p.1=q.1/\H q.2.1=some (.tup (p.1.map kV))/\RelV p.2 q.2.2
theorem KT.val {H:Hp} {kvs:List (List Key×V)} {xs:List (List Key×Addr×Value)} (r:KT H kvs xs) (k:List Key):gQ (fN kvs k) ((atKey xs k).map (·.2)):=by
 induction r with
 | nil=>exact True.intro
 | @cons p q ps qs h t ih =>
  obtain ⟨h1,_,h2⟩:=h
  by_cases e:p.1=k
  ·have e':q.1=k:=h1.symm.trans e
   have b:atKey (q :: qs) k=some q.2:=by simp [atKey,Z8,e']
   rw [hR e,b];exact h2
  ·have e':¬ q.1=k:=fun z=>e (h1.trans z)
   have b:atKey (q :: qs) k=atKey qs k:=by simp [atKey,Z8,e']
   rw [kY e,b];exact ih
theorem KT.repl {H:Hp} {kvs:List (List Key×V)} {xs:List (List Key×Addr×Value)} (r:KT H kvs xs) (k:List Key) {y:V} {u:Value} (ry:RelV y u) :
  KT H (kvs.map fun kv=>if kv.1=k then (kv.1,y) else kv) (xs.map (putAt k u)):=by
 induction r with
 | nil=>exact .nil
 | @cons p q ps qs h t ih =>
  rw [Zn,Zn]
  refine .cons ?_ ih
  obtain ⟨h1,h2,h3⟩:=h
  unfold putAt
  by_cases e:p.1=k
  ·rw [Zq e,Zq (h1.symm.trans e)];exact ⟨h1,h2,ry⟩
  ·rw [Zo e,Zo (fun z=>e (h1.trans z))];exact ⟨h1,h2,h3⟩
theorem KT.put {H:Hp} {kvs:List (List Key×V)} {xs:List (List Key×Addr×Value)} (r:KT H kvs xs) (k:List Key) {b:Addr} {y:V} {u:Value} (hb:H b=some (.tup (k.map kV))) (ry:RelV y u) :
  KT H (putK kvs k y) (storedH xs k b u):=by
 have e:(kvs.any fun kv=>decide (kv.1=k))=(atKey xs k).isSome:=by
  rw [nW,(r.val k).isSome_eq,Yo]
 unfold putK storedH
 rw [e]
 by_cases q:(atKey xs k).isSome=true
 ·rw [Zq q,Zq q];exact r.repl k ry
 ·rw [Zo q,Zo q];exact Paired.snoc r ⟨rfl,hb,ry⟩
theorem KT.keeps {H H':Hp} {kvs:List (List Key×V)} {xs:List (List Key×Addr×Value)} (r:KT H kvs xs) (ht:∀ b ys,H b=some (.tup ys)->H' b=some (.tup ys)):KT H' kvs xs :=
 Paired.mapP r fun _ _ z=>⟨z.1,ht _ _ z.2.1,z.2.2⟩
section
variable {P:Program} {w:World} {H:Hp} {h:Heap} {a:Addr}
theorem ze {u:HO} (ok:HOk P w H h) (e:Rd H a u):cq P w H h a u:=e.ok ok
theorem j5 {kvs:List (Key×V)} (ok:HOk P w H h) (e:Rd H a (.dK kvs)):kvs.length<=sizeLine/\(a == sysModules)=false/\∃ vs,KV kvs vs/\h.DictOf (bB P w) a vs :=
 show cq P w H h a (.dK kvs) from ze ok e
theorem oG {kvs:List (Key×V)} (ok:HOk P w H h) (e:H a=some (.dK kvs)):kvs.length<=sizeLine/\(a == sysModules)=false/\∃ vs,KV kvs vs/\h.DictOf (bB P w) a vs:=j5 ok (.inl e)
theorem dG {ks:List Key} (ok:HOk P w H h) (e:H a=some (.tup (ks.map kV))):(tupleKind (bB P w)).is h ks a:=by
 obtain ⟨_,its,r,_,o,h1,h2,n,h3⟩:=(show cq P w H h a (.tup (ks.map kV)) from ok a _ e)
 exact ⟨o,its.toArray,n,h1,h2,h3,by simpa using mU r⟩
theorem lL {kvs:List (List Key×V)} (ok:HOk P w H h) (e:Rd H a (.dT kvs)):kvs.length<=sizeLine/\(a == sysModules)=false ∧
  ∃ xs,KT H kvs xs/\h.DictOfH (tupleKind (bB P w)) a xs:=by
 obtain ⟨z,y,xs,r,o,es,ep,h1,h2,h3,h4,h5⟩:=(show cq P w H h a (.dT kvs) from ze ok e)
 refine ⟨z,y,xs,r,o,es,ep,h1,h2,h3,h4,fun x hx=>?_,h5⟩
 have all:∀ {l:List (List Key×V)} {m:List (List Key×Addr×Value)},KT H l m->∀ x∈m,(tupleKind (bB P w)).is h x.1 x.2.1:=by
  intro l m q
  induction q with
  | nil=>intro x hx;exact nomatch hx
  | @cons p q ps qs hq t ih =>
   intro x hx
   rcases Zg.mp hx with e | hx
   ·subst e
    exact dG ok (by rw [← hq.1];exact hq.2.1)
   ·exact ih x hx
 exact all r x hx
theorem CW {kvs:List (List Key×V)} (ok:HOk P w H h) (e:H a=some (.dT kvs)):kvs.length<=sizeLine/\(a == sysModules)=false ∧
  ∃ xs,KT H kvs xs/\h.DictOfH (tupleKind (bB P w)) a xs:=lL ok (.inl e)
end
noncomputable def fY (H:Hp) (a:Addr) (y:V) (r:Option V):Prop :=
 (∃ kvs k,Rd H a (.dK kvs)/\y=kV k/\r=fN kvs k)\/∃ kvs k b,Rd H a (.dT kvs)/\y=.ref b/\H b=some (.tup (k.map kV))/\r=fN kvs k
noncomputable def pK (H:Hp) (a:Addr) (y v:V) (H':Hp):Prop :=
 (∃ kvs k,H a=some (.dK kvs)/\y=kV k/\kvs.length < sizeLine/\H'=upd H a (.dK (putK kvs k v))) ∨
 ∃ kvs k b,H a=some (.dT kvs)/\y=.ref b/\H b=some (.tup (k.map kV))/\kvs.length < sizeLine/\H'=upd H a (.dT (putK kvs k v))
theorem fY.k {H:Hp} {a:Addr} {kvs:List (Key×V)} {k:Key} (e:H a=some (.dK kvs)):fY H a (kV k) (fN kvs k):=.inl ⟨kvs,k,.inl e,rfl,rfl⟩
theorem pK.k {H:Hp} {a:Addr} {kvs:List (Key×V)} {k:Key} {v:V} (e:H a=some (.dK kvs)) (hl:kvs.length < sizeLine):pK H a (kV k) v (upd H a (.dK (putK kvs k v))):=.inl ⟨kvs,k,e,rfl,hl,rfl⟩
section
variable {X:Cx} {pins:Wv} {σ:St} {H:Hp} {s:Shared} {a:Addr} {y v:V} {u r:Value} {o:Option V} {A:Around} {E:Ww}
theorem Inv.big (I:Inv X pins σ H s):sysModules < s.heap.objs.size:=by
 have h:mainGlobals < s.heap.objs.size:=(I.mod.glob.keeps I.bk).lt
 exact Nat.lt_trans (by decide) h
theorem sy {Q:Ww} (hu:A.units+1 < cLine) (I:Inv X pins σ H s) (g:fY H a y (some v)) (ry:RelV y u) (h:∀ w' s',Inv X pins σ H s'->RelV v w'->Q w' s') :
  wpAny (model X.prog X.w) A (getItem (.ref a) u) Q E s:=by
 rcases g with ⟨kvs,k,e,ey,l⟩ | ⟨kvs,k,b,e,ey,eb,l⟩
 ·subst ey
  obtain ⟨z,hd,vs,rel,dd⟩:=j5 I.hok e
  obtain ⟨w',hw,rw'⟩:=gQ.some_of (v:=v) (o:=valueAt vs k) (by rw [l];exact rel.val k)
  exact wpAny_getItem_of (kz ry) dd.mapOf hw (h w' _ (I.tok _) rw')
 ·subst ey
  cases (show u=Value.ref b from ry)
  obtain ⟨z,hd,xs,rel,dd⟩:=lL I.hok e
  obtain ⟨w',hw,rw'⟩:=gQ.some_of (v:=v) (o:=(atKey xs k).map (·.2)) (by rw [l];exact rel.val k)
  obtain ⟨p,hp,hp2⟩:=Zu.mp hw
  refine wpAny_getItem_heap (Y7 hu) (dG I.hok eb) dd hp ?_
  rw [hp2]
  exact h w' _ (I.tok _) rw'
theorem Dz {Q:Ww} (hu:A.units+1 < cLine) (I:Inv X pins σ H s) (g:fY H a y o) (ry:RelV y u) (h:∀ s',Inv X pins σ H s'->Q (.bool o.isSome) s') :
  wpAny (model X.prog X.w) A (compareOp .In u (.ref a)) Q E s:=by
 rcases g with ⟨kvs,k,e,ey,l⟩ | ⟨kvs,k,b,e,ey,eb,l⟩
 ·subst ey
  obtain ⟨z,hd,vs,rel,dd⟩:=j5 I.hok e
  refine wpAny_in_of (kz ry) hd dd.mapOf ?_
  rw [← (rel.val k).isSome_eq,← l]
  exact h _ (I.tok _)
 ·subst ey
  cases (show u=Value.ref b from ry)
  obtain ⟨z,hd,xs,rel,dd⟩:=lL I.hok e
  refine wpAny_in_heap (Y7 hu) (dG I.hok eb) hd dd ?_
  have q:=(rel.val k).isSome_eq
  rw [Yo] at q
  rw [← q,← l]
  exact h _ (I.tok _)
theorem yz {Q:Ww} (hu:A.units+1 < cLine) (I:Inv X pins σ H s) (g:fY H a y o) (ry:RelV y u) (h:∀ s',Inv X pins σ H s'->Q (.bool (!o.isSome)) s') :
  wpAny (model X.prog X.w) A (compareOp .NotIn u (.ref a)) Q E s:=by
 rcases g with ⟨kvs,k,e,ey,l⟩ | ⟨kvs,k,b,e,ey,eb,l⟩
 ·subst ey
  obtain ⟨z,hd,vs,rel,dd⟩:=j5 I.hok e
  refine wpAny_notIn_of (kz ry) hd dd.mapOf ?_
  rw [← (rel.val k).isSome_eq,← l]
  exact h _ (I.tok _)
 ·subst ey
  cases (show u=Value.ref b from ry)
  obtain ⟨z,hd,xs,rel,dd⟩:=lL I.hok e
  refine wpAny_notIn_heap (Y7 hu) (dG I.hok eb) hd dd ?_
  have q:=(rel.val k).isSome_eq
  rw [Yo] at q
  rw [← q,← l]
  exact h _ (I.tok _)
theorem ki {h':Heap} {t':Nat} {ob:HO} (I:Inv X pins σ H s) (mu:Mut (H a)) (hs:Heap.SameBut a s.heap h') (he:∃ q,h'.get? a=some q) (new:cq X.prog X.w (upd H a ob) h' a ob) :
  Inv X pins σ (upd H a ob) { s with heap:=h',toks:=t' } :=
 I.write (x:=a) (e:=a) mu (.inl rfl) (fun b q hb z=>(hs.2 b hb).trans z) he new
theorem pZ {P:Program} {w:World} {H':Hp} {h':Heap} {kvs:List (Key×V)} {vs:List (Key×Value)} (z:kvs.length<=sizeLine) (hd:(a == sysModules)=false) (rel:KV kvs vs) (dd:h'.DictOf (bB P w) a vs) :
  cq P w H' h' a (.dK kvs):=⟨z,hd,vs,rel,dd⟩
theorem rZ {H':Hp} {Q:Unit->Shared->Prop} (hu:A.units+1 < cLine) (I:Inv X pins σ H s) (g:pK H a y v H') (ry:RelV y u) (rv:RelV v r) (h:∀ s',Inv X pins σ H' s'->Q () s') :
  wpAny (model X.prog X.w) A (setItem (.ref a) u r) Q E s:=by
 rcases g with ⟨kvs,k,e,ey,l,eH⟩ | ⟨kvs,k,b,e,ey,eb,l,eH⟩
 ·subst ey eH
  obtain ⟨z,hd,vs,rel,dd⟩:=oG I.hok e
  have hz:vs.length<=sizeLine:=by rw [← rel.length];exact z
  have hl:(putK kvs k v).length<=sizeLine:=by have:=gS kvs k v;lia
  refine wpAny_setItem_pairs (hsz:=hz) (kz ry) dd fun h' dd' hs=>h _ ?_
  have he:∃ q,h'.get? a=some q:=let ⟨q,_,_,hq,_⟩:=dd';⟨q,hq⟩
  exact ki I (by rw [e];exact True.intro) hs he (pZ hl hd (rel.put k rv) dd')
 ·subst ey eH
  cases (show u=Value.ref b from ry)
  obtain ⟨z,hd,xs,rel,dd⟩:=CW I.hok e
  have hz:xs.length<=sizeLine:=by rw [← Y4 rel];exact z
  have hl:(putK kvs k v).length<=sizeLine:=by have:=gS kvs k v;lia
  refine wpAny_setItem_heap (hsz:=hz) (Y7 hu) (dG I.hok eb) dd fun h' dd' hs=>h _ ?_
  obtain ⟨q,es,ep,hq,h2,h3,h4,_,h5⟩:=dd'
  refine ki I (by rw [e];exact True.intro) hs ⟨q,hq⟩ ⟨hl,hd,_,(rel.put k eb rv).keeps fun c ys ec=>?_,q,es,ep,hq,h2,h3,h4,h5⟩
  rw [aG (B4 ec e (fun z=>nomatch z))]
  exact ec
end
section
variable {X:Cx} {pins:Wv} {σ:St} {H:Hp} {s:Shared} {a:Addr} {kvs:List (Key×V)} {k:Key} {u:Value} {A:Around} {E:Ww}
theorem Do {Q:Ww} (I:Inv X pins σ H s) (e:Rd H a (.dK kvs)) (h:∀ t s',Inv X pins σ H s'->Q (.int kvs.length t) s'):wpAny (model X.prog X.w) A (call (.builtin "len") [.ref a]) Q E s:=by
 obtain ⟨z,hd,vs,rel,dd⟩:=j5 I.hok e
 refine call_len_dict hd dd (by rw [← rel.length];rw [Y9] at z;lia) ?_
 rw [← rel.length]
 exact h _ _ (I.tok _)
end
theorem pb {X:Cx} {pins:Wv} {σ:St} {H:Hp} {s:Shared} {a:Addr} {y:V} {o:Option V} (I:Inv X pins σ H s) (g:fY H a y o):s.TypeIs (.ref a) "dict" := by
 rcases g with ⟨kvs,k,e,_,_⟩ | ⟨kvs,k,b,e,_,_,_⟩
 ·obtain ⟨_,_,vs,_,dd⟩:=j5 I.hok e
  exact dd.typeIs
 ·obtain ⟨_,_,xs,_,dd⟩:=lL I.hok e
  exact dd.typeIs
theorem oa {P:Program} {w:World} {H:Hp} (h:Heap) (hb:sysModules < h.objs.size):cq P w H (h.push { cls:=.type "dict",data:=.dict #[] }) h.objs.size (.dK []) :=
 ⟨Yk _,ZV.mpr (YV (ZQ hb)),[],.nil,Heap.DictOf.new h⟩
noncomputable def AM:TE:=fun _ H Q=>∀ p,H p=none->Q (.ref p) (upd H p (.dK []))
section
variable {X:Cx} {pos:Pos}
theorem tP:PE X (.Dict [] [] pos) AM:=fun pins s σ H Q I h =>
 wpAny_Dict_empty ⟨.ref s.heap.objs.size,_,I.laid (a:=s.heap.objs.size) (o:=.dK []) (t':=s.toks) (fun _ _ q=>Zi _ q) (Zl _) (oa s.heap I.big),rfl,h _ (I.hok.fresh (Zl _))⟩
end
noncomputable def pX:List (TE×TE)->St->Hp->(List (V×V)->Hp->Prop)->Prop
 | [],_,H,Q=>Q [] H
 | (tk,tv) :: r,σ,H,Q=>tk σ H fun x H1=>tv σ H1 fun y H2=>pX r σ H2 fun ps H3=>Q ((x,y) :: ps) H3
noncomputable abbrev VV:List (V×V)->List (Value×Value)->Prop:=Paired fun p q=>RelV p.1 q.1/\RelV p.2 q.2
noncomputable def PPs (X:Cx) (pos:Pos) (keys:List (Option Expr)) (values:List Expr) (trs:List (TE×TE)):Prop :=
 ∀ (pins:Wv) (s:Shared) (σ:St) (H:Hp) (Q:List (V×V)->Hp->Prop),Inv X pins σ H s->pX trs σ H Q →
  wpAny (model X.prog X.w) X.A (evalPairs (pairTrees keys values X.env pos)) (fun vs s'=>∃ ps H',Inv X pins σ H' s'/\VV ps vs/\Q ps H') X.xe s
theorem rn {X:Cx} {pos:Pos}:PPs X pos [] [] []:=fun pins s σ H Q I h=>pairTrees_nil_walk ⟨[],H,I,.nil,h⟩
theorem oH {X:Cx} {pos:Pos} {k v:Expr} {ks:List (Option Expr)} {vs:List Expr} {tk tv:TE} {trs:List (TE×TE)} (hk:PE X k tk) (hv:PE X v tv) (hr:PPs X pos ks vs trs) :
  PPs X pos (some k :: ks) (v :: vs) ((tk,tv) :: trs):=fun pins s σ H Q I h =>
 pairTrees_cons_walk (thn (hk pins s σ H _ I h) fun u s1 ⟨x,H1,I1,rx,q1⟩=>thn (hv pins s1 σ H1 _ I1 q1) fun w2 s2 ⟨y,H2,I2,ry,q2⟩ =>
  thn (hr pins s2 σ H2 _ I2 q2) fun ws s3 ⟨ps,H3,I3,rel,q3⟩=>⟨(x,y) :: ps,H3,I3,.cons ⟨rx,ry⟩ rel,q3⟩)
noncomputable def kK (kvs more:List (Key×V)):List (Key×V):=more.foldl (fun acc kv=>putK acc kv.1 kv.2) kvs
theorem KV.merge:∀ {more:List (Key×V)} {rs:List (Key×Value)} {kvs:List (Key×V)} {vs:List (Key×Value)},KV more rs->KV kvs vs->KV (kK kvs more) (merged vs rs):=by
 intro more rs kvs vs r
 unfold KV at r
 induction r generalizing kvs vs with
 | nil=>intro q;exact q
 | @cons p q ps qs h t ih =>
  intro r0
  have e:KV (putK kvs p.1 p.2) (stored vs q.1 q.2):=by
   have:=r0.put p.1 h.2
   rw [← h.1];exact this
  exact ih e
theorem iA:∀ (more kvs:List (Key×V)),(kK kvs more).length<=kvs.length+more.length
 | [],kvs=>by show kvs.length<=kvs.length+0;exact YF _ _
 | p :: r,kvs=>by
  have h1:=iA r (putK kvs p.1 p.2)
  have h2:=gS kvs p.1 p.2
  show (kK (putK kvs p.1 p.2) r).length<=_
  rw [Zk];lia
theorem kJ {P:Program} {w:World}:∀ {kvs:List (Key×V)} {ws:List (Value×Value)},VV (kvs.map fun kv=>(kV kv.1,kv.2)) ws->∃ rs,Carries (bB P w) ws rs/\KV kvs rs
 | [],_,r=>by rw [List.map_nil] at r;cases r;exact ⟨[],True.intro,.nil⟩
 | p :: kvs,_,r=>by
  rw [Zn] at r
  cases r with
  | @cons a b as bs h t =>
   obtain ⟨rs,c,q⟩:=kJ (P:=P) (w:=w) t
   obtain ⟨b1,b2⟩:=b
   exact ⟨(p.1,b2) :: rs,⟨kz h.1,rfl,c⟩,.cons ⟨rfl,h.2⟩ q⟩
noncomputable def De (trs:List (TE×TE)):TE:=fun σ H Q=>∀ p,H p=none->pX trs σ (upd H p (.dK [])) fun ps H2=>H2 p=some (.dK [])/\∃ kvs:List (Key×V),ps=kvs.map (fun kv=>(kV kv.1,kv.2))/\kvs.length<=15/\Q (.ref p) (upd H2 p (.dK (kK [] kvs)))
theorem rB {X:Cx} {pos:Pos} {keys:List (Option Expr)} {values:List Expr} {trs:List (TE×TE)} (h:PPs X pos keys values trs) (hall:keys.all (·.isSome)=true) (hl:keys.length=values.length) (h0:keys ≠ [])
  (h15:keys.length<=15):PE X (.Dict keys values pos) (De trs):=by
 intro pins s σ H Q I q
 have hn:=I.hok.fresh (Zl s.heap.objs.size)
 have I1:=I.laid (a:=s.heap.objs.size) (o:=.dK []) (h':=s.heap.push { cls:=.type "dict",data:=.dict #[] }) (t':=s.toks) (fun _ _ q=>Zi _ q) (Zl _) (oa s.heap I.big)
 refine wpAny_Dict_walk (knd:=bB X.prog X.w) hall hl h0 h15 (thn (h pins _ σ _ _ I1 (q _ hn)) fun ws s2 ⟨ps,H2,I2,rel,e,kvs,ep,lk,q2⟩=>?_)
 subst ep
 obtain ⟨rs,c,rk⟩:=kJ (P:=X.prog) (w:=X.w) rel
 obtain ⟨z,hd,vs0,r0,dd⟩:=oG I2.hok e
 cases r0
 refine ⟨rs,c,dd,fun h' dd' hs=>⟨.ref s.heap.objs.size,_,?_,rfl,q2⟩⟩
 have hz:(kK [] kvs).length<=sizeLine:=by
  have h1:=iA kvs []
  rw [Xb] at h1
  rw [Y9];lia
 have he:∃ q,h'.get? s.heap.objs.size=some q:=let ⟨q,_,_,hq,_⟩:=dd';⟨q,hq⟩
 exact ki I2 (by rw [e];exact True.intro) hs he (pZ hz hd (rk.merge .nil) dd')
structure M1 (X:Cx) (o:Expr) (m:Str) (apos:Pos) (e:Expr) (cpos:Pos):Prop where
 base:attributeBase o m X.env (eval o X.env)=eval o X.env
 few:((backTo cpos (starEach [e] X.env)).all (fun x=>!x.1) && (backToKw cpos (keywordEach [] X.env)).all (fun x=>x.1.isSome)
  && decide (([e]:List Expr).length+([]:List Keyword).length+(if ([]:List Keyword).isEmpty then 0 else 1) < 30))=true
 line:(apos.endLine == cpos.line)=true
 trees:backTo cpos (starEach [e] X.env)=[(false,eval e X.env)]
noncomputable def IsD (H:Hp) (a:Addr):Prop:=(∃ kvs,Rd H a (.dK kvs))\/∃ kvs,Rd H a (.dT kvs)
theorem By {X:Cx} {pins:Wv} {σ:St} {H:Hp} {s:Shared} {a:Addr} (I:Inv X pins σ H s) (d:IsD H a) :
  s.TypeIs (.ref a) "dict" ∧ (∀ b,Value.ref a=.ref b->∃ ob,s.heap.get? b=some ob/\ob.dict=none)/\(a == sysModules)=false:=by
 rcases d with ⟨kvs,e⟩ | ⟨kvs,e⟩
 ·obtain ⟨_,hd,vs,_,dd⟩:=j5 I.hok e
  refine ⟨dd.typeIs,fun b q=>?_,hd⟩
  cases q
  obtain ⟨ob,_,_,h1,h2,_⟩:=dd
  exact ⟨ob,h1,h2.2.1⟩
 ·obtain ⟨_,hd,xs,_,dd⟩:=lL I.hok e
  refine ⟨dd.typeIs,fun b q=>?_,hd⟩
  cases q
  obtain ⟨ob,_,_,h1,h2,_⟩:=dd
  exact ⟨ob,h1,h2.2.1⟩
section
variable {X:Cx} {pins:Wv} {σ:St} {H:Hp} {s:Shared} {a:Addr} {y d:V} {u r:Value} {o:Option V} {A:Around} {E:Ww}
theorem BM {Q:Ww} (hu:A.units+1 < cLine) (I:Inv X pins σ H s) (g:fY H a y o) (ry:RelV y u) (h:∀ w' s',Inv X pins σ H s'->RelV (o.getD .non) w'->Q w' s') :
  wpAny (model X.prog X.w) A (call (.builtin "dict.get") [.ref a,u]) Q E s:=by
 rcases g with ⟨kvs,k,e,ey,l⟩ | ⟨kvs,k,b,e,ey,eb,l⟩
 ·subst ey
  obtain ⟨z,hd,vs,rel,dd⟩:=j5 I.hok e
  refine call_meetsIn XZ dd.typeIs PySem.F.entry_dict_get (PySem.F.args_dict_get_2 _ _) (meets_dict_get (bB X.prog X.w) a (kz ry) hd) ⟨_,dd.mapOf,h _ _ (I.tok _) ?_⟩
  rw [l]
  exact (rel.val k).getD rfl
 ·subst ey
  cases (show u=Value.ref b from ry)
  obtain ⟨z,hd,xs,rel,dd⟩:=lL I.hok e
  refine call_meetsIn XZ dd.typeIs PySem.F.entry_dict_get (PySem.F.args_dict_get_2 _ _) (meetsH_dict_get (tupleKind (bB X.prog X.w)) a b hd) ⟨Y7 hu,k,xs,dG I.hok eb,dd,h _ _ (I.tok _) ?_⟩
  rw [l]
  exact (rel.val k).getD rfl
end
noncomputable def Ay (td ty:TE):TE:=fun σ H Q=>td σ H fun x H1=>∃ a,x=.ref a/\IsD H1 a/\ty σ H1 fun y H2=>∃ o,fY H2 a y o/\Q (o.getD .non) H2
section
variable {X:Cx} {o e f:Expr} {apos cpos:Pos} {td ty tx:TE}
theorem vk (hu:X.A.units+1 < cLine) (ho:PE X o td) (he:PE X e ty) (m:M1 X o "get" apos e cpos):PE X (.Call (.Attribute o "get" apos) [e] [] cpos) (Ay td ty):=by
 intro pins s σ H Q I h
 refine wpAny_Call_method m.base m.few m.line PySem.F.plainAttrs_dict XZ PySem.F.type_dict_get (thn (ho pins s σ H _ I h) fun u s1 ⟨x,H1,I1,rx,a,ex,d,q1⟩=>?_)
 subst ex
 obtain rfl:u=Value.ref a:=rx
 obtain ⟨t1,t2,_⟩:=By I1 d
 refine ⟨t1,t2,?_⟩
 rw [m.trees]
 refine Calls.callWith_builtin rfl (Calls.evalArgs_plain (Calls.spliced_cons (thn (he pins s1 σ H1 _ I1 q1) fun iv s2 ⟨y,H2,I2,ry,ov,g,q2⟩=>Calls.spliced_nil ?_)))
 exact BM hu I2 g ry fun w' s3 I3 rw'=>⟨_,H2,I3,rw',q2⟩
end
end L2
namespace Att
open PySem PySem.W PySem.Calls PyProof.Rows
theorem ke {P:Params} {h:Heap}:∀ (ns:Wm) (vs:Wq),WellAll P h vs (ns.map WData.int)->IntsAre vs ns:=by
 intro ns
 induction ns with
 | nil =>
  intro vs w
  rw [List.map_nil] at w
  cases w
  exact .nil
 | cons n ns ih =>
  intro vs w
  rw [Zn] at w
  cases w with
  | cons a b =>
   cases a
   exact .cons _ _ (ih _ b)
theorem sO {l:OpenLaw} {n:Nat} (hn:l.most=some n) {P:Params} {h:Heap} {args:List WData} {vals:Wq}
  (hpre:l.row.toRowW.claim.pre args=true) (hwl:WellAll P h vals args) :
  ∃ a vs ns,vals=[Value.ref a]/\args=[WData.list (ns.map WData.int)]/\h.get? a=some { cls:=.type "list",data:=.seq vs.toArray }/\IntsAre vs ns/\ns.length<=n:=by
 have hsh:WShape.hasAll [] args [.list .int]=true:=(pre_splitW hpre).1
 have hc:l.pre.holds [] { args:=args }=true:=(pre_splitW hpre).2
 obtain ⟨d,r,rfl,h1,h2⟩:=hasAllW_cons hsh
 obtain rfl:=hasAllW_nil h2
 obtain ⟨xs,rfl,h3⟩:=hasW_list h1
 obtain ⟨ns,rfl⟩:=items_int h3
 have hlen:ns.length<=n:=by
  unfold OpenLaw.pre at hc
  have h4:(WTm.not (.lt (.lit (.int (n:Int))) (.len (.arg 0)))).holds [] { args:=[.list (ns.map .int)] }=true:=by
   have h4:=(holds_andW hc).1
   rw [hn] at h4
   exact h4
  have h5:=condW_of h4 (w_not (w_lt w_lit (w_len_list (w_arg rfl))))
  rw [Zy] at h5
  refine ZJ fun q=>?_
  have q':(n:Int) < ((ns.length:Nat):Int):=by omega
  first
   | (rw [decide_eq_true q'] at h5;exact absurd h5 (by decide))
   | (simp at h5;omega)
 cases hwl with
 | cons w1 w2 =>
  cases w2
  cases w1 with
  | list ho hall=>exact ⟨_,_,ns,rfl,rfl,ho,ke ns _ hall,hlen⟩
theorem rU (l:OpenLaw) (args:List WData):l.row.toRowW.claim.post args (.bool true) args=true :=
 postW_of (r:=l.row.toRowW) (X:=(true == true))
  (show WShape.has [] (.bool true) .bool=true by first | rfl | decide | simp [WShape.has,WShape.arms,WShape.armsAll])
  (show (WTm.eq .res (.lit (.bool true))).value [] { args:=args,res:=some (.bool true),after:=args }=some (.bool (true == true)) from w_eq_bool (w_res rfl) w_lit) rfl
theorem ou {l:OpenLaw} {n:Nat} {q:Program} {loose:List Str} {XP:(Ws)->Heap->Prop} {YP:World->Heap->Prop} {d:DefRec}
  (hn:l.most=some n) (hdf:d.params.defaults=[])
  (call:∀ (w:World) (s₀ s₁:Shared) (mg mb:Ws) (fa:Addr) (o:Obj) (pm cd doc:Value) (a:Addr) (vs:Wq) (ns:Wm),
   Ground q loose [] XP w s₀ mg mb s₁.heap->YP w s₁.heap →
   s₁.heap.get? fa=some o->o.data=.func (docDef d.name d.params d.body d.scope pm cd doc)->s₁.heap.CodeRec cd d.name->mg d.name=some (.ref fa) →
   s₁.heap.get? a=some { cls:=.type "list",data:=.seq vs.toArray }->IntsAre vs ns->ns.length<=n->s₁.gens=#[] →
   codeAny (model l.prog w) callerA (.call (.ref fa) ⟨[.ref a],[]⟩) (fun r s'=>r=.ok (.ret (.bool true))/\OldK s₁.heap s'.heap/\s'.os=s₁.os/\AllBare s'.gens) s₁) :
  WalkO q loose XP YP l.row.toRowW d [] (fun f vs=>PySem.call f vs):=by
 intro w s₀ s₁ mg mb G Y fa o pm cd doc dV kV ho hd hcd hD hmg hg args vals as hpre hlay hrd hwl hlo
 obtain rfl:dV=.none:=Dflts.none hD hdf
 obtain rfl:kV=.none:=Dflts.noKw hD
 obtain ⟨a,vs,ns,rfl,rfl,hobj,hints,hlen⟩:=sO hn hpre hwl
 refine enter_call (codeAny_mono (call w s₀ s₁ mg mb fa o pm cd doc a vs ns G Y ho (fd_plain hd) hcd hmg hobj hints hlen hg) fun r s' hq=>?_)
 obtain ⟨rfl,h2,h3,h4⟩:=hq
 exact ⟨.inl ⟨.bool true,.bool true,[],rfl,fun _=>rfl,.bool true,rU l _,fun _=>⟨List.Pairwise.nil,fun _ hm=>(nomatch hm)⟩⟩,h2,h3,h4⟩
end Att
namespace L2
open PySem PySem.Spec PyProof.Rows
theorem mD:∀ {vs:Wq} {ns:Wm},IntsAre vs ns->aO (ns.map V.int) vs
 | _,_,.nil=>.nil
 | _,_,.cons n t h=>.cons ⟨t,rfl⟩ (mD h)
noncomputable def tW (H:Hp):Prop:=∀ b,H b=none\/∃ o xs,H b=some (.frz o (.lst xs))
theorem uk {P:Program} {w:World} {K:Wt} {mg mb:Ws} {CX:CXT} {k:Nat} {fa a:Addr} {fd:FuncData} {x:Str} {sp:Sp} {s₁:Shared} {vs:Wq} {ns:Wm}
  (KX:K.In s₁.heap) (hns:s₁.heap.Ns mainGlobals mg) (hb:s₁.heap.Ns builtinsNs mb) (hbb:∀ x:Str,x ≠ "__name__" → mb x=bootBuiltins x) (hlim:s₁.heap.NoLimit) (hg:s₁.gens=#[])
  (ha:s₁.heap.get? a=some { cls:=.type "list",data:=.seq vs.toArray }) (hi:IntsAre vs ns) (hl:ns.length<=sizeLine) (hr:Room k callerA)
  (F:∀ base:Heap,K.In base->base.Ns mainGlobals mg->FnOk P w K mg base CX k fa fd [x] sp) (hbind:∀ (s:Shared) (u:Value),BindsTo s fd ⟨[u],[]⟩ [(x,u)])
  (hsp:∀ H:Hp,tW H->SqL K H a (ns.map V.int)->sp [.ref a] H (fun v _=>v=.bl true) fun _ _ _=>False)
  (hCX:∀ H e s',CX [] H s₁ (fun _ _ _=>False) e s'->False) :
  codeAny (model P w) callerA (.call (.ref fa) ⟨[.ref a],[]⟩) (fun r s'=>r=.ok (.ret (.bool true))/\OldK s₁.heap s'.heap/\s'.os=s₁.os/\AllBare s'.gens) s₁:=by
 have rv:=mD hi
 have lenV:=hi.length
 have core:∀ H:Hp,tW H->SqL K H a (ns.map V.int)->HOk P w H s₁.heap->(∀ b,H b ≠ none->b=a)->(H a ≠ none->K.lookup a=none) →
   codeAny (model P w) callerA (.call (.ref fa) ⟨[.ref a],[]⟩) (fun r s'=>r=.ok (.ret (.bool true))/\OldK s₁.heap s'.heap/\s'.os=s₁.os/\AllBare s'.gens) s₁:=by
  intro H hO hS hok hA hK
  have base_of:∀ {b:Addr} {o:Obj},s₁.heap.get? b=some o->H b=none->(mY s₁.heap H).get? b=some o:=fun e n=>tK e n
  have noA:∀ {b:Addr} {o:Obj} {es:Array DictEntry} {ep:Nat},s₁.heap.get? b=some o->o.data=.dict es ep->H b=none:=fun {b o es ep} e d=>by
   cases q:H b with
   | none=>rfl
   | some u =>
    have e':b=a:=hA b (by rw [q];simp)
    subst e'
    rw [ha] at e;cases e
    have d':Data.seq vs.toArray _=Data.dict es ep:=d
    cases d'
  have nsK:∀ {b:Addr} {m:Ws},s₁.heap.Ns b m->(mY s₁.heap H).Ns b m:=fun {b m} ⟨o,es,ep,e,d,r⟩=>⟨o,es,ep,base_of e (noA e d),d,r⟩
  have hKb:K.In (mY s₁.heap H):=fun b o e=>base_of (KX b o e) (by
   cases q:H b with
   | none=>rfl
   | some u =>
    have e':b=a:=hA b (by rw [q];simp)
    subst e'
    rw [hK (by rw [q];simp)] at e;cases e)
  have hM:Mod K mg (mY s₁.heap H):=⟨hKb,nsK hns,⟨mb,nsK hb,hbb⟩,let ⟨mc,h1,h2⟩:=hlim;⟨mc,nsK h1,h2⟩⟩
  have e0:Env0 P w K mg (mY s₁.heap H) callerA [] s₁ H:=⟨rfl,hM,fun b o e=>xh e,Xq (rT _ _),trivial,fun b hb=>absurd (show b∈([]:Wr) from hb) (by simp),hok,.of_eq hg⟩
  refine codeAny_mono ((F _ hKb (nsK hns)).run callerA [] s₁ H ⟨[.ref a],[]⟩ [.ref a] [.ref a] _ _ hr e0 (hbind s₁ (.ref a)) (.cons rfl .nil) (hsp H hO hS)) fun r s' h=>?_
  cases r with
  | error e=>exact (hCX H e s' h).elim
  | ok fl =>
   cases fl with
   | next=>exact False.elim h
   | brk=>exact False.elim h
   | cont=>exact False.elim h
   | ret u =>
    obtain ⟨v,H',os,bare,un,hok',r',q⟩:=h
    have q':v=.bl true:=q
    subst q'
    obtain rfl:u=Value.bool true:=r'
    refine ⟨rfl,OldK.of_keep fun b o e=>?_,os,bare⟩
    cases q:H b with
    | none=>exact un.keep b o e q (by intro z;exact absurd (show b∈([]:Wr) from z) (by simp)) (by simp)
    | some u =>
     rcases hO b with z | ⟨ob,xs,z⟩
     ·rw [q] at z;cases z
     ·have z2:=un.frzs b ob _ z
      obtain ⟨e1,_⟩:=hok b _ z
      obtain ⟨e2,_⟩:=hok' b _ z2
      rw [e] at e1;cases e1
      exact e2
 cases hk:K.lookup a with
 | some o =>
  have e:=KX a o hk
  rw [ha] at e
  cases e
  refine core (fun _=>none) (fun _=>.inl rfl) (.inr ⟨_,vs.toArray,_,hk,rfl,rfl,rfl,by rw [Za,lenV];exact hl,by simpa using rv⟩) (fun b u z=>by have z':(none:Option HO)=some u:=z;cases z') (fun b z=>absurd rfl z) fun z=>absurd rfl z
 | none =>
  refine core (fun b=>if b=a then some (.frz { cls:=.type "list",data:=.seq vs.toArray } (.lst (ns.map V.int))) else none) (fun b=>?_) (.inl (.inr ⟨{ cls:=.type "list",data:=.seq vs.toArray },Zq rfl⟩)) (fun b u z=>?_) (fun b z=>?_) fun _=>hk
  ·by_cases hb:b=a
   ·exact .inr ⟨_,_,Zq hb⟩
   ·exact .inl (Zo hb)
  ·by_cases hb:b=a
   ·have z':=(Zq hb).symm.trans z
    cases z'
    subst hb
    exact ⟨ha,by rw [Zy];exact hl,vs,_,rv,ha⟩
   ·have z':=(Zo hb).symm.trans z
    cases z'
  ·by_cases hb:b=a
   ·exact hb
   ·exact absurd (Zo hb) z
theorem yx {l:PySem.W.OpenLaw} {n k:Nat} {q:Program} {loose:List Str} {XP:(Ws)->Heap->Prop} {YP:World->Heap->Prop} {d:DefRec} {K:Params->Wt} {CX:World->CXT} {sp:World->Sp} {x:Str}
  (hn:l.most=some n) (hn2:n<=sizeLine) (hdf:d.params.defaults=[]) (hr:Room k callerA)
  (hY:∀ (w:World) (h:Heap),YP w h->(K w.params).In h)
  (F:∀ (w:World) (mg:Ws) (fa:Addr) (h:Heap),(K w.params).In h->h.Ns mainGlobals mg->mg d.name=some (.ref fa) →
   ∃ fd:FuncData,(∀ (s:Shared) (u:Value),BindsTo s fd ⟨[u],[]⟩ [(x,u)]) ∧
    ∀ base:Heap,(K w.params).In base->base.Ns mainGlobals mg->FnOk l.prog w (K w.params) mg base (CX w) k fa fd [x] (sp w))
  (hsp:∀ (w:World) (H:Hp) (a:Addr) (ns:Wm),ns.length<=n->tW H->SqL (K w.params) H a (ns.map V.int)->sp w [.ref a] H (fun v _=>v=.bl true) fun _ _ _=>False)
  (hCX:∀ (w:World) (H:Hp) (s:Shared) (e:Value) (s':Shared),CX w [] H s (fun _ _ _=>False) e s'->False) :
  PySem.W.WalkO q loose XP YP l.row.toRowW d [] (fun f vs=>PySem.call f vs):=by
 refine Att.ou hn hdf fun w s₀ s₁ mg mb fa o pm cd doc a vs ns G Y ho hd hcd hmg hobj hints hlen hg=>?_
 have KX:=hY w _ Y
 obtain ⟨fd,hb,hF⟩:=F w mg fa _ KX G.T.g hmg
 exact uk KX G.T.g G.T.b G.T.builtins G.T.nolimit hg hobj hints (ZF hlen hn2) hr hF hb (fun H hO hS=>hsp w H a ns hlen hO hS) fun H e s'=>hCX w H s₁ e s'
noncomputable def inClass (s:Stmt) (j:Nat):Stmt:=match s with
 | .ClassDef _ _ _ body _ _ _ _ _ _ _=>body.getD j (.Pass ⟨0,0,0,0⟩)
 | _=>.Pass ⟨0,0,0,0⟩
noncomputable def aA (s:Stmt):Arguments:=match s with
 | .FunctionDef _ a _ _ _ _ _ _ _ _=>a
 | _=>{ posonlyargs:=[],args:=[],vararg:=none,kwonlyargs:=[],kw_defaults:=[],kwarg:=none,defaults:=[] }
noncomputable def au (s:Stmt):List Stmt:=match s with
 | .FunctionDef _ _ b _ _ _ _ _ _ _=>b
 | _=>[]
noncomputable def af (s:Stmt):Scope:=match s with
 | .FunctionDef _ _ _ _ _ _ sc _ _ _=>sc
 | _=>{ kind:=.function,names:=[],isGenerator:=false,isCoroutine:=false }
noncomputable abbrev CX0:CXT:=fun _ _ _ _ _ _=>False
noncomputable abbrev E0:XK:=fun _ _ _=>False
theorem j4 {X:Cx}:g5 CX0 X E0:=fun _ _ _ _ _ _ _ h=>h.elim
structure Fun (K:Wt) (x qual:Str) (st:Stmt) (f:Addr) (fd:FuncData):Prop where
 ex:∃ (oc:Value) (od:Option Addr) (kV doc pm:Value) (an:Option Addr) (cdv ct:Value) (osl:Array (Wp)),
  fd=PySem.W.fnOf x qual (aA st) (au st) (af st) .none kV doc pm an cdv ct/\K.lookup f=some ⟨oc,od,.func fd,osl⟩/\PySem.W.codeIn K cdv qual=true
 kp:PySem.W.keepIn K (.ref f)=true
section
variable {P:Program} {w:World} {K:Wt} {mg:Ws} {base:Heap}
theorem Fun.ok {x qual:Str} {st:Stmt} {f:Addr} {fd:FuncData} {N ps:List Str} {k:Nat} {sp:Sp} (F:Fun K x qual st f fd) (S:FnScope N ps (af st)) (len:∀ vs H Q E,sp vs H Q E->vs.length=ps.length)
  (hbody:∀ (cdv:Value) (A:Around) (outer:List Env) (s:Shared) (H:Hp) (vs:List V) (Q:VK) (E:XK),Room k (A.deeper (envOfC qual (af st) s.heap.objs.size f cdv))->sp vs H Q E →
   ∃ t,PSs (fM CX0 P w K mg base N qual (af st) f cdv A outer s H E).nox (au st) t/\t { nx:=fun _ H'=>Q .non H',rt:=Q } (start N vs) H):FnOk P w K mg base CX0 (k+1) f fd ps sp:=by
 obtain ⟨oc,od,kV,doc,pm,an,cdv,ct,osl,rfl,lk,hcd⟩:=F.ex
 refine yY lk hcd S len fun A outer s H vs Q E hr hsp=>?_
 obtain ⟨t,h,q⟩:=hbody cdv A outer s H vs Q E hr hsp
 exact ⟨t,h.nox,q⟩
theorem Fun.binds {x qual:Str} {st:Stmt} {f:Addr} {fd:FuncData} {ps:List Str} (F:Fun K x qual st f fd)
  (h:∀ (kV doc pm:Value) (an:Option Addr) (cdv ct:Value) (us:Wq),us.length=ps.length->bindArgs (PySem.W.fnOf x qual (aA st) (au st) (af st) .none kV doc pm an cdv ct) ⟨us,[]⟩=pure (ps.zip us)):Binds K fd ps []:=by
 obtain ⟨oc,od,kV,doc,pm,an,cdv,ct,osl,rfl,lk,hcd⟩:=F.ex
 exact .all (h kV doc pm an cdv ct)
theorem cu {x qual:Str} {st:Stmt} {f:Addr} {oc:Value} {od an:Option Addr} {osl:Array (Wp)} {kV doc pm cdv ct:Value} (l:K.lookup f=some ⟨oc,od,.func (PySem.W.fnOf x qual (aA st) (au st) (af st) .none kV doc pm an cdv ct),osl⟩)
  (c:PySem.W.codeIn K cdv qual=true) (k:PySem.W.keepIn K (.ref f)=true):Fun K x qual st f (PySem.W.fnOf x qual (aA st) (au st) (af st) .none kV doc pm an cdv ct):=⟨⟨oc,od,kV,doc,pm,an,cdv,ct,osl,rfl,l,c⟩,k⟩
end
theorem je {A:Around} {k:Nat} (hr:Room k A):A.units+1 < cLine:=Nat.lt_of_le_of_lt (Nat.add_le_add_left (by decide:1<=64) _) hr.units
theorem xS {A B:Prop} (h:B):if false=true then A else B:=by
 rw [Zo Ze]
 exact h
theorem wQ {A B:Prop} (h:A):if true=true then A else B:=by
 rw [Zq rfl]
 exact h
noncomputable def aJ (H H':Hp):Prop:=∀ b o,H b=some o->H' b=some o
theorem aJ.refl (H:Hp):aJ H H:=fun _ _ h=>h
theorem aJ.trans {H H1 H2:Hp} (a:aJ H H1) (b:aJ H1 H2):aJ H H2:=fun c o h=>b c o (a c o h)
theorem aJ.free {H H':Hp} (e:aJ H H') {l:Addr} (h:H' l=Option.none):H l=Option.none:=by
 cases q:H l with
 | none=>rfl
 | some o =>
  rw [e l o q] at h
  cases h
end L2
end
section
namespace NK
open PySem PySem.Spec PyProof.Rows
variable {prog:Program} {w:World} {K:Type} [DecidableEq K] {knd:KeyKind prog w K} {A:Around} {E:Ww} {s:Shared}
end NK
end
section
namespace L2
open PySem PySem.Spec PyProof.Rows
noncomputable abbrev lZ:=List (Wm)
noncomputable def hN (k:lZ):Int:=reduceHash (Builtin.Tuple.tupleHashOf (k.map fun x=>reduceHash (Builtin.Tuple.tupleHashOf (x.map hashInt))))
noncomputable def DS (x:lZ×Addr×Value):DictEntry:=⟨hN x.1,.ref x.2.1,x.2.2⟩
noncomputable abbrev KN:List (lZ×Addr×V)->List (lZ×Addr×Value)->Prop:=Paired fun p q=>p.1=q.1/\p.2.1=q.2.1/\RelV p.2.2 q.2.2
noncomputable def DN (a:Addr) (kvs:List (lZ×Addr×V)):HO:=.ext fun h=>kvs.length<=sizeLine/\(a == sysModules)=false/\∃ xs:List (lZ×Addr×Value),KN kvs xs ∧
 ∃ o es ep,h.get? a=some o/\o.ExactDict/\o.data=.dict es ep/\es.toList=xs.map DS/\(xs.map (·.1)).Nodup
noncomputable def NAt (H:Hp) (k:lZ) (b:Addr):Prop:=∃ cs:Wr,H b=some (.tup (cs.map V.ref))/\Paired (fun (x:Wm) (c:Addr)=>H c=some (.tup (x.map V.int))) k cs
theorem NAt.mono {H H':Hp} {k:lZ} {b:Addr} (x:NAt H k b) (t:∀ a xs,H a=some (.tup xs)->H' a=some (.tup xs)):NAt H' k b:=by
 obtain ⟨cs,h,r⟩:=x
 exact ⟨cs,t _ _ h,Paired.mapP r fun _ _ z=>t _ _ z⟩
end L2
end
section
namespace VS
open PySem PySem.Spec PyProof.Rows L2
noncomputable def sx (s:Tx):Str:=⟨s.toArray⟩
noncomputable def lS (s:Tx):Prop:=s.length<=eO/\∀ c∈s,c < 1114112
structure Gx where
 K:Wt
 ct:Nat->Addr×(Nat->Str)
 me:Option Addr:=none
noncomputable def Gx.at (G:Gx) (m:Option Addr):Gx:=⟨G.K,G.ct,m⟩
noncomputable def aT:Key->T
 | .inl i=>.int i
 | .inr x=>.str x.cps.toList
noncomputable def nkT (k:lZ):T:=.tup (k.map fun x=>T.tup (x.map T.int))
noncomputable def jS (K:Wt) (H:Hp) (a:Addr) (ns:Wm):Prop :=
 (∃ o,H a=some (.frz o (.lst (ns.map V.int)))) ∨
  ∃ (o:Obj) (its:Array Value) (n:Nat),K.lookup a=some o/\o.cls=.type "list" ∧ o.dict=none/\o.data=.seq its n/\its.size<=sizeLine/\aO (ns.map V.int) its.toList
mutual
inductive Rp (G:Gx) (H:Hp):V->T->Wr->Prop
 | non:Rp G H .non .non []
 | bl (b:Bool):Rp G H (.bl b) (.bl b) []
 | int (i:Int):Rp G H (.int i) (.int i) []
 | str (s:Tx):lS s->Rp G H (.str (sx s)) (.str s) []
 | scr {a:Addr} {ns:Wm}:jS G.K H a ns->Rp G H (.ref a) (.scr ns) []
 | tup {a:Addr} {vs:List V} {ts:Wg} {Fs:Wu}:H a=some (.tup vs)->RpL G H vs ts Fs->Rp G H (.ref a) (.tup ts) Fs.flatten
 | lst {a:Addr} {vs:List V} {ts:Wg} {Fs:Wu}:H a=some (.lst vs)->RpL G H vs ts Fs->Rp G H (.ref a) (.lst ts) (a :: Fs.flatten)
 | dct {a:Addr} {ks:List Key} {vs:List V} {ts:Wg} {Fs:Wu}:H a=some (.dK (ks.zip vs))->ks.length=vs.length->RpL G H vs ts Fs->Rp G H (.ref a) (.dct 0 ((ks.map aT).zip ts)) (a :: Fs.flatten)
 | dctT {a:Addr} {ks:List (List Key)} {vs:List V} {ts:Wg} {Fs:Wu}:H a=some (.dT (ks.zip vs))->ks.length=vs.length->RpL G H vs ts Fs->Rp G H (.ref a) (.dct 1 ((ks.map fun k=>T.tup (k.map aT)).zip ts)) (a :: Fs.flatten)
 | dctN {a:Addr} {ks:List (lZ×Addr)} {vs:List V} {ts:Wg} {Fs:Wu}:H a=some (DN a ((ks.zip vs).map fun p=>(p.1.1,p.1.2,p.2)))->ks.length=vs.length->(∀ p∈ks,NAt H p.1 p.2)->RpL G H vs ts Fs->Rp G H (.ref a) (.dct 2 ((ks.map fun p=>nkT p.1).zip ts)) (a :: Fs.flatten)
 | dctZ {a:Addr} {o:Obj} {ks:List Key} {vs:List V} {ts:Wg} {Fs:Wu}:H a=some (.frz o (.dK (ks.zip vs)))->ks.length=vs.length->RpL G H vs ts Fs->Rp G H (.ref a) (.dct 3 ((ks.map aT).zip ts)) Fs.flatten
 | exc {c:Nat} {a:Addr} {o:Obj}:H a=some (.frz o (.own a))->(o.cls=.ref (G.ct c).1/\o.dict=none/\∃ vs,o.data=.fields vs)->Rp G H (.ref a) (.obj c []) []
 | ins {c:Nat} {a dx:Addr} {b:Bool} {ks:Wo} {vs:List V} {ts:Wg} {Fs:Wu}:H a=some (.ins (G.ct (c+1)).1 dx ((ks.map (G.ct (c+1)).2).zip vs))->ks.length=vs.length->(b=true->G.me=some a)->RpL G H vs ts Fs->Rp G H (.ref a) (.obj (c+1) ((0,.bl b) :: ks.zip ts)) (a :: Fs.flatten)
inductive RpL (G:Gx) (H:Hp):List V->Wg->Wu->Prop
 | nil:RpL G H [] [] []
 | cons {v:V} {t:T} {F:Wr} {vs:List V} {ts:Wg} {Fs:Wu}:Rp G H v t F->RpL G H vs ts Fs->RpL G H (v :: vs) (t :: ts) (F :: Fs)
end
structure Kept (H H':Hp):Prop where
 tup:∀ a xs,H a=some (.tup xs)->H' a=some (.tup xs)
 frz:∀ a o u,H a=some (.frz o u)->H' a=some (.frz o u)
theorem Kept.refl (H:Hp):Kept H H:=⟨fun _ _ h=>h,fun _ _ _ h=>h⟩
theorem Kept.trans {H H1 H2:Hp} (a:Kept H H1) (b:Kept H1 H2):Kept H H2:=⟨fun c x h=>b.tup c x (a.tup c x h),fun c o u h=>b.frz c o u (a.frz c o u h)⟩
theorem Kept.of {H H':Hp} (e:aJ H H'):Kept H H':=⟨fun a _ h=>e a _ h,fun a _ _ h=>e a _ h⟩
theorem Kept.upd {H:Hp} {a:Addr} {o:HO} (mu:Mut (H a)\/H a=none):Kept H (upd H a o):=by
 have ne:∀ b u,H b=some u->¬ Mut (some u)->b ≠ a:=fun b u h nm e=>by
  subst e
  rcases mu with m | m
  ·rw [h] at m;exact nm m
  ·rw [h] at m;cases m
 exact ⟨fun b xs h=>by rw [aG (ne b _ h fun z=>z)];exact h,fun b o u h=>by rw [aG (ne b _ h fun z=>z)];exact h⟩
theorem jS.kept {K:Wt} {H H':Hp} {a:Addr} {ns:Wm} (h:jS K H a ns) (k:Kept H H'):jS K H' a ns:=by
 rcases h with ⟨o,e⟩ | h
 ·exact .inl ⟨o,k.frz _ _ _ e⟩
 ·exact .inr h
theorem jS.seq {K:Wt} {H:Hp} {a:Addr} {ns:Wm} (h:jS K H a ns):SqL K H a (ns.map V.int):=by
 rcases h with ⟨o,e⟩ | h
 ·exact .inl (.inr ⟨o,e⟩)
 ·exact .inr h
theorem n8 {H H':Hp} {a:Addr} {F:Wr} (f:∀ b∈a :: F,∀ o,H b=some o->H' b=some o):∀ b∈F,∀ o,H b=some o->H' b=some o:=fun b m=>f b (Zx _ m)
theorem qM {H H':Hp} {F:Wr} {Fs:Wu} (f:∀ b∈(F :: Fs).flatten,∀ o,H b=some o->H' b=some o):(∀ b∈F,∀ o,H b=some o->H' b=some o)/\∀ b∈Fs.flatten,∀ o,H b=some o->H' b=some o:=by
 rw [ZW] at f
 exact ⟨fun b m=>f b (ZD _ m),fun b m=>f b (ZX _ m)⟩
theorem Rp.keep {G:Gx} {H H':Hp} (k:Kept H H') {v:V} {t:T} {F:Wr} (r:Rp G H v t F):(∀ a∈F,∀ o,H a=some o->H' a=some o)->Rp G H' v t F :=
 Rp.rec (motive_1:=fun v t F _=>(∀ a∈F,∀ o,H a=some o->H' a=some o)->Rp G H' v t F) (motive_2:=fun vs ts Fs _=>(∀ a∈Fs.flatten,∀ o,H a=some o->H' a=some o)->RpL G H' vs ts Fs)
  (fun _=>.non) (fun b _=>.bl b) (fun i _=>.int i) (fun s h _=>.str s h) (fun h _=>.scr (h.kept k)) (fun h _ ih f=>.tup (k.tup _ _ h) (ih f)) (fun h _ ih f=>.lst (f _ Zw _ h) (ih (n8 f))) (fun h l _ ih f=>.dct (f _ Zw _ h) l (ih (n8 f))) (fun h l _ ih f=>.dctT (f _ Zw _ h) l (ih (n8 f)))
  (fun h l n _ ih f=>.dctN (f _ Zw _ h) l (fun p m=>(n p m).mono k.tup) (ih (n8 f))) (fun h l _ ih f=>.dctZ (k.frz _ _ _ h) l (ih f)) (fun h hc _=>.exc (k.frz _ _ _ h) hc) (fun h l m _ ih f=>.ins (f _ Zw _ h) l m (ih (n8 f))) (fun _=>.nil) (fun _ _ i1 i2 f=>.cons (i1 (qM f).1) (i2 (qM f).2)) r
theorem RpL.keep {G:Gx} {H H':Hp} (k:Kept H H'):∀ {vs:List V} {ts:Wg} {Fs:Wu},RpL G H vs ts Fs->(∀ a∈Fs.flatten,∀ o,H a=some o->H' a=some o)->RpL G H' vs ts Fs
 | _,_,_,.nil,_=>.nil
 | _,_,_,.cons r q,f=>.cons (r.keep k (qM f).1) (RpL.keep k q (qM f).2)
theorem Rp.same {G:Gx} {H H':Hp} (e:aJ H H') {v:V} {t:T} {F:Wr} (r:Rp G H v t F):Rp G H' v t F:=r.keep (Kept.of e) fun a _ o h=>e a o h
theorem RpL.same {G:Gx} {H H':Hp} (e:aJ H H') {v:List V} {t:Wg} {F:Wu} (r:RpL G H v t F):RpL G H' v t F:=r.keep (Kept.of e) fun a _ o h=>e a o h
theorem vN {H:Hp} {a:Addr} {F:Wr} (h:Mut (H a)) (ih:∀ b∈F,Mut (H b)):∀ b∈a :: F,Mut (H b):=fun b m=>(Zg.mp m).elim (fun e=>e ▸ h) (ih b)
theorem u5 {H:Hp} {a:Addr} {o:HO} (h:H a=some o) (m:Mut (some o)):Mut (H a):=by rw [h];exact m
theorem CD {H:Hp} {F:Wr} {Fs:Wu} (h1:∀ b∈F,Mut (H b)) (h2:∀ b∈Fs.flatten,Mut (H b)):∀ b∈(F :: Fs).flatten,Mut (H b):=fun b m=>by
 rw [ZW] at m
 exact (ZY.mp m).elim (h1 b) (h2 b)
theorem Rp.dom {G:Gx} {H:Hp} {v:V} {t:T} {F:Wr} (r:Rp G H v t F):∀ a∈F,Mut (H a) :=
 Rp.rec (motive_1:=fun v t F _=>∀ a∈F,Mut (H a)) (motive_2:=fun vs ts Fs _=>∀ a∈Fs.flatten,Mut (H a))
  (fun _ m=>nomatch m) (fun _ _ m=>nomatch m) (fun _ _ m=>nomatch m) (fun _ _ _ m=>nomatch m) (fun _ _ m=>nomatch m) (fun _ _ ih=>ih) (fun h _ ih=>vN (u5 h True.intro) ih) (fun h _ _ ih=>vN (u5 h True.intro) ih) (fun h _ _ ih=>vN (u5 h True.intro) ih)
  (fun h _ _ _ ih=>vN (u5 h True.intro) ih) (fun _ _ _ ih=>ih) (fun _ _ _ m=>nomatch m) (fun h _ _ _ ih=>vN (u5 h True.intro) ih) (fun _ m=>nomatch m) (fun _ _ i1 i2=>CD i1 i2) r
theorem RpL.dom {G:Gx} {H:Hp}:∀ {vs:List V} {ts:Wg} {Fs:Wu},RpL G H vs ts Fs->∀ a∈Fs.flatten,Mut (H a)
 | _,_,_,.nil=>fun _ m=>nomatch m
 | _,_,_,.cons r q=>CD r.dom (RpL.dom q)
theorem Mut.ne_none {o:Option HO} (m:Mut o):o ≠ none:=fun e=>by subst e;exact m
theorem BY {F:Wr} {Fs:Wu} {t:T} {ts:Wg} (h1:VS.imm t=true->F=[]) (h2:VS.eK ts=true->Fs.flatten=[]) (i:VS.eK (t :: ts)=true):(F :: Fs).flatten=[]:=by
 simp only [VS.eK,Zf] at i
 rw [ZW,h1 i.1,h2 i.2]
 rfl
theorem Rp.imm {G:Gx} {H:Hp} {v:V} {t:T} {F:Wr} (r:Rp G H v t F):VS.imm t=true->F=[] :=
 Rp.rec (motive_1:=fun v t F _=>VS.imm t=true->F=[]) (motive_2:=fun vs ts Fs _=>VS.eK ts=true->Fs.flatten=[])
  (fun _=>rfl) (fun _ _=>rfl) (fun _ _=>rfl) (fun _ _ _=>rfl) (fun _ _=>rfl) (fun _ _ ih i=>ih (by simpa [VS.imm] using i)) (fun _ _ _ i=>absurd (show false=true from i) Ze) (fun _ _ _ _ i=>absurd (show false=true from i) Ze) (fun _ _ _ _ i=>absurd (show false=true from i) Ze)
  (fun _ _ _ _ _ i=>absurd (show false=true from i) Ze) (fun _ _ _ _ i=>absurd (show false=true from i) Ze) (fun _ _ _=>rfl) (fun _ _ _ _ _ i=>absurd (show false=true from i) Ze) (fun _=>rfl) (fun _ _ i1 i2 i=>BY i1 i2 i) r
theorem RpL.imm {G:Gx} {H:Hp}:∀ {vs:List V} {ts:Wg} {Fs:Wu},RpL G H vs ts Fs->VS.eK ts=true->Fs.flatten=[]
 | _,_,_,.nil,_=>rfl
 | _,_,_,.cons r q,i=>BY r.imm (RpL.imm q) i
theorem RpL.len {G:Gx} {H:Hp}:∀ {vs:List V} {ts:Wg} {Fs:Wu},RpL G H vs ts Fs->vs.length=ts.length/\Fs.length=ts.length
 | _,_,_,.nil=>⟨rfl,rfl⟩
 | _,_,_,.cons _ q=>by
  have:=RpL.len q
  simp only [Zk]
  lia
theorem RpL.get {G:Gx} {H:Hp}:∀ {vs:List V} {ts:Wg} {Fs:Wu} (i:Nat) {t:T},RpL G H vs ts Fs->ts[i]?=some t->∃ v F,vs[i]?=some v/\Fs[i]?=some F/\Rp G H v t F
 | _,_,_,_,_,.nil,e=>by simp at e
 | _,_,_,0,_,.cons r _,e=>by
  simp at e
  subst e
  exact ⟨_,_,rfl,rfl,r⟩
 | _,_,_,i+1,_,.cons _ q,e=>by
  obtain ⟨v,F,h1,h2,h3⟩:=RpL.get i q (by simpa using e)
  exact ⟨v,F,by simpa using h1,by simpa using h2,h3⟩
theorem RpL.append {G:Gx} {H:Hp}:∀ {vs:List V} {ts:Wg} {Fs:Wu} {us:List V} {rs:Wg} {Gs:Wu},RpL G H vs ts Fs->RpL G H us rs Gs->RpL G H (vs++us) (ts++rs) (Fs++Gs)
 | _,_,_,_,_,_,.nil,s=>s
 | _,_,_,_,_,_,.cons r q,s=>.cons r (RpL.append q s)
theorem RpL.take {G:Gx} {H:Hp}:∀ {vs:List V} {ts:Wg} {Fs:Wu} (n:Nat),RpL G H vs ts Fs->RpL G H (vs.take n) (ts.take n) (Fs.take n)
 | _,_,_,0,_=>by simpa using RpL.nil
 | _,_,_,n+1,.nil=>.nil
 | _,_,_,n+1,.cons r q=>.cons r (RpL.take n q)
theorem RpL.drop {G:Gx} {H:Hp}:∀ {vs:List V} {ts:Wg} {Fs:Wu} (n:Nat),RpL G H vs ts Fs->RpL G H (vs.drop n) (ts.drop n) (Fs.drop n)
 | _,_,_,0,q=>q
 | _,_,_,n+1,.nil=>.nil
 | _,_,_,n+1,.cons r q=>RpL.drop n q
noncomputable def iT:Cell->T
 | .pu t=>t
 | .ow t=>t
noncomputable abbrev Fps:=Nat->Wr
structure SR (G:Gx) (Φ:Fps) (η:VS.Env) (σ:L2.St) (H:Hp):Prop where
 len:η.length=σ.length
 rp:∀ i c,η[i]?=some (some c)->∃ v,σ[i]?=some (some v)/\Rp G H v (iT c) (Φ i)
 nd:∀ i t,η[i]?=some (some (.ow t))->(Φ i).Nodup
 sep:∀ i j t c,η[i]?=some (some (.ow t))->η[j]?=some (some c)->i ≠ j->∀ a∈Φ i,a ∉ Φ j
noncomputable def dE (Φ:Fps) (η:VS.Env) (a:Addr):Prop:=∃ j t,η[j]?=some (some (.pu t))/\a∈Φ j
noncomputable def cw (Φ:Fps) (η:VS.Env) (a:Addr):Prop:=∃ j t,η[j]?=some (some (.ow t))/\a∈Φ j
noncomputable def Fp (Φ:Fps) (η:VS.Env) (H:Hp):Md->Wr->Prop
 | .fr,F=>F.Nodup/\∀ a∈F,H a=none
 | .pu,F=>∀ a∈F,H a=none\/dE Φ η a
 | .bo,F=>∀ a∈F,H a=none\/dE Φ η a\/cw Φ η a
theorem SR.same {G:Gx} {Φ:Fps} {η:VS.Env} {σ:L2.St} {H H':Hp} (s:SR G Φ η σ H) (e:aJ H H'):SR G Φ η σ H' :=
 ⟨s.len,fun i c h=>let ⟨v,h1,h2⟩:=s.rp i c h;⟨v,h1,h2.same e⟩,s.nd,s.sep⟩
theorem SR.pu_dom {G:Gx} {Φ:Fps} {η:VS.Env} {σ:L2.St} {H:Hp} {a:Addr} (s:SR G Φ η σ H) (h:dE Φ η a):Mut (H a):=by
 obtain ⟨j,t,h1,h2⟩:=h
 obtain ⟨v,_,r⟩:=s.rp j _ h1
 exact r.dom a h2
theorem SR.ow_dom {G:Gx} {Φ:Fps} {η:VS.Env} {σ:L2.St} {H:Hp} {a:Addr} (s:SR G Φ η σ H) (h:cw Φ η a):Mut (H a):=by
 obtain ⟨j,t,h1,h2⟩:=h
 obtain ⟨v,_,r⟩:=s.rp j _ h1
 exact r.dom a h2
theorem Fp.nil {Φ:Fps} {η:VS.Env} {H:Hp} {m:Md}:Fp Φ η H m []:=by
 cases m
 ·exact ⟨Yn,fun a h=>by simp at h⟩
 ·exact fun a h=>by simp at h
 ·exact fun a h=>by simp at h
theorem Fp.bo {Φ:Fps} {η:VS.Env} {H:Hp} {F:Wr}:∀ {m:Md},Fp Φ η H m F->Fp Φ η H .bo F
 | .fr,h=>fun a m=>.inl (h.2 a m)
 | .pu,h=>fun a m=>(h a m).elim .inl fun z=>.inr (.inl z)
 | .bo,h=>h
theorem Fp.pu {Φ:Fps} {η:VS.Env} {H:Hp} {F:Wr}:∀ {m:Md},m ≠ .bo->Fp Φ η H m F->Fp Φ η H .pu F
 | .fr,_,h=>fun a m=>.inl (h.2 a m)
 | .pu,_,h=>h
 | .bo,n,_=>absurd rfl n
theorem Fp.back {Φ:Fps} {η:VS.Env} {H H':Hp} (e:aJ H H') {F:Wr}:∀ {m:Md},Fp Φ η H' m F->Fp Φ η H m F
 | .fr,h=>⟨h.1,fun a m=>e.free (h.2 a m)⟩
 | .pu,h=>fun a m=>(h a m).imp e.free id
 | .bo,h=>fun a m=>(h a m).imp e.free id
theorem Fp.up {G:Gx} {Φ:Fps} {η:VS.Env} {H H':Hp} {m:Md} {v:V} {t:T} {F:Wr} (f:Fp Φ η H m F) (r:Rp G H' v t F):Fp Φ η H (VS.up m t).1 F:=by
 unfold VS.up
 by_cases h:VS.imm t=true
 ·rw [r.imm h]
  exact Fp.nil
 ·simp only [h,if_false,Y2]
  exact f
noncomputable def tE (G:Gx) (c:Ex):TE:=fun σ H Q=>∃ Φ η m r,SR G Φ η σ H/\c η=some (m,r)/\∀ v H' F,aJ H H'->Rp G H' v r F->Fp Φ η H m F->Q v H'
noncomputable def PV (G:Gx) (X:Cx) (e:Expr) (c:Ex):Prop:=PE X e (tE G c)
theorem PE.weak {X:Cx} {e:Expr} {t t':TE} (h:PE X e t) (w:∀ σ H Q,t' σ H Q->t σ H Q):PE X e t':=fun pins s σ H Q I q=>h pins s σ H Q I (w σ H Q q)
theorem PT.weak {X:Cx} {e:Expr} {t t':TT} (h:PT X e t) (w:∀ σ H Q,t' σ H Q->t σ H Q):PT X e t':=fun pins s σ H Q I q=>h pins s σ H Q I (w σ H Q q)
theorem PA.weak {X:Cx} {e:List Expr} {t t':TA} (h:PA X e t) (w:∀ σ H Q,t' σ H Q->t σ H Q):PA X e t':=fun pos pins s σ H Q I q=>h pos pins s σ H Q I (w σ H Q q)
noncomputable def tT (G:Gx) (c:Ex):TT:=fun σ H Q=>∃ Φ η m r b,SR G Φ η σ H/\c η=some (m,r)/\tru r=some b/\∀ H',aJ H H'->Q b H'
noncomputable def PVT (G:Gx) (X:Cx) (e:Expr) (c:Ex):Prop:=PT X e (tT G c)
noncomputable def frs (l:Wi) (Fs:Wu):Wr:=match l,Fs with
 | v :: l,F :: Fs=>match v.1 with
  | .fr=>F++frs l Fs
  | _=>frs l Fs
 | _,_=>[]
structure FpL (Φ:Fps) (η:VS.Env) (H:Hp) (l:Wi) (Fs:Wu):Prop where
 each:∀ (i:Nat) v F,l[i]?=some v->Fs[i]?=some F->Fp Φ η H v.1 F
 nd:(frs l Fs).Nodup
noncomputable def tEs (G:Gx) (c:Exs):TA:=fun σ H Q=>∃ Φ η l,SR G Φ η σ H/\c η=some l/\∀ vs H' Fs,aJ H H'->RpL G H' vs (trees l) Fs->FpL Φ η H l Fs->Q vs H'
noncomputable def PVs (G:Gx) (X:Cx) (es:List Expr) (c:Exs):Prop:=PA X es (tEs G c)
section
variable {G:Gx} {X:Cx} {a b c:Expr} {ca cb cc:Ex} {pos:Pos}
theorem uW {i j pos}:PV G X (.Constant (.int i) j pos) (eC (.int i)):=PE.weak mZ fun σ H Q hq=>by
 obtain ⟨Φ,η,m,r,s,e,k⟩:=hq
 cases (show some (Md.fr,T.int i)=some (m,r) from e)
 exact k _ _ _ (aJ.refl _) (.int i) Fp.nil
theorem Cy {i j pos}:PV G X (.Constant (.bool i) j pos) (eC (.bl i)):=PE.weak zg fun σ H Q hq=>by
 obtain ⟨Φ,η,m,r,s,e,k⟩:=hq
 cases (show some (Md.fr,T.bl i)=some (m,r) from e)
 exact k _ _ _ (aJ.refl _) (.bl i) Fp.nil
theorem A5 {j pos}:PV G X (.Constant .none j pos) (eC .non):=PE.weak Bx fun σ H Q hq=>by
 obtain ⟨Φ,η,m,r,s,e,k⟩:=hq
 cases (show some (Md.fr,T.non)=some (m,r) from e)
 exact k _ _ _ (aJ.refl _) .non Fp.nil
theorem Ak {x:Str} {t:Tx} {j pos} (h:x=sx t:=by decide +kernel) (hl:lS t:=by decide):PV G X (.Constant (.str x) j pos) (eC (.str t)):=PE.weak Ag fun σ H Q hq=>by
 obtain ⟨Φ,η,m,r,s,e,k⟩:=hq
 cases (show some (Md.fr,T.str t)=some (m,r) from e)
 subst h
 exact k _ _ _ (aJ.refl _) (.str t hl) Fp.nil
theorem zK (i:Nat) {x:Str} {pos:Pos} (hN:X.N[i]?=some x:=by rfl) (hv:Vis X.env.scope x:=by first | exact Or.inl rfl | exact Or.inr (Or.inl rfl) | exact Or.inr (Or.inr rfl)) (hd:(x == ("__debug__" : Str))=false:=by decide)
  (hcd:(x == ("__classdict__" : Str))=false:=by decide):PV G X (.Name x pos) (ab i):=PE.weak (gH hN hv hd hcd) fun σ H Q hq=>by
 obtain ⟨Φ,η,m,r,s,e,k⟩:=hq
 unfold ab at e
 split at e
 ·rename_i t h
  obtain ⟨v,h1,h2⟩:=s.rp _ _ h
  have e':VS.up .pu t=(m,r):=Zp e
  have er:t=r:=congrArg Prod.snd e'
  have em:(VS.up .pu t).1=m:=congrArg Prod.fst e'
  rw [← er,← em] at k
  refine ⟨v,h1,k v H (Φ i) (aJ.refl _) h2 ?_⟩
  have f:Fp Φ η H .pu (Φ i):=fun a ha=>.inr ⟨i,_,h,ha⟩
  exact f.up h2
 ·rename_i t h
  obtain ⟨v,h1,h2⟩:=s.rp _ _ h
  cases e
  exact ⟨v,h1,k v H (Φ i) (aJ.refl _) h2 fun a ha=>.inr (.inr ⟨i,_,h,ha⟩)⟩
 ·cases e
theorem yJ {x:Str} {u:Value} {v:V} {t:T} {pos:Pos} (hg:Gl X x) (hm:X.mg x=some u) (r:RelV v u) (hr:∀ H,Rp G H v t []) (hd:(x == ("__debug__" : Str))=false:=by decide):PV G X (.Name x pos) (eC t) :=
 PE.weak (wY hg hm r hd) fun σ H Q hq=>by
  obtain ⟨Φ,η,m,t',s,e,k⟩:=hq
  cases (show some (Md.fr,t)=some (m,t') from e)
  exact k _ _ _ (aJ.refl _) (hr H) Fp.nil
structure Two (G:Gx) (Φ:Fps) (η:VS.Env) (H0 H:Hp) (x y:Val) (u w:V) (F1 F2:Wr):Prop where
 same:aJ H0 H
 r1:Rp G H u x.2 F1
 r2:Rp G H w y.2 F2
 f1:Fp Φ η H0 x.1 F1
 f2:Fp Φ η H0 y.1 F2
 nd:x.1=.fr->y.1=.fr->(F1++F2).Nodup
noncomputable def fO (G:Gx) (r:R2) (f:Val->Val->Wh):Prop:=∀ (Φ:Fps) (η:VS.Env) (H0 H:Hp) (x y:Val) (u w:V) (F1 F2:Wr) (m:Md) (t:T) (Q:VK),Two G Φ η H0 H x y u w F1 F2->f x y=some (m,t) →
 (∀ v H' F,aJ H H'->Rp G H' v t F->Fp Φ η H0 m F->Q v H')->r u w H Q
theorem vF {σ:L2.St} {H:Hp} {Q:V->V->Hp->Prop} {Φ:Fps} {η:VS.Env} {x y:Val} (s:SR G Φ η σ H) (ea:ca η=some x) (eb:cb η=some y)
  (k:∀ u w H2 F1 F2,Two G Φ η H H2 x y u w F1 F2->Q u w H2):tE G ca σ H fun u H1=>tE G cb σ H1 fun w H2=>Q u w H2:=by
 refine ⟨Φ,η,x.1,x.2,s,ea,fun u H1 F1 e1 r1 f1=>⟨Φ,η,y.1,y.2,s.same e1,eb,fun w H2 F2 e2 r2 f2=>k u w H2 F1 F2 ⟨e1.trans e2,r1.same e2,r2,f1,f2.back e1,fun hx hy=>?_⟩⟩⟩
 rw [hx] at f1
 rw [hy] at f2
 refine ZP.mpr ⟨f1.1,f2.1,fun a ha b hb z=>?_⟩
 subst z
 exact Mut.ne_none (r1.dom a ha) (f2.2 a hb)
theorem jK {r:R2} {f:Val->Val->Wh} (ok:fO G r f) {σ:L2.St} {H:Hp} {Q:VK} (h:tE G (e2 f ca cb) σ H Q):tOp r (tE G ca) (tE G cb) σ H Q:=by
 obtain ⟨Φ,η,m,t,s,e,k⟩:=h
 unfold e2 at e
 obtain ⟨x,ea,e⟩:=Zz.mp e
 obtain ⟨y,eb,e⟩:=Zz.mp e
 exact vF s ea eb fun u w H2 F1 F2 tw=>ok Φ η H H2 x y u w F1 F2 m t Q tw e fun v H' F e1 r1 f1=>k v H' F (tw.same.trans e1) r1 f1
theorem oS {op:Operator} {r:R2} {f:Val->Val->Wh} (ho:OpR X (binaryOp op) r) (ok:fO G r f) (ha:PV G X a ca) (hb:PV G X b cb):PV G X (.BinOp a op b pos) (e2 f ca cb) :=
 PE.weak (Cr ho ha hb) fun σ H Q h=>jK ok h
theorem uF {op:CmpOp} {r:R2} {f:Val->Val->Wh} (ho:OpR X (compareOp op) r) (ok:fO G r f) (ha:PV G X a ca) (hb:PV G X b cb) (hm:behindInMarks op b=false):PV G X (.Compare a [op] [b] pos) (e2 f ca cb) :=
 PE.weak (wH ho ha hb hm) fun σ H Q h=>jK ok h
noncomputable def Tells (f:Val->Val->Wh):Prop:=∀ x y m t,f x y=some (m,t)->∃ b,t=.bl b
theorem Rp.bl_inv {H:Hp} {v:V} {b:Bool} {F:Wr} (r:Rp G H v (.bl b) F):v=.bl b:=by cases r;rfl
theorem Rp.int_inv {H:Hp} {v:V} {b:Int} {F:Wr} (r:Rp G H v (.int b) F):v=.int b:=by cases r;rfl
theorem Rp.str_inv {H:Hp} {v:V} {b:Tx} {F:Wr} (r:Rp G H v (.str b) F):v=.str (sx b)/\lS b:=by cases r with | str _ h=>exact ⟨rfl,h⟩
theorem nX {c:Ex} {t:TE} {σ:L2.St} {H:Hp} {Q:Bool->Hp->Prop} (h:tT G c σ H Q) (ht:∀ η m r,c η=some (m,r)->∃ b,r=.bl b) (w:∀ Q,tE G c σ H Q->t σ H Q):vv t σ H Q:=by
 obtain ⟨Φ,η,m,r,b,s,e,eb,k⟩:=h
 refine w _ ⟨Φ,η,m,r,s,e,fun v H' F e1 r1 f1=>?_⟩
 obtain ⟨b',er⟩:=ht η m r e
 rw [er] at eb r1
 cases (show some b'=some b from eb)
 exact ⟨_,r1.bl_inv,k H' e1⟩
theorem gB {op:CmpOp} {r:R2} {f:Val->Val->Wh} (ho:OpR X (compareOp op) r) (ok:fO G r f) (ht:Tells f) (ha:PV G X a ca) (hb:PV G X b cb) (hm:behindInMarks op b=false):PVT G X (.Compare a [op] [b] pos) (e2 f ca cb) :=
 PT.weak (yc ho ha hb hm) fun σ H Q h=>nX h (fun η m r e=>by
  unfold e2 at e
  obtain ⟨x,_,e⟩:=Zz.mp e
  obtain ⟨y,_,e⟩:=Zz.mp e
  exact ht x y m r e) fun Q h=>jK ok h
theorem bu {Φ:Fps} {η:VS.Env} {H0 H:Hp} {m:Md} {t:T} {v:V} {Q:VK} (k:∀ v H' F,aJ H H'->Rp G H' v t F->Fp Φ η H0 m F->Q v H') (r:Rp G H v t []):Q v H:=k v H [] (aJ.refl _) r Fp.nil
theorem da {H:Hp} {p:Addr} {o:HO} (h:H p=none):aJ H (upd H p o):=fun b o' e=>by rw [aG (d2 e h)];exact e
theorem Fp.new {Φ:Fps} {η:VS.Env} {H0:Hp} {p:Addr} {F:Wr} (h0:H0 p=none) (hp:p ∉ F):∀ {m:Md},Fp Φ η H0 m F->Fp Φ η H0 m (p :: F)
 | .fr,f=>⟨Zh.mpr ⟨hp,f.1⟩,fun a m=>(Zg.mp m).elim (fun e=>by rw [e];exact h0) (f.2 a)⟩
 | .pu,f=>fun a m=>(Zg.mp m).elim (fun e=>by rw [e];exact .inl h0) (f a)
 | .bo,f=>fun a m=>(Zg.mp m).elim (fun e=>by rw [e];exact .inl h0) (f a)
theorem nP {mj m:Md} {l:Wg} {t:T} (e:mkL mj l=some (m,t)):t=.lst l/\l.length<=eO/\m=(if eK l then .fr else mj):=by
 unfold mkL at e
 split at e
 ·rename_i h
  cases e
  exact ⟨rfl,h,rfl⟩
 ·cases e
theorem ie {Φ:Fps} {η:VS.Env} {H0 H:Hp} {mj m:Md} {l:Wg} {t:T} {vs:List V} {Fs:Wu} {Q:VK} (same:aJ H0 H) (e:mkL mj l=some (m,t)) (r:RpL G H vs l Fs) (f:Fp Φ η H0 mj Fs.flatten)
  (k:∀ v H' F,aJ H H'->Rp G H' v t F->Fp Φ η H0 m F->Q v H'):∀ p,H p=none->Q (.ref p) (upd H p (.lst vs)):=by
 intro p hp
 obtain ⟨rfl,hl,rfl⟩:=nP e
 refine k _ _ _ (da hp) (.lst ay (r.same (da hp))) ?_
 have np:p ∉ Fs.flatten:=fun m=>Mut.ne_none (r.dom p m) hp
 by_cases hi:eK l=true
 ·rw [hi,Zq rfl]
  rw [r.imm hi] at np ⊢
  exact Fp.nil.new (same.free hp) np
 ·rw [Zo hi]
  exact f.new (same.free hp) np
theorem Two.join {Φ:Fps} {η:VS.Env} {H0 H:Hp} {x y:Val} {u w:V} {F1 F2:Wr} (tw:Two G Φ η H0 H x y u w F1 F2) {F:Wr} (hF:F.Sublist (F1++F2)):Fp Φ η H0 (x.1.join y.1) F:=by
 obtain ⟨same,r1,r2,f1,f2,nd⟩:=tw
 have split:∀ a∈F,a∈F1\/a∈F2:=fun a ha=>ZY.mp (hF.subset ha)
 obtain ⟨m1,x⟩:=x
 obtain ⟨m2,y⟩:=y
 have both:∀ {P:Addr->Prop},(∀ a∈F1,P a)->(∀ a∈F2,P a)->∀ a∈F,P a:=fun h1 h2 a ha=>(split a ha).elim (h1 a) (h2 a)
 cases m1 <;> cases m2
 ·exact ⟨(nd rfl rfl).sublist hF,both f1.2 f2.2⟩
 ·exact both (fun a ha=>.inl (f1.2 a ha)) f2
 ·exact both (fun a ha=>.inl (f1.2 a ha)) f2
 ·exact both f1 (fun a ha=>.inl (f2.2 a ha))
 ·exact both f1 f2
 ·exact both (f1.bo) f2
 ·exact both f1 (fun a ha=>.inl (f2.2 a ha))
 ·exact both f1 (f2.bo)
 ·exact both f1 f2
theorem fU:eO=sizeLine:=rfl
theorem dJ (s:Tx):(sx s).length=s.length:=rfl
theorem zE (s t:Tx):sx s++sx t=sx (s++t):=by
 show Str.append (sx s) (sx t)=_
 simp [sx,Str.append]
theorem Rp.lst_inv {H:Hp} {v:V} {l:Wg} {F:Wr} (r:Rp G H v (.lst l) F):∃ a vs Fs,v=.ref a/\F=a :: Fs.flatten/\H a=some (.lst vs)/\RpL G H vs l Fs:=by
 cases r with
 | lst h q=>exact ⟨_,_,_,rfl,rfl,h,q⟩
theorem Rp.tup_inv {H:Hp} {v:V} {l:Wg} {F:Wr} (r:Rp G H v (.tup l) F):∃ a vs Fs,v=.ref a/\F=Fs.flatten/\H a=some (.tup vs)/\RpL G H vs l Fs:=by
 cases r with
 | tup h q=>exact ⟨_,_,_,rfl,rfl,h,q⟩
theorem Rp.scr_inv {H:Hp} {v:V} {l:Wm} {F:Wr} (r:Rp G H v (.scr l) F):∃ a,v=.ref a/\F=[]/\jS G.K H a l:=by
 cases r with
 | scr h=>exact ⟨_,rfl,rfl,h⟩
end
section
variable {G:Gx} {X:Cx}
noncomputable def Cg:R2:=fun x y H Q=>rI0 (fun i j=>.int (i+j)) x y H Q\/(∃ i j,x=.str i/\y=.str j/\i.length+j.length<=sizeLine/\Q (.str (i++j)) H)\/CG x y H Q
theorem yI:OpR X (binaryOp .Add) Cg:=BQ.or (p9.or AR)
theorem Ah:fO G Cg cG:=by
 intro Φ η H0 H x y u w F1 F2 m t Q tw e k
 have jn:=fun {F:Wr} (h:List.Sublist F (F1++F2))=>tw.join h
 obtain ⟨m1,x⟩:=x
 obtain ⟨m2,y⟩:=y
 obtain ⟨same,r1,r2,f1,f2,nd⟩:=tw
 unfold cG at e
 split at e
 ·rename_i i _ j e1 e2
  cases e1
  cases e2
  cases e
  exact .inl ⟨_,_,r1.int_inv,r2.int_inv,bu k (.int _)⟩
 ·rename_i s _ s' e1 e2
  cases e1
  cases e2
  split at e
  ·rename_i hl
   cases e
   refine .inr (.inl ⟨_,_,r1.str_inv.1,r2.str_inv.1,by rw [dJ,dJ,← fU];exact hl,?_⟩)
   rw [zE]
   exact bu k (.str _ ⟨by rw [Zv];exact hl,fun c hc=>(ZY.mp hc).elim (r1.str_inv.2.2 c) (r2.str_inv.2.2 c)⟩)
  ·cases e
 ·rename_i s _ s' e1 e2
  cases e1
  cases e2
  obtain ⟨a,vs,Fs,rfl,rfl,ha,ra⟩:=r1.lst_inv
  obtain ⟨b,us,Gs,rfl,rfl,hb,rb⟩:=r2.lst_inv
  obtain ⟨_,hl,_⟩:=nP e
  refine .inr (.inr ⟨a,b,vs,us,rfl,rfl,ha,hb,?_,ie same e (ra.append rb) (jn ?_) k⟩)
  ·rw [Zv] at hl
   rw [ra.len.1,rb.len.1,← fU]
   exact hl
  ·rw [Yt]
   exact (Z5 _ _).append (Z5 _ _)
 ·cases e
theorem zQ:fO G (rI0 fun i j=>.int (i - j)) jF:=by
 intro Φ η H0 H x y u w F1 F2 m t Q tw e k
 obtain ⟨m1,x⟩:=x
 obtain ⟨m2,y⟩:=y
 obtain ⟨same,r1,r2,f1,f2,nd⟩:=tw
 unfold jF at e
 split at e
 ·rename_i e1 e2
  cases e1
  cases e2
  cases e
  exact ⟨_,_,r1.int_inv,r2.int_inv,bu k (.int _)⟩
 ·cases e
theorem xm:fO G (rI CQ fun i j=>.int (i / j)) bY:=by
 intro Φ η H0 H x y u w F1 F2 m t Q tw e k
 obtain ⟨m1,x⟩:=x
 obtain ⟨m2,y⟩:=y
 obtain ⟨same,r1,r2,f1,f2,nd⟩:=tw
 unfold bY at e
 split at e
 ·rename_i e1 e2
  cases e1
  cases e2
  split at e
  ·rename_i h
   cases e
   exact ⟨_,_,r1.int_inv,r2.int_inv,h,bu k (.int _)⟩
  ·cases e
 ·cases e
theorem AE:fO G (rI (fun _ j=>0 < j) fun i j=>.int (i % j)) oMod:=by
 intro Φ η H0 H x y u w F1 F2 m t Q tw e k
 obtain ⟨m1,x⟩:=x
 obtain ⟨m2,y⟩:=y
 obtain ⟨same,r1,r2,f1,f2,nd⟩:=tw
 unfold oMod at e
 split at e
 ·rename_i e1 e2
  cases e1
  cases e2
  split at e
  ·rename_i h
   cases e
   exact ⟨_,_,r1.int_inv,r2.int_inv,h,bu k (.int _)⟩
  ·cases e
 ·cases e
theorem lO:∀ (s t:Tx),ltx s t=decide (s < t)
 | [],[]=>by simp [ltx]
 | [],_ :: _=>by simp [ltx]
 | _ :: _,[]=>by simp [ltx]
 | a :: s,b :: t=>by
  unfold ltx
  rw [lO s t]
  by_cases h1:a < b
  ·simp [h1,Xz]
  ·by_cases h2:b < a
   ·have:¬ a=b:=by exact Nat.ne_of_gt h2
    simp [h1,h2,Xz,this]
   ·have:a=b:=by lia
    subst this
    simp [Xz]
noncomputable def rLt:R2:=fun x y H Q=>rI0 (fun i j=>.bl (decide (i < j))) x y H Q\/(∃ i j,x=.str i/\y=.str j/\Q (.bl (decide (i.cps.toList < j.cps.toList))) H)
theorem vh:OpR X (compareOp .Lt) rLt:=CC.or sV
theorem zi:fO G rLt oLt:=by
 intro Φ η H0 H x y u w F1 F2 m t Q tw e k
 obtain ⟨m1,x⟩:=x
 obtain ⟨m2,y⟩:=y
 obtain ⟨same,r1,r2,f1,f2,nd⟩:=tw
 unfold oLt at e
 split at e
 ·rename_i e1 e2
  cases e1
  cases e2
  cases e
  exact .inl ⟨_,_,r1.int_inv,r2.int_inv,bu k (.bl _)⟩
 ·rename_i s _ s' e1 e2
  cases e1
  cases e2
  cases e
  refine .inr ⟨_,_,r1.str_inv.1,r2.str_inv.1,?_⟩
  have:decide ((sx s).cps.toList < (sx s').cps.toList)=ltx s s':=by rw [lO];exact decide_eq_decide.mpr (by simp [sx])
  rw [this]
  exact bu k (.bl _)
 ·cases e
theorem kS:Tells oLt:=by
 intro x y m t e
 unfold oLt at e
 split at e <;> first | (cases e;exact ⟨_,rfl⟩) | cases e
theorem AO:B64=2 ^ 64:=rfl
theorem Az:fO G (rI xE fun i j=>.int (i * j)) gC:=by
 intro Φ η H0 H x y u w F1 F2 m t Q tw e k
 obtain ⟨m1,x⟩:=x
 obtain ⟨m2,y⟩:=y
 obtain ⟨same,r1,r2,f1,f2,nd⟩:=tw
 unfold gC at e
 split at e
 ·rename_i e1 e2
  cases e1
  cases e2
  split at e
  ·rename_i h
   cases e
   refine ⟨_,_,r1.int_inv,r2.int_inv,?_,bu k (.int _)⟩
   rw [AO] at h
   exact h
  ·cases e
 ·cases e
theorem su:OpR X (compareOp .LtE) (fun x y H Q=>∃ i j,x=.str i/\y=.str j/\Q (.bl (!decide (j.cps.toList < i.cps.toList))) H):=by
 intro pins s σ H x y v u Q I rx ry h
 obtain ⟨i,j,rfl,rfl,q⟩:=h
 obtain ⟨t,rfl⟩:=rx
 obtain ⟨t',rfl⟩:=ry
 exact PySem.P.le_str ⟨.bl _,H,I,rfl,q⟩
noncomputable def rLe:R2:=fun x y H Q=>rI0 (fun i j=>.bl (decide (i<=j))) x y H Q\/(∃ i j,x=.str i/\y=.str j/\Q (.bl (!decide (j.cps.toList < i.cps.toList))) H)
theorem tN:OpR X (compareOp .LtE) rLe:=B7.or su
theorem zt:fO G rLe oLe:=by
 intro Φ η H0 H x y u w F1 F2 m t Q tw e k
 obtain ⟨m1,x⟩:=x
 obtain ⟨m2,y⟩:=y
 obtain ⟨same,r1,r2,f1,f2,nd⟩:=tw
 unfold oLe at e
 split at e
 ·rename_i e1 e2
  cases e1
  cases e2
  cases e
  exact .inl ⟨_,_,r1.int_inv,r2.int_inv,bu k (.bl _)⟩
 ·rename_i s _ s' e1 e2
  cases e1
  cases e2
  cases e
  refine .inr ⟨_,_,r1.str_inv.1,r2.str_inv.1,?_⟩
  have:decide ((sx s').cps.toList < (sx s).cps.toList)=ltx s' s:=by rw [lO];exact decide_eq_decide.mpr (by simp [sx])
  rw [this]
  exact bu k (.bl _)
 ·cases e
theorem uy:Tells oLe:=by
 intro x y m t e
 unfold oLe at e
 split at e <;> first | (cases e;exact ⟨_,rfl⟩) | cases e
theorem qb {n:Nat} {i:Int}:ixP n i=ixN n i:=by
 unfold ixP ixN
 by_cases h:0<=i
 ·rw [Zq h,Zq h]
 ·rw [Zo h,Zo h]
  by_cases h2:0<=i+n
  ·rw [Zq h2,Zq (by lia)]
  ·rw [Zo h2,Zo (by lia)]
theorem lH {α:Type} {l:List α} {i:Int} {k:Nat} {x:α} (h1:ixP l.length i=some k) (h2:l[k]?=some x):atI l i=some x:=by
 unfold atI
 rw [← qb,h1]
 exact h2
theorem dv {Fs:Wu} {F:Wr} {i:Nat} (h:Fs[i]?=some F):F.Sublist Fs.flatten:=by
 obtain ⟨hi,rfl⟩:=Zd.mp h
 exact List.sublist_flatten_of_mem (Yy hi)
theorem Fp.sub {Φ:Fps} {η:VS.Env} {H:Hp} {F F':Wr} (h:F.Sublist F'):∀ {m:Md},Fp Φ η H m F'->Fp Φ η H m F
 | .fr,f=>⟨f.1.sublist h,fun a ha=>f.2 a (h.subset ha)⟩
 | .pu,f=>fun a ha=>f a (h.subset ha)
 | .bo,f=>fun a ha=>f a (h.subset ha)
theorem v7:fO G (rIx G.K) ax:=by
 intro Φ η H0 H x y u w F1 F2 m t Q tw e k
 obtain ⟨m1,x⟩:=x
 obtain ⟨m2,y⟩:=y
 obtain ⟨same,r1,r2,f1,f2,nd⟩:=tw
 unfold ax at e
 split at e
 ·rename_i m3 l m4 i e1 e2
  cases e1
  cases e2
  obtain ⟨j,h1,e⟩:=Zz.mp e
  obtain ⟨x,h2,e⟩:=Zu.mp e
  obtain ⟨a,vs,Fs,rfl,rfl,ha,ra⟩:=r1.lst_inv
  obtain ⟨v,F,g1,g2,g3⟩:=ra.get j h2
  refine .inl ⟨a,vs,i,v,rfl,r2.int_inv,SqL.of ha,lH (by rw [ra.len.1];exact h1) g1,?_⟩
  have f:=((f1.sub (Z5 _ _)).sub (dv g2)).up g3
  unfold VS.sub at e
  rw [e] at f
  have et:x=t:=congrArg Prod.snd e
  rw [et] at g3
  exact k v H F (aJ.refl _) g3 f
 ·rename_i m3 l m4 i e1 e2
  cases e1
  cases e2
  obtain ⟨j,h1,e⟩:=Zz.mp e
  obtain ⟨x,h2,e⟩:=Zu.mp e
  obtain ⟨a,vs,Fs,rfl,rfl,ha,ra⟩:=r1.tup_inv
  obtain ⟨v,F,g1,g2,g3⟩:=ra.get j h2
  refine .inr (.inl ⟨a,vs,i,v,rfl,r2.int_inv,SqT.of ha,lH (by rw [ra.len.1];exact h1) g1,?_⟩)
  have f:=(f1.sub (dv g2)).up g3
  unfold VS.sub at e
  rw [e] at f
  have et:x=t:=congrArg Prod.snd e
  rw [et] at g3
  exact k v H F (aJ.refl _) g3 f
 ·rename_i m3 l m4 i e1 e2
  cases e1
  cases e2
  obtain ⟨j,h1,e⟩:=Zz.mp e
  obtain ⟨x,h2,e⟩:=Zu.mp e
  cases e
  obtain ⟨a,rfl,rfl,sa⟩:=r1.scr_inv
  refine .inl ⟨a,l.map V.int,i,.int x,rfl,r2.int_inv,sa.seq,lH (by rw [Zy];exact h1) (by rw [ZO,h2];rfl),bu k (.int _)⟩
 ·rename_i m3 l m4 i e1 e2
  cases e1
  cases e2
  obtain ⟨j,h1,e⟩:=Zz.mp e
  obtain ⟨x,h2,e⟩:=Zu.mp e
  cases e
  obtain ⟨rfl,hl⟩:=r1.str_inv
  refine .inr (.inr ⟨sx l,i,x,rfl,r2.int_inv,by rw [dJ,← fU];exact hl.1,lH (k:=j) (by simpa [sx] using h1) (by simpa [sx] using h2),?_⟩)
  exact bu k (.str [x] ⟨by show 1<=eO;decide,fun c hc=>by rw [Zb.mp hc];exact hl.2 x (YI h2)⟩)
 ·cases e
end
section
variable {G:Gx} {X:Cx} {a b c e:Expr} {es:List Expr} {ca cb cc:Ex} {cs:Exs} {pos p:Pos}
theorem qT {x:Addr}:∀ {l:Wi} {Fs:Wu},x∈frs l Fs->∃ (i:Nat) (v:Val) (F:Wr),l[i]?=some v/\v.1=.fr/\Fs[i]?=some F/\x∈F
 | [],_,h=>by simp [frs] at h
 | _ :: _,[],h=>by simp [frs] at h
 | v :: l,F :: Fs,h=>by
  have go:x∈frs l Fs->∃ (i:Nat) (u:Val) (F':Wr),(v :: l)[i]?=some u/\u.1=.fr/\(F :: Fs)[i]?=some F'/\x∈F':=fun m=>by
   obtain ⟨i,u,F',h1,h2,h3,h4⟩:=qT m
   exact ⟨i+1,u,F',by simpa using h1,h2,by simpa using h3,h4⟩
  unfold frs at h
  split at h
  ·rename_i hv
   rcases ZY.mp h with h | h
   ·exact ⟨0,v,F,rfl,hv,rfl,h⟩
   ·exact go h
  ·exact go h
theorem xl:PVs G X [] aj:=PA.weak kC fun σ H Q hq=>by
 obtain ⟨Φ,η,l,s,e,k⟩:=hq
 cases (show some ([]:Wi)=some l from e)
 exact k [] H [] (aJ.refl _) .nil ⟨fun i v F h=>by simp at h,by simp [frs]⟩
theorem vn (ha:PV G X e ca) (hr:PVs G X es cs) (hs:starEach (e :: es) X.env=(false,eval e X.env) :: starEach es X.env:=by rfl):PVs G X (e :: es) (ae ca cs):=PA.weak (fQ ha hr hs) fun σ H Q hq=>by
 obtain ⟨Φ,η,l,s,e,k⟩:=hq
 unfold ae at e
 obtain ⟨x,ea,e⟩:=Zz.mp e
 obtain ⟨xs,er,e⟩:=Zz.mp e
 cases e
 refine ⟨Φ,η,x.1,x.2,s,ea,fun v H1 F e1 r1 f1=>⟨Φ,η,xs,s.same e1,er,fun vs H2 Fs e2 r2 f2=>k (v :: vs) H2 (F :: Fs) (e1.trans e2) (.cons (r1.same e2) r2) ⟨fun i u F' h1 h2=>?_,?_⟩⟩⟩
 ·cases i with
  | zero =>
   cases (show some x=some u from h1)
   cases (show some F=some F' from h2)
   exact f1
  | succ i=>exact (f2.each i u F' (by simpa using h1) (by simpa using h2)).back e1
 ·unfold frs
  split
  ·rename_i hx
   rw [hx] at f1
   refine ZP.mpr ⟨f1.1,f2.nd,fun y hy z hz q=>?_⟩
   subst q
   obtain ⟨i,u,F',h1,h2,h3,h4⟩:=qT hz
   have f:=f2.each i u F' h1 h3
   rw [h2] at f
   exact Mut.ne_none (r1.dom y hy) (f.2 y h4)
  ·exact f2.nd
theorem jv:∀ {l:Wi},cz l=.fr->∀ v∈l,v.1=.fr
 | [],_,v,h=>by simp at h
 | (m,t) :: r,e,v,h=>by
  have e':m.join (cz r)=.fr:=e
  have h1:m=.fr:=by
   revert e'
   cases m <;> cases cz r <;> simp [Md.join]
  have h2:cz r=.fr:=by
   revert e'
   cases m <;> cases cz r <;> simp [Md.join]
  rcases Zg.mp h with rfl | h
  ·exact h1
  ·exact jv h2 v h
theorem jg:∀ {l:Wi},cz l ≠ .bo->∀ v∈l,v.1 ≠ .bo
 | [],_,v,h=>by simp at h
 | (m,t) :: r,e,v,h=>by
  have e':m.join (cz r) ≠ .bo:=e
  have h1:m ≠ .bo:=by
   revert e'
   cases m <;> cases cz r <;> simp [Md.join]
  have h2:cz r ≠ .bo:=by
   revert e'
   cases m <;> cases cz r <;> simp [Md.join]
  rcases Zg.mp h with rfl | h
  ·exact h1
  ·exact jg h2 v h
theorem qQ:∀ {l:Wi} {Fs:Wu},l.length=Fs.length->(∀ v∈l,v.1=.fr)->frs l Fs=Fs.flatten
 | [],[],_,_=>rfl
 | [],_ :: _,h,_=>by simp at h
 | _ :: _,[],h,_=>by simp at h
 | v :: l,F :: Fs,h,q=>by
  unfold frs
  rw [q v Zw,qQ (by simpa using h) fun u hu=>q u (Zx _ hu)]
  rfl
theorem fj {x:Addr} {Fs:Wu} (h:x∈Fs.flatten):∃ (i:Nat) (F:Wr),Fs[i]?=some F/\x∈F:=by
 obtain ⟨F,hF,hx⟩:=List.mem_flatten.mp h
 obtain ⟨i,hi⟩:=List.mem_iff_getElem?.mp hF
 exact ⟨i,F,hi,hx⟩
theorem FpL.join {Φ:Fps} {η:VS.Env} {H:Hp} {l:Wi} {Fs:Wu} (f:FpL Φ η H l Fs) (hl:l.length=Fs.length):Fp Φ η H (cz l) Fs.flatten:=by
 have at':∀ x∈Fs.flatten,∃ v F,v∈l/\x∈F/\Fp Φ η H v.1 F:=fun x hx=>by
  obtain ⟨i,F,hi,hxF⟩:=fj hx
  have:i < l.length:=by
   have:=(Zd.mp hi).1
   lia
  exact ⟨l[i],F,Yy this,hxF,f.each i _ F (Zm this) hi⟩
 cases e:cz l with
 | fr =>
  have al:=jv e
  refine ⟨by rw [← qQ hl al];exact f.nd,fun x hx=>?_⟩
  obtain ⟨v,F,hv,hxF,q⟩:=at' x hx
  rw [al v hv] at q
  exact q.2 x hxF
 | pu =>
  have al:=jg (l:=l) (by rw [e];decide)
  intro x hx
  obtain ⟨v,F,hv,hxF,q⟩:=at' x hx
  exact Fp.pu (al v hv) q x hxF
 | bo =>
  intro x hx
  obtain ⟨v,F,hv,hxF,q⟩:=at' x hx
  exact q.bo x hxF
structure Args (G:Gx) (Φ:Fps) (η:VS.Env) (H0 H:Hp) (l:Wi) (vs:List V) (Fs:Wu):Prop where
 same:aJ H0 H
 rp:RpL G H vs (trees l) Fs
 fp:FpL Φ η H0 l Fs
theorem Args.len {Φ:Fps} {η:VS.Env} {H0 H:Hp} {l:Wi} {vs:List V} {Fs:Wu} (A:Args G Φ η H0 H l vs Fs):l.length=Fs.length:=by
 have:=A.rp.len.2
 simp [trees] at this
 exact Eq.symm this
noncomputable def eP (G:Gx) (r:List V->Hp->VK->Prop) (f:Wi->Wh):Prop:=∀ (Φ:Fps) (η:VS.Env) (H0 H:Hp) (l:Wi) (vs:List V) (Fs:Wu) (m:Md) (t:T) (Q:VK),Args G Φ η H0 H l vs Fs->f l=some (m,t) →
 (∀ v H' F,aJ H H'->Rp G H' v t F->Fp Φ η H0 m F->Q v H')->r vs H Q
theorem zv {r:List V->Hp->VK->Prop} {f:Wi->Wh} (ok:eP G r f) {σ:L2.St} {H:Hp} {Q:VK} {η:VS.Env} {Φ:Fps} {l:Wi} {m:Md} {t:T} (s:SR G Φ η σ H) (el:cs η=some l) (e:f l=some (m,t))
  (k:∀ v H' F,aJ H H'->Rp G H' v t F->Fp Φ η H m F->Q v H'):tEs G cs σ H fun vs H1=>r vs H1 Q :=
 ⟨Φ,η,l,s,el,fun vs H' Fs e1 r1 f1=>ok Φ η H H' l vs Fs m t Q ⟨e1,r1,f1⟩ e fun v H2 F e2 r2 f2=>k v H2 F (e1.trans e2) r2 f2⟩
theorem gX {r:List V->Hp->VK->Prop} {f:Wi->Wh} {id:String} {x:Str} (hc:dD X (.builtin id) r) (ok:eP G r f) (hg:Gl X x) (hm:X.mg x=none) (hv:bootBuiltins x=some (.builtin id)) (ha:PVs G X (e :: es) cs)
  (hn:x ≠ "__name__" := by decide) (hdb:(x == ("__debug__" : Str))=false:=by decide)
  (he:starEach (e :: es) X.env=(false,eval e X.env) :: starEach es X.env:=by rfl) (hpl:(backTo pos (starEach es X.env)).any (·.1)=false:=by rfl):PV G X (.Call (.Name x p) (e :: es) [] pos) (eN f cs) :=
 PE.weak (n0 hc hg hm hv ha hn hdb he hpl) fun σ H Q hq=>by
  obtain ⟨Φ,η,m,t,s,e,k⟩:=hq
  unfold eN at e
  obtain ⟨l,el,e⟩:=Zz.mp e
  exact zv ok s el e k
theorem jC {r:List V->Hp->VK->Prop} {f:Wi->Wh} {Ty:String} {x:Str} (hc:dD X (.type Ty) r) (ok:eP G r f) (hg:Gl X x) (hm:X.mg x=none) (hv:bootBuiltins x=some (.type Ty)) (ha:PVs G X (e :: es) cs)
  (hn:x ≠ "__name__" := by decide) (hdb:(x == ("__debug__" : Str))=false:=by decide)
  (he:starEach (e :: es) X.env=(false,eval e X.env) :: starEach es X.env:=by rfl) (hpl:(backTo pos (starEach es X.env)).any (·.1)=false:=by rfl):PV G X (.Call (.Name x p) (e :: es) [] pos) (eN f cs) :=
 PE.weak (r6 hc hg hm hv ha hn hdb he hpl) fun σ H Q hq=>by
  obtain ⟨Φ,η,m,t,s,e,k⟩:=hq
  unfold eN at e
  obtain ⟨l,el,e⟩:=Zz.mp e
  exact zv ok s el e k
theorem Bv (h:PVs G X es cs):PV G X (.List es pos) (fL cs):=PE.weak (Av h) fun σ H Q hq=>by
 obtain ⟨Φ,η,m,t,s,e,k⟩:=hq
 unfold fL at e
 obtain ⟨l,el,e⟩:=Zz.mp e
 refine ⟨Φ,η,l,s,el,fun vs H' Fs e1 r1 f1=>?_⟩
 have A:Args G Φ η H H' l vs Fs:=⟨e1,r1,f1⟩
 obtain ⟨_,hl,_⟩:=nP e
 refine ⟨by rw [r1.len.1,← fU];exact hl,ie e1 e r1 (f1.join A.len) fun v H2 F e2 r2 f2=>k v H2 F (e1.trans e2) r2 f2⟩
theorem zO {x1} (h:PVs G X es cs):PV G X (.Tuple es x1 pos) (j7 cs):=PE.weak (Bq h) fun σ H Q hq=>by
 obtain ⟨Φ,η,m,t,s,e,k⟩:=hq
 unfold j7 at e
 obtain ⟨l,el,e⟩:=Zz.mp e
 refine ⟨Φ,η,l,s,el,fun vs H' Fs e1 r1 f1=>?_⟩
 have A:Args G Φ η H H' l vs Fs:=⟨e1,r1,f1⟩
 unfold rA at e
 split at e
 ·rename_i hl
  cases e
  refine ⟨by rw [r1.len.1,← fU,trees,Zy];exact hl,fun q hq=>?_⟩
  have r2:Rp G (upd H' q (.tup vs)) (.ref q) (.tup (trees l)) Fs.flatten:=.tup ay (r1.same (da hq))
  exact k _ _ _ (e1.trans (da hq)) r2 (Fp.up (f1.join A.len) r2)
 ·cases e
theorem yN {H:Hp} {v:V} {t:T} {F:Wr} {k:Bool} (r:Rp G H v t F) (h:tru t=some k):AZ G.K v H k:=by
 cases r with
 | non=>cases h;rfl
 | bl b=>cases h;rfl
 | int i=>cases h;rfl
 | str s hl =>
  cases h
  refine ⟨by rw [dJ,← fU];exact hl.1,?_⟩
  rw [dJ]
  cases s with
  | nil=>rfl
  | cons a r =>
   have:((List.length (a :: r):Int) != 0)=true:=by simp;lia
   rw [this]
   rfl
 | scr h'=>cases h
 | tup h' q =>
  cases h
  refine .inr (.inl ⟨_,SqT.of h',?_⟩)
  have:=q.len.1
  rename_i vs ts _
  cases vs <;> cases ts <;> simp_all
 | lst h' q =>
  cases h
  refine .inl ⟨_,SqL.of h',?_⟩
  have:=q.len.1
  rename_i vs ts _
  cases vs <;> cases ts <;> simp_all
 | dct h' hl q =>
  cases h
  refine .inr (.inr ⟨_,h',?_⟩)
  have:=q.len.1
  rename_i ks vs ts _
  cases ks <;> cases vs <;> cases ts <;> simp_all
 | dctT h' hl q=>cases h
 | dctN h' hl n q=>cases h
 | dctZ _ _ _=>cases h
 | exc _ _=>cases h
 | ins _ _ _ _=>cases h
theorem xJ (h:PV G X a ca) (hK:X.K=G.K:=by rfl) (he:∀ whole,isTrue a X.env whole=(do let v ← whole;standAt a.pos;holding [v] (truthy v)):=by intro _;rfl):PVT G X a ca :=
 PT.weak (vD h he) fun σ H Q ⟨Φ,η,m,r,b,s,e,eb,k⟩=>⟨Φ,η,m,r,s,e,fun v H' F e1 r1 f1=>⟨b,by rw [hK];exact yN r1 eb,k H' e1⟩⟩
noncomputable def PVW (G:Gx) (X:Cx) (e:Expr) (c:Ex):Prop:=PW X e (tT G c)
theorem PW.weak {X:Cx} {e:Expr} {t t':TT} (h:PW X e t) (w:∀ σ H Q,t' σ H Q->t σ H Q):PW X e t':=fun wh pins s σ H Q I q=>h wh pins s σ H Q I (w σ H Q q)
theorem PVW.pvt (h:PVW G X e ca):PVT G X e ca:=PW.pt h
variable {rest:List Expr}
theorem vt (ha:PVT G X a ca):PVW G X (.BoolOp .And [a] pos) ca:=xu ha
theorem xD (ha:PVT G X a ca):PVW G X (.BoolOp .Or [a] pos) ca:=zL ha
theorem o8 {η:VS.Env} {m:Md} {r:T} (e:gu ca cb η=some (m,r)):(∃ n,ca η=some (n,.bl true)/\cb η=some (m,r))\/(∃ n,ca η=some (n,.bl false)/\m=.fr/\r=.bl false):=by
 unfold gu at e
 obtain ⟨⟨n,x⟩,ea,e⟩:=Zz.mp e
 split at e
 ·rename_i h
  cases (show x=.bl true from h)
  exact .inl ⟨n,ea,e⟩
 ·rename_i h
  cases (show x=.bl false from h)
  cases e
  exact .inr ⟨n,ea,rfl,rfl⟩
 ·cases e
theorem yq {η:VS.Env} {m:Md} {r:T} (e:eOr ca cb η=some (m,r)):(∃ n,ca η=some (n,.bl false)/\cb η=some (m,r))\/(∃ n,ca η=some (n,.bl true)/\m=.fr/\r=.bl true):=by
 unfold eOr at e
 obtain ⟨⟨n,x⟩,ea,e⟩:=Zz.mp e
 split at e
 ·rename_i h
  cases (show x=.bl true from h)
  cases e
  exact .inr ⟨n,ea,rfl,rfl⟩
 ·rename_i h
  cases (show x=.bl false from h)
  exact .inl ⟨n,ea,e⟩
 ·cases e
theorem xZ (ha:PVT G X a ca) (hb:PVW G X (.BoolOp .And (b :: rest) pos) cb):PVW G X (.BoolOp .And (a :: b :: rest) pos) (gu ca cb) :=
 PW.weak (AH ha hb) fun σ H Q hq=>by
  obtain ⟨Φ,η,m,r,k,s,e,eb,q⟩:=hq
  rcases o8 e with ⟨n,ea,e2⟩ | ⟨n,ea,rfl,rfl⟩
  ·refine ⟨Φ,η,n,_,true,s,ea,rfl,fun H' e1=>?_⟩
   refine wQ ?_
   exact ⟨Φ,η,m,r,k,s.same e1,e2,eb,fun H2 e2=>q H2 (e1.trans e2)⟩
  ·refine ⟨Φ,η,n,_,false,s,ea,rfl,fun H' e1=>?_⟩
   refine xS ?_
   cases eb
   exact q H' e1
theorem Bg (ha:PVT G X a ca) (hb:PVW G X (.BoolOp .Or (b :: rest) pos) cb):PVW G X (.BoolOp .Or (a :: b :: rest) pos) (eOr ca cb) :=
 PW.weak (B9 ha hb) fun σ H Q hq=>by
  obtain ⟨Φ,η,m,r,k,s,e,eb,q⟩:=hq
  rcases yq e with ⟨n,ea,e2⟩ | ⟨n,ea,rfl,rfl⟩
  ·refine ⟨Φ,η,n,_,false,s,ea,rfl,fun H' e1=>?_⟩
   refine xS ?_
   exact ⟨Φ,η,m,r,k,s.same e1,e2,eb,fun H2 e2=>q H2 (e1.trans e2)⟩
  ·refine ⟨Φ,η,n,_,true,s,ea,rfl,fun H' e1=>?_⟩
   refine wQ ?_
   cases eb
   exact q H' e1
theorem o7 {η:VS.Env} {m:Md} {r:T} (e:j9 ca η=some (m,r)):∃ n b,ca η=some (n,.bl b)/\m=.fr/\r=.bl (!b):=by
 unfold j9 at e
 obtain ⟨⟨n,x⟩,ea,e⟩:=Zz.mp e
 split at e
 ·rename_i b h
  cases (show x=.bl b from h)
  cases e
  exact ⟨n,b,ea,rfl,rfl⟩
 ·cases e
theorem xG (ha:PVT G X a ca):PVT G X (.UnaryOp .Not a pos) (j9 ca):=PT.weak (BO ha) fun σ H Q hq=>by
 obtain ⟨Φ,η,m,r,k,s,e,eb,q⟩:=hq
 obtain ⟨n,b,ea,rfl,rfl⟩:=o7 e
 cases eb
 exact ⟨Φ,η,n,_,b,s,ea,rfl,fun H' e1=>q H' e1⟩
theorem AL (ha:PV G X a ca):PV G X (.UnaryOp .Not a pos) (j9 ca):=PE.weak (zP ha) fun σ H Q hq=>by
 obtain ⟨Φ,η,m,r,s,e,q⟩:=hq
 obtain ⟨n,b,ea,rfl,rfl⟩:=o7 e
 exact ⟨Φ,η,n,_,s,ea,fun v H' F e1 r1 f1=>⟨b,r1.bl_inv,q _ H' _ e1 (.bl _) Fp.nil⟩⟩
theorem A8 {op} (h:PV G X a ca):PV G X (.BoolOp op [a] pos) ca:=A2 h
theorem Bp (ha:PV G X a ca) (hb:PV G X (.BoolOp .And (b :: rest) pos) cb):PV G X (.BoolOp .And (a :: b :: rest) pos) (gu ca cb) :=
 PE.weak (Au ha hb) fun σ H Q hq=>by
  obtain ⟨Φ,η,m,r,s,e,q⟩:=hq
  rcases o8 e with ⟨n,ea,e2⟩ | ⟨n,ea,rfl,rfl⟩
  ·refine ⟨Φ,η,n,_,s,ea,fun v H' F e1 r1 f1=>⟨true,r1.bl_inv,?_⟩⟩
   refine wQ ?_
   exact ⟨Φ,η,m,r,s.same e1,e2,fun v H2 F e2 r2 f2=>q v H2 F (e1.trans e2) r2 (f2.back e1)⟩
  ·refine ⟨Φ,η,n,_,s,ea,fun v H' F e1 r1 f1=>⟨false,r1.bl_inv,?_⟩⟩
   refine xS ?_
   exact q _ H' _ e1 (.bl _) Fp.nil
theorem qy {H:Hp} {v:V} {t:T} {F:Wr} (r:Rp G H v t F):decide (v=.non)=isN t:=by
 cases r <;> simp [isN]
theorem zh {t:TE} {c:Ex} {σ:L2.St} {H:Hp} {Q:Bool->Hp->Prop} (h:tT G c σ H Q) (ht:∀ η m r,c η=some (m,r)->∃ b,r=.bl b) (w:∀ Q,tE G c σ H Q->t σ H Q):tB t σ H Q:=by
 obtain ⟨Φ,η,m,r,b,s,e,eb,k⟩:=h
 refine w _ ⟨Φ,η,m,r,s,e,fun v H' F e1 r1 f1=>?_⟩
 obtain ⟨b',er⟩:=ht η m r e
 rw [er] at eb r1
 cases (show some b'=some b from eb)
 exact ⟨_,r1.bl_inv,k H' e1⟩
end
section
variable {G:Gx} {X:Cx} {a b c e:Expr} {es:List Expr} {ca cb cc:Ex} {cs:Exs} {pos p:Pos}
theorem RpL.one {H:Hp} {vs:List V} {t:T} {Fs:Wu} (r:RpL G H vs [t] Fs):∃ v F,vs=[v]/\Fs=[F]/\Rp G H v t F:=by
 cases r with
 | cons r q=>cases q;exact ⟨_,_,rfl,rfl,r⟩
theorem RpL.two {H:Hp} {vs:List V} {t t':T} {Fs:Wu} (r:RpL G H vs [t,t'] Fs):∃ v v' F F',vs=[v,v']/\Fs=[F,F']/\Rp G H v t F/\Rp G H v' t' F':=by
 cases r with
 | cons r q =>
  obtain ⟨v',F',rfl,rfl,r'⟩:=q.one
  exact ⟨_,_,_,_,rfl,rfl,r,r'⟩
noncomputable def CT (K:Wt):List V->Hp->VK->Prop:=fun xs H Q=>(∃ x n,xs=[x]/\Cs K x H n/\Q (.int n) H)\/(∃ a kvs,xs=[V.ref a]/\H a=some (.dK kvs)/\Q (.int kvs.length) H)
theorem pJ:dD X (.builtin "len") (fun xs H Q=>∃ a kvs,xs=[V.ref a]/\H a=some (.dK kvs)/\Q (.int kvs.length) H):=by
 intro pins s σ H xs us Q I r h
 obtain ⟨a,kvs,rfl,ha,q⟩:=h
 obtain ⟨u,rfl,ru⟩:=vals1 r
 cases ru
 exact Do I (.inl ha) fun t s' I'=>⟨.int kvs.length,H,I',⟨t,rfl⟩,q⟩
theorem sG:dD X (.builtin "len") (CT X.K):=ve.or pJ
theorem zB:eP G (CT G.K) bX:=by
 intro Φ η H0 H l vs Fs m t Q A e k
 refine L2.jl fun P_ k_=>?_
 unfold bX at e
 split at e
 ·rename_i x
  obtain ⟨mx,x⟩:=x
  obtain ⟨n,en,e⟩:=Zu.mp e
  cases e
  obtain ⟨v,F,rfl,rfl,r⟩:=(show RpL G H vs [x] Fs from A.rp).one
  have fin:Q (.int (n:Int)) H:=bu k (.int _)
  cases r with
  | non=>cases en
  | bl b=>cases en
  | int i=>cases en
  | str s hl =>
   cases en
   refine k_ ?_
   exact .inl ⟨_,_,rfl,⟨by rw [dJ,← fU];exact hl.1,rfl⟩,by rw [dJ];exact fin⟩
  | scr h =>
   cases en
   refine k_ ?_
   refine .inl ⟨_,_,rfl,.inl ⟨_,h.seq,rfl⟩,?_⟩
   rw [Zy]
   exact fin
  | tup h q =>
   cases en
   refine k_ ?_
   refine .inl ⟨_,_,rfl,.inr ⟨_,SqT.of h,rfl⟩,?_⟩
   rw [q.len.1]
   exact fin
  | lst h q =>
   cases en
   refine k_ ?_
   refine .inl ⟨_,_,rfl,.inl ⟨_,SqL.of h,rfl⟩,?_⟩
   rw [q.len.1]
   exact fin
  | dct h hl q =>
   cases en
   refine k_ ?_
   refine .inr ⟨_,_,rfl,h,?_⟩
   rename_i ks ws ts _
   have e1:=q.len.1
   rw [Yw,Zy] at fin
   rw [Yw,e1]
   exact fin
  | dctT h hl q=>cases en
  | dctN h hl n q=>cases en
  | dctZ _ _ _=>cases en
  | exc _ _=>cases en
  | ins _ _ _ _=>cases en
 ·cases e
theorem xw:eP G (fun xs H Q=>∃ i j,xs=[.int i,.int j]/\Q (.int (if j > i then j else i)) H) mL:=by
 intro Φ η H0 H l vs Fs m t Q A e k
 unfold mL at e
 split at e
 ·rename_i _ i _ j
  cases e
  obtain ⟨v,v',F,F',rfl,rfl,r,r'⟩:=(show RpL G H vs [.int i,.int j] Fs from A.rp).two
  exact ⟨i,j,by rw [r.int_inv,r'.int_inv],bu k (.int _)⟩
 ·cases e
theorem yy:eP G (fun xs H Q=>∃ i j,xs=[.int i,.int j]/\Q (.int (if j < i then j else i)) H) mh:=by
 intro Φ η H0 H l vs Fs m t Q A e k
 unfold mh at e
 split at e
 ·rename_i _ i _ j
  cases e
  obtain ⟨v,v',F,F',rfl,rfl,r,r'⟩:=(show RpL G H vs [.int i,.int j] Fs from A.rp).two
  exact ⟨i,j,by rw [r.int_inv,r'.int_inv],bu k (.int _)⟩
 ·cases e
noncomputable def zc (K:Wt):List V->Hp->VK->Prop:=fun xs H Q=>∃ p ys,xs=[.ref p]/\(SqL K H p ys\/SqT K H p ys)/\∀ l,H l=none->Q (.ref l) (upd H l (.lst ys))
theorem rM:eP G (zc G.K) y9:=by
 intro Φ η H0 H l vs Fs m t Q A e k
 unfold y9 at e
 split at e
 ·rename_i mx x
  obtain ⟨v,F,rfl,rfl,rx⟩:=(show RpL G H vs [.lst x] Fs from A.rp).one
  obtain ⟨a,ys,Gs,rfl,rfl,ha,ra⟩:=rx.lst_inv
  have f:=A.fp.each 0 _ _ rfl rfl
  exact ⟨a,ys,rfl,.inl (SqL.of ha),ie A.same e ra (f.sub (Z5 _ _)) k⟩
 ·rename_i mx x
  obtain ⟨v,F,rfl,rfl,rx⟩:=(show RpL G H vs [.tup x] Fs from A.rp).one
  obtain ⟨a,ys,Gs,rfl,rfl,ha,ra⟩:=rx.tup_inv
  have f:=A.fp.each 0 _ _ rfl rfl
  exact ⟨a,ys,rfl,.inr (SqT.of ha),ie A.same e ra f k⟩
 ·cases e
noncomputable def tO (G:Gx) (c:Option Ex):TO:=fun σ H Q=>∃ Φ η o,SR G Φ η σ H/\uR c η=some o/\∀ H',aJ H H'->Q o H'
noncomputable def PVO (G:Gx) (X:Cx) (e:Option Expr) (c:Option Ex):Prop:=PO X e (tO G c)
theorem PO.weak {X:Cx} {e:Option Expr} {t t':TO} (h:PO X e t) (w:∀ σ H Q,t' σ H Q->t σ H Q):PO X e t':=fun pins s σ H Q I q=>h pins s σ H Q I (w σ H Q q)
theorem oT:PVO G X none none:=PO.weak wO fun σ H Q hq=>by
 obtain ⟨Φ,η,o,s,e,k⟩:=hq
 cases (show some (none:Option Int)=some o from e)
 exact k H (aJ.refl _)
theorem o9 (h:PV G X a ca):PVO G X (some a) (some ca):=PO.weak (yd h) fun σ H Q hq=>by
 obtain ⟨Φ,η,o,s,e,k⟩:=hq
 obtain ⟨⟨m,y⟩,ea,e⟩:=Zz.mp (show (ca η).bind (fun y=>(int? y.2).map some)=some o from e)
 obtain ⟨i,ei,e⟩:=Zu.mp e
 cases e
 refine ⟨Φ,η,m,y,s,ea,fun v H' F e1 r1 f1=>?_⟩
 cases y with
 | int j =>
  cases ei
  exact ⟨_,r1.int_inv,k H' e1⟩
 | _=>cases ei
theorem jH {α:Type} (l:List α) (lo hi:Option Int):cut l lo hi=(l.drop (HT.sIx l.length 0 lo)).take (HT.sIx l.length l.length hi - HT.sIx l.length 0 lo):=by
 unfold cut
 cases lo <;> cases hi <;> rfl
theorem t8 (lo hi:Option Int) (n:Nat):Builtin.Str.strSliceIndices lo hi 1 n=Builtin.Str.strSliceIndices (some ((min (HT.sIx n 0 lo) n:Nat):Int)) (some ((min (HT.sIx n n hi) n:Nat):Int)) 1 n:=by
 have e1:∀ k:Nat,¬ ((k:Int) < 0):=fun k=>by lia
 unfold Builtin.Str.strSliceIndices
 simp only [show (1:Int) > 0 by decide,if_true,e1,if_false]
 congr 1
 ·cases lo with
  | none=>simp only [HT.sIx];lia
  | some i =>
   simp only [HT.sIx]
   by_cases h:i < 0
   ·simp only [h,if_true];lia
   ·simp only [h,if_false];lia
 ·cases hi with
  | none=>simp only [HT.sIx];lia
  | some i =>
   simp only [HT.sIx]
   by_cases h:i < 0
   ·simp only [h,if_true];lia
   ·simp only [h,if_false];lia
theorem lQ (s:Tx) (lo hi:Option Int):PySem.StrLaws.sliceText (sx s) lo hi=sx (cut s lo hi):=by
 have key:PySem.StrLaws.sliceText (sx s) lo hi=PySem.StrLaws.sliceText (sx s) (some ((min (HT.sIx s.length 0 lo) s.length:Nat):Int)) (some ((min (HT.sIx s.length s.length hi) s.length:Nat):Int)):=by
  unfold PySem.StrLaws.sliceText
  rw [dJ,t8]
 rw [key]
 have hd:∀ a:Nat,s.drop (min a s.length)=s.drop a:=fun a=>by
  by_cases h:a<=s.length
  ·rw [Xu h]
  ·rw [X9 (by exact Xy h),YQ (Zl _),YQ (by exact Xy h)]
 by_cases h:min (HT.sIx s.length 0 lo) s.length<=min (HT.sIx s.length s.length hi) s.length
 ·rw [PySem.StrLaws.sliceText_nat (sx s) h (by rw [dJ];exact X8 _ _),jH]
  show (⟨_⟩:Str)=⟨_⟩
  congr 2
  show ((sx s).cps.toList.drop _).take _=_
  have:(sx s).cps.toList=s:=rfl
  rw [this,hd]
  by_cases h2:HT.sIx s.length 0 lo<=s.length
  ·rw [Xu h2]
   by_cases h3:HT.sIx s.length s.length hi<=s.length
   ·rw [Xu h3]
   ·rw [X9 (by exact Xy h3),Xf (by rw [YE];exact Zl _),Xf (by rw [YE];lia)]
  ·rw [YQ (by exact Xy h2)]
   simp
 ·have e0:cut s lo hi=[]:=by
   rw [jH]
   have:HT.sIx s.length s.length hi - HT.sIx s.length 0 lo=0:=by omega
   rw [this,List.take_zero]
  rw [e0]
  unfold PySem.StrLaws.sliceText
  have e2:Builtin.Str.strSliceIndices (some ((min (HT.sIx s.length 0 lo) s.length:Nat):Int)) (some ((min (HT.sIx s.length s.length hi) s.length:Nat):Int)) 1 (sx s).length=[]:=by
   have e1:∀ k:Nat,¬ ((k:Int) < 0):=fun k=>by lia
   unfold Builtin.Str.strSliceIndices sliceRange
   simp only [show (1:Int) > 0 by decide,if_true,e1,if_false,dJ]
   rw [Zo (by omega)]
   rfl
  rw [e2]
  have:¬ ((1:Int) == 1 && ([]:Wo).length == (sx s).length)=true:=by
   rw [dJ]
   simp
   lia
  rw [Zo this]
  rfl
noncomputable def CF:V->Option Int->Option Int->Hp->VK->Prop:=fun x lo hi H Q=>∃ z,x=.str z/\z.length<=sizeLine/\Q (.str (PySem.StrLaws.sliceText z lo hi)) H
theorem part_of {v:Value} {o:Option Int} (h:IsPart v o):∃ q:Option (Int×Tok),v=partValue q/\o=q.map (·.1):=by
 cases h with
 | none=>exact ⟨none,rfl,rfl⟩
 | int i t=>exact ⟨some (i,t),rfl,rfl⟩
theorem ni {α β:Type} (f:α->Option β) (l:List α):(l.filterMap f).length<=l.length:=List.length_filterMap_le f l
theorem xT (lo hi:Option Int) (n:Nat):(Builtin.Str.strSliceIndices lo hi 1 n).length<=n:=by
 rw [t8]
 by_cases h:min (HT.sIx n 0 lo) n<=min (HT.sIx n n hi) n
 ·rw [PySem.StrLaws.strSliceIndices_plain h (by exact X8 _ _),Zy,ZC]
  lia
 ·have e1:∀ k:Nat,¬ ((k:Int) < 0):=fun k=>by lia
  unfold Builtin.Str.strSliceIndices sliceRange
  simp only [show (1:Int) > 0 by decide,if_true,e1,if_false]
  rw [Zo (by omega)]
  simp
theorem Bn:SlR X CF:=by
 intro pins s σ H x v vl vu lo hi sl Q I rx hs pl pu h
 obtain ⟨z,rfl,hz,q⟩:=h
 obtain ⟨t,rfl⟩:=rx
 obtain ⟨l,rfl,rfl⟩:=part_of pl
 obtain ⟨u,rfl,rfl⟩:=part_of pu
 refine ⟨"str",_,F.slot_str_getitem.lookup,typeIs_str s z t,wpAny_getItem_str_slice (l:=l) (u:=u) (st:=none) hs rfl ?_⟩
 unfold sliceMade
 split
 ·rename_i hc
  refine ⟨.str z,H,I,⟨t,rfl⟩,?_⟩
  have e:PySem.StrLaws.sliceText z (l.map (·.1)) (u.map (·.1))=z:=by
   unfold PySem.StrLaws.sliceText
   exact Zq hc
  rw [e] at q
  exact q
 ·rename_i hc
  refine ⟨ZF ?_ hz,.str _,H,I.tok _,⟨_,rfl⟩,?_⟩
  ·show (List.filterMap _ _).toArray.size<=_
   rw [Za]
   exact ZF (ni _ _) (xT _ _ _)
  ·have e:PySem.StrLaws.sliceText z (l.map (·.1)) (u.map (·.1))=⟨((slicePicked z l u none).filterMap (z.cps[·]?)).toArray⟩:=by
    unfold PySem.StrLaws.sliceText
    exact Zo hc
   rw [e] at q
   exact q
noncomputable def rSl (K:Wt):V->Option Int->Option Int->Hp->VK->Prop:=fun x lo hi H Q=>CF x lo hi H Q\/CL K x lo hi H Q
theorem D7:SlR X (rSl X.K):=Bn.or xt
theorem yn {α:Type} (l:List α) (lo hi:Option Int):(cut l lo hi).length<=l.length:=by
 rw [jH,Xh,YE]
 lia
theorem RpL.cut {H:Hp} {vs:List V} {ts:Wg} {Fs:Wu} (r:RpL G H vs ts Fs) (lo hi:Option Int):RpL G H (lY vs lo hi) (VS.cut ts lo hi) (VS.cut Fs lo hi):=by
 have h:=r.len
 rw [jH,jH,h.2]
 unfold lY
 rw [h.1]
 exact (r.drop _).take _
theorem rJ {α:Type} (l:List α) (lo hi:Option Int):(VS.cut l lo hi).Sublist l:=by
 rw [jH]
 exact (List.take_sublist _ _).trans (List.drop_sublist _ _)
theorem ud {F G:Wu} (h:F.Sublist G):F.flatten.Sublist G.flatten:=by
 induction h with
 | slnil=>exact Y5 _
 | cons a _ ih=>rw [ZW];exact ih.trans (Yc _ _)
 | cons_cons a _ ih=>rw [ZW,ZW];exact (Y5 _).append ih
theorem tH {lo hi:Option Expr} {cl ch:Option Ex} {p2:Pos} (ha:PV G X a ca) (hl:PVO G X lo cl) (hh:PVO G X hi ch) (hK:X.K=G.K:=by rfl):PV G X (.Subscript a (.Slice lo hi none p2) pos) (eSl ca cl ch) :=
 PE.weak (og D7 ha hl hh) fun σ H Q hq=>by
  obtain ⟨Φ,η,m,t,s,e,k⟩:=hq
  unfold eSl at e
  obtain ⟨⟨mx,x⟩,ea,e'⟩:=Zz.mp e
  obtain ⟨l,el,e''⟩:=Zz.mp e'
  obtain ⟨h,eh,e4⟩:=Zz.mp e''
  clear e e' e''
  refine ⟨Φ,η,mx,x,s,ea,fun v H1 F e1 r1 f1=>⟨Φ,η,l,s.same e1,el,fun H2 e2=>⟨Φ,η,h,(s.same e1).same e2,eh,fun H3 e3=>?_⟩⟩⟩
  have e03:aJ H H3:=(e1.trans e2).trans e3
  have r3:=(r1.same e2).same e3
  unfold oSl at e4
  split at e4
  ·rename_i m' z q
   cases q
   cases e4
   obtain ⟨rfl,hl⟩:=r3.str_inv
   refine .inl ⟨_,rfl,by rw [dJ,← fU];exact hl.1,?_⟩
   rw [lQ]
   exact k _ H3 _ e03 (.str _ ⟨ZF (yn _ _ _) hl.1,fun c hc=>hl.2 c ((rJ _ _ _).subset hc)⟩) Fp.nil
  ·rename_i m' z q
   cases q
   obtain ⟨a',vs,Fs,rfl,rfl,ha',ra⟩:=r3.lst_inv
   refine .inr ⟨a',vs,rfl,by rw [hK];exact SqL.of ha',ie e03 e4 (ra.cut l h) ((f1.sub (Z5 _ _)).sub (ud (rJ _ _ _))) fun v H4 F e5 r4 f4=>k v H4 F (e03.trans e5) r4 f4⟩
  ·cases e4
noncomputable def tyS:Ty->String
 | .int => "int"
 | .str => "str"
 | .bool => "bool"
 | .list => "list"
 | .tuple => "tuple"
 | .dict => "dict"
noncomputable def rIs (K:Wt):List V->Hp->VK->Prop:=fun vs H Q=>∃ x c t b,vs=[x,.ty c]/\TyOf K H x t/\PySem.W.kitOne K t (.type c)=some b/\Q (.bl b) H
theorem xi:dD X (.builtin "isinstance") (rIs X.K):=by
 intro pins s σ H xs us Q I r h
 obtain ⟨x,c,t,b,rfl,ty,e,q⟩:=h
 obtain ⟨u,w',rfl,r1,r2⟩:=vals2 r
 cases r2
 exact rR I r1 ty e fun tk=>⟨.bl b,H,I.tok _,rfl,q⟩
theorem yg (K:Wt) (ty:Ty):(PySem.W.kitOne K (.type "NoneType") (.type (tyS ty))=some false)/\(PySem.W.kitOne K (.type "bool") (.type (tyS ty))=some (oh ty (.bl true)))/\(PySem.W.kitOne K (.type "int") (.type (tyS ty))=some (oh ty (.int 0))) ∧
  (PySem.W.kitOne K (.type "str") (.type (tyS ty))=some (oh ty (.str [])))/\(PySem.W.kitOne K (.type "list") (.type (tyS ty))=some (oh ty (.lst [])))/\(PySem.W.kitOne K (.type "tuple") (.type (tyS ty))=some (oh ty (.tup [])))/\(PySem.W.kitOne K (.type "dict") (.type (tyS ty))=some (oh ty (.dct 0 []))):=by
 cases ty <;> refine ⟨?_,?_,?_,?_,?_,?_,?_⟩ <;> kernel_rfl
theorem C7 {H:Hp} {v:V} {t:T} {F:Wr} (ty:Ty) (r:Rp G H v t F) (h:rN t=true):∃ t',TyOf G.K H v t'/\PySem.W.kitOne G.K t' (.type (tyS ty))=some (oh ty t):=by
 obtain ⟨k1,k2,k3,k4,k5,k6,k7⟩:=yg G.K ty
 cases r with
 | non=>exact ⟨_,.non,by rw [k1];cases ty <;> rfl⟩
 | bl b=>exact ⟨_,.bl b,by rw [k2];cases ty <;> rfl⟩
 | int i=>exact ⟨_,.int i,by rw [k3];cases ty <;> rfl⟩
 | str s _=>exact ⟨_,.str _,by rw [k4];cases ty <;> rfl⟩
 | scr _=>cases h
 | tup h' q=>exact ⟨_,.tup h',by rw [k6];cases ty <;> rfl⟩
 | lst h' q=>exact ⟨_,.lst h',by rw [k5];cases ty <;> rfl⟩
 | dct h' l q=>exact ⟨_,.dK h',by rw [k7];cases ty <;> rfl⟩
 | dctT h' l q=>exact ⟨_,.dT h',by rw [k7];cases ty <;> rfl⟩
 | dctN h' l n q=>simp at h
 | dctZ _ _ _=>cases h
 | exc _ _=>cases h
 | ins _ _ _ _=>cases h
theorem C1 (ty:Ty) {x:Str} {p1 p2:Pos} (ha:PV G X a ca) (hg:Gl X "isinstance") (hm:X.mg "isinstance" = none) (hg2:Gl X x) (hm2:X.mg x=none) (hv:bootBuiltins x=some (.type (tyS ty))) (hK:X.K=G.K:=by rfl)
  (hn:x ≠ "__name__" := by decide) (hdb:(x == ("__debug__" : Str))=false:=by decide) (hs:starEach [a,.Name x p2] X.env=(false,eval a X.env) :: starEach [.Name x p2] X.env:=by rfl)
  (hs2:starEach [.Name x p2] X.env=(false,eval (.Name x p2) X.env) :: starEach [] X.env:=by rfl) (hpl:(backTo pos (starEach [Expr.Name x p2] X.env)).any (·.1)=false:=by rfl) :
  PV G X (.Call (.Name "isinstance" p1) [a,.Name x p2] [] pos) (eIs ty ca) :=
 PE.weak (n0 xi hg hm boot_isinstance (fQ ha (fQ (wC (v:=.ty (tyS ty)) hg2 hm2 hv rfl hn hdb) kC hs2) hs) (by decide) rfl hs hpl) fun σ H Q hq=>by
  obtain ⟨Φ,η,m,t,s,e,k⟩:=hq
  unfold eIs at e
  obtain ⟨⟨mx,y⟩,ea,e'⟩:=Zz.mp e
  split at e'
  ·rename_i hk
   cases e'
   refine ⟨Φ,η,mx,y,s,ea,fun v H' F e1 r1 f1=>?_⟩
   obtain ⟨t',h1,h2⟩:=C7 ty r1 hk
   exact ⟨v,tyS ty,t',_,rfl,by rw [hK];exact h1,by rw [hK];exact h2,k _ H' _ e1 (.bl _) Fp.nil⟩
  ·cases e'
end
section
variable {G:Gx} {X:Cx} {a b c e:Expr} {es:List Expr} {ca cb cc:Ex} {cs:Exs} {pos p:Pos}
noncomputable def BZ (G:Gx) (r:V->List V->Hp->VK->Prop) (f:Val->Wi->Wh):Prop:=∀ (Φ:Fps) (η:VS.Env) (H0 H1 H:Hp) (x:Val) (v:V) (F:Wr) (l:Wi) (vs:List V) (Fs:Wu) (m:Md) (t:T) (Q:VK),
 aJ H0 H1->Rp G H v x.2 F->Fp Φ η H0 x.1 F->Args G Φ η H1 H l vs Fs->f x l=some (m,t)->(∀ v H' F,aJ H H'->Rp G H' v t F->Fp Φ η H0 m F->Q v H')->r v vs H Q
theorem C8 {T' id:String} {name:Str} {r:V->List V->Hp->VK->Prop} {f:Val->Wi->Wh} {apos cpos:Pos} (pa:PlainAttrs T') (slot:Slot T' name id) (hty:typeOf (.builtin id)=pure (.type "method_descriptor")) (hm:MtR X id r) (ok:BZ G r f)
  (hT:∀ H v (x:Val) F l z,Rp G H v x.2 F->f x l=some z->tyV G.K T' v H) (ho:PV G X a ca) (ha:PVs G X (e :: es) cs) (hK:X.K=G.K:=by rfl)
  (hbase:attributeBase a name X.env (eval a X.env)=eval a X.env:=by rfl)
  (hfew:((backTo cpos (starEach (e :: es) X.env)).all (fun x=>!x.1) && (backToKw cpos (keywordEach [] X.env)).all (fun x=>x.1.isSome)
   && decide ((e :: es).length+([]:List Keyword).length+(if ([]:List Keyword).isEmpty then 0 else 1) < 30))=true:=by rfl)
  (hline:(apos.endLine == cpos.line)=true:=by rfl) (hs:starEach (e :: es) X.env=(false,eval e X.env) :: starEach es X.env:=by rfl) (hplain:(backTo cpos (starEach es X.env)).any (·.1)=false:=by rfl) :
  PV G X (.Call (.Attribute a name apos) (e :: es) [] cpos) (eM f ca cs) :=
 PE.weak (qD pa slot hty hm ho ha hbase hfew hline hs hplain) fun σ H Q hq=>by
  obtain ⟨Φ,η,m,t,s,e,k⟩:=hq
  unfold eM at e
  obtain ⟨x,ea,e'⟩:=Zz.mp e
  obtain ⟨l,el,e''⟩:=Zz.mp e'
  refine ⟨Φ,η,x.1,x.2,s,ea,fun v H1 F e1 r1 f1=>⟨by rw [hK];exact hT H1 v x F l _ r1 e'',Φ,η,l,s.same e1,el,fun vs H2 Fs e2 r2 f2=>?_⟩⟩
  exact ok Φ η H H1 H2 x v F l vs Fs m t Q e1 (r1.same e2) f1 ⟨e2,r2,f2⟩ e'' fun v' H3 F' e3 r3 f3=>k v' H3 F' ((e1.trans e2).trans e3) r3 f3
theorem wX:∀ (sep:Tx) (ss:List Tx),Txt.join (sx sep) (ss.map sx)=sx (dm sep ss):=by
 intro sep ss
 have fold:∀ (l:List Tx) (acc:Tx),(l.map sx).foldl (fun acc p=>acc++(sx sep).cps++p.cps) acc.toArray=(l.foldl (fun acc p=>acc++sep++p) acc).toArray:=by
  intro l
  induction l with
  | nil=>intro acc;rfl
  | cons x r ih =>
   intro acc
   rw [Zn,List.foldl_cons,List.foldl_cons,← ih]
   congr 1
   simp [sx]
 have jf:∀ (r:List Tx) (acc:Tx),r.foldl (fun acc p=>acc++sep++p) acc=dm sep (acc :: r):=by
  intro r
  induction r with
  | nil=>intro acc;rfl
  | cons x r ih =>
   intro acc
   rw [List.foldl_cons,ih]
   cases r with
   | nil=>rfl
   | cons y r=>simp [dm]
 cases ss with
 | nil=>rfl
 | cons x r =>
  show (⟨_⟩:Str)=⟨_⟩
  congr 1
  show ((r.map sx).foldl _ x.toArray)=_
  rw [fold,jf]
theorem rh {H:Hp}:∀ {vs:List V} {l:Wg} {Fs:Wu} {ss:List Tx},RpL G H vs l Fs->strs? l=some ss->vs=ss.map fun s=>V.str (sx s)
 | _,_,_,_,.nil,e=>by cases e;rfl
 | _,_,_,_,.cons (t:=t) r q,e=>by
  cases t with
  | str s =>
   simp only [strs?] at e
   obtain ⟨ss',e1,e2⟩:=Zu.mp e
   subst e2
   rw [rh q e1,r.str_inv.1]
   rfl
  | _=>cases e
theorem kH:∀ {ss:List Tx} {us:Wq},aO (ss.map fun s=>V.str (sx s)) us->StrsAre us (ss.map sx)
 | [],_,h=>by cases h;exact .nil
 | s :: ss,_,h=>by
  cases h with
  | cons r q =>
   obtain ⟨t,rfl⟩:=r
   exact .cons _ _ (kH q)
noncomputable def rJoin (K:Wt):V->List V->Hp->VK->Prop:=fun x vs H Q=>∃ sep p ss,x=.str (sx sep)/\vs=[.ref p]/\SqL K H p (ss.map fun s=>V.str (sx s))/\total ss+ss.length * sep.length<=16777216/\Q (.str (sx (dm sep ss))) H
theorem qI:∀ ss:List Tx,((ss.map sx).map (·.length)).sum=total ss
 | []=>rfl
 | s :: r=>by
  rw [Zn,Zn,YW,qI r,dJ]
  rfl
theorem wR:MtR X "str.join" (rJoin X.K):=by
 intro pins s σ H x xs v us Q I rx rxs h
 obtain ⟨sep,p,ss,rfl,rfl,hq,hl,q⟩:=h
 obtain ⟨t,rfl⟩:=rx
 obtain ⟨u,rfl,ru⟩:=vals1 rxs
 cases ru
 obtain ⟨its,r,pl,hz⟩:=I.list hq
 refine join_list pl.isList (ys:=ss.map sx) (by simpa using kH r) ?_ fun t' k=>⟨.str _,H,I.tok _,⟨_,by rw [wX]⟩,q⟩
 rw [qI,Zy,dJ]
 exact hl
theorem lD (sep:Tx):∀ ss:List Tx,(dm sep ss).length<=total ss+ss.length * sep.length
 | []=>by simp [dm,total]
 | [x]=>by simp [dm,total]
 | x :: y :: r=>by
  have:=lD sep (y :: r)
  simp only [dm,total,Zv,Zk] at this ⊢
  have e:(r.length+1+1) * sep.length=(r.length+1) * sep.length+sep.length:=Nat.succ_mul _ _
  lia
theorem lC (sep:Tx):∀ (ss:List Tx) (c:Nat),c∈dm sep ss->c∈sep\/∃ s∈ss,c∈s
 | [],c,h=>by simp [dm] at h
 | [x],c,h=>.inr ⟨x,Zw,h⟩
 | x :: y :: r,c,h=>by
  simp only [dm,ZY] at h
  rcases h with (h | h) | h
  ·exact .inr ⟨x,Zw,h⟩
  ·exact .inl h
  ·exact (lC sep (y :: r) c h).imp id fun ⟨s,hs,hc⟩=>⟨s,Zx _ hs,hc⟩
theorem kI {H:Hp}:∀ {vs:List V} {l:Wg} {Fs:Wu} {ss:List Tx},RpL G H vs l Fs->strs? l=some ss->∀ s∈ss,∀ c∈s,c < 1114112
 | _,_,_,_,.nil,e,s,hs=>by cases e;simp at hs
 | _,_,_,_,.cons (t:=t) r q,e,s,hs=>by
  cases t with
  | str x =>
   simp only [strs?] at e
   obtain ⟨ss',e1,e2⟩:=Zu.mp e
   subst e2
   rcases Zg.mp hs with rfl | hs
   ·exact r.str_inv.2.2
   ·exact kI q e1 s hs
  | _=>cases e
theorem wJ:BZ G (rJoin G.K) ia:=by
 intro Φ η H0 H1 H x v F l vs Fs m t Q s01 r f A e k
 unfold ia at e
 split at e
 ·rename_i mx sep ml l'
  obtain ⟨ss,es',e'⟩:=Zz.mp e
  split at e'
  ·rename_i hl
   cases e'
   obtain ⟨w',F',rfl,rfl,rl⟩:=(show RpL G H vs [.lst l'] Fs from A.rp).one
   obtain ⟨a',ws,Gs,rfl,rfl,ha,ra⟩:=rl.lst_inv
   rw [rh ra es'] at ha
   refine ⟨sep,a',ss,r.str_inv.1,rfl,SqL.of ha,hl,bu k (.str _ ⟨ZF (lD sep ss) hl,fun c hc=>(lC sep ss c hc).elim (r.str_inv.2.2 c) fun ⟨s',hs',hc'⟩=>kI ra es' s' hs' c hc'⟩)⟩
  ·cases e'
 ·cases e
theorem u4 {H:Hp} {v:V} {t:T} {F:Wr} (r:Rp G H v t F) (h:∃ s,t=.str s):tyV G.K "str" v H:=by
 obtain ⟨s,rfl⟩:=h
 rw [r.str_inv.1]
 rfl
theorem yS {apos cpos:Pos} (ho:PV G X a ca) (ha:PVs G X [e] cs) (hK:X.K=G.K:=by rfl)
  (hbase:attributeBase a "join" X.env (eval a X.env)=eval a X.env:=by rfl)
  (hfew:((backTo cpos (starEach [e] X.env)).all (fun x=>!x.1) && (backToKw cpos (keywordEach [] X.env)).all (fun x=>x.1.isSome)
   && decide ([e].length+([]:List Keyword).length+(if ([]:List Keyword).isEmpty then 0 else 1) < 30))=true:=by rfl)
  (hline:(apos.endLine == cpos.line)=true:=by rfl) (hs:starEach [e] X.env=(false,eval e X.env) :: starEach [] X.env:=by rfl) (hplain:(backTo cpos (starEach [] X.env)).any (·.1)=false:=by rfl) :
  PV G X (.Call (.Attribute a "join" apos) [e] [] cpos) (eM ia ca cs) :=
 C8 PySem.F.plainAttrs_str PySem.F.slot_str_join PySem.F.type_str_join (hK ▸ wR) wJ (fun H v x F l z r e=>u4 r (by
  unfold ia at e
  split at e
  ·exact ⟨_,rfl⟩
  ·cases e)) ho ha hK hbase hfew hline hs hplain
end
end VS
end
section
namespace VS
@[simp] noncomputable def oIx (x y:Val):Wh:=match x.2 with
 | .dct 0 l=>if hV y.2 then (dI l y.2).map (sub x.1) else none
 | _=>ax x y
@[simp] noncomputable def flat:T->Bool
 | .non=>true
 | .bl _=>true
 | .int _=>true
 | .str _=>true
 | _=>false
@[simp] noncomputable def kc (x y:Val):Wh:=match y.2 with
 | .dct 0 l=>if hV x.2 then some (.fr,.bl (dI l x.2).isSome) else none
 | .lst l=>if flat x.2 && l.all flat then some (.fr,.bl (l.any fun y=>eqT y x.2)) else none
 | .tup l=>if flat x.2 && l.all flat then some (.fr,.bl (l.any fun y=>eqT y x.2)) else none
 | _=>none
@[simp] noncomputable def cH (x y:Val):Wh:=match kc x y with
 | some (_,.bl b)=>some (.fr,.bl (!b))
 | _=>none
noncomputable def pm {α:Type} (f:T->Option (T×α)):List Ky->T->Option (T×α)
 | [],t=>f t
 | .fld k :: r,.obj c (q :: fs)=>(fs.findIdx? fun p=>p.1 == k).bind fun i=>(fs[i]?).bind fun p=>(pm f r p.2).map fun z=>(.obj c (q :: fs.set i (p.1,z.1)),z.2)
 | .at (.int i) :: r,.lst l=>(ixP l.length i).bind fun j=>(l[j]?).bind fun x=>(pm f r x).map fun z=>(.lst (l.set j z.1),z.2)
 | .at k :: r,.dct 0 l=>if hV k then (l.findIdx? fun p=>eqT p.1 k).bind fun i=>(l[i]?).bind fun p=>(pm f r p.2).map fun z=>(.dct 0 (l.set i (p.1,z.1)),z.2) else none
 | _,_=>none
end VS
end
section
namespace VS
open PySem PySem.Spec PyProof.Rows L2
section
variable {G:Gx} {X:Cx} {a b c e:Expr} {es:List Expr} {ca cb cc:Ex} {cs:Exs} {pos p:Pos}
mutual
noncomputable def toP:T->PyData
 | .non=>.none
 | .bl b=>.bool b
 | .int i=>.int i
 | .str s=>.str (sx s)
 | .tup l=>.tuple (lP l)
 | .lst l=>.list (lP l)
 | _=>.none
noncomputable def lP:Wg->List PyData
 | []=>[]
 | t :: r=>toP t :: lP r
end
theorem B3 {s:Tx} (h:lS s):PyData.strOk (sx s)=true:=by
 unfold PyData.strOk sx
 simp only [Array.all_eq_true,decide_eq_true_eq]
 intro i hi
 have:s.toArray[i]∈s:=by simp
 have:=h.2 _ this
 simpa using this
theorem t4 {s t:Tx}:(sx s == sx t)=(s == t):=by
 rw [YA,beq_iff_eq,beq_iff_eq]
 constructor
 ·intro h
  have:(sx s).cps=(sx t).cps:=by rw [h]
  simpa [sx] using this
 ·intro h
  rw [h]
mutual
theorem nk:∀ (n k:Nat) (t u:T),eqD n t=true->eqD k u=true->PyData.eqv (toP t) (toP u)=eqT t u
 | n,k,t,u,h1,h2=>by
  cases t with
  | scr _=>cases n <;> simp at h1
  | dct _ _=>cases n <;> simp at h1
  | obj _ _=>cases n <;> simp at h1
  | tup l =>
   cases n with
   | zero=>simp at h1
   | succ n =>
    cases u with
    | tup r =>
     cases k with
     | zero=>simp at h2
     | succ k =>
      simp only [toP,PyData.eqv,eqT]
      exact la n k l r (by simpa using h1) (by simpa using h2)
    | scr _=>cases k <;> simp at h2
    | dct _ _=>cases k <;> simp at h2
    | obj _ _=>cases k <;> simp at h2
    | _=>simp [toP,PyData.eqv,eqT]
  | lst l =>
   cases n with
   | zero=>simp at h1
   | succ n =>
    cases u with
    | lst r =>
     cases k with
     | zero=>simp at h2
     | succ k =>
      simp only [toP,PyData.eqv,eqT]
      exact la n k l r (by simpa using h1) (by simpa using h2)
    | scr _=>cases k <;> simp at h2
    | dct _ _=>cases k <;> simp at h2
    | obj _ _=>cases k <;> simp at h2
    | _=>simp [toP,PyData.eqv,eqT]
  | str s =>
   cases u with
   | str r=>simp only [toP,PyData.eqv,eqT];exact t4
   | scr _=>cases k <;> simp at h2
   | dct _ _=>cases k <;> simp at h2
   | obj _ _=>cases k <;> simp at h2
   | _=>simp [toP,PyData.eqv,eqT]
  | _ =>
   cases u with
   | scr _=>cases k <;> simp at h2
   | dct _ _=>cases k <;> simp at h2
   | obj _ _=>cases k <;> simp at h2
   | _=>simp [toP,PyData.eqv,eqT]
theorem la:∀ (n k:Nat) (l r:Wg),(∀ t∈l,eqD n t=true)->(∀ t∈r,eqD k t=true)->PyData.eqvAll (lP l) (lP r)=pS l r
 | _,_,[],[],_,_=>rfl
 | _,_,[],_ :: _,_,_=>rfl
 | _,_,_ :: _,[],_,_=>rfl
 | n,k,t :: l,u :: r,h1,h2=>by
  simp only [lP,PyData.eqvAll,pS]
  rw [nk n k t u (h1 t Zw) (h2 u Zw),la n k l r (fun x hx=>h1 x (Zx _ hx)) fun x hx=>h2 x (Zx _ hx)]
end
theorem Rp.tup_inv5 {H:Hp} {v:V} {ts:Wg} {F:Wr} (r:Rp G H v (.tup ts) F):∃ b vs Fs,v=.ref b/\H b=some (.tup vs)/\RpL G H vs ts Fs:=by
 cases r with
 | tup h q=>exact ⟨_,_,_,rfl,h,q⟩
theorem Rp.lst_inv5 {H:Hp} {v:V} {ts:Wg} {F:Wr} (r:Rp G H v (.lst ts) F):∃ b vs Fs,v=.ref b/\H b=some (.lst vs)/\RpL G H vs ts Fs:=by
 cases r with
 | lst h q=>exact ⟨_,_,_,rfl,h,q⟩
theorem jR {H:Hp} {s:Shared} {n:Nat} (rd:∀ {v:V} {t:T} {F:Wr} {u:Value},Rp G H v t F->RelV v u->eqD n t=true->∃ as,Reads s.heap u (toP t) as/\(toP t).canLay0=true/\(toP t).depth<=n):∀ {vs:List V} {ts:Wg} {Fs:Wu} {us:Wq},RpL G H vs ts Fs->aO vs us->(∀ t∈ts,eqD n t=true) →
  ∃ as,ReadsAll s.heap us (lP ts) as/\PyData.canLayAll0 (lP ts)=true/\PyData.depthAll (lP ts)<=n
 | _,_,_,_,.nil,r,_=>by cases r;exact ⟨_,.nil,rfl,Yk _⟩
 | _,_,_,_,.cons p q,r,h=>by
  cases r with
  | cons r1 r2 =>
   obtain ⟨as,h1,h2,h3⟩:=rd p r1 (h _ Zw)
   obtain ⟨bs,g1,g2,g3⟩:=jR rd q r2 fun t ht=>h t (Zx _ ht)
   exact ⟨_,.cons h1 g1,by simp only [lP,PyData.canLayAll0,h2,g2,Bool.and_self],by simp only [lP,PyData.depthAll];lia⟩
theorem ll {h:Heap} {H:Hp} {v:V} {t:T} {F:Wr} {u:Value} {n:Nat} (r:Rp G H v t F) (ru:RelV v u) (hf:flat t=true):∃ as,Reads h u (toP t) as/\(toP t).canLay0=true/\(toP t).depth<=n:=by
 cases r with
 | non=>cases ru;exact ⟨_,.none,rfl,Yk _⟩
 | bl b=>cases ru;exact ⟨_,.bool b,rfl,Yk _⟩
 | int i=>obtain ⟨t,rfl⟩:=ru;exact ⟨_,.int i t,rfl,Yk _⟩
 | str s h=>obtain ⟨t,rfl⟩:=ru;exact ⟨_,.str _ t,B3 h,Yk _⟩
 | _=>cases hf
theorem jh {H:Hp} {pins:Wv} {σ:L2.St} {s:Shared} (I:Inv X pins σ H s) (n:Nat):∀ {v:V} {t:T} {F:Wr} {u:Value},Rp G H v t F->RelV v u->eqD n t=true->∃ as,Reads s.heap u (toP t) as/\(toP t).canLay0=true/\(toP t).depth<=n:=by
 induction n with
 | zero =>
  intro v t F u r ru h
  refine ll r ru ?_
  cases t <;> first | rfl | exact h
 | succ n ih =>
  intro v t F u r ru h
  cases t with
  | tup l =>
   obtain ⟨b,vs,Fs,rfl,e,q⟩:=Rp.tup_inv5 r
   cases ru
   obtain ⟨its,rv,tp,hz⟩:=I.tuple (SqT.of e)
   obtain ⟨as,h1,h2,h3⟩:=jR ih q rv (by simpa using h)
   obtain ⟨o,ho,hc,n',hd⟩:=tp
   exact ⟨_,.tuple ho hc hd (by simpa using h1),h2,by simp only [toP,PyData.depth];exact Xi h3⟩
  | lst l =>
   obtain ⟨b,vs,Fs,rfl,e,q⟩:=Rp.lst_inv5 r
   cases ru
   obtain ⟨its,rv,pl,hz⟩:=I.list (SqL.of e)
   obtain ⟨as,h1,h2,h3⟩:=jR ih q rv (by simpa using h)
   obtain ⟨o,ho,hc,n',hd⟩:=pl.isList
   exact ⟨_,.list ho hc hd (by simpa using h1),h2,by simp only [toP,PyData.depth];exact Xi h3⟩
  | scr _=>simp at h
  | dct _ _=>simp at h
  | obj _ _=>simp at h
  | _=>exact ll r ru rfl
noncomputable def xF (G:Gx) (neg:Bool):R2:=fun x y H Q=>∃ t u F F',Rp G H x t F/\Rp G H y u F'/\eqD 60 t=true/\eqD 60 u=true/\Q (.bl (if neg then !eqT t u else eqT t u)) H
theorem ip {d:PyData} (h:d.canLay0=true) (h2:d.depth<=60):SeqAt.shaped d=true:=by
 unfold SeqAt.shaped
 rw [h,Bool.true_and]
 exact decide_eq_true (by lia)
theorem uv (hu:X.A.units+64 < cLine):OpR X (compareOp .Eq) (xF G false):=by
 intro pins s σ H x y v u Q I rx ry h
 obtain ⟨t,w,F,F',r1,r2,h1,h2,q⟩:=h
 obtain ⟨as,a1,a2,a3⟩:=jh I 60 r1 rx h1
 obtain ⟨bs,b1,b2,b3⟩:=jh I 60 r2 ry h2
 refine eq_dataH a1 b1 (ip a2 a3) (ip b2 b3) hu ⟨.bl _,H,I,rfl,?_⟩
 rw [nk 60 60 t w h1 h2]
 exact q
theorem BN (hu:X.A.units+64 < cLine):OpR X (compareOp .NotEq) (xF G true):=by
 intro pins s σ H x y v u Q I rx ry h
 obtain ⟨t,w,F,F',r1,r2,h1,h2,q⟩:=h
 obtain ⟨as,a1,a2,a3⟩:=jh I 60 r1 rx h1
 obtain ⟨bs,b1,b2,b3⟩:=jh I 60 r2 ry h2
 refine ne_dataH a1 b1 (ip a2 a3) (ip b2 b3) hu ⟨.bl _,H,I,rfl,?_⟩
 rw [nk 60 60 t w h1 h2]
 exact q
theorem zd:fO G (xF G false) oEq:=by
 intro Φ η H0 H x y u w F1 F2 m t Q tw e k
 unfold oEq at e
 split at e
 ·rename_i h
  cases e
  exact ⟨_,_,_,_,tw.r1,tw.r2,h.1,h.2,bu k (.bl _)⟩
 ·cases e
theorem Cu:fO G (xF G true) oNe:=by
 intro Φ η H0 H x y u w F1 F2 m t Q tw e k
 unfold oNe at e
 split at e
 ·rename_i h
  cases e
  exact ⟨_,_,_,_,tw.r1,tw.r2,h.1,h.2,bu k (.bl _)⟩
 ·cases e
theorem tells_eq:Tells oEq:=by
 intro x y m t e
 unfold oEq at e
 split at e <;> first | (cases e;exact ⟨_,rfl⟩) | cases e
theorem uB:Tells oNe:=by
 intro x y m t e
 unfold oNe at e
 split at e <;> first | (cases e;exact ⟨_,rfl⟩) | cases e
end
structure Frm (Φ:Fps) (η:VS.Env) (H:Hp) (Φ':Fps) (η':VS.Env) (H':Hp):Prop where
 keep:∀ a o,H a=some o->¬ cw Φ η a->H' a=some o/\¬ cw Φ' η' a
 dom:∀ a,H a ≠ none->H' a ≠ none
 ow:∀ a,cw Φ' η' a->cw Φ η a\/H a=none
 pu:∀ a,dE Φ' η' a->dE Φ η a\/cw Φ η a\/H a=none
 kept:Kept H H'
theorem Frm.refl (Φ:Fps) (η:VS.Env) (H:Hp):Frm Φ η H Φ η H:=⟨fun a o h n=>⟨h,n⟩,fun _ h=>h,fun _ h=>.inl h,fun _ h=>.inl h,Kept.refl H⟩
theorem Frm.none {Φ Φ':Fps} {η η':VS.Env} {H H':Hp} (f:Frm Φ η H Φ' η' H') {a:Addr} (h:H' a=none):H a=none:=by
 cases e:H a with
 | none=>rfl
 | some o=>exact absurd h (f.dom a (by rw [e];exact fun z=>nomatch z))
theorem Frm.trans {Φ Φ1 Φ2:Fps} {η η1 η2:VS.Env} {H H1 H2:Hp} (f:Frm Φ η H Φ1 η1 H1) (g:Frm Φ1 η1 H1 Φ2 η2 H2):Frm Φ η H Φ2 η2 H2 where
 keep:=fun a o h n=>let ⟨h1,n1⟩:=f.keep a o h n;g.keep a o h1 n1
 dom:=fun a h=>g.dom a (f.dom a h)
 ow:=fun a h=>by
  rcases g.ow a h with h | h
  ·exact f.ow a h
  ·exact .inr (f.none h)
 pu:=fun a h=>by
  rcases g.pu a h with h | h | h
  ·exact f.pu a h
  ·rcases f.ow a h with h | h
   ·exact .inr (.inl h)
   ·exact .inr (.inr h)
  ·exact .inr (.inr (f.none h))
 kept:=f.kept.trans g.kept
theorem Frm.same {Φ:Fps} {η:VS.Env} {H H':Hp} (e:aJ H H'):Frm Φ η H Φ η H' :=
 ⟨fun a o h n=>⟨e a o h,n⟩,fun a h z=>h (e.free z),fun _ h=>.inl h,fun _ h=>.inl h,Kept.of e⟩
noncomputable def pv (Φ:Fps) (η:VS.Env) (H:Hp):Md->Wr->Prop
 | .fr,F=>F.Nodup/\∀ a∈F,H a=none\/cw Φ η a
 | _,F=>∀ a∈F,H a=none\/dE Φ η a\/cw Φ η a
theorem pv.back {Φ Φ1:Fps} {η η1:VS.Env} {H H1:Hp} (f:Frm Φ η H Φ1 η1 H1) {F:Wr}:∀ {m:Md},pv Φ1 η1 H1 m F->pv Φ η H m F
 | .fr,h=>⟨h.1,fun a ha=>(h.2 a ha).elim (fun z=>.inl (f.none z)) fun z=>(f.ow a z).elim .inr .inl⟩
 | .pu,h=>fun a ha=>by
  rcases h a ha with z | z | z
  ·exact .inl (f.none z)
  ·rcases f.pu a z with z | z | z
   ·exact .inr (.inl z)
   ·exact .inr (.inr z)
   ·exact .inl z
  ·exact (f.ow a z).elim (fun z=>.inr (.inr z)) .inl
 | .bo,h=>fun a ha=>by
  rcases h a ha with z | z | z
  ·exact .inl (f.none z)
  ·rcases f.pu a z with z | z | z
   ·exact .inr (.inl z)
   ·exact .inr (.inr z)
   ·exact .inl z
  ·exact (f.ow a z).elim (fun z=>.inr (.inr z)) .inl
noncomputable def Nx (G:Gx) (Φ:Fps) (η:VS.Env) (H:Hp) (η':VS.Env) (k:L2.St->Hp->Prop):Prop:=∀ Φ' σ' H',SR G Φ' η' σ' H'->Frm Φ η H Φ' η' H'->k σ' H'
noncomputable def qJ (G:Gx) (Φ:Fps) (η:VS.Env) (H:Hp) (D:Ends):Out->Prop
 | .nx η'=>Nx G Φ η H η' D.nx
 | .bk η'=>Nx G Φ η H η' D.bk
 | .ct η'=>Nx G Φ η H η' D.ct
 | .rt v η'=>∀ u H' F Φ' σ',SR G Φ' η' σ' H'->Frm Φ η H Φ' η' H'->Rp G H' u v.2 F->pv Φ η H v.1 F->D.rt u H'
noncomputable def tS (G:Gx) (c:Sx):TS:=fun D σ H=>∃ Φ η o,SR G Φ η σ H/\c η=some o/\qJ G Φ η H D o
noncomputable def PSV (G:Gx) (X:Cx) (st:Stmt) (c:Sx):Prop:=PS X st (tS G c)
noncomputable def di (G:Gx) (X:Cx) (st:List Stmt) (c:Sx):Prop:=PSs X st (tS G c)
theorem PS.weak {X:Cx} {e:Stmt} {t t':TS} (h:PS X e t) (w:∀ D σ H,t' D σ H->t D σ H):PS X e t':=fun pins s σ H D I q=>h pins s σ H D I (w D σ H q)
theorem PSs.weak {X:Cx} {e:List Stmt} {t t':TS} (h:PSs X e t) (w:∀ D σ H,t' D σ H->t D σ H):PSs X e t':=fun pins s σ H D I q=>h pins s σ H D I (w D σ H q)
theorem qJ.back {G:Gx} {Φ Φ1:Fps} {η η1:VS.Env} {H H1:Hp} {D:Ends} (f:Frm Φ η H Φ1 η1 H1):∀ {o:Out},qJ G Φ η H D o->qJ G Φ1 η1 H1 D o
 | .nx η',h=>fun Φ' σ' H' s g=>h Φ' σ' H' s (f.trans g)
 | .bk η',h=>fun Φ' σ' H' s g=>h Φ' σ' H' s (f.trans g)
 | .ct η',h=>fun Φ' σ' H' s g=>h Φ' σ' H' s (f.trans g)
 | .rt v η',h=>fun u H' F Φ' σ' s g r q=>h u H' F Φ' σ' s (f.trans g) r (q.back f)
section
variable {G:Gx} {X:Cx} {st:Stmt} {sts:List Stmt} {c c1 c2:Sx} {pos:Pos} {e:Expr} {ce:Ex}
theorem yA:di G X [] eR:=PSs.weak yG fun D σ H hq=>by
 obtain ⟨Φ,η,o,s,e,k⟩:=hq
 cases (show some (Out.nx η)=some o from e)
 exact k Φ σ H s (Frm.refl _ _ _)
theorem vM (h1:PSV G X st c1) (h2:di G X sts c2):di G X (st :: sts) (ar c1 c2):=PSs.weak (tR h1 h2) fun D σ H hq=>by
 obtain ⟨Φ,η,o,s,e,k⟩:=hq
 unfold ar at e
 obtain ⟨o1,e1,e2⟩:=Zz.mp e
 refine ⟨Φ,η,o1,s,e1,?_⟩
 cases o1 with
 | nx η1=>exact fun Φ' σ' H' s' f=>⟨Φ',η1,o,s',e2,k.back f⟩
 | rt v η1=>cases e2;exact k
 | bk η1=>cases e2;exact k
 | ct η1=>cases e2;exact k
theorem yo (h1:PSV G X st c1):di G X [st] c1:=wV h1
theorem zU {t:Expr} {ct:Ex} {a b:List Stmt} (hc:PVT G X t ct) (ha:di G X a c1) (hb:di G X b c2):PSV G X (.If t a b pos) (sIf ct c1 c2):=PS.weak (CZ hc ha hb) fun D σ H hq=>by
 obtain ⟨Φ,η,o,s,e,k⟩:=hq
 unfold sIf at e
 obtain ⟨⟨m,x⟩,ec,e1⟩:=Zz.mp e
 obtain ⟨b',eb,e2⟩:=Zz.mp e1
 refine ⟨Φ,η,m,x,b',s,ec,eb,fun H' e3=>?_⟩
 cases b' with
 | true =>
  rw [Zq rfl] at e2
  exact wQ ⟨Φ,η,o,s.same e3,e2,k.back (Frm.same e3)⟩
 | false =>
  rw [Zo Ze] at e2
  exact xS ⟨Φ,η,o,s.same e3,e2,k.back (Frm.same e3)⟩
theorem Fp.ret {Φ:Fps} {η:VS.Env} {H:Hp} {F:Wr}:∀ {m:Md},Fp Φ η H m F->pv Φ η H (match m with | .bo=>.pu | m=>m) F
 | .fr,f=>⟨f.1,fun a ha=>.inl (f.2 a ha)⟩
 | .pu,f=>fun a ha=>(f a ha).elim .inl fun z=>.inr (.inl z)
 | .bo,f=>f
theorem xn (he:PV G X e ce):PSV G X (.Return (some e) pos) (eY ce):=PS.weak (ng he) fun D σ H hq=>by
 obtain ⟨Φ,η,o,s,e,k⟩:=hq
 unfold eY at e
 obtain ⟨⟨m,x⟩,ec,e1⟩:=Zz.mp e
 cases e1
 exact ⟨Φ,η,m,x,s,ec,fun v H' F e1 r1 f1=>k v H' F Φ σ (s.same e1) (Frm.same e1) r1 f1.ret⟩
theorem cL {η:VS.Env} {i j:Nat} {c:Cell} (h:(η.set i none)[j]?=some (some c)):j ≠ i/\η[j]?=some (some c):=by
 rw [X3] at h
 split at h
 ·split at h <;> cases h
 ·rename_i n
  exact ⟨fun z=>n z.symm,h⟩
theorem SR.drop {Φ:Fps} {η:VS.Env} {σ:L2.St} {H:Hp} (s:SR G Φ η σ H) (i:Nat):SR G Φ (η.set i none) σ H :=
 ⟨by rw [Z7];exact s.len,fun j c h=>s.rp j c (cL h).2,fun j t h=>s.nd j t (cL h).2,fun j k t c h1 h2 n=>s.sep j k t c (cL h1).2 (cL h2).2 n⟩
theorem Frm.drop {Φ:Fps} {η:VS.Env} {H:Hp} (i:Nat):Frm Φ η H Φ (η.set i Option.none) H :=
 ⟨fun a o h n=>⟨h,fun ⟨j,t,h1,h2⟩=>n ⟨j,t,(cL h1).2,h2⟩⟩,fun _ h=>h,fun a ⟨j,t,h1,h2⟩=>.inl ⟨j,t,(cL h1).2,h2⟩,fun a ⟨j,t,h1,h2⟩=>.inl ⟨j,t,(cL h1).2,h2⟩,Kept.refl H⟩
theorem u7 (i:Nat) {x:Str} {p:Pos} (hN:X.N[i]?=some x:=by rfl) (hv:Vis X.env.scope x:=by first | exact Or.inl rfl | exact Or.inr (Or.inl rfl) | exact Or.inr (Or.inr rfl)) (hd:(x == ("__debug__" : Str))=false:=by decide)
  (hcd:(x == ("__classdict__" : Str))=false:=by decide):PSV G X (.Return (some (.Name x p)) pos) (gZ i):=PS.weak (ng (gH hN hv hd hcd)) fun D σ H hq=>by
 obtain ⟨Φ,η,o,s,e,k⟩:=hq
 unfold gZ at e
 split at e
 ·rename_i t h
  obtain ⟨v,h1,h2⟩:=s.rp _ _ h
  cases e
  exact ⟨v,h1,k v H (Φ i) Φ σ (s.drop i) (Frm.drop i) h2 ⟨s.nd i t h,fun a ha=>.inr ⟨i,t,h,ha⟩⟩⟩
 ·rename_i t h
  obtain ⟨v,h1,h2⟩:=s.rp _ _ h
  cases e
  refine ⟨v,h1,k v H (Φ i) Φ σ s (Frm.refl _ _ _) h2 ?_⟩
  have f:Fp Φ η H .pu (Φ i):=fun a ha=>.inr ⟨i,t,h,ha⟩
  have f2:=(f.up h2).ret
  have:(match (VS.up .pu (iT (.pu t))).1 with | .bo=>Md.pu | m=>m)=(VS.up .pu t).1:=by
   show (match (VS.up .pu t).1 with | .bo=>Md.pu | m=>m)=_
   unfold VS.up
   split <;> (rename_i q;revert q;split <;> simp)
  rw [this] at f2
  exact f2
 ·cases e
noncomputable def j8 (Φ:Fps) (i:Nat) (F:Wr):Fps:=fun j=>if j=i then F else Φ j
theorem ir {Φ:Fps} {i:Nat} {F:Wr}:j8 Φ i F i=F:=Zq rfl
theorem d8 {Φ:Fps} {i j:Nat} {F:Wr} (h:j ≠ i):j8 Φ i F j=Φ j:=Zo h
theorem gA {η:VS.Env} {i j:Nat} {c c':Cell} (h:(η.set i (some c))[j]?=some (some c')):(j=i/\c'=c)\/(j ≠ i/\η[j]?=some (some c')):=by
 rw [X3] at h
 split at h
 ·rename_i e
  split at h
  ·exact .inl ⟨e.symm,(Zp (Zp h)).symm⟩
  ·cases h
 ·rename_i n
  exact .inr ⟨fun z=>n z.symm,h⟩
theorem SR.put {Φ:Fps} {η:VS.Env} {σ:L2.St} {H H':Hp} {i:Nat} {v:V} {c:Cell} {F:Wr} (s:SR G Φ η σ H) (hi:i < η.length) (r:Rp G H' v (iT c) F)
  (hk:∀ j c',j ≠ i->η[j]?=some (some c')->∀ w,Rp G H w (iT c') (Φ j)->Rp G H' w (iT c') (Φ j))
  (hnd:∀ t,c=.ow t->F.Nodup) (hown:∀ t,c=.ow t->∀ j c',j ≠ i->η[j]?=some (some c')->∀ a∈F,a ∉ Φ j) (hpu:∀ j t,j ≠ i->η[j]?=some (some (.ow t))->∀ a∈Φ j,a ∉ F) :
  SR G (j8 Φ i F) (η.set i (some c)) (σ.set i (some v)) H' where
 len:=by rw [Z7,Z7];exact s.len
 rp:=fun j c' h=>by
  rcases gA h with ⟨rfl,rfl⟩ | ⟨n,h⟩
  ·exact ⟨v,by rw [Xe (by rw [← s.len];exact hi)],by rw [ir];exact r⟩
  ·obtain ⟨w,h1,h2⟩:=s.rp j c' h
   exact ⟨w,by rw [YY (YV n)];exact h1,by rw [d8 n];exact hk j c' n h w h2⟩
 nd:=fun j t h=>by
  rcases gA h with ⟨rfl,e⟩ | ⟨n,h⟩
  ·rw [ir];exact hnd t e.symm
  ·rw [d8 n];exact s.nd j t h
 sep:=fun j k t c' h1 h2 n=>by
  rcases gA h1 with ⟨rfl,e⟩ | ⟨n1,g1⟩
  ·rcases gA h2 with ⟨rfl,e2⟩ | ⟨n2,g2⟩
   ·exact absurd rfl n
   ·rw [ir,d8 n2]
    exact hown t e.symm k c' n2 g2
  ·rcases gA h2 with ⟨rfl,e2⟩ | ⟨n2,g2⟩
   ·rw [ir,d8 n1]
    exact hpu j t n1 g1
   ·rw [d8 n1,d8 n2]
    exact s.sep j k t c' g1 g2 n
theorem lA {Φ:Fps} {η:VS.Env} {i:Nat} {c:Cell} {F:Wr} {a:Addr} (h:cw (j8 Φ i F) (η.set i (some c)) a):(∃ t,c=.ow t/\a∈F)\/cw Φ η a:=by
 obtain ⟨j,t,h1,h2⟩:=h
 rcases gA h1 with ⟨rfl,e⟩ | ⟨n,h1⟩
 ·rw [ir] at h2;exact .inl ⟨t,e.symm,h2⟩
 ·rw [d8 n] at h2;exact .inr ⟨j,t,h1,h2⟩
theorem pH {Φ:Fps} {η:VS.Env} {i:Nat} {c:Cell} {F:Wr} {a:Addr} (h:dE (j8 Φ i F) (η.set i (some c)) a):(∃ t,c=.pu t/\a∈F)\/dE Φ η a:=by
 obtain ⟨j,t,h1,h2⟩:=h
 rcases gA h1 with ⟨rfl,e⟩ | ⟨n,h1⟩
 ·rw [ir] at h2;exact .inl ⟨t,e.symm,h2⟩
 ·rw [d8 n] at h2;exact .inr ⟨j,t,h1,h2⟩
theorem SR.ow_pu {Φ:Fps} {η:VS.Env} {σ:L2.St} {H:Hp} (s:SR G Φ η σ H) {a:Addr} (h:cw Φ η a) (h':dE Φ η a):False:=by
 obtain ⟨j,t,h1,h2⟩:=h
 obtain ⟨k,u,g1,g2⟩:=h'
 have n:j ≠ k:=fun e=>by subst e;rw [h1] at g1;cases g1
 exact s.sep j k t _ h1 g1 n a h2 g2
theorem SR.val {Φ:Fps} {η:VS.Env} {σ:L2.St} {H H':Hp} {i:Nat} {v:V} {t:T} {m:Md} {F:Wr} {c:Cell} (s:SR G Φ η σ H) (hi:i < η.length) (e:aJ H H') (r:Rp G H' v t F) (f:Fp Φ η H m F)
  (hc:(c=.pu t/\m ≠ .bo)\/(c=.ow t/\m=.fr)):SR G (j8 Φ i F) (η.set i (some c)) (σ.set i (some v)) H'/\Frm Φ η H (j8 Φ i F) (η.set i (some c)) H':=by
 have dom:∀ {a},H a=none->∀ j c',η[j]?=some (some c')->a ∉ Φ j:=fun {a} h j c' hj ha=>by
  obtain ⟨w,_,q⟩:=s.rp j c' hj
  exact Mut.ne_none (q.dom a ha) h
 have ct:iT c=t:=by rcases hc with ⟨rfl,_⟩ | ⟨rfl,_⟩ <;> rfl
 have fpu:∀ a∈F,H a=none\/dE Φ η a:=fun a ha=>by
  rcases hc with ⟨_,n⟩ | ⟨_,n⟩
  ·exact f.pu n a ha
  ·rw [n] at f;exact .inl (f.2 a ha)
 constructor
 ·refine s.put hi (by rw [ct];exact r) (fun j c' n hj w q=>q.same e) (fun u hu=>?_) (fun u hu j c' n hj a ha=>?_) fun j u n hj a ha hF=>?_
  ·rcases hc with ⟨h,_⟩ | ⟨_,h⟩
   ·rw [h] at hu;cases hu
   ·rw [h] at f;exact f.1
  ·rcases hc with ⟨h,_⟩ | ⟨_,h⟩
   ·rw [h] at hu;cases hu
   ·rw [h] at f;exact dom (f.2 a ha) j c' hj
  ·rcases fpu a hF with z | z
   ·exact dom z j _ hj ha
   ·exact s.ow_pu ⟨j,u,hj,ha⟩ z
 ·refine ⟨fun a o h n=>⟨e a o h,fun z=>?_⟩,fun a h z=>h (e.free z),fun a h=>?_,fun a h=>?_,Kept.of e⟩
  ·rcases lA z with ⟨u,hu,ha⟩ | z
   ·rcases hc with ⟨h',_⟩ | ⟨_,h'⟩
    ·rw [h'] at hu;cases hu
    ·rw [h'] at f
     rw [f.2 a ha] at h;cases h
   ·exact n z
  ·rcases lA h with ⟨u,hu,ha⟩ | z
   ·rcases hc with ⟨h',_⟩ | ⟨_,h'⟩
    ·rw [h'] at hu;cases hu
    ·rw [h'] at f
     exact .inr (f.2 a ha)
   ·exact .inl z
  ·rcases pH h with ⟨u,hu,ha⟩ | z
   ·exact (fpu a ha).elim (fun z=>.inr (.inr z)) .inl
   ·exact .inl z
theorem wW {i:Nat} {x:Str} {pos':Pos} (he:PV G X e ce) (hN:X.N.Nodup) (hi:X.N[i]?=some x:=by rfl) (hx:Loc X.env.scope x:=by first | exact Or.inl rfl | exact Or.inr rfl)
  (hs:swapsWith e (some (.Name x pos')) pos.line X.env=pure false:=by rfl) (hf:X.fn x=true\/X.env.scope.names.lookup x=some .local:=by first | exact .inl rfl | exact .inr rfl) :
  PSV G X (.Assign [.Name x pos'] e pos) (lX i ce):=PS.weak (pB hN hi hx he hs hf) fun D σ H hq=>by
 obtain ⟨Φ,η,o,s,e,k⟩:=hq
 unfold lX at e
 obtain ⟨⟨m,t⟩,ec,e1⟩:=Zz.mp e
 obtain ⟨c,eC,e2⟩:=Zz.mp e1
 split at e2
 ·rename_i hl
  cases e2
  refine ⟨Φ,η,m,t,s,ec,fun v H' F e3 r3 f3=>?_⟩
  obtain ⟨q1,q2⟩:=s.val (c:=c) hl e3 r3 f3 (by
   unfold cellOf at eC
   cases m with
   | fr =>
    simp only [Option.some.injEq] at eC
    split at eC
    ·exact .inr ⟨eC.symm,rfl⟩
    ·exact .inl ⟨eC.symm,by decide⟩
   | pu=>cases eC;exact .inl ⟨rfl,by decide⟩
   | bo=>cases eC)
  exact k _ _ H' q1 q2
 ·cases e2
theorem uf {i:Nat} {x:Str} {pos':Pos} (he:PV G X e ce) (hN:X.N.Nodup) (hi:X.N[i]?=some x:=by rfl) (hx:Loc X.env.scope x:=by first | exact Or.inl rfl | exact Or.inr rfl)
  (hs:swapsWith e (some (.Name x pos')) pos.line X.env=pure false:=by rfl) (hf:X.fn x=true\/X.env.scope.names.lookup x=some .local:=by first | exact .inl rfl | exact .inr rfl) :
  PSV G X (.Assign [.Name x pos'] e pos) (aC i ce):=PS.weak (pB hN hi hx he hs hf) fun D σ H hq=>by
 obtain ⟨Φ,η,o,s,e,k⟩:=hq
 unfold aC at e
 obtain ⟨⟨m,t⟩,ec,e1⟩:=Zz.mp e
 split at e1
 ·cases e1
 ·rename_i hm
  split at e1
  ·rename_i hl
   cases e1
   refine ⟨Φ,η,m,t,s,ec,fun v H' F e3 r3 f3=>?_⟩
   obtain ⟨q1,q2⟩:=s.val (c:=.pu t) hl e3 r3 f3 (.inl ⟨rfl,hm⟩)
   exact k _ _ H' q1 q2
  ·cases e1
theorem SR.frz {Φ:Fps} {η:VS.Env} {σ:L2.St} {H:Hp} {i:Nat} {t:T} (s:SR G Φ η σ H) (h:η[i]?=some (some (.ow t))):SR G Φ (η.set i (some (.pu t))) σ H/\Frm Φ η H Φ (η.set i (some (.pu t))) H:=by
 have back:∀ {j c},(η.set i (some (.pu t)))[j]?=some (some c)->∃ c',η[j]?=some (some c')/\iT c'=iT c/\∀ u,c=.ow u->c'=.ow u:=fun {j c} hj=>by
  rcases gA hj with ⟨rfl,rfl⟩ | ⟨n,hj⟩
  ·exact ⟨.ow t,h,rfl,fun u hu=>nomatch hu⟩
  ·exact ⟨c,hj,rfl,fun u hu=>hu⟩
 refine ⟨⟨by rw [Z7];exact s.len,fun j c hj=>?_,fun j u hj=>?_,fun j k u c h1 h2 n=>?_⟩,⟨fun a o ha n=>⟨ha,fun ⟨j,u,h1,h2⟩=>?_⟩,fun _ h=>h,fun a ⟨j,u,h1,h2⟩=>?_,fun a ⟨j,u,h1,h2⟩=>?_,Kept.refl H⟩⟩
 ·obtain ⟨c',h1,h2,_⟩:=back hj
  obtain ⟨v,g1,g2⟩:=s.rp j c' h1
  exact ⟨v,g1,by rw [← h2];exact g2⟩
 ·obtain ⟨c',h1,_,h3⟩:=back hj
  rw [h3 u rfl] at h1
  exact s.nd j u h1
 ·obtain ⟨c1,g1,_,g3⟩:=back h1
  obtain ⟨c2,k1,_,_⟩:=back h2
  rw [g3 u rfl] at g1
  exact s.sep j k u c2 g1 k1 n
 ·obtain ⟨c1,g1,_,g3⟩:=back h1
  rw [g3 u rfl] at g1
  exact n ⟨j,u,g1,h2⟩
 ·obtain ⟨c1,g1,_,g3⟩:=back h1
  rw [g3 u rfl] at g1
  exact .inl ⟨j,u,g1,h2⟩
 ·rcases gA h1 with ⟨rfl,_⟩ | ⟨n,h1⟩
  ·exact .inr (.inl ⟨j,t,h,h2⟩)
  ·exact .inl ⟨j,u,h1,h2⟩
theorem xK (i:Nat) (h:di G X sts c):di G X sts (ar (qo i) c):=PSs.weak h fun D σ H hq=>by
 obtain ⟨Φ,η,o,s,e,k⟩:=hq
 unfold ar at e
 obtain ⟨o1,e1,e2⟩:=Zz.mp e
 unfold qo at e1
 split at e1
 ·rename_i t ht
  cases e1
  obtain ⟨q1,q2⟩:=s.frz ht
  exact ⟨Φ,_,o,q1,e2,k.back q2⟩
 ·cases e1
  exact ⟨Φ,η,o,s,e2,k⟩
 ·cases e1
end
section
variable {G:Gx} {X:Cx} {st:Stmt} {sts:List Stmt} {c c1 c2:Sx} {pos:Pos} {e:Expr} {es:List Expr} {ce:Ex} {cs:Exs}
structure Chg (G:Gx) (H:Hp) (v:V) (F:Wr) (t':T) (H2:Hp) (F':Wr):Prop where
 kept:Kept H H2
 keep:∀ b o,b ∉ F->H b=some o->H2 b=some o
 dom:∀ b,H b ≠ none->H2 b ≠ none
 rp:Rp G H2 v t' F'
 nd:F'.Nodup
 sub:∀ a∈F',a∈F\/H a=none
theorem SR.mut {Φ:Fps} {η:VS.Env} {σ:L2.St} {H H2:Hp} {i:Nat} {v:V} {t t':T} {F':Wr} (s:SR G Φ η σ H) (hi:η[i]?=some (some (.ow t))) (hv:σ[i]?=some (some v)) (g:Chg G H v (Φ i) t' H2 F') :
  SR G (j8 Φ i F') (η.set i (some (.ow t'))) σ H2/\Frm Φ η H (j8 Φ i F') (η.set i (some (.ow t'))) H2:=by
 have hl:i < η.length:=(Zd.mp hi).1
 have off:∀ j c',j ≠ i->η[j]?=some (some c')->∀ a∈Φ j,a ∉ Φ i:=fun j c' n hj a ha ha'=>s.sep i j t c' hi hj (YV n) a ha' ha
 have es:σ.set i (some v)=σ:=by
  obtain ⟨h,e⟩:=Zd.mp hv
  rw [← e]
  exact XY h
 have new:∀ a∈F',∀ j c',j ≠ i->η[j]?=some (some c')->a ∉ Φ j:=fun a ha j c' n hj ha'=>by
  rcases g.sub a ha with z | z
  ·exact off j c' n hj a ha' z
  ·obtain ⟨w,_,q⟩:=s.rp j c' hj
   exact Mut.ne_none (q.dom a ha') z
 constructor
 ·have:=s.put (c:=.ow t') (F:=F') (H':=H2) (v:=v) hl g.rp (fun j c' n hj w q=>q.keep g.kept fun a ha o ho=>g.keep a o (off j c' n hj a ha) ho) (fun _ _=>g.nd) (fun u hu j c' n hj a ha=>new a ha j c' n hj) fun j u n hj a ha ha'=>new a ha' j _ n hj ha
  rw [es] at this
  exact this
 ·refine ⟨fun a o h n=>⟨g.keep a o (fun z=>n ⟨i,t,hi,z⟩) h,fun z=>?_⟩,g.dom,fun a h=>?_,fun a h=>?_,g.kept⟩
  ·rcases lA z with ⟨u,_,ha⟩ | z
   ·rcases g.sub a ha with z | z
    ·exact n ⟨i,t,hi,z⟩
    ·rw [z] at h;cases h
   ·exact n z
  ·rcases lA h with ⟨u,_,ha⟩ | z
   ·rcases g.sub a ha with z | z
    ·exact .inl ⟨i,t,hi,z⟩
    ·exact .inr z
   ·exact .inl z
  ·rcases pH h with ⟨u,hu,ha⟩ | z
   ·cases hu
   ·exact .inl z
noncomputable def vI (G:Gx) (r:V->List V->Hp->VK->Prop) (f:T->Wi->Option (T×Val)):Prop:=∀ (Φ:Fps) (η:VS.Env) (H H1:Hp) (v:V) (t t':T) (F:Wr) (l:Wi) (vs:List V) (Fs:Wu) (x:Val) (Q:VK),
 Rp G H v t F->F.Nodup->Args G Φ η H H1 l vs Fs->f t l=some (t',x)->(∀ u H2 F',Chg G H v F t' H2 F'->Q u H2)->r v vs H1 Q
theorem ur {T' id:String} {name x:Str} {r:V->List V->Hp->VK->Prop} {f:T->Wi->Option (T×Val)} {apos cpos p1:Pos} (i:Nat) (pa:PlainAttrs T') (slot:Slot T' name id) (hty:typeOf (.builtin id)=pure (.type "method_descriptor")) (hm:MtR X id r) (ok:vI G r f)
  (hT:∀ H v t F l z,Rp G H v t F->f t l=some z->tyV G.K T' v H) (ha:PVs G X (e :: es) cs) (hK:X.K=G.K:=by rfl)
  (hN:X.N[i]?=some x:=by rfl) (hv:Vis X.env.scope x:=by first | exact Or.inl rfl | exact Or.inr (Or.inl rfl) | exact Or.inr (Or.inr rfl)) (hd:(x == ("__debug__" : Str))=false:=by decide)
  (hcd:(x == ("__classdict__" : Str))=false:=by decide)
  (hbase:attributeBase (.Name x p1) name X.env (eval (.Name x p1) X.env)=eval (.Name x p1) X.env:=by rfl)
  (hfew:((backTo cpos (starEach (e :: es) X.env)).all (fun x=>!x.1) && (backToKw cpos (keywordEach [] X.env)).all (fun x=>x.1.isSome)
   && decide ((e :: es).length+([]:List Keyword).length+(if ([]:List Keyword).isEmpty then 0 else 1) < 30))=true:=by rfl)
  (hline:(apos.endLine == cpos.line)=true:=by rfl) (hs:starEach (e :: es) X.env=(false,eval e X.env) :: starEach es X.env:=by rfl) (hplain:(backTo cpos (starEach es X.env)).any (·.1)=false:=by rfl)
  (hsw:swapsWith (.Call (.Attribute (.Name x p1) name apos) (e :: es) [] cpos) none pos.line X.env=pure false:=by rfl) :
  PSV G X (.Expr (.Call (.Attribute (.Name x p1) name apos) (e :: es) [] cpos) pos) (sX (lW i [] f cs)) :=
 PS.weak (jo (qD pa slot hty hm (gH hN hv hd hcd) ha hbase hfew hline hs hplain) hsw) fun D σ H hq=>by
  obtain ⟨Φ,η,o,s,e,k⟩:=hq
  unfold sX lW at e
  obtain ⟨⟨x',η'⟩,e1,e2⟩:=Zu.mp e
  split at e1
  ·rename_i t ht
   obtain ⟨ks,ek,e3⟩:=Zz.mp e1
   cases (show some ([]:List Ky)=some ks from ek)
   obtain ⟨l,el,e4⟩:=Zz.mp e3
   obtain ⟨⟨t',x2⟩,e5,e6⟩:=Zu.mp e4
   cases e6
   cases e2
   obtain ⟨v,h1,h2⟩:=s.rp _ _ ht
   have e7:f t l=some (t',x'):=e5
   refine ⟨v,h1,by rw [hK];exact hT H v t _ l _ h2 e7,Φ,η,l,s,el,fun vs H' Fs q1 q2 q3=>?_⟩
   refine ok Φ η H H' v t t' (Φ i) l vs Fs x' _ h2 (s.nd i t ht) ⟨q1,q2,q3⟩ e7 fun u H2 F' g=>?_
   obtain ⟨w1,w2⟩:=s.mut ht h1 g
   exact k _ σ H2 w1 w2
  ·cases e1
theorem Chg.upd {H H1:Hp} {v:V} {F:Wr} {a:Addr} {o:HO} {t':T} {F':Wr} (e:aJ H H1) (ha:a∈F) (hm:Mut (H1 a)) (r:Rp G (upd H1 a o) v t' F') (nd:F'.Nodup) (sub:∀ a∈F',a∈F\/H a=none):Chg G H v F t' (upd H1 a o) F' :=
 ⟨(Kept.of e).trans (Kept.upd (.inl hm)),fun b o' hb h=>by rw [aG (fun z=>hb (by rw [z];exact ha))];exact e b o' h,
  fun b h z=>by
   by_cases q:b=a
   ·subst q;rw [ay] at z;cases z
   ·rw [aG q] at z;exact h (e.free z),r,nd,sub⟩
theorem RpL.off {H:Hp} {vs:List V} {ts:Wg} {Fs:Wu} {a:Addr} {o:HO} (r:RpL G H vs ts Fs) (hm:Mut (H a)) (h:a ∉ Fs.flatten):RpL G (upd H a o) vs ts Fs :=
 r.keep (Kept.upd (.inl hm)) fun b hb o' ho=>by rw [aG (fun z=>h (by rw [← z];exact hb))];exact ho
theorem kj {v:Val} {t:T} (h:fit v=some t):v=(.fr,t):=by
 obtain ⟨m,x⟩:=v
 unfold fit at h
 cases m <;> first | (cases h;rfl) | cases h
theorem mP:vI G qE aD:=by
 intro Φ η H H1 v t t' F l vs Fs x Q r nd A e k
 unfold aD at e
 split at e
 ·rename_i ts y
  obtain ⟨z,ez,e1⟩:=Zz.mp e
  have ey:=kj ez
  subst ey
  split at e1
  ·rename_i hl
   cases e1
   obtain ⟨a,us,Gs,rfl,rfl,ha,ra⟩:=r.lst_inv
   obtain ⟨w,Fw,rfl,rfl,rw'⟩:=(show RpL G H1 vs [z] Fs from A.rp).one
   have fw:Fp Φ η H .fr Fw:=A.fp.each 0 _ _ rfl rfl
   have ha1:H1 a=some (.lst us):=A.same a _ ha
   have m1:Mut (H1 a):=by rw [ha1];exact True.intro
   have na:a ∉ Gs.flatten:=(Zh.mp nd).1
   have nw:a ∉ Fw:=fun z=>by rw [fw.2 a z] at ha;cases ha
   refine ⟨a,us,w,rfl,rfl,ha1,by rw [ra.len.1];exact hl,k _ _ (a :: (Gs++[Fw]).flatten) ?_⟩
   have off:∀ b∈Gs.flatten,b ∉ Fw:=fun b hb hw=>Mut.ne_none (ra.dom b hb) (fw.2 b hw)
   refine Chg.upd A.same Zw m1 (.lst ay (((ra.same A.same).off m1 na).append (.cons (rw'.keep (Kept.upd (.inl m1)) fun b hb o ho=>by rw [aG (fun z=>nw (by rw [← z];exact hb))];exact ho) .nil))) ?_ ?_
   ·rw [Yt]
    refine Zh.mpr ⟨fun m=>?_,ZP.mpr ⟨(Zh.mp nd).2,by simpa using fw.1,fun b hb c hc z=>?_⟩⟩
    ·rcases ZY.mp m with m | m
     ·exact na m
     ·exact nw (by simpa using m)
    ·subst z;exact off b hb (by simpa using hc)
   ·intro b hb
    rcases Zg.mp hb with rfl | hb
    ·exact .inl Zw
    ·rw [Yt] at hb
     rcases ZY.mp hb with hb | hb
     ·exact .inl (Zx _ hb)
     ·exact .inr (fw.2 b (by simpa using hb))
  ·cases e1
 ·cases e
theorem vc {H:Hp} {v:V} {ts:Wg} {F:Wr} (r:Rp G H v (.lst ts) F):tyV G.K "list" v H:=by
 obtain ⟨a,us,Gs,rfl,rfl,ha,ra⟩:=r.lst_inv
 exact .inl ⟨rfl,_,SqL.of ha⟩
theorem jW {H:Hp} {v:V} {t:T} {F:Wr} {l:Wi} {z:T×Val} (r:Rp G H v t F) (h:aD t l=some z):tyV G.K "list" v H:=by
 unfold aD at h
 split at h
 ·exact vc r
 ·cases h
end
structure ItOk (G:Gx) (J:It) (l:Wg) (C:Wr) (H:Hp):Prop where
 run:∀ H2,Kept H H2->(∀ a∈C,∀ o,H a=some o->H2 a=some o) →
  (∀ (i:Nat) (t:T),l[i]?=some t->J.go i H2/\∀ x H3,J.yld i H2 x H3->aJ H2 H3/\∃ F,Rp G H3 x t F/\∀ a∈F,a∈C\/H2 a=none)/\∀ (i:Nat),l.length<=i->J.stop i H2
 dom:∀ a∈C,H a ≠ none
noncomputable def FpC (Φ:Fps) (η:VS.Env) (H:Hp) (m:Md) (C:Wr):Prop:=∀ a∈C,H a=none\/dE Φ η a\/(m=.bo/\cw Φ η a)
theorem Fp.c {Φ:Fps} {η:VS.Env} {H:Hp} {F:Wr}:∀ {m:Md},Fp Φ η H m F->FpC Φ η H m F
 | .fr,f=>fun a ha=>.inl (f.2 a ha)
 | .pu,f=>fun a ha=>(f a ha).imp id .inl
 | .bo,f=>fun a ha=>(f a ha).imp id fun z=>z.imp id fun z=>⟨rfl,z⟩
noncomputable def tI (G:Gx) (c:Its):TI:=fun σ H R=>∃ Φ η m l,SR G Φ η σ H/\c η=some (m,l)/\∀ J H' C,aJ H H'->ItOk G J l C H'->FpC Φ η H m C->R J H'
noncomputable def PVI (G:Gx) (X:Cx) (tg iter:Expr) (c:Its):Prop:=PI X tg iter (tI G c)
theorem PI.weak {X:Cx} {tg e:Expr} {t t':TI} (h:PI X tg e t) (w:∀ σ H Q,t' σ H Q->t σ H Q):PI X tg e t':=fun pins s σ H Q I q=>h pins s σ H Q I (w σ H Q q)
section
variable {G:Gx} {X:Cx} {tg e a b:Expr} {es:List Expr} {ca cb:Ex} {cs:Exs} {pos p:Pos}
theorem nY (H:Hp) (lo:Int) (n:Nat):ItOk G (Itr lo n) (rng lo n) [] H:=by
 refine ⟨fun H2 _ _=>⟨fun i t h=>?_,fun i h=>(by simpa [rng] using h:n<=i)⟩,fun a h=>by simp at h⟩
 unfold rng at h
 rw [ZO] at h
 obtain ⟨k,hk,e⟩:=Zu.mp h
 obtain ⟨hlt,e2⟩:=Zd.mp hk
 rw [ZC] at hlt
 have ek:i=k:=by simpa using e2
 subst ek
 refine ⟨hlt,fun x H3 ⟨e3,e4⟩=>?_⟩
 subst e3
 subst e4
 rw [← e]
 exact ⟨aJ.refl _,[],.int _,fun a h=>by simp at h⟩
theorem pQ (ha:PV G X a ca) (hg:Gl X "range") (hm:X.mg "range" = none) (hs:starEach [a] X.env=(false,eval a X.env) :: starEach [] X.env:=by rfl) (hs':starEach [a] X.env=[(false,eval a X.env)]:=by rfl):PVI G X tg (.Call (.Name "range" p) [a] [] pos) (ed ca) :=
 PI.weak (sS hg hm (fQ ha kC hs) hs') fun σ H R hq=>by
  obtain ⟨Φ,η,m,l,s,e,k⟩:=hq
  unfold ed at e
  obtain ⟨⟨mx,x⟩,ea,e1⟩:=Zz.mp e
  obtain ⟨j,ej,e2⟩:=Zz.mp e1
  split at e2
  ·rename_i hj
   cases e2
   refine ⟨Φ,η,mx,x,s,ea,fun v H' F e3 r3 f3=>?_⟩
   cases x with
   | int j' =>
    cases ej
    refine ⟨j,by rw [r3.int_inv],?_,?_,k _ H' [] e3 (nY H' 0 j.toNat) fun a h=>by simp at h⟩
    ·have:=hj.1;unfold B62 at this;lia
    ·have:=hj.2;unfold B62 at this;lia
   | _=>cases ej
  ·cases e2
theorem pG (ha:PV G X a ca) (hb:PV G X b cb) (hg:Gl X "range") (hm:X.mg "range" = none) (hs:starEach [a,b] X.env=(false,eval a X.env) :: starEach [b] X.env:=by rfl) (hs':starEach [a,b] X.env=[(false,eval a X.env),(false,eval b X.env)]:=by rfl) (hs1:starEach [b] X.env=(false,eval b X.env) :: starEach [] X.env:=by rfl) (hs2:starEach [b] X.env=[(false,eval b X.env)]:=by rfl) :
  PVI G X tg (.Call (.Name "range" p) [a,b] [] pos) (fe ca cb) :=
 PI.weak (sT hg hm (fQ ha (fQ hb kC hs1) hs) hs' hs2) fun σ H R hq=>by
  obtain ⟨Φ,η,m,l,s,e,k⟩:=hq
  unfold fe at e
  obtain ⟨⟨mx,x⟩,ea,e1⟩:=Zz.mp e
  obtain ⟨⟨my,y⟩,eb,e1⟩:=Zz.mp e1
  obtain ⟨i,ei,e2⟩:=Zz.mp e1
  obtain ⟨j,ej,e2⟩:=Zz.mp e2
  split at e2
  ·rename_i hj
   cases e2
   refine ⟨Φ,η,mx,x,s,ea,fun v H' F e3 r3 f3=>⟨Φ,η,my,y,s.same e3,eb,fun w H2 F2 e4 r4 f4=>?_⟩⟩
   cases x with
   | int i' =>
    cases ei
    cases y with
    | int j' =>
     cases ej
     refine ⟨i,j,by rw [r3.int_inv,r4.int_inv],?_,k _ H2 [] (e3.trans e4) (nY H2 i (j - i).toNat) fun a h=>by simp at h⟩
     unfold B62 at hj
     omega
    | _=>cases ej
   | _=>cases ei
  ·cases e2
theorem dk {Fs:Wu} {i:Nat} {F:Wr} (h:Fs[i]?=some F) {a:Addr} (ha:a∈F):a∈Fs.flatten:=(dv h).subset ha
theorem yt {H:Hp} {a:Addr} {vs:List V} {ts:Wg} {Fs:Wu} (K:Wt) (ha:H a=some (.lst vs)) (r:RpL G H vs ts Fs):ItOk G (Itl K a) ts (a :: Fs.flatten) H:=by
 refine ⟨fun H2 k c=>?_,fun b hb=>?_⟩
 ·have ha2:H2 a=some (.lst vs):=c a Zw _ ha
  have r2:RpL G H2 vs ts Fs:=r.keep k fun b hb o ho=>c b (Zx _ hb) o ho
  refine ⟨fun i t h=>?_,fun i h=>⟨vs,SqL.of ha2,by rw [r.len.1];exact h⟩⟩
  obtain ⟨v,F,h1,h2,h3⟩:=r2.get i h
  refine ⟨⟨vs,v,SqL.of ha2,h1⟩,fun x H3 ⟨e1,e2⟩=>?_⟩
  subst e1
  have ex:=e2 vs (SqL.of ha2)
  rw [h1] at ex
  cases ex
  exact ⟨aJ.refl _,F,h3,fun b hb=>.inl (Zx _ (dk h2 hb))⟩
 ·rcases Zg.mp hb with rfl | hb
  ·rw [ha];exact fun z=>nomatch z
  ·exact Mut.ne_none (r.dom b hb)
theorem Ap {H:Hp} {a:Addr} {vs:List V} {ts:Wg} {Fs:Wu} (K:Wt) (ha:H a=some (.tup vs)) (r:RpL G H vs ts Fs):ItOk G (Itt K a) ts Fs.flatten H:=by
 refine ⟨fun H2 k c=>?_,fun b hb=>Mut.ne_none (r.dom b hb)⟩
 have ha2:H2 a=some (.tup vs):=k.tup a _ ha
 have r2:RpL G H2 vs ts Fs:=r.keep k fun b hb o ho=>c b hb o ho
 refine ⟨fun i t h=>?_,fun i h=>⟨vs,SqT.of ha2,by rw [r.len.1];exact h⟩⟩
 obtain ⟨v,F,h1,h2,h3⟩:=r2.get i h
 refine ⟨⟨vs,v,SqT.of ha2,h1⟩,fun x H3 ⟨e1,e2⟩=>?_⟩
 subst e1
 have ex:=e2 vs (SqT.of ha2)
 rw [h1] at ex
 cases ex
 exact ⟨aJ.refl _,F,h3,fun b hb=>.inl (dk h2 hb)⟩
noncomputable def tG (G:Gx) (g:Tg):TG:=fun v σ H Q=>∃ Φ η t F η',SR G Φ η σ H/\Rp G H v t F/\(∀ a∈F,¬ cw Φ η a)/\g t η=some η' ∧
 ∀ Φ' σ',SR G Φ' η' σ' H->(∀ a,cw Φ' η' a->cw Φ η a)->(∀ a,dE Φ' η' a->dE Φ η a\/a∈F)->Q σ' H
noncomputable def tGs (G:Gx) (gs:List Tg):TGs:=fun vs σ H Q=>∃ Φ η ts Fs η',SR G Φ η σ H/\RpL G H vs ts Fs/\(∀ a∈Fs.flatten,¬ cw Φ η a)/\pV gs ts η=some η' ∧
 ∀ Φ' σ',SR G Φ' η' σ' H->(∀ a,cw Φ' η' a->cw Φ η a)->(∀ a,dE Φ' η' a->dE Φ η a\/a∈Fs.flatten)->Q σ' H
noncomputable def PVG (G:Gx) (X:Cx) (e:Expr) (g:Tg):Prop:=PG X e (tG G g)
noncomputable def oy (G:Gx) (X:Cx) (e:List Expr) (g:List Tg):Prop:=PGs X e (tGs G g)
theorem PG.weak {X:Cx} {e:Expr} {t t':TG} (h:PG X e t) (w:∀ v σ H Q,t' v σ H Q->t v σ H Q):PG X e t':=fun pins s σ H v u Q I r q=>h pins s σ H v u Q I r (w v σ H Q q)
theorem PGs.weak {X:Cx} {e:List Expr} {t t':TGs} (h:PGs X e t) (w:∀ v σ H Q,t' v σ H Q->t v σ H Q):PGs X e t':=fun pins s σ H v u Q I r q=>h pins s σ H v u Q I r (w v σ H Q q)
theorem ug (i:Nat) {x:Str} (hN:X.N.Nodup) (hi:X.N[i]?=some x:=by rfl) (hx:Loc X.env.scope x:=by first | exact Or.inl rfl | exact Or.inr rfl)
  (hf:X.fn x=true\/X.env.scope.names.lookup x=some .local:=by first | exact .inl rfl | exact .inr rfl):PVG G X (.Name x pos) (bw i):=PG.weak (yX hN hi hx hf) fun v σ H Q hq=>by
 obtain ⟨Φ,η,t,F,η',s,r,no,e,k⟩:=hq
 unfold bw at e
 split at e
 ·rename_i hl
  cases e
  refine k (j8 Φ i F) (σ.set i (some v)) (s.put (c:=.pu t) hl r (fun j c' n hj w q=>q) (fun u hu=>nomatch hu) (fun u hu=>nomatch hu) fun j u n hj a ha ha'=>no a ha' ⟨j,u,hj,ha⟩) (fun a h=>?_) fun a h=>?_
  ·rcases lA h with ⟨u,hu,_⟩ | z
   ·cases hu
   ·exact z
  ·rcases pH h with ⟨u,hu,ha⟩ | z
   ·exact .inr ha
   ·exact .inl z
 ·cases e
theorem vH:oy G X [] []:=PGs.weak xC fun v σ H Q hq=>by
 obtain ⟨Φ,η,ts,Fs,η',s,r,no,e,k⟩:=hq
 cases r with
 | nil =>
  cases (show some η=some η' from e)
  exact ⟨rfl,k Φ σ s (fun _ h=>h) fun _ h=>.inl h⟩
 | cons r q=>cases (show (none:Option VS.Env)=some η' from e)
theorem rQ {g:Tg} {gs:List Tg} (h1:PVG G X e g) (h2:oy G X es gs) (hs:(assignEach (e :: es) X.env).map (·.2)=assign e X.env :: (assignEach es X.env).map (·.2):=by rfl):oy G X (e :: es) (g :: gs) :=
 PGs.weak (tu h1 h2 hs) fun v σ H Q hq=>by
  obtain ⟨Φ,η,ts,Fs,η',s,r,no,e,k⟩:=hq
  cases r with
  | nil=>cases (show (none:Option VS.Env)=some η' from e)
  | cons r q =>
   rename_i v' t' F' vs' ts' Fs'
   obtain ⟨η1,e1,e2⟩:=Zz.mp e
   refine ⟨_,_,rfl,Φ,η,_,_,η1,s,r,fun a ha=>no a (by rw [ZW];exact ZD _ ha),e1,fun Φ1 σ1 s1 o1 p1=>?_⟩
   refine ⟨Φ1,η1,_,_,η',s1,q,fun a ha z=>no a (by rw [ZW];exact ZX _ ha) (o1 a z),e2,fun Φ2 σ2 s2 o2 p2=>k Φ2 σ2 s2 (fun a h=>o1 a (o2 a h)) fun a h=>?_⟩
   rcases p2 a h with h | h
   ·rcases p1 a h with h | h
    ·exact .inl h
    ·exact .inr (by rw [ZW];exact ZD _ h)
   ·exact .inr (by rw [ZW];exact ZX _ h)
theorem nV:∀ {gs:List Tg} {ts:Wg} {η η':VS.Env},pV gs ts η=some η'->ts.length=gs.length
 | [],[],_,_,_=>rfl
 | [],_ :: _,_,_,h=>by simp [pV] at h
 | _ :: _,[],_,_,h=>by simp [pV] at h
 | g :: gs,t :: ts,η,η',h=>by
  obtain ⟨η1,_,e2⟩:=Zz.mp (show (g t η).bind (fun η'=>pV gs ts η')=some η' from h)
  simp [nV e2]
theorem yW {gs:List Tg} {k:Nat} (hc:X.calm=true) (h:oy G X es gs) (hn:(assignEach es X.env).length=gs.length:=by rfl) (hst:(assignEach es X.env).findIdx? (·.1)=none:=by rfl) (hK:X.K=G.K:=by rfl):PVG G X (.Tuple es k pos) (oJ gs) :=
 PG.weak (AJ (n:=gs.length) hc h hn hst) fun v σ H Q hq=>by
  obtain ⟨Φ,η,t,F,η',s,r,no,e,q⟩:=hq
  unfold oJ at e
  split at e
  ·rename_i l
   obtain ⟨a',vs,Fs,rfl,rfl,ha',ra⟩:=r.tup_inv
   exact ⟨a',vs,rfl,SqT.of ha',by rw [ra.len.1];exact nV e,Φ,η,l,Fs,η',s,ra,no,e,q⟩
  ·cases e
theorem mr {tgt:Tg} {body:Sx} {l:Wg} {η:VS.Env} {i:Nat} {t:T} (h:l[i]?=some t):l.drop i=t :: l.drop (i+1):=by
 obtain ⟨hi,e⟩:=Zd.mp h
 rw [← e]
 exact List.drop_eq_getElem_cons hi
theorem yB {iter:Expr} {body:List Stmt} {ci:Its} {g:Tg} {cb:Sx} (hp:PassesOwn (model X.prog X.w) X.A X.env X.xe) (hc:X.calm=true) (hi:PVI G X tg iter ci) (hg:PVG G X tg g) (hb:di G X body cb)
  (hs:∀ x,foldedSetIterable iter X.env x=pure x:=by intro _;rfl):PSV G X (.For tg iter body [] pos) (hU g ci cb):=PS.weak (Ai hp hc hi hg hb hs) fun D σ H hq=>by
 obtain ⟨Φ,η,o,s,e,k⟩:=hq
 unfold hU at e
 obtain ⟨⟨m,l⟩,el,e1⟩:=Zz.mp e
 dsimp only at e1
 split at e1
 ·rename_i hm
  have hm':m ≠ .bo:=fun z=>by rw [z] at hm;cases hm
  refine ⟨Φ,η,m,l,s,el,fun J H' C e2 ok fc=>?_⟩
  have cno:∀ a∈C,¬ cw Φ η a:=fun a ha z=>by
   rcases fc a ha with q | q | q
   ·exact Mut.ne_none (s.ow_dom z) q
   ·exact s.ow_pu z q
   ·exact hm' q.1
  refine ⟨fun i n σ2 H2=>n=l.length - i/\∃ Φ2 η2,SR G Φ2 η2 σ2 H2/\Frm Φ η H Φ2 η2 H2/\Kept H' H2/\(∀ a∈C,∀ o,H' a=some o->H2 a=some o/\¬ cw Φ2 η2 a)/\forL g cb (l.drop i) η2=some o,
   ⟨l.length - 0,rfl,Φ,η,s.same e2,Frm.same e2,Kept.refl _,fun a ha o' ho=>⟨ho,cno a ha⟩,by rw [List.drop_zero];exact e1⟩,?_⟩
  rintro i n σ2 H2 ⟨rfl,Φ2,η2,s2,f2,kp,con,e3⟩
  obtain ⟨go,stop⟩:=ok.run H2 kp fun a ha o' ho=>(con a ha o' ho).1
  cases hit:l[i]? with
  | none =>
   have hl:l.length<=i:=Yv.mp hit
   left
   rw [YQ hl] at e3
   cases (show some (Out.nx η2)=some o from e3)
   exact ⟨stop i hl,k Φ2 σ2 H2 s2 f2⟩
  | some t =>
   have hl:i < l.length:=(Zd.mp hit).1
   right
   obtain ⟨g1,y1⟩:=go i t hit
   rw [mr (tgt:=g) (body:=cb) (η:=η2) hit] at e3
   obtain ⟨η3,e4,e5⟩:=Zz.mp (show (g t η2).bind (fun η1=>(cb η1).bind fun o=>match o with
    | .nx η2=>forL g cb (l.drop (i+1)) η2
    | .ct η2=>forL g cb (l.drop (i+1)) η2
    | .bk η2=>some (.nx η2)
    | .rt v η2=>some (.rt v η2))=some o from e3)
   obtain ⟨o',e6,e7⟩:=Zz.mp e5
   refine ⟨g1,fun σ4 H4=>∃ Φ4 η4,SR G Φ4 η4 σ4 H4/\Frm Φ η H Φ4 η4 H4/\Kept H' H4/\(∀ a∈C,∀ o,H' a=some o->H4 a=some o/\¬ cw Φ4 η4 a)/\forL g cb (l.drop (i+1)) η4=some o,fun σ4 H4 ⟨Φ4,η4,q⟩=>⟨l.length - (i+1),by omega,rfl,Φ4,η4,q⟩,fun x H3 yl=>?_⟩
   obtain ⟨e8,F,rF,hF⟩:=y1 x H3 yl
   have s3:=s2.same e8
   have noF:∀ a∈F,¬ cw Φ2 η2 a:=fun a ha z=>by
    rcases hF a ha with q | q
    ·have hne:=ok.dom a q
     cases ho:H' a with
     | none=>exact hne ho
     | some o''=>exact (con a q o'' ho).2 z
    ·exact Mut.ne_none (s2.ow_dom z) q
   refine ⟨Φ2,η2,t,F,η3,s3,rF,noF,e4,fun Φ3 σ3 s4 o3 p3=>?_⟩
   have f3:Frm Φ η H Φ3 η3 H3:=⟨fun a o' h n=>let ⟨h1,n1⟩:=f2.keep a o' h n;⟨e8 a o' h1,fun z=>n1 (o3 a z)⟩,fun a h z=>f2.dom a h (e8.free z),fun a h=>f2.ow a (o3 a h),fun a h=>by
    rcases p3 a h with h | h
    ·exact f2.pu a h
    ·rcases hF a h with q | q
     ·rcases fc a q with q | q | q
      ·exact .inr (.inr q)
      ·exact .inl q
      ·exact .inr (.inl q.2)
     ·exact .inr (.inr (f2.none q)),f2.kept.trans (Kept.of e8)⟩
   have next:∀ {Φ4 η4 H4},Frm Φ3 η3 H3 Φ4 η4 H4->Kept H' H4/\∀ a∈C,∀ o,H' a=some o->H4 a=some o/\¬ cw Φ4 η4 a:=fun fb =>
    ⟨(kp.trans (Kept.of e8)).trans fb.kept,fun a ha o' ho=>by
     obtain ⟨h1,n1⟩:=con a ha o' ho
     exact fb.keep a o' (e8 a o' h1) fun z=>n1 (o3 a z)⟩
   refine ⟨Φ3,η3,o',s4,e6,?_⟩
   cases o' with
   | nx η4=>exact fun Φ4 σ4 H4 s5 fb=>⟨Φ4,η4,s5,f3.trans fb,(next fb).1,(next fb).2,e7⟩
   | ct η4=>exact fun Φ4 σ4 H4 s5 fb=>⟨Φ4,η4,s5,f3.trans fb,(next fb).1,(next fb).2,e7⟩
   | bk η4 =>
    cases (show some (Out.nx η4)=some o from e7)
    exact fun Φ4 σ4 H4 s5 fb=>k Φ4 σ4 H4 s5 (f3.trans fb)
   | rt v η4 =>
    cases (show some (Out.rt v η4)=some o from e7)
    exact fun u H4 F4 Φ4 σ4 s5 fb r5 q5=>k u H4 F4 Φ4 σ4 s5 (f3.trans fb) r5 (q5.back f3)
 ·cases e1
end
noncomputable def DO (H:Hp) (Fs:Wu):Md->Wr->Prop
 | .fr,F=>F.Nodup/\∀ a∈F,H a=none
 | _,F=>∀ a∈F,H a=none\/a∈Fs.flatten
noncomputable def spF (G:Gx) (g:Fn):Sp:=fun vs H Q _=>∃ ts Fs m r,RpL G H vs ts Fs/\g ts=some (m,r)/\∀ v H' F,aJ H H'->Rp G H' v r F->DO H Fs m F->Q v H'
section
variable {G:Gx} {X:Cx} {k:Nat} {f:Addr} {fd:FuncData} {ps:List Str} {x:Str} {p pos:Pos} {e:Expr} {es:List Expr} {cs:Exs} {g:Fn}
theorem call_of {σ:L2.St} {H:Hp} {Q:VK} {E:XK} (h:tE G (bG g cs) σ H Q):za (spF G g) [] E (tEs G cs) σ H Q:=by
 obtain ⟨Φ,η,m,t,s,e,kk⟩:=h
 unfold bG at e
 obtain ⟨l,el,e1⟩:=Zz.mp e
 obtain ⟨⟨n,r⟩,er,e2⟩:=Zz.mp e1
 refine ⟨Φ,η,l,s,el,fun vs H1 Fs q1 q2 q3=>?_⟩
 have A:Args G Φ η H H1 l vs Fs:=⟨q1,q2,q3⟩
 have jn:=q3.join A.len
 show spF G g (vs++[]) H1 Q E
 rw [ZK]
 refine ⟨trees l,Fs,n,r,q2,er,fun v H' F q4 q5 q6=>?_⟩
 have wide:(∀ a∈F,H1 a=none\/a∈Fs.flatten)->Fp Φ η H ((Md.pu).join (cz l)) F:=fun h=>by
  cases ej:cz l with
  | fr =>
   rw [ej] at jn
   exact fun a ha=>.inl ((h a ha).elim q1.free (jn.2 a))
  | pu =>
   rw [ej] at jn
   exact fun a ha=>(h a ha).elim (fun z=>.inl (q1.free z)) (jn a)
  | bo =>
   rw [ej] at jn
   exact fun a ha=>(h a ha).elim (fun z=>.inl (q1.free z)) (jn a)
 cases n with
 | fr =>
  cases e2
  exact kk v H' F (q1.trans q4) q5 ⟨q6.1,fun a ha=>q1.free (q6.2 a ha)⟩
 | pu =>
  cases e2
  exact kk v H' F (q1.trans q4) q5 (wide q6)
 | bo =>
  cases e2
  exact kk v H' F (q1.trans q4) q5 (wide q6)
theorem yD (F:FnOk X.prog X.w X.K X.mg X.base CX0 k f fd ps (spF G g)) (hr:Room k X.A) (hg:Gl X x) (hm:X.mg x=some (.ref f)) (hk:PySem.W.keepIn X.K (.ref f)=true) (hb:Binds X.K fd ps [])
  (ha:PVs G X (e :: es) cs) (hdb:(x == ("__debug__" : Str))=false:=by decide) (he:starEach (e :: es) X.env=(false,eval e X.env) :: starEach es X.env:=by rfl) (hpl:(backTo pos (starEach es X.env)).any (·.1)=false:=by rfl) :
  PV G X (.Call (.Name x p) (e :: es) [] pos) (bG g cs) :=
 PE.weak (ye F hr hg hm hk hb .nil j4 ha hdb he hpl) fun σ H Q h=>call_of h
theorem uU {H:Hp} {vs:List V} {ts:Wg} {Fs:Wu} (r:RpL G H vs ts Fs) (n nv:Nat) (hv:nv=vs.length):SR G (fun i=>Fs.getD i []) (ts.map (fun t=>some (.pu t))++List.replicate (n - ts.length) none) (vs.map some++List.replicate (n - nv) none) H:=by
 subst hv
 have hl:=r.len
 have back:∀ {i:Nat} {c:Cell},(ts.map (fun t=>some (Cell.pu t))++List.replicate (n - ts.length) none)[i]?=some (some c)->∃ t,ts[i]?=some t/\c=.pu t:=fun {i c} h=>by
  by_cases hi:i < ts.length
  ·rw [ZE (by rw [Zy];exact hi),ZO] at h
   obtain ⟨t,h1,h2⟩:=Zu.mp h
   exact ⟨t,h1,(Zp h2).symm⟩
  ·rw [Z2 (by rw [Zy];exact ZJ hi),Yj] at h
   split at h <;> cases h
 refine ⟨by simp;lia,fun i c h=>?_,fun i t h=>?_,fun i j t c h=>?_⟩
 ·obtain ⟨t,h1,rfl⟩:=back h
  obtain ⟨v,F,g1,g2,g3⟩:=r.get i h1
  refine ⟨v,?_,?_⟩
  ·have:i < vs.length:=(Zd.mp g1).1
   rw [ZE (by rw [Zy];exact this),ZO,g1]
   rfl
  ·show Rp G H v t (Fs.getD i [])
   rw [Zr,g2]
   exact g3
 ·obtain ⟨t',_,h2⟩:=back h
  cases h2
 ·obtain ⟨t',_,h2⟩:=back h
  cases h2
theorem g8 {ts:Wg} {n:Nat} {Φ:Fps} {a:Addr}:¬ cw Φ (ts.map (fun t=>some (Cell.pu t))++List.replicate n none) a:=by
 rintro ⟨i,t,h,_⟩
 by_cases hi:i < ts.length
 ·rw [ZE (by rw [Zy];exact hi),ZO] at h
  obtain ⟨t',_,h2⟩:=Zu.mp h
  cases h2
 ·rw [Z2 (by rw [Zy];exact ZJ hi),Yj] at h
  split at h <;> cases h
theorem oM {H:Hp} {vs:List V} {ts:Wg} {Fs:Wu} {n:Nat} {a:Addr} (h:dE (fun i=>Fs.getD i []) (ts.map (fun t=>some (Cell.pu t))++List.replicate n none) a):a∈Fs.flatten:=by
 obtain ⟨i,t,_,h2⟩:=h
 simp only [Zr] at h2
 cases e:Fs[i]? with
 | none=>rw [e] at h2;simp at h2
 | some F=>rw [e] at h2;exact dk e h2
end
section
variable {G:Gx} {P:Program} {w:World} {K:Wt} {mg:Ws} {base:Heap}
theorem fnV {x qual:Str} {st:Stmt} {f:Addr} {fd:FuncData} {N ps:List Str} {k np nn:Nat} {c:Sx} (F:Fun K x qual st f fd) (S:FnScope N ps (af st)) (hp:ps.length=np) (hn:N.length=nn)
  (hb:∀ (cdv:Value) (A:Around) (outer:List PySem.Env) (s:Shared) (H:Hp) (E:XK),Room k (A.deeper (envOfC qual (af st) s.heap.objs.size f cdv))->di G (fM CX0 P w K mg base N qual (af st) f cdv A outer s H E).nox (au st) c) :
  FnOk P w K mg base CX0 (k+1) f fd ps (spF G (fn np nn c)):=by
 refine F.ok S (fun vs H Q E h=>?_) fun cdv A outer s H vs Q E hr h=>⟨_,hb cdv A outer s H E hr,?_⟩
 ·obtain ⟨ts,Fs,m,r,h1,h2,_⟩:=h
  unfold fn at h2
  split at h2
  ·rename_i hl
   rw [h1.len.1,hl,hp]
  ·cases h2
 ·obtain ⟨ts,Fs,m,r,h1,h2,q⟩:=h
  unfold fn at h2
  split at h2
  ·rename_i hl
   obtain ⟨o,e1,e2⟩:=Zz.mp h2
   have s0:=uU h1 nn vs.length rfl
   rw [hl] at s0
   have e3:L2.start N vs=vs.map some++List.replicate (nn - vs.length) none:=by
    unfold L2.start
    rw [hn]
   rw [e3]
   refine ⟨_,_,o,s0,e1,?_⟩
   cases o with
   | nx η' =>
    cases e2
    intro Φ' σ' H' s' fr
    exact q .non H' [] (fun a o h=>(fr.keep a o h g8).1) .non ⟨Yn,fun a h=>by simp at h⟩
   | rt v η' =>
    cases e2
    intro u H' F' Φ' σ' s' fr r' rf
    refine q u H' F' (fun a o h=>(fr.keep a o h g8).1) r' ?_
    cases m with
    | fr=>exact ⟨rf.1,fun a ha=>(rf.2 a ha).elim id fun z=>absurd z g8⟩
    | pu=>exact fun a ha=>(rf a ha).elim .inl fun z=>z.elim (fun z=>.inr (oM (H:=H) (vs:=vs) z)) fun z=>absurd z g8
    | bo=>exact fun a ha=>(rf a ha).elim .inl fun z=>z.elim (fun z=>.inr (oM (H:=H) (vs:=vs) z)) fun z=>absurd z g8
   | bk η'=>cases e2
   | ct η'=>cases e2
  ·cases h2
end
end VS
end
section
namespace L2
open PySem PySem.Spec PyProof.Rows
theorem jN (env:Env):∀ (l:List (Str×NameKind)) (acc:List (Str×Addr)),(∀ y∈l,y.2=.free->∃ c,env.cells.lookup y.1=some c)->(∀ x c,acc.lookup x=some c->env.cells.lookup x=some c) →
  ∃ cl,(forIn l acc (fun x r=>if (x.snd == NameKind.free)=true then (do let a ← cellOf env x.fst;pure (ForInStep.yield ((x.fst,a) :: r))) else pure (ForInStep.yield r)):Sem (List (Str×Addr)))=pure cl ∧
   (∀ x c,cl.lookup x=some c->env.cells.lookup x=some c)/\(∀ x c,acc.lookup x=some c->∃ c',cl.lookup x=some c')/\∀ y∈l,y.2=.free->∃ c,cl.lookup y.1=some c
 | [],acc,_,ha=>⟨acc,rfl,ha,fun x c h=>⟨c,h⟩,fun y hy=>nomatch hy⟩
 | (n,k) :: l,acc,hf,ha=>by
  by_cases hk:k=.free
  ·subst hk
   obtain ⟨c,hc⟩:=hf (n,.free) Zw rfl
   have ec:cellOf env n=pure c:=by unfold cellOf;dsimp only at hc;rw [hc]
   have ha':∀ x c',((n,c) :: acc).lookup x=some c'->env.cells.lookup x=some c':=fun x c' h=>by
    rw [Yz] at h
    split at h
    ·rename_i hx
     have:x=n:=by simpa using hx
     rw [this,← h];exact hc
    ·exact ha x c' h
   obtain ⟨cl,h1,h2,h3,h4⟩:=jN env l ((n,c) :: acc) (fun y hy=>hf y (Zx _ hy)) ha'
   refine ⟨cl,?_,h2,fun x c' h=>?_,fun y hy hyf=>?_⟩
   ·rw [List.forIn_cons]
    dsimp only
    rw [Zq (show (NameKind.free == NameKind.free)=true from rfl),ec,pure_bind,pure_bind]
    exact h1
   ·by_cases hx:x=n
    ·exact h3 x c (by rw [Yz,hx];simp)
    ·refine h3 x c' ?_
     rw [Yz]
     have:(x == n)=false:=by simpa using hx
     rw [this];exact h
   ·rcases Zg.mp hy with rfl | hy
    ·exact h3 n c (by rw [Yz];simp)
    ·exact h4 y hy hyf
  ·obtain ⟨cl,h1,h2,h3,h4⟩:=jN env l acc (fun y hy=>hf y (Zx _ hy)) ha
   refine ⟨cl,?_,h2,h3,fun y hy hyf=>?_⟩
   ·rw [List.forIn_cons]
    dsimp only
    rw [Zo (by simpa using hk),pure_bind]
    exact h1
   ·rcases Zg.mp hy with rfl | hy
    ·exact absurd hyf hk
    ·exact h4 y hy hyf
theorem yb {sc:Scope} {env:Env} (hf:∀ y∈sc.names,y.2=.free->∃ c,env.cells.lookup y.1=some c) :
  ∃ cl,closureFor sc env=pure cl/\(∀ x c,cl.lookup x=some c->env.cells.lookup x=some c)/\∀ y∈sc.names,y.2=.free->∃ c,cl.lookup y.1=some c:=by
 obtain ⟨cl,h1,h2,_,h4⟩:=jN env sc.names [] hf (fun x c h=>nomatch h)
 refine ⟨cl,?_,h2,h4⟩
 simp only [closureFor]
 rw [h1]
 rfl
theorem fT {l:List (Str×NameKind)} {x:Str} {k:NameKind} (h:l.lookup x=some k):(x,k)∈l:=by
 induction l with
 | nil=>cases h
 | cons p l ih =>
  rw [Yz] at h
  split at h
  ·rename_i hx
   have e:x=p.1:=by simpa using hx
   cases h
   rw [e];exact Zw
  ·exact Zx _ (ih h)
theorem df {env:Env} {x:Str} {k:NameKind}:∀ {l:List (Str×NameKind)},(l.map fun (n,k)=>if (k == NameKind.free && env.scope.kind == .function && env.kindOf n == some .cell) then (n,NameKind.cell) else (n,k)).lookup x=some k →
  ∃ k0,l.lookup x=some k0/\(k=k0\/(k0=.free/\k=.cell))
 | [],h=>nomatch h
 | (n,k1) :: l,h=>by
  rw [Zn,Yz] at h
  by_cases hc:(k1 == NameKind.free && env.scope.kind == .function && env.kindOf n == some .cell)=true
  ·simp only [hc,if_true] at h
   rw [Yz]
   cases hx:x == n with
   | true =>
    rw [hx] at h
    have:k1=.free:=by
     have:=(XO.mp (XO.mp hc).1).1
     simpa using this
    exact ⟨k1,rfl,.inr ⟨this,(Zp h).symm⟩⟩
   | false=>rw [hx] at h;exact df h
  ·simp only [hc,if_false,Y2] at h
   rw [Yz]
   cases hx:x == n with
   | true=>rw [hx] at h;exact ⟨k1,rfl,.inl (Zp h).symm⟩
   | false=>rw [hx] at h;exact df h
noncomputable def bZ (X:Cx) (N:List Str) (sc:Scope) (cl:List (Str×Addr)) (C:Addr) (s:Shared) (H:Hp) (fp:Wr):Cx :=
 { X with N:=N,s₀:=s,H₀:=H,env:=compEnvC sc cl C X.env,outer:=X.stack,ex:=fp,fn:=fun _=>false,pn:=[],xe:=fun _ _=>False }
noncomputable def kN (env:Env) (sc:Scope):Bool:=sc.kind == .function && sc.names.all fun y=>match y.2 with
 | .cell=>false
 | .local=>sc.names.lookup y.1 == some .local
 | .free=>env.kindOf y.1 == some .cell || env.kindOf y.1 == some .free
 | _=>true
noncomputable def jr (sc:Scope):List Str->List Str->Bool
 | [],[]=>true
 | a :: as,b :: bs=>((a == b && sc.names.lookup a == some .free) || sc.names.lookup a == none || sc.names.lookup a == some .globalImplicit) && jr sc as bs
 | _,_=>false
theorem qB {sc:Scope}:∀ {as bs:List Str},jr sc as bs=true->as.length=bs.length/\∀ (i:Nat) (x:Str),as[i]?=some x->(bs[i]?=some x/\sc.names.lookup x=some .free)\/sc.names.lookup x=none\/sc.names.lookup x=some .globalImplicit
 | [],[],_=>⟨rfl,fun i x h=>by simp at h⟩
 | a :: as,b :: bs,h=>by
  simp only [jr,Zf] at h
  obtain ⟨h1,h2⟩:=h
  obtain ⟨l,r⟩:=qB h2
  refine ⟨by simp [l],fun i x e=>?_⟩
  cases i with
  | zero =>
   have:a=x:=by simpa using e
   subst this
   simp only [Bool.or_eq_true,Zf] at h1
   rcases h1 with (⟨z1,z2⟩ | z) | z
   ·exact .inl ⟨by simpa using (by simpa using z1:a=b).symm,by simpa using z2⟩
   ·exact .inr (.inl (by simpa using z))
   ·exact .inr (.inr (by simpa using z))
  | succ i=>simpa using r i x (by simpa using e)
 | [],_ :: _,h=>by simp [jr] at h
 | _ :: _,[],h=>by simp [jr] at h
section
variable {X:Cx} {pins:Wv} {σ:St} {H:Hp} {s:Shared}
theorem Inv.block {N:List Str} {sc:Scope} {cl:List (Str×Addr)} {C D:Addr} {fp:Wr} {k:Nat} {h1:Heap} {t:Nat} {m:Ws} (I:Inv X pins σ H s) (hsc:kN X.env sc=true) (hnm:jr sc (N.drop k) X.N=true) (hNl:k<=N.length)
  (hc1:∀ x c,cl.lookup x=some c->X.env.cells.lookup x=some c) (hc2:∀ y∈sc.names,y.2=.free->∃ c,cl.lookup y.1=some c) (hfp:∀ b∈fp,lV X pins H b) (hD:s.heap.objs.size<=D) (hC:s.heap.objs.size<=C) (hDC:D ≠ C) (hfC:C ∉ fp)
  (keep:∀ b u,s.heap.get? b=some u->h1.get? b=some u) (hns:h1.Ns C m) (hDo:h1.get? D=some { cls:=.type "list",data:=.seq ([]:Wq).toArray 0 }) :
  Inv (bZ X N sc cl C s H fp) [] (List.replicate k none++σ) (upd H D (.lst [])) { s with heap:=h1,toks:=t }:=by
 unfold kN at hsc
 rw [Zf,Yq] at hsc
 obtain ⟨hk,hall⟩:=hsc
 have hkind:sc.kind=.function:=by simpa using hk
 obtain ⟨hlen,hat⟩:=qB hnm
 have hcell:∀ y∈sc.names,y.2 ≠ .cell:=fun y hy e=>by have:=hall y hy;rw [e] at this;cases this
 have frees:∀ x k',(relabel sc X.env).names.lookup x=some k'->k'=.cell\/k'=.free->sc.names.lookup x=some .free:=fun x k' h hk'=>by
  obtain ⟨k0,h0,hk0⟩:=df h
  rcases hk0 with e | ⟨e,_⟩
  ·subst e
   rcases hk' with e | e
   ·subst e;exact absurd rfl (hcell _ (fT h0))
   ·subst e;exact h0
  ·subst e;exact h0
 have hHD:H D=none:=I.hok.fresh hD
 have hHC:H C=none:=I.hok.fresh hC
 refine ⟨⟨I.mod,hkind,I.ok.glob,I.ok.blt,hC,fun x y c e1 e2=>I.ok.inj x y c (hc1 x c e1) (hc1 y c e2),fun x hx=>?_,fun x c e=>(nomatch e),I.ok.hd,I.ok.frames,.inl rfl,fun b hb=>⟨fun (e:b=C)=>hfC (e ▸ hb),fun x c e=>(hfp b hb).2.2.2.2.1 x c (hc1 x c e)⟩,
  I.bs,ZF I.ok.bsz I.sz,fun b o e hb=>?_,fun b hb hb'=>?_,I.stack,I.stkFree⟩,rfl,I.bare,Un.laid keep hD hHD,⟨m,hns,fun i x v e1 e2 e3=>?_⟩,fun x c e=>?_,?_,fun x c e=>?_,fun p hp=>(nomatch hp),I.hok.laid keep hD ?_,?_⟩
 ·have h:∃ k',(relabel sc X.env).names.lookup x=some k'/\(k'=.cell\/k'=.free):=by
   rcases hx with e | e
   ·exact ⟨_,e,.inl rfl⟩
   ·exact ⟨_,e,.inr rfl⟩
  obtain ⟨k',h1',h2'⟩:=h
  exact hc2 _ (fT (frees x k' h1' h2')) rfl
 ·have hb':b∈fp:=hb
  rcases (hfp b hb').2.2.2.1 with z | z
  ·exact I.ok.noex b o e z
  ·exact absurd (ZU (ZR e) (ZF I.ok.bsz z)) (Yp _)
 ·have hb0:b∈frs X.stack:=hb'
  rcases Zg.mp (I.stkSub b hb0) with z | z
  ·exact (hfp b hb).2.1 z
  ·exact (hfp b hb).2.2.1 z
 ·
  have hik:k<=i:=by
   rcases Nat.lt_or_ge i k with z | z
   ·rw [ZE (by simpa using z),Yj] at e2
    split at e2 <;> cases e2
   ·exact z
  rw [Z2 (by simpa using hik),YN] at e2
  have e1':(N.drop k)[i - k]?=some x:=by
   rw [List.getElem?_drop,show k+(i - k)=i by exact Nat.add_sub_of_le hik];exact e1
  have vis:sc.names.lookup x=some .free->∃ k',(relabel sc X.env).names.lookup x=some k'/\(k'=.cell\/k'=.free):=fun h0=>by
   have e3':Vis (relabel sc X.env) x:=e3
   rcases e3' with z | z | z
   ·obtain ⟨k0,h1',h2'⟩:=df z
    rw [h0] at h1';cases h1'
    rcases h2' with q | ⟨_,q⟩ <;> cases q
   ·exact ⟨_,z,.inl rfl⟩
   ·exact ⟨_,z,.inr rfl⟩
  have no:∀ k0,sc.names.lookup x=some k0->∃ k',(relabel sc X.env).names.lookup x=some k'->True:=fun _ _=>⟨.local,fun _=>trivial⟩
  rcases hat _ x e1' with ⟨hX,h0⟩ | h0 | h0
  ·obtain ⟨k',hk1,hk2⟩:=vis h0
   have hf:=hall _ (fT h0)
   have hf':X.env.kindOf x=some .cell\/X.env.kindOf x=some .free:=by
    simpa using hf
   obtain ⟨mX,hnX,hlX⟩:=I.loc
   have visX:Vis X.env.scope x:=hf'.elim (fun z=>.inr (.inl z)) fun z=>.inr (.inr z)
   obtain ⟨u,r,l⟩:=hlX _ x v hX e2 visX
   refine ⟨u,r,.inr ⟨?_,?_⟩⟩
   ·rcases hk2 with z | z
    ·subst z;exact .inl hk1
    ·subst z;exact .inr hk1
   ·obtain ⟨c,hc⟩:=hc2 _ (fT h0) rfl
    refine ⟨c,hc,?_⟩
    rcases l with ⟨z,_⟩ | ⟨_,c',hc',hcell'⟩
    ·rcases hf' with q | q <;> (rw [z] at q;cases q)
    ·have:=hc1 x c hc
     rw [hc'] at this;cases this
     exact hcell'.keeps keep
  ·have e3':Vis (relabel sc X.env) x:=e3
   rcases e3' with z | z | z <;> (obtain ⟨k0,z1,_⟩:=df z;rw [h0] at z1;cases z1)
  ·have e3':Vis (relabel sc X.env) x:=e3
   rcases e3' with z | z | z <;> (obtain ⟨k0,z1,z2⟩:=df z;rw [h0] at z1;cases z1;rcases z2 with q | ⟨q,_⟩ <;> cases q)
 ·obtain ⟨v,z⟩:=I.cell x c (hc1 x c e)
  exact ⟨v,z.keeps keep⟩
 ·show upd H D (.lst []) C=none
  rw [aG (YV hDC)];exact hHC
 ·obtain ⟨v,z⟩:=I.cell x c (hc1 x c e)
  rw [aG (ZQ (ZU z.lt hD))]
  exact I.freeC x c (hc1 x c e)
 ·exact ⟨Yk _,[],0,.nil,hDo⟩
 ·show (List.replicate k none++σ).length=N.length
  rw [Zv,YN,I.len,← hlen,YE]
  exact Nat.add_sub_of_le hNl
noncomputable def xI (X:Cx) (ifs:List Expr) (t:TT):Prop :=
 ∀ (pins:Wv) (s:Shared) (σ:St) (H:Hp) (Q:Bool->Hp->Prop),Inv X pins σ H s->t σ H Q →
  wpAny (model X.prog X.w) X.A (forIn ifs true fun c r=>if r=true then (do let ok ← isTrue c X.env (eval c X.env);pure (ForInStep.yield ok)) else pure (ForInStep.yield r)) (TP X pins σ Q) X.xe s
theorem oF:xI X [] (fun σ H Q=>Q true H):=fun pins s σ H Q I q=>Zj ⟨H,I,q⟩
theorem vK {c:Expr} {t:TT} (h:PT X c t):xI X [c] t:=fun pins s σ H Q I q=>by
 rw [List.forIn_cons,Zq rfl]
 refine Zs (Zs (thn (h pins s σ H Q I q) fun b s1 q1=>Zj ?_))
 exact Zj q1
section
variable {prog:Program} {w:World} {A:Around} {R:Result->Shared->Prop}
theorem oN {elt target iter:Expr} {ifs:List Expr} {scope:Scope} {pos:Pos} {it acc:Value} {env:Env} {s:Shared} (I:Nat->Shared->Prop)
  (turn:∀ n s,I n s->wpAny (model prog w) A (pyNext it) (fun r s₁=>match r with
   | none=>R (.ok .next) s₁
   | some v=>wpAny (model prog w) A (letOwnedTupleGo target it v) (fun _ s₀=>wpAny (model prog w) A (assign target env v) (fun _ s₂ =>
     wpAny (model prog w) A (forIn ifs true fun c r=>if r=true then (do let ok ← isTrue c env (eval c env);pure (ForInStep.yield ok)) else pure (ForInStep.yield r)) (fun ok s₃ =>
      if ok=true then wpAny (model prog w) A (eval elt env) (fun x s₄ =>
       wpAny (model prog w) A (call (.builtin "list.append") [acc,x]) (fun _ s₅=>∃ m,m < n/\I m s₅) (fun _ _=>False) s₄) (fun _ _=>False) s₃
      else ∃ m,m < n/\I m s₃) (fun _ _=>False) s₂) (fun _ _=>False) s₀) (fun _ _=>False) s₁) (fun _ _=>False) s)
  (n:Nat) (h:I n s) :
  codeAny (model prog w) A (.compLoop (.ListComp elt [⟨target,iter,ifs,0⟩] scope pos) 0 it acc env) R s:=by
 refine codeAny_loop rfl I (fun n s hI=>?_) n h
 show wpAny _ A ((compTurn (.ListComp elt [⟨target,iter,ifs,0⟩] scope pos) 0 it acc env).onRaise (fun x=>do noteFrame x env;theTreesLotGoes x)) _ _ s
 refine wpAny_noted ?_
 rw [compTurn_list]
 refine Zs (wpAny_standAt (Zs (YL (turn n s hI) (fun r s₁ h₁=>?_) fun _ _ h'=>h'.elim)))
 cases r with
 | none=>exact Zj h₁
 | some v =>
  refine Zs (YL h₁ (fun _ s₀ h₀=>?_) fun _ _ h'=>h'.elim)
  refine Zs (YL h₀ (fun _ s₂ h₂=>Zs (YL h₂ (fun ok s₃ h₃=>?_) fun _ _ h'=>h'.elim)) fun _ _ h'=>h'.elim)
  cases ok with
  | false=>exact Zj ⟨rfl,h₃⟩
  | true =>
   rw [Zq rfl] at h₃
   exact Zs (Zs (YL h₃ (fun x s₄ h₄=>Zs (YL h₄ (fun _ s₅ h₅=>Zj (Zj ⟨rfl,h₅⟩)) fun _ _ h'=>h'.elim)) fun _ _ h'=>h'.elim))
end
noncomputable def um (k:Nat) (wi:TI) (g:TG) (tc:TT) (te:TE) (σ:St) (H:Hp) (Q:VK):Prop:=wi σ H fun J H1=>∀ D,H1 D=none->∃ W:Nat->Nat->St->Hp->Prop,
 (∃ m,W 0 m (List.replicate k none++σ) (upd H1 D (.lst [])))/\∀ i m σ' H',W i m σ' H'->(J.stop i H'/\Q (.ref D) H')\/(J.go i H'/\∀ x H2,J.yld i H' x H2->g x σ' H2 fun σ3 H3=>tc σ3 H3 fun b H4 =>
  if b=true then te σ3 H4 fun y H5=>∃ ys,H5 D=some (.lst ys)/\ys.length < sizeLine/\∃ m',m' < m/\W (i+1) m' σ3 (upd H5 D (.lst (ys++[y]))) else ∃ m',m' < m/\W (i+1) m' σ3 H4)
theorem sY {elt tg iter:Expr} {ifs:List Expr} {sc:Scope} {pos pos':Pos} {N:List Str} {k:Nat} {wi:TI} {g:TG} {tc:TT} {te:TE} {use:Option (Value->Sem Unit)} {QQ:Ww} {Q:VK} (hcalm:X.calm=true) (hi:PI X tg iter wi) (hsc:kN X.env sc=true)
  (hnm:jr sc (N.drop k) X.N=true) (hNl:k<=N.length) (hin:∀ cl C s H fp,PG (bZ X N sc cl C s H fp) tg g/\xI (bZ X N sc cl C s H fp) ifs tc/\PE (bZ X N sc cl C s H fp) elt te)
  (hs:∀ x,foldedSetIterable iter X.env x=pure x) (I:Inv X pins σ H s) (h:um k wi g tc te σ H Q)
  (hq:∀ s' H' D C m,Inv X pins σ H' s'->Q (.ref D) H'->s'.heap.Ns C m->lV X pins H' C->compPost (model X.prog X.w) X.A X.xe use QQ (.ref D) C (.ok .next) s') :
  wpAny (model X.prog X.w) X.A (comprehension (.ListComp elt [⟨tg,iter,ifs,0⟩] sc pos) sc X.env pos' (newList []) false (eval iter X.env) use) QQ X.xe s:=by
 have hsc':=hsc
 unfold kN at hsc'
 rw [Zf,Yq] at hsc'
 obtain ⟨hk,hall⟩:=hsc'
 have hkind:sc.kind=.function:=by simpa using hk
 have hcell:∀ y∈sc.names,y.2 ≠ .cell:=fun y hy e=>by have:=hall y hy;rw [e] at this;cases this
 have hnames:∀ y∈sc.names,y.2=.local->sc.names.lookup y.1=some .local:=fun y hy e=>by
  have:=hall y hy
  rw [e] at this
  simpa using this
 obtain ⟨cl,hcl,hc1,hc2⟩:=yb (sc:=sc) (env:=X.env) fun y hy e=>I.ok.has y.1 (by
  have:=hall y hy
  rw [e] at this
  simpa using this)
 refine wpAny_comprehension_free (use:=use) rfl hs hcl hkind hnames (thn (hi pins s σ H _ I h) fun v s1 h1=>thn h1 fun itv s2 h2=>?_)
 obtain ⟨it,fp,tn,J,H2,e,I2,T,st2,f2,hW⟩:=h2
 subst e
 refine Yh (wpAny_newFunctionEnv hcell (by intro y hy;simp at hy) (fun h₁ hns₁ hsb₁=>?_) hkind)
 dsimp only at hns₁ hsb₁ ⊢
 generalize hP:s2.heap.push { cls:=.type "list",dict:=none,data:=.seq ([]:Wq).toArray }=P at hns₁ hsb₁ ⊢
 have hCs:P.objs.size=s2.heap.objs.size+1:=by rw [← hP,X5]
 have old:∀ b o,s2.heap.get? b=some o->h₁.get? b=some o:=fun b o e =>
  hsb₁.extBut b o (by rw [hCs];exact ZQ (XA (ZR e))) (Zi _ (hP ▸ Zi _ e))
 have hDC:s2.heap.objs.size ≠ P.objs.size:=by rw [hCs];exact ZQ (Yl _)
 have hDo:h₁.get? s2.heap.objs.size=some { cls:=.type "list",data:=.seq ([]:Wq).toArray 0 }:=hsb₁.extBut _ _ hDC (Zi _ (hP ▸ ZM _ rfl))
 have hCle:s2.heap.objs.size<=P.objs.size:=by rw [hCs];exact Nat.le_succ _
 have lt_fp:∀ b∈fp,b < s2.heap.objs.size:=fun b hb=>let ⟨o,ho,_⟩:=T.obj 0 _ st2 b hb;ZR ho
 have hfC:P.objs.size ∉ fp:=fun hb=>absurd (ZU (lt_fp _ hb) hCle) (Yp _)
 have IY:=I2.block (N:=N) (sc:=sc) (cl:=cl) (C:=P.objs.size) (D:=s2.heap.objs.size) (fp:=fp) (k:=k) (t:=s2.toks+([]:List (Str×Value)).length) hsc hnm hNl hc1 hc2 f2 (Zl _) hCle hDC hfC old hns₁ hDo
 obtain ⟨hG,hT,hE⟩:=hin cl P.objs.size s2 H2 fp
 generalize hY:bZ X N sc cl P.objs.size s2 H2 fp=Y at IY hG hT hE
 have hYm:Y.prog=X.prog/\Y.w=X.w/\Y.K=X.K/\Y.A=X.A/\Y.env=compEnvC sc cl P.objs.size X.env/\Y.calm=X.calm/\(Y.xe=fun _ _=>False):=by rw [← hY];exact ⟨rfl,rfl,rfl,rfl,rfl,rfl,rfl⟩
 obtain ⟨y1,y2,y3,y4,y5,y6,y7⟩:=hYm
 have stat:∀ {H':Hp},(∀ b∈fp,H' b=none)->∀ b∈fp,lV Y [] H' b:=fun {H'} hn b hb=>by
  rw [← hY]
  refine ⟨hn b hb,fun (e:b=P.objs.size)=>hfC (e ▸ hb),fun hb'=>?_,.inl hb,fun x c e=>(f2 b hb).2.2.2.2.1 x c (hc1 x c e),fun p hp=>(nomatch hp)⟩
  rcases Zg.mp (I2.stkSub b hb') with z | z
  ·exact (f2 b hb).2.1 z
  ·exact (f2 b hb).2.2.1 z
 obtain ⟨W,⟨m0,w0⟩,turn⟩:=hW s2.heap.objs.size (I2.hok.fresh (Zl _))
 have hfp0:∀ b∈fp,upd H2 s2.heap.objs.size (.lst []) b=none:=fun b hb=>by rw [aG (ZQ (lt_fp b hb))];exact (f2 b hb).1
 have st3:tn 0 h₁:=T.keep _ _ _ st2 fun b _ o e=>old b o e
 have loop:codeAny (model X.prog X.w) X.A (.compLoop (.ListComp elt [⟨tg,iter,ifs,0⟩] sc pos) 0 (.ref it) (.ref s2.heap.objs.size) (compEnvC sc cl P.objs.size X.env)) (compPost (model X.prog X.w) X.A X.xe use QQ (.ref s2.heap.objs.size) P.objs.size)
   { s2 with heap:=h₁,toks:=s2.toks+([]:List (Str×Value)).length }:=by
  refine oN (fun n s'=>∃ i σ' H',Inv Y [] σ' H' s'/\tn i s'.heap/\(∀ b∈fp,H' b=none)/\W i n σ' H') ?_ m0 ⟨0,_,_,IY,st3,hfp0,w0⟩
  rintro n s3 ⟨i,σ3,H3,I3,st3,fr3,w3⟩
  rcases turn i n σ3 H3 w3 with ⟨stop,qn⟩ | ⟨go,step⟩
  ·have q:=T.done Y y1 y2 y3 (y6.trans hcalm) i [] s3 σ3 H3 (fun _ _=>False) I3 (stat fr3) st3 stop
   rw [y4] at q
   refine thn q fun r s4 ⟨hr,I4⟩=>?_
   subst hr
   have IX:Inv X pins σ H3 s4:=by
    have b4:=I4.base
    have o4:=I4.os
    have k4:=I4.hok
    rw [← hY] at b4 o4 k4
    refine I2.call' (ch:=fp) o4 b4 k4 I4.bare fun b hb=>?_
    exact ⟨(f2 b hb).2.2.2.1,(f2 b hb).2.1,(f2 b hb).2.2.2.2.1,(f2 b hb).2.2.2.2.2⟩
   obtain ⟨mC,hmC,_⟩:=I4.loc
   have f4:=I4.free
   rw [y5] at hmC f4
   exact hq s4 H3 _ P.objs.size mC IX qn hmC (I2.fpOk hCle f4)
  ·have q:=T.item Y y1 y2 y3 (y6.trans hcalm) i [] s3 σ3 H3 (fun _ _=>False) I3 (stat fr3) st3 go
   rw [y4] at q
   refine thn q fun r s4 ⟨u,hr,h4⟩=>?_
   subst hr
   refine thn h4 fun _ s5 ⟨x,H5,I5,r5,yl5,st5,fr5⟩=>?_
   have I5':=I5.pinned (stat fr5) (T.obj _ _ st5)
   have again:∀ {σ7:St} {H7:Hp} {s7:Shared} {m:Nat},Inv Y ([]++kF fp s5.heap) σ7 H7 s7->W (i+1) m σ7 H7->∃ i σ' H',Inv Y [] σ' H' s7/\tn i s7.heap/\(∀ b∈fp,H' b=none)/\W i m σ' H':=fun {σ7 H7 s7 m} I7 w7=>by
    refine ⟨i+1,σ7,H7,I7.unpinned,T.keep _ _ _ st5 fun b hb o e=>(I7.pin (b,o) (ZX _ (ZX _ (gF hb e)))).1,fun b hb=>?_,w7⟩
    obtain ⟨o,e,d⟩:=T.obj _ _ st5 b hb
    exact (I7.pin (b,o) (ZX _ (ZX _ (gF hb e)))).2.1
   have qa:=hG _ s5 σ3 H5 x u _ I5' r5 (step x H5 yl5)
   rw [y1,y2,y4,y5,y7] at qa
   refine thn qa fun _ s6 ⟨σ6,H6,I6,q6⟩=>?_
   have qt:=hT _ s6 σ6 H6 _ I6 q6
   rw [y1,y2,y4,y5,y7] at qt
   refine thn qt fun b s7 ⟨H7,I7,q7⟩=>?_
   cases b with
   | false =>
    rw [Zo Ze] at q7 ⊢
    obtain ⟨m',hm,w7⟩:=q7
    exact ⟨m',hm,again I7 w7⟩
   | true =>
    rw [Zq rfl] at q7 ⊢
    have qe:=hE _ s7 σ6 H7 _ I7 q7
    rw [y1,y2,y4,y5,y7] at qe
    refine thn qe fun yv s8 ⟨y,H8,I8,r8,ys,hD8,hl8,m',hm,w8⟩=>?_
    have qp:=ib (X:=Y) _ s8 σ6 H8 (.ref s2.heap.objs.size) [y] (.ref s2.heap.objs.size) [yv] (fun _ H9=>W (i+1) m' σ6 H9) I8 rfl (.cons r8 .nil) ⟨_,ys,y,rfl,rfl,hD8,hl8,w8⟩
    rw [y1,y2,y4,y7] at qp
    refine thn qp fun _ s9 ⟨_,H9,I9,_,w9⟩=>?_
    exact ⟨m',hm,again I9 w9⟩
 exact codeAny_compStart_list loop (T.self _ 0 _ _ _ st3 loop)
theorem nI {elt tg iter:Expr} {ifs:List Expr} {sc:Scope} {pos:Pos} {N:List Str} {k:Nat} {wi:TI} {g:TG} {tc:TT} {te:TE} (hcalm:X.calm=true) (hi:PI X tg iter wi) (hsc:kN X.env sc=true)
  (hnm:jr sc (N.drop k) X.N=true) (hNl:k<=N.length) (hin:∀ cl C s H fp,PG (bZ X N sc cl C s H fp) tg g/\xI (bZ X N sc cl C s H fp) ifs tc/\PE (bZ X N sc cl C s H fp) elt te)
  (hs:∀ x,foldedSetIterable iter X.env x=pure x:=by intro _;rfl):PE X (.ListComp elt [⟨tg,iter,ifs,0⟩] sc pos) (um k wi g tc te):=by
 intro pins s σ H Q I h
 rw [eval_ListComp]
 refine sY (use:=none) hcalm hi hsc hnm hNl hin hs I h fun s' H' D C m I' q hn f=>⟨m,hn,fun h' hs'=>?_⟩
 exact ⟨.ref D,H',I'.turned (it:=C) (t':=s'.toks) (fun b o hb e=>hs'.extBut b o hb e) f.1 f.2.1 f.2.2.2.1 f.2.2.2.2.1 f.2.2.2.2.2,rfl,q⟩
end
end L2
end
section
namespace VS
open PySem PySem.Spec PyProof.Rows L2
noncomputable def o6 (k:Nat) (g:Tg):Prop:=∀ t η η',g t η=some η'->η'.length=η.length/\∀ i,k<=i->η'[i]?=η[i]?
theorem ij {k i:Nat} (h:i < k):o6 k (bw i):=fun t η η' e=>by
 unfold bw at e
 split at e
 ·cases e
  exact ⟨by simp,fun j hj=>by rw [YY (by lia)]⟩
 ·cases e
theorem qA:∀ (l:Wg) {i:Nat} {t:T},eK l=true->l[i]?=some t->imm t=true
 | [],_,_,_,h=>by simp at h
 | x :: l,0,t,h,e=>by
  simp only [eK,Zf] at h
  simp at e;rw [← e];exact h.1
 | x :: l,i+1,t,h,e=>by
  simp only [eK,Zf] at h
  exact qA l h.2 (by simpa using e)
noncomputable def tC (G:Gx):Option Ex->TT
 | none=>fun σ H Q=>Q true H
 | some c=>tT G c
section
variable {G:Gx} {Φ:Fps} {η:VS.Env} {σ:L2.St} {H:Hp} {k:Nat}
theorem iN {i:Nat} {c:Cell}:(List.replicate k none++η)[i]?=some (some c) ↔ k<=i/\η[i - k]?=some (some c):=by
 rcases Nat.lt_or_ge i k with h | h
 ·rw [ZE (by simpa using h),Yj]
  constructor
  ·intro e;split at e <;> cases e
  ·intro ⟨e,_⟩;lia
 ·rw [Z2 (by simpa using h),YN]
  exact ⟨fun e=>⟨h,e⟩,fun e=>e.2⟩
theorem uo {a:Addr}:cw (fun i=>Φ (i - k)) (List.replicate k none++η) a ↔ cw Φ η a:=by
 constructor
 ·rintro ⟨j,t,h1,h2⟩
  exact ⟨j - k,t,(iN.mp h1).2,h2⟩
 ·rintro ⟨j,t,h1,h2⟩
  refine ⟨j+k,t,iN.mpr ⟨Nat.le_add_left _ _,by rw [Xo];exact h1⟩,?_⟩
  show a∈Φ (j+k - k)
  rw [Xo];exact h2
theorem wk {a:Addr}:dE (fun i=>Φ (i - k)) (List.replicate k none++η) a ↔ dE Φ η a:=by
 constructor
 ·rintro ⟨j,t,h1,h2⟩
  exact ⟨j - k,t,(iN.mp h1).2,h2⟩
 ·rintro ⟨j,t,h1,h2⟩
  refine ⟨j+k,t,iN.mpr ⟨Nat.le_add_left _ _,by rw [Xo];exact h1⟩,?_⟩
  show a∈Φ (j+k - k)
  rw [Xo];exact h2
theorem SR.sh (s:SR G Φ η σ H):SR G (fun i=>Φ (i - k)) (List.replicate k none++η) (List.replicate k none++σ) H:=by
 refine ⟨by simp [s.len],fun i c h=>?_,fun i t h=>?_,fun i j t c h1 h2 n=>?_⟩
 ·obtain ⟨h1,h2⟩:=iN.mp h
  obtain ⟨v,g1,g2⟩:=s.rp _ c h2
  refine ⟨v,?_,g2⟩
  rw [Z2 (by simpa using h1),YN]
  exact g1
 ·exact s.nd _ t (iN.mp h).2
 ·obtain ⟨a1,a2⟩:=iN.mp h1
  obtain ⟨b1,b2⟩:=iN.mp h2
  exact s.sep _ _ t c a2 b2 (by lia)
theorem SR.less {η':VS.Env} (s:SR G Φ η' σ H) (hl:η.length=η'.length) (h:∀ (i:Nat) c,η[i]?=some (some c)->η'[i]?=some (some c)):SR G Φ η σ H :=
 ⟨hl.trans s.len,fun i c e=>s.rp i c (h i c e),fun i t e=>s.nd i t (h i _ e),fun i j t c e1 e2 n=>s.sep i j t c (h i _ e1) (h j _ e2) n⟩
theorem SR.off {D:Addr} {o:HO} (s:SR G Φ η σ H) (m:Mut (H D)\/H D=none) (n1:¬ dE Φ η D) (n2:¬ cw Φ η D):SR G Φ η σ (upd H D o):=by
 refine ⟨s.len,fun i c e=>?_,s.nd,s.sep⟩
 obtain ⟨v,g1,g2⟩:=s.rp i c e
 refine ⟨v,g1,g2.keep (Kept.upd m) fun b hb o' ho=>?_⟩
 rw [aG fun z=>?_]
 ·exact ho
 ·subst z
  cases c with
  | pu t=>exact n1 ⟨i,t,e,hb⟩
  | ow t=>exact n2 ⟨i,t,e,hb⟩
theorem kM:∀ (l:Wi) (v:Val),cz (l++[v])=(cz l).join v.1
 | [],(m,t)=>by cases m <;> rfl
 | (m,t) :: l,v=>by
  show m.join (cz (l++[v]))=(m.join (cz l)).join v.1
  rw [kM l v]
  generalize cz l=q
  generalize v.1=r
  cases m <;> cases q <;> cases r <;> rfl
theorem Fp.join2 {m n:Md} {F F':Wr} (f:Fp Φ η H m F) (g:Fp Φ η H n F') (d:n=.fr->∀ a∈F,a ∉ F'):Fp Φ η H (m.join n) (F++F'):=by
 have both:∀ {P:Addr->Prop},(∀ a∈F,P a)->(∀ a∈F',P a)->∀ a∈F++F',P a:=fun p q a h=>(ZY.mp h).elim (p a) (q a)
 cases m <;> cases n
 ·exact ⟨ZP.mpr ⟨f.1,g.1,fun a ha b hb e=>d rfl a ha (e ▸ hb)⟩,both f.2 g.2⟩
 ·exact both (fun a ha=>.inl (f.2 a ha)) g
 ·exact both (fun a ha=>.inl (f.2 a ha)) g
 ·exact both f fun a ha=>.inl (g.2 a ha)
 ·exact both f g
 ·exact both (fun a ha=>(f a ha).imp id .inl) g
 ·exact both f fun a ha=>.inl (g.2 a ha)
 ·exact both f fun a ha=>(g a ha).imp id .inl
 ·exact both f g
theorem Fp.cons1 {m:Md} {F:Wr} {D:Addr} (f:Fp Φ η H m F) (h:H D=none) (d:D ∉ F):Fp Φ η H m (D :: F):=by
 have all:∀ {P:Addr->Prop},P D->(∀ a∈F,P a)->∀ a∈D :: F,P a:=fun p q a ha=>(Zg.mp ha).elim (fun e=>e ▸ p) (q a)
 cases m
 ·exact ⟨Zh.mpr ⟨d,f.1⟩,all h f.2⟩
 ·exact all (.inl h) f
 ·exact all (.inl h) f
end
section
variable {G:Gx} {k:Nat} {tg:Tg} {ci:Its} {cond:Option Ex} {ce:Ex}
noncomputable def CI (G:Gx) (Φ:Fps) (η η0:VS.Env) (H H1:Hp) (D:Addr) (l:Wg) (all:Wi) (tg:Tg) (cond:Option Ex) (ce:Ex) (i n:Nat) (σ':L2.St) (H':Hp):Prop:=n=l.length - i/\∃ Φ1 vs Fs xs rest,SR G Φ1 η0 σ' H'/\(∀ a,cw Φ1 η0 a->cw Φ η a)/\(∀ a,dE Φ1 η0 a->H a=none\/dE Φ η a)/\¬ dE Φ1 η0 D/\¬ cw Φ1 η0 D/\Kept H1 H' ∧
     (∀ a o,a ≠ D->H1 a=some o->H' a=some o)/\H' D=some (.lst xs)/\RpL G H' xs (trees vs) Fs/\D ∉ Fs.flatten/\Fp Φ η H (cz vs) Fs.flatten/\iz tg cond ce η0 (l.drop i)=some rest/\vs++rest=all
theorem nG {σ:L2.St} {H:Hp} {Q:VK} (hin:o6 k tg) (h:tE G (cM k tg ci cond ce) σ H Q):um k (tI G ci) (tG G tg) (tC G cond) (tE G ce) σ H Q:=by
 refine L2.jl fun P_ k_=>?_
 obtain ⟨Φ,η,m,r,s,e,kq⟩:=h
 unfold cM at e
 obtain ⟨⟨mi,l⟩,el,e1⟩:=Zz.mp e
 dsimp only at e1
 split at e1
 ·rename_i hok
  obtain ⟨all,ea,e2⟩:=Zz.mp e1
  unfold mkL at e2
  split at e2
  ·rename_i hlen
   cases e2
   refine k_ ?_
   refine ⟨Φ,η,mi,l,s,el,fun J H1 C e3 ok fc D hD=>?_⟩
   have hHD:H D=none:=e3.free hD
   let η0:VS.Env:=List.replicate k none++η
   have good:∀ {t:T} {i:Nat} {H' H2:Hp} {v:V} {F:Wr},l[i]?=some t->Rp G H2 v t F->(∀ a,H1 a ≠ none->H' a ≠ none)->(∀ a∈F,a∈C\/H' a=none)->∀ a∈F,(H a=none\/dE Φ η a)/\¬ cw Φ η a:=fun {t i H' H2 v F} hi rF keep hF a ha=>by
    have dom:∀ {b},H b ≠ none->H' b ≠ none:=fun {b} hb=>keep b fun z=>hb (e3.free z)
    rcases hF a ha with z | z
    ·rcases fc a z with q | q | ⟨q,w⟩
     ·exact ⟨.inl q,fun w=>Mut.ne_none (s.ow_dom w) q⟩
     ·exact ⟨.inr q,fun w=>s.ow_pu w q⟩
     ·subst q
      have:imm t=true:=by
       exact qA l hok hi
      rw [rF.imm this] at ha
      simp at ha
    ·have hz:H a=none:=Classical.byContradiction fun q=>dom q z
     exact ⟨.inl hz,fun w=>Mut.ne_none (s.ow_dom w) hz⟩
   refine ⟨CI G Φ η η0 H H1 D l all tg cond ce,?_,?_⟩
   ·refine ⟨l.length - 0,rfl,fun i=>Φ (i - k),[],[],[],all,?_,fun a h=>uo.mp h,fun a h=>.inr (wk.mp h),fun h=>?_,fun h=>?_,Kept.upd (.inr hD),fun a o n h=>by rw [aG n];exact h,ay,.nil,by simp,Fp.nil,by rw [List.drop_zero];exact ea,rfl⟩
    ·exact ((s.same e3).sh).off (.inr hD) (fun h=>Mut.ne_none (s.pu_dom (wk.mp h)) hHD) fun h=>Mut.ne_none (s.ow_dom (uo.mp h)) hHD
    ·exact Mut.ne_none (s.pu_dom (wk.mp h)) hHD
    ·exact Mut.ne_none (s.ow_dom (uo.mp h)) hHD
   ·intro i n σ' H' hh_
    refine L2.jl fun P_ k_=>?_
    obtain ⟨rfl,Φ1,vs,Fs,xs,rest,s1,ow1,pu1,np1,no1,kp,old,hD',rp,nD,fp,er,ev⟩:=hh_
    refine k_ ?_
    have keepdom:∀ a,H1 a ≠ none->H' a ≠ none:=fun a ha z=>by
     by_cases q:a=D
     ·subst q;rw [hD'] at z;cases z
     ·cases e:H1 a with
      | none=>exact ha e
      | some o=>rw [old a o q e] at z;cases z
    refine L2.jl fun P_ k_=>?_
    obtain ⟨go,stop⟩:=ok.run H' kp fun a ha o ho=>old a o (fun z=>ok.dom a ha (z ▸ hD)) ho
    cases hit:l[i]? with
    | none =>
     have hl:l.length<=i:=Yv.mp hit
     refine k_ ?_
     left
     refine ⟨stop i hl,?_⟩
     rw [YQ hl] at er
     cases (show some ([]:Wi)=some rest from er)
     rw [ZK] at ev
     subst ev
     refine kq (.ref D) H' (D :: Fs.flatten) (fun a o h=>old a o (fun z=>by rw [z,hHD] at h;cases h) (e3 a o h)) (.lst hD' rp) ?_
     by_cases hi:eK (trees vs)=true
     ·rw [Zq hi,rp.imm hi]
      exact ⟨by simp,fun a ha=>by rw [Zb.mp ha];exact hHD⟩
     ·rw [Zo hi]
      exact fp.cons1 hHD nD
    | some t =>
     have hl:i < l.length:=(Zd.mp hit).1
     obtain ⟨g1,y1⟩:=go i t hit
     refine k_ ?_
     right
     refine ⟨g1,fun x H2 yl=>?_⟩
     refine L2.jl fun P_ k_=>?_
     obtain ⟨e8,F,rF,hF⟩:=y1 x H2 yl
     rw [mr (tgt:=tg) (body:=eR) (η:=η) hit] at er
     rw [iz] at er
     obtain ⟨η3,e4,e5⟩:=Zz.mp er
     obtain ⟨b,eb,e6⟩:=Zz.mp e5
     have gd:=good hit rF keepdom hF
     have s2:=s1.same e8
     have DF:D ∉ F:=fun h=>by
      rcases hF D h with z | z
      ·exact ok.dom D z hD
      ·rw [hD'] at z;cases z
     refine k_ ?_
     refine ⟨Φ1,η0,t,F,η3,s2,rF,fun a ha z=>(gd a ha).2 (ow1 a z),e4,fun Φ3 σ3 s3 o3 p3=>?_⟩
     obtain ⟨tl,tsame⟩:=hin t η0 η3 e4
     have low:∀ j c,η0[j]?=some (some c)->η3[j]?=some (some c):=fun j c h=>by rw [tsame j (iN.mp h).1];exact h
     have pu3:∀ a,dE Φ3 η3 a->H a=none\/dE Φ η a:=fun a h=>(p3 a h).elim (pu1 a) fun h=>(gd a h).1
     have ow3:∀ a,cw Φ3 η3 a->cw Φ η a:=fun a h=>ow1 a (o3 a h)
     have np3:¬ dE Φ3 η3 D:=fun h=>(p3 D h).elim np1 DF
     have no3:¬ cw Φ3 η3 D:=fun h=>no1 (o3 D h)
     have pul:∀ a,dE Φ3 η0 a->dE Φ3 η3 a:=fun a ⟨j,u,h1,h2⟩=>⟨j,u,low j _ h1,h2⟩
     have owl:∀ a,cw Φ3 η0 a->cw Φ3 η3 a:=fun a ⟨j,u,h1,h2⟩=>⟨j,u,low j _ h1,h2⟩
     have rest':∀ H4,aJ H2 H4->(if b=true then tE G ce σ3 H4 fun y H5=>∃ ys,H5 D=some (.lst ys)/\ys.length < sizeLine/\∃ m',m' < l.length - i/\CI G Φ η η0 H H1 D l all tg cond ce (i+1) m' σ3 (upd H5 D (.lst (ys++[y]))) else ∃ m',m' < l.length - i/\CI G Φ η η0 H H1 D l all tg cond ce (i+1) m' σ3 H4):=fun H4 e9=>by
      have eo:∀ {H5},aJ H4 H5->∀ a o,H' a=some o->H5 a=some o:=fun {H5} e10 a o h=>e10 a o (e9 a o (e8 a o h))
      cases b with
      | false =>
       rw [Zo Ze] at e6 ⊢
       have same:=eo (aJ.refl H4)
       exact ⟨_,by lia,rfl,Φ3,vs,Fs,xs,rest,(s3.same e9).less (by rw [tl]) low,fun a h=>ow3 a (owl a h),fun a h=>pu3 a (pul a h),fun h=>np3 (pul D h),fun h=>no3 (owl D h),kp.trans ((Kept.of e8).trans (Kept.of e9)),fun a o n h=>same a o (old a o n h),same D _ hD',rp.same (aJ.trans e8 e9),nD,fp,e6,ev⟩
      | true =>
       rw [Zq rfl] at e6 ⊢
       obtain ⟨⟨mv,tv⟩,ece,e7⟩:=Zz.mp e6
       obtain ⟨rest1,er1,e7'⟩:=Zu.mp e7
       refine ⟨Φ3,η3,mv,tv,s3.same e9,ece,fun y H5 Fy e10 ry fy=>?_⟩
       have same:=eo e10
       have hD5:=same D _ hD'
       have mD5:Mut (H5 D):=by rw [hD5];exact True.intro
       have hD4:H4 D=some (.lst xs):=e9 D _ (e8 D _ hD')
       have none4:∀ a,H4 a=none->H a=none:=fun a h=>Classical.byContradiction fun q=>keepdom a (fun z=>q (e3.free z)) (e8.free (e9.free h))
       have fyo:Fp Φ η H mv Fy:=by
        cases mv with
        | fr=>exact ⟨fy.1,fun a ha=>none4 a (fy.2 a ha)⟩
        | pu=>exact fun a ha=>(fy a ha).elim (fun z=>.inl (none4 a z)) (pu3 a)
        | bo=>exact fun a ha=>(fy a ha).elim (fun z=>.inl (none4 a z)) fun z=>z.elim (fun z=>(pu3 a z).imp id .inl) fun z=>.inr (.inr (ow3 a z))
       have DFy:D ∉ Fy:=fun h=>by
        cases mv with
        | fr=>have:=fy.2 D h;rw [hD4] at this;cases this
        | pu=>exact (fy D h).elim (fun z=>by rw [hD4] at z;cases z) np3
        | bo=>exact (fy D h).elim (fun z=>by rw [hD4] at z;cases z) fun z=>z.elim np3 no3
       have rp5:RpL G H5 xs (trees vs) Fs:=rp.same ((e8.trans e9).trans e10)
       have lenx:xs.length=vs.length:=by rw [rp.len.1];simp
       have lenv:vs.length < all.length:=by rw [← ev,← e7'];simp
       refine ⟨xs,hD5,?_,_,by lia,rfl,Φ3,vs++[(mv,tv)],Fs++[Fy],xs++[y],rest1,(((s3.same e9).same e10).off (.inl mD5) np3 no3).less (by rw [tl]) low,fun a h=>ow3 a (owl a h),fun a h=>pu3 a (pul a h),fun h=>np3 (pul D h),fun h=>no3 (owl D h),?_,fun a o n h=>?_,ay,?_,?_,?_,er1,?_⟩
       ·have hlen':all.length<=eO:=by simpa using hlen
        have:sizeLine=eO:=rfl
        lia
       ·exact (kp.trans ((Kept.of e8).trans ((Kept.of e9).trans (Kept.of e10)))).trans (Kept.upd (.inl mD5))
       ·rw [aG n];exact same a o (old a o n h)
       ·have:trees (vs++[(mv,tv)])=trees vs++[tv]:=by simp
        rw [this]
        exact (rp5.off mD5 nD).append (.cons (ry.keep (Kept.upd (.inl mD5)) fun b hb o ho=>by rw [aG (fun z=>DFy (by rw [← z];exact hb))];exact ho) .nil)
       ·rw [Yt]
        intro h
        rcases ZY.mp h with z | z
        ·exact nD z
        ·exact DFy (by simpa using z)
       ·rw [Yt,kM]
        have:([Fy]:Wu).flatten=Fy:=by simp
        rw [this]
        refine fp.join2 fyo fun hm a ha hb=>?_
        subst hm
        have h4:=fy.2 a hb
        have:Mut (H4 a):=(rp.same (e8.trans e9)).dom a ha
        rw [h4] at this;exact this
       ·rw [Z3,← ev,← e7'];rfl
     cases cond with
     | none =>
      cases (show some true=some b from eb)
      exact rest' H2 (aJ.refl H2)
     | some c =>
      obtain ⟨⟨mc,xc⟩,ec1,ec2⟩:=Zz.mp eb
      exact ⟨Φ3,η3,mc,xc,b,s3,ec1,ec2,fun H4 e9=>rest' H4 e9⟩
  ·cases e2
 ·cases e1
end
section
variable {G:Gx} {X:Cx} {elt tg iter c:Expr} {sc:Scope} {pos pos' spos:Pos} {N:List Str} {k i:Nat} {x:Str} {ci:Its} {g:Tg} {cc ce:Ex}
theorem wD (k:Nat) (N:List Str) (hcalm:X.calm=true) (hi:PVI G X tg iter ci) (hin:o6 k g) (hg:∀ cl C s H fp,PVG G (bZ X N sc cl C s H fp) tg g) (he:∀ cl C s H fp,PV G (bZ X N sc cl C s H fp) elt ce)
  (hsc:kN X.env sc=true:=by rfl) (hnm:jr sc (N.drop k) X.N=true:=by rfl) (hNl:k<=N.length:=by decide) (hs:∀ x,foldedSetIterable iter X.env x=pure x:=by intro _;rfl) :
  PV G X (.ListComp elt [⟨tg,iter,[],0⟩] sc pos) (cM k g ci none ce) :=
 PE.weak (nI hcalm hi hsc hnm hNl (fun cl C s H fp=>⟨hg cl C s H fp,oF,he cl C s H fp⟩) hs) fun σ H Q h=>nG (cond:=none) hin h
theorem sr (k:Nat) (N:List Str) (hcalm:X.calm=true) (hi:PVI G X tg iter ci) (hin:o6 k g) (hg:∀ cl C s H fp,PVG G (bZ X N sc cl C s H fp) tg g) (hc:∀ cl C s H fp,PVT G (bZ X N sc cl C s H fp) c cc) (he:∀ cl C s H fp,PV G (bZ X N sc cl C s H fp) elt ce)
  (hsc:kN X.env sc=true:=by rfl) (hnm:jr sc (N.drop k) X.N=true:=by rfl) (hNl:k<=N.length:=by decide) (hs:∀ x,foldedSetIterable iter X.env x=pure x:=by intro _;rfl) :
  PV G X (.ListComp elt [⟨tg,iter,[c],0⟩] sc pos) (cM k g ci (some cc) ce) :=
 PE.weak (nI hcalm hi hsc hnm hNl (fun cl C s H fp=>⟨hg cl C s H fp,vK (hc cl C s H fp),he cl C s H fp⟩) hs) fun σ H Q h=>nG (cond:=some cc) hin h
end
end VS
end
section
namespace L2
open PySem PySem.Spec PyProof.Rows
end L2
namespace VS
open PySem PySem.Spec PyProof.Rows L2
noncomputable instance {s:Tx}:Decidable (lS s):=inferInstanceAs (Decidable (_/\_))
section
variable {G:Gx} {X:Cx} {a b c e:Expr} {es:List Expr} {ca cb cc:Ex} {cs:Exs} {pos p p1 p2 apos cpos:Pos} {k k':Nat}
theorem w_add (ha:PV G X a ca) (hb:PV G X b cb):PV G X (.BinOp a .Add b pos) (e2 cG ca cb):=oS yI Ah ha hb
theorem w_sub (ha:PV G X a ca) (hb:PV G X b cb):PV G X (.BinOp a .Sub b pos) (e2 jF ca cb):=oS Bk zQ ha hb
theorem w_mul (ha:PV G X a ca) (hb:PV G X b cb):PV G X (.BinOp a .Mult b pos) (e2 gC ca cb):=oS A6 Az ha hb
theorem Bw (ha:PV G X a ca) (hb:PV G X b cb):PV G X (.BinOp a .FloorDiv b pos) (e2 bY ca cb):=oS x8 xm ha hb
theorem w_mod (ha:PV G X a ca) (hb:PV G X b cb):PV G X (.BinOp a .Mod b pos) (e2 oMod ca cb):=oS Ac AE ha hb
theorem CJ (ha:PV G X a ca) (hb:PV G X b cb):PVT G X (.Compare a [.Lt] [b] pos) (e2 oLt ca cb):=gB vh zi kS ha hb (iD _)
theorem DE (ha:PV G X a ca) (hb:PV G X b cb):PV G X (.Compare a [.LtE] [b] pos) (e2 oLe ca cb):=uF tN zt ha hb (iD _)
theorem w_eq (hr:Room k X.A) (ha:PV G X a ca) (hb:PV G X b cb):PV G X (.Compare a [.Eq] [b] pos) (e2 oEq ca cb):=uF (uv hr.units) zd ha hb (iD _)
theorem CS (hr:Room k X.A) (ha:PV G X a ca) (hb:PV G X b cb):PVT G X (.Compare a [.Eq] [b] pos) (e2 oEq ca cb):=gB (uv hr.units) zd tells_eq ha hb (iD _)
theorem CY (hr:Room k X.A) (ha:PV G X a ca) (hb:PV G X b cb):PVT G X (.Compare a [.NotEq] [b] pos) (e2 oNe ca cb):=gB (BN hr.units) Cu uB ha hb (iD _)
theorem C2 (ha:PV G X a ca) (hb:PV G X b cb) (hs:eA b:=by intro _ _;rfl) (hK:X.K=G.K:=by rfl):PV G X (.Subscript a b pos) (e2 ax ca cb) :=
 PE.weak (qZ nM ha hb hs) fun σ H Q h=>by rw [hK];exact jK v7 h
theorem Dw (hm:X.mg "len" = none) (ha:PVs G X [e] cs) (hg:Gl X "len" := by rfl) (hK:X.K=G.K:=by rfl) (he:starEach [e] X.env=(false,eval e X.env) :: starEach [] X.env:=by rfl):PV G X (.Call (.Name "len" p) [e] [] pos) (eN bX cs) :=
 gX (hK ▸ sG) zB hg hm PySem.boot_len ha (he:=he) (hpl:=rfl)
theorem Af:bootBuiltins ("max" : Str)=some (.builtin "max"):=by decide +kernel
theorem AS:bootBuiltins ("min" : Str)=some (.builtin "min"):=by decide +kernel
theorem xQ:bootBuiltins ("list" : Str)=some (.type "list"):=by decide +kernel
theorem zT (hm:X.mg "max" = none) (ha:PVs G X [a,b] cs) (hc:X.calm=true:=by rfl) (hg:Gl X "max" := by rfl) (he:starEach [a,b] X.env=(false,eval a X.env) :: starEach [b] X.env:=by rfl) (hpl:(backTo pos (starEach [b] X.env)).any (·.1)=false:=by rfl):PV G X (.Call (.Name "max" p) [a,b] [] pos) (eN mL cs) :=
 gX (rP hc) xw hg hm Af ha (he:=he) (hpl:=hpl)
theorem BW (hm:X.mg "min" = none) (ha:PVs G X [a,b] cs) (hc:X.calm=true:=by rfl) (hg:Gl X "min" := by rfl) (he:starEach [a,b] X.env=(false,eval a X.env) :: starEach [b] X.env:=by rfl) (hpl:(backTo pos (starEach [b] X.env)).any (·.1)=false:=by rfl):PV G X (.Call (.Name "min" p) [a,b] [] pos) (eN mh cs) :=
 gX (r9 hc) yy hg hm AS ha (he:=he) (hpl:=hpl)
noncomputable def tyN:Ty->Str
 | .int => "int" | .str => "str" | .bool => "bool" | .list => "list" | .tuple => "tuple" | .dict => "dict"
theorem Dt (t:Ty):bootBuiltins (tyN t)=some (.type (tyS t)):=by cases t <;> decide +kernel
theorem w_is (t:Ty) (hm:X.mg "isinstance" = none) (hm2:X.mg (tyN t)=none) (ha:PV G X a ca) (hg:Gl X "isinstance" := by rfl) (hg2:Gl X (tyN t):=by rfl) (hK:X.K=G.K:=by rfl)
  (hs:starEach [a,.Name (tyN t) p2] X.env=(false,eval a X.env) :: starEach [.Name (tyN t) p2] X.env:=by rfl):PV G X (.Call (.Name "isinstance" p1) [a,.Name (tyN t) p2] [] pos) (eIs t ca) :=
 C1 t ha hg hm hg2 hm2 (Dt t) hK (by cases t <;> decide) (by cases t <;> decide) hs rfl rfl
theorem vZ (i:Nat) {x:Str} (ha:PVs G X [e] cs) (hK:X.K=G.K:=by rfl)
  (hN:X.N[i]?=some x:=by rfl) (hv:Vis X.env.scope x:=by first | exact Or.inl rfl | exact Or.inr (Or.inl rfl) | exact Or.inr (Or.inr rfl)) (hd:(x == ("__debug__" : Str))=false:=by decide)
  (hcd:(x == ("__classdict__" : Str))=false:=by decide) (hfew:((backTo cpos (starEach [e] X.env)).all (fun x=>!x.1) && (backToKw cpos (keywordEach [] X.env)).all (fun x=>x.1.isSome)
   && decide ([e].length+([]:List Keyword).length+(if ([]:List Keyword).isEmpty then 0 else 1) < 30))=true:=by rfl)
  (hline:(apos.endLine == cpos.line)=true:=by rfl) (hs:starEach [e] X.env=(false,eval e X.env) :: starEach [] X.env:=by rfl) :
  PSV G X (.Expr (.Call (.Attribute (.Name x p1) "append" apos) [e] [] cpos) pos) (sX (lW i [] aD cs)) :=
 ur i Xj Xk Xl ib mP (fun H v t F l z r h=>jW r h) ha hK hN hv hd hcd rfl hfew hline hs rfl rfl
end
structure FnAt (P:Program) (w:World) (K:Wt) (mg:Ws) (base:Heap) (k:Nat) (x:Str) (ps:List Str) (G:Gx) (g:Fn):Prop where
 ex:∃ f fd,FnOk P w K mg base CX0 k f fd ps (spF G g)/\mg x=some (.ref f)/\PySem.W.keepIn K (.ref f)=true/\Binds K fd ps []
section
variable {G:Gx} {X:Cx} {e:Expr} {es:List Expr} {cs:Exs} {pos p:Pos} {k k':Nat} {x:Str} {ps:List Str} {g:Fn}
theorem BD (F:FnAt X.prog X.w X.K X.mg X.base k x ps G g) (hr:Room k' X.A) (ha:PVs G X (e :: es) cs) (hk:k<=k':=by decide) (hg:Gl X x:=by rfl) (hdb:(x == ("__debug__" : Str))=false:=by decide)
  (he:starEach (e :: es) X.env=(false,eval e X.env) :: starEach es X.env:=by rfl) (hpl:(backTo pos (starEach es X.env)).any (·.1)=false:=by rfl) :
  PV G X (.Call (.Name x p) (e :: es) [] pos) (bG g cs):=by
 obtain ⟨f,fd,h1,h2,h3,h4⟩:=F.ex
 exact yD h1 (hr.mono hk) hg h2 h3 h4 ha hdb he hpl
end
section
variable {G:Gx} {P:Program} {w:World} {K:Wt} {mg:Ws} {base:Heap}
theorem Dl {x:Str} {st:Stmt} {f:Addr} {fd:FuncData} {N ps:List Str} {k np nn:Nat} {c:Sx} (F:Fun K x x st f fd) (hm:mg x=some (.ref f)) (S:FnScope N ps (af st)) (hp:ps.length=np) (hn:N.length=nn)
  (hbd:∀ (kV doc pm:Value) (an:Option Addr) (cdv ct:Value) (us:Wq),us.length=ps.length->bindArgs (PySem.W.fnOf x x (aA st) (au st) (af st) .none kV doc pm an cdv ct) ⟨us,[]⟩=pure (ps.zip us))
  (hb:∀ (cdv:Value) (A:Around) (outer:List PySem.Env) (s:Shared) (H:Hp) (E:XK),Room k (A.deeper (envOfC x (af st) s.heap.objs.size f cdv))->di G (fM CX0 P w K mg base N x (af st) f cdv A outer s H E).nox (au st) c) :
  FnAt P w K mg base (k+1) x ps G (fn np nn c) :=
 ⟨f,fd,fnV F S hp hn hb,hm,F.kp,F.binds hbd⟩
end
end VS
end
section
namespace L2
open PySem PySem.Spec PyProof.Rows
noncomputable def Its (x:Str):It:=⟨fun i _=>i < x.cps.size,fun i H v H'=>H'=H/\∃ c,x.cps[i]?=some c/\v=.str ⟨#[c]⟩,fun i _=>x.cps.size<=i⟩
theorem mG {P:Program} {w:World} {K:Wt} {tg:Expr} (x:Str) (t:Tok) (it:Addr) (ty:String) (hn:["enumerate", "zip", "dict_itemiterator", "dict_reverseitemiterator", "odict_iterator", "itertools.zip_longest", "itertools.pairwise"].contains ty=false)
  (W:∀ A:Around,A.handled=none->Walks P w A it [it] [it] x.cps.size (fun i v=>∃ c u,x.cps[i]?=some c/\v=.str ⟨#[c]⟩ u) (fun i h=>h.IsStrIter it ty x t i)) (hend:∀ (A:Around),A.handled=none->∀ (i:Nat) (s:Shared) (Q:Wp->Shared->Prop) (E:Ww),s.heap.IsStrIter it ty x t i->x.cps[i]?=none->(∀ h',Heap.ExtBut it s.heap h'->Q none { s with heap:=h' })->wpAny (model P w) A (pyNext (.ref it)) Q E s)
  (hself:∀ (A:Around) (i:Nat) (s:Shared) (Q:Ww) (E:Ww),s.heap.IsStrIter it ty x t i->Q (.ref it) s->wpAny (model P w) A (pyIter (.ref it)) Q E s) :
  Turn P w K tg (Its x) [it] it (fun i h=>h.IsStrIter it ty x t i) where
 mem:=by simp
 obj:=fun i h st b hb=>by
  rw [Zb.mp hb]
  obtain ⟨o,e,c,d⟩:=st
  exact ⟨o,e,fun v z=>by rw [d] at z;cases z⟩
 keep:=fun i h h' st k=>let ⟨o,e,r⟩:=st;⟨o,k it (by simp) o e,r⟩
 item:=by
  intro X hP hw hK hc i pins s σ H E I hf st hg
  subst hP hw hK
  obtain ⟨f0,f1,f2,f3,f4,f5⟩:=hf it (by simp)
  refine (W X.A (I.ok.hd hc)).item i s _ _ hg st fun v h' tk hv st' kk=>?_
  obtain ⟨c,u,hc',rfl⟩:=hv
  have I1:Inv X pins σ H { s with heap:=h',toks:=tk }:=I.turned (fun b o hb e=>kk b o (by simpa using hb) e) f0 f1 f3 f4 f5
  obtain ⟨o,e,c1,d⟩:=id st'
  exact ⟨_,rfl,oV (s:={ s with heap:=h',toks:=tk }) e c1 d hn ⟨.str ⟨#[c]⟩,H,I1,⟨u,rfl⟩,⟨rfl,c,hc',rfl⟩,st',fun b hb=>(hf b hb).1⟩⟩
 done:=by
  intro X hP hw hK hc i pins s σ H E I hf st hg
  subst hP hw hK
  obtain ⟨f0,f1,f2,f3,f4,f5⟩:=hf it (by simp)
  have hx:x.cps.size<=i:=hg
  exact hend X.A (I.ok.hd hc) i s _ _ st (by simp [hx]) fun h' eb=>⟨rfl,I.turned (t':=s.toks) (fun b o hb e=>eb b o hb e) f0 f1 f3 f4 f5⟩
 self:=fun A i s Q E st h=>hself A i s Q E st h
theorem vo {P:Program} {w:World} {K:Wt} {tg:Expr} (x:Str) (t:Tok) (it:Addr):Turn P w K tg (Its x) [it] it (fun i h=>h.IsStrIter it (strIterType x) x t i):=by
 cases ha:x.cps.all (· < 128)
 ·have e:strIterType x = "str_iterator" := by simp [strIterType,ha]
  rw [e]
  exact mG x t it "str_iterator" rfl (fun A hA=>Walks.strWide hA it x t) (fun A hA i s Q E st hx q=>wpAny_pyNext_wide_end hA st hx q) fun A i s Q E st q=>wpAny_pyIter_striter_wide st q
 ·have e:strIterType x = "str_ascii_iterator" := by simp [strIterType,ha]
  rw [e]
  exact mG x t it "str_ascii_iterator" rfl (fun A hA=>Walks.strAscii hA it x t) (fun A hA i s Q E st hx q=>wpAny_pyNext_ascii_end hA st hx q) fun A i s Q E st q=>wpAny_pyIter_striter_ascii st q
section
variable {X:Cx} {tg l a b c:Expr} {tl ta tb tc:TE} {pos:Pos}
noncomputable def C3 (K:Wt) (tl:TE):TI:=fun σ H R=>tl σ H fun x H1=>(∃ a,x=.ref a/\(∃ xs,SqL K H1 a xs)/\R (Itl K a) H1)\/(∃ a,x=.ref a/\(∃ xs,SqT K H1 a xs)/\R (Itt K a) H1)\/∃ z,x=.str z/\R (Its z) H1
theorem yV (hl:PE X l tl):PI X tg l (C3 X.K tl):=by
 intro pins s σ H R I h
 refine thn (hl pins s σ H _ I h) fun v s1 ⟨x,H1,I1,r1,q1⟩=>?_
 have fp1:∀ b∈[s1.heap.objs.size],lV X pins H1 b:=fun b hb=>by
  rw [Zb.mp hb]
  exact I1.fpOk (Zl _) (I1.hok.fresh (Zl _))
 rcases q1 with ⟨a,e,⟨xs,hq⟩,q⟩ | ⟨a,e,⟨xs,hq⟩,q⟩ | ⟨z,e,q⟩
 ·subst e
  cases r1
  obtain ⟨its,rv,p,hz⟩:=I1.list hq
  exact wpAny_pyIter_list p.isList ⟨s1.heap.objs.size,[s1.heap.objs.size],_,_,H1,rfl,I1.kept (t':=s1.toks) fun b o e=>Zi _ e,se a _,⟨_,ZM _ rfl,rfl,rfl⟩,fp1,q⟩
 ·subst e
  cases r1
  obtain ⟨its,rv,p,hz⟩:=I1.tuple hq
  exact wpAny_pyIter_tuple (show s1.heap.IsTuple a its.toArray from p) ⟨s1.heap.objs.size,[s1.heap.objs.size],_,_,H1,rfl,I1.kept (t':=s1.toks) fun b o e=>Zi _ e,p8 a _,⟨_,ZM _ rfl,rfl,rfl⟩,fp1,q⟩
 ·subst e
  obtain ⟨t,rfl⟩:=r1
  exact wpAny_pyIter_strU ⟨s1.heap.objs.size,[s1.heap.objs.size],_,_,H1,rfl,I1.kept (t':=s1.toks) fun b o e=>Zi _ e,vo z t _,⟨_,ZM _ rfl,rfl,rfl⟩,fp1,q⟩
theorem ya {s:Shared} {h':Heap} {o:Obj} (hk:∀ b x,b ∉ [s.heap.objs.size]->(s.heap.push o).get? b=some x->h'.get? b=some x) (b:Addr) (x:Obj) (e:s.heap.get? b=some x):h'.get? b=some x :=
 hk b x (fun hm=>Yp _ (by have:=ZR e;rw [Zb.mp hm] at this;exact this)) (Zi _ e)
theorem vP (hc:X.calm=true):dD X (.builtin "sum") (fun xs H Q=>∃ p,∃ ns:Wm,xs=[.ref p]/\SqL X.K H p (ns.map V.int)/\Q (.int ns.sum) H):=by
 intro pins s σ H xs us Q I rx h
 obtain ⟨p,ns,rfl,hq,q⟩:=h
 obtain ⟨u,rfl,ru⟩:=rx.one
 cases ru
 obtain ⟨its,rv,pl,hz⟩:=I.list hq
 have hl:p < s.heap.objs.size:=by obtain ⟨_,e,_⟩:=pl.isList;exact ZR e
 refine call_sum_walkG (wpAny_pyIter_list pl.isList ⟨s.heap.objs.size,[s.heap.objs.size,p],[s.heap.objs.size],its.toArray.size,_,_,fun i=>(ns[i]?).getD 0,rfl,Walks.list (A:=X.A.in1) (I.ok.hd hc) _ p (ZQ hl) its.toArray,
  ⟨⟨_,ZM _ rfl,rfl,rfl⟩,pl.isList.push _⟩,fun b hb=>?_,fun i v hP=>?_,fun h' tk t' hk=>⟨.int ns.sum,H,I.kept (ya hk),⟨t',?_⟩,q⟩⟩)
 ·rw [X5]
  rcases Zg.mp hb with rfl | hb
  ·exact Yl _
  ·rw [Zb.mp hb];exact XA hl
 ·have hv:its[i]?=some v:=by simpa using hP
  cases e:ns[i]? with
  | none =>
   have:=rv.none_of (i:=i) (by rw [ZO,e];rfl)
   rw [this] at hv;cases hv
  | some n =>
   obtain ⟨u,hu,ru⟩:=rv.get (i:=i) (x:=.int n) (by rw [ZO,e];rfl)
   rw [hu] at hv;cases hv
   obtain ⟨t,rfl⟩:=ru
   exact ⟨t,by simp [e]⟩
 ·have hlen:its.toArray.size=ns.length:=by have:=rv.length;simp at this ⊢;exact Eq.symm this
  have:∀ k,k<=ns.length->preSum (fun i=>(ns[i]?).getD 0) k=(ns.take k).sum:=fun k=>by
   induction k with
   | zero=>intro _;simp [preSum]
   | succ k ih =>
    intro hk
    rw [List.take_succ,List.sum_append,preSum,ih (by exact Nat.le_of_succ_le hk)]
    cases e:ns[k]? <;> simp
  rw [hlen,this _ (Zl _),List.take_length]
theorem sN:OpR X (compareOp .Gt) (fun x y H Q=>∃ i j,x=.str i/\y=.str j/\Q (.bl (decide (j.cps.toList < i.cps.toList))) H):=by
 intro pins s σ H x y v u Q I rx ry h
 obtain ⟨i,j,rfl,rfl,q⟩:=h
 obtain ⟨t,rfl⟩:=rx
 obtain ⟨t',rfl⟩:=ry
 exact PySem.P.gt_str ⟨.bl _,H,I,rfl,q⟩
theorem sF:OpR X (compareOp .GtE) (fun x y H Q=>∃ i j,x=.str i/\y=.str j/\Q (.bl (!decide (i.cps.toList < j.cps.toList))) H):=by
 intro pins s σ H x y v u Q I rx ry h
 obtain ⟨i,j,rfl,rfl,q⟩:=h
 obtain ⟨t,rfl⟩:=rx
 obtain ⟨t',rfl⟩:=ry
 exact PySem.P.ge_str ⟨.bl _,H,I,rfl,q⟩
end
end L2
end
section
namespace VS
open PySem PySem.Spec PyProof.Rows L2
section
variable {G:Gx} {X:Cx} {a b c e tg:Expr} {es:List Expr} {ca cb cc:Ex} {cs:Exs} {pos p p1 p2 apos cpos:Pos} {k k':Nat}
theorem AA (H:Hp) (s:Tx) (ok:lS s):ItOk G (L2.Its (sx s)) (s.map fun c=>T.str [c]) [] H:=by
 have sz:(sx s).cps.size=s.length:=rfl
 refine ⟨fun H2 _ _=>⟨fun i t h=>?_,fun i h=>(by rw [Zy] at h;show (sx s).cps.size<=i;lia)⟩,fun a h=>by simp at h⟩
 rw [ZO] at h
 obtain ⟨c,hc,rfl⟩:=Zu.mp h
 refine ⟨(by show i < (sx s).cps.size;have:=(Zd.mp hc).1;lia),fun x H3 ⟨e1,c',hc',e2⟩=>?_⟩
 subst e1
 have:c'=c:=by
  have h1:(sx s).cps[i]?=some c:=by simp [sx,hc]
  rw [h1] at hc';exact (Zp hc').symm
 subst this
 rw [e2]
 exact ⟨aJ.refl _,[],.str [c'] ⟨(by show 1<=eO;decide),fun d hd=>by rw [Zb.mp hd];exact ok.2 c' (YI hc)⟩,fun a h=>by simp at h⟩
theorem wF (ha:PV G X a ca) (hK:X.K=G.K:=by rfl):PVI G X tg a (fK ca) :=
 PI.weak (yV ha) fun σ H R hq=>by
  obtain ⟨Φ,η,m,l,s,e,k⟩:=hq
  unfold fK at e
  obtain ⟨⟨mx,x⟩,ea,e1⟩:=Zz.mp e
  refine ⟨Φ,η,mx,x,s,ea,fun v H' F e3 r3 f3=>?_⟩
  cases x with
  | lst ts =>
   cases e1
   obtain ⟨a',vs,Fs,rfl,rfl,ha',ra⟩:=r3.lst_inv
   exact .inl ⟨a',rfl,⟨vs,SqL.of ha'⟩,k _ H' _ e3 (yt X.K ha' ra) f3.c⟩
  | tup ts =>
   cases e1
   obtain ⟨a',vs,Fs,rfl,rfl,ha',ra⟩:=r3.tup_inv
   exact .inr (.inl ⟨a',rfl,⟨vs,SqT.of ha'⟩,k _ H' _ e3 (Ap X.K ha' ra) f3.c⟩)
  | str z =>
   cases e1
   obtain ⟨rfl,ok⟩:=r3.str_inv
   exact .inr (.inr ⟨_,rfl,k _ H' [] e3 (AA H' z ok) fun a h=>by simp at h⟩)
  | _=>cases e1
theorem q8 {H:Hp}:∀ {vs:List V} {l:Wg} {Fs:Wu} {ss:Wm},RpL G H vs l Fs->jX l=some ss->vs=ss.map V.int
 | _,_,_,_,.nil,e=>by cases e;rfl
 | _,_,_,_,.cons (t:=t) r q,e=>by
  cases t with
  | int s =>
   simp only [jX] at e
   obtain ⟨ss',e1,e2⟩:=Zu.mp e
   subst e2
   rw [q8 q e1,r.int_inv]
   rfl
  | _=>cases e
theorem zA:eP G (fun xs H Q=>∃ p,∃ ns:Wm,xs=[.ref p]/\SqL G.K H p (ns.map V.int)/\Q (.int ns.sum) H) oA:=by
 intro Φ η H0 H l vs Fs m t Q A e k
 unfold oA at e
 split at e
 ·rename_i mx x
  obtain ⟨is,e1,e2⟩:=Zz.mp e
  cases e2
  obtain ⟨v,F,rfl,rfl,rx⟩:=(show RpL G H vs [.lst x] Fs from A.rp).one
  obtain ⟨a,ys,Gs,rfl,rfl,ha,ra⟩:=rx.lst_inv
  exact ⟨a,is,rfl,by rw [← q8 ra e1];exact SqL.of ha,bu k (.int _)⟩
 ·cases e
theorem BP:bootBuiltins ("sum" : Str)=some (.builtin "sum"):=by decide +kernel
theorem vp:bootBuiltins ("tuple" : Str)=some (.type "tuple"):=by decide +kernel
theorem w_sum (hm:X.mg "sum" = none) (ha:PVs G X [e] cs) (hg:Gl X "sum" := by rfl) (hK:X.K=G.K:=by rfl) (hc:X.calm=true:=by rfl) (he:starEach [e] X.env=(false,eval e X.env) :: starEach [] X.env:=by rfl):PV G X (.Call (.Name "sum" p) [e] [] pos) (eN oA cs) :=
 gX (vP hc) (hK ▸ zA) hg hm BP ha (he:=he) (hpl:=rfl)
theorem t9:eP G (fun xs H Q=>∃ p ys,xs=[.ref p]/\((SqL G.K H p ys/\∀ l,H l=none->Q (.ref l) (upd H l (.tup ys)))\/(SqT G.K H p ys/\Q (.ref p) H))) ik:=by
 intro Φ η H0 H l vs Fs m t Q A e k
 unfold ik at e
 split at e
 ·rename_i mx x
  split at e
  ·rename_i hl
   cases e
   obtain ⟨v,F,rfl,rfl,rx⟩:=(show RpL G H vs [.lst x] Fs from A.rp).one
   obtain ⟨a,ys,Gs,rfl,rfl,ha,ra⟩:=rx.lst_inv
   have f:=(A.fp.each 0 _ _ rfl rfl).sub (Z5 _ _)
   refine ⟨a,ys,rfl,.inl ⟨SqL.of ha,fun q hq=>?_⟩⟩
   have sm:aJ H (upd H q (.tup ys)):=da hq
   have r:Rp G (upd H q (.tup ys)) (.ref q) (.tup x) Gs.flatten:=.tup ay (ra.same sm)
   exact k _ _ _ sm r (f.up r)
  ·cases e
 ·cases e
theorem x5 (hm:X.mg "tuple" = none) (ha:PVs G X [e] cs) (hg:Gl X "tuple" := by rfl) (hK:X.K=G.K:=by rfl) (he:starEach [e] X.env=(false,eval e X.env) :: starEach [] X.env:=by rfl):PV G X (.Call (.Name "tuple" p) [e] [] pos) (eN ik cs) :=
 jC lU (hK ▸ t9) hg hm vp ha (he:=he) (hpl:=rfl)
noncomputable def rGt:R2:=fun x y H Q=>rI0 (fun i j=>.bl (decide (j < i))) x y H Q\/(∃ i j,x=.str i/\y=.str j/\Q (.bl (decide (j.cps.toList < i.cps.toList))) H)
noncomputable def rGe:R2:=fun x y H Q=>rI0 (fun i j=>.bl (decide (j<=i))) x y H Q\/(∃ i j,x=.str i/\y=.str j/\Q (.bl (!decide (i.cps.toList < j.cps.toList))) H)
theorem uD (s t:Tx):decide ((sx s).cps.toList < (sx t).cps.toList)=ltx s t:=by rw [lO];exact decide_eq_decide.mpr (by simp [sx])
theorem Ci:fO G rGt oGt:=by
 intro Φ η H0 H x y u w F1 F2 m t Q tw e k
 obtain ⟨m1,x⟩:=x
 obtain ⟨m2,y⟩:=y
 obtain ⟨same,r1,r2,f1,f2,nd⟩:=tw
 unfold oGt oLt at e
 split at e
 ·rename_i e1 e2
  cases e1
  cases e2
  cases e
  exact .inl ⟨_,_,r1.int_inv,r2.int_inv,bu k (.bl _)⟩
 ·rename_i s _ s' e1 e2
  cases e1
  cases e2
  cases e
  refine .inr ⟨_,_,r1.str_inv.1,r2.str_inv.1,?_⟩
  rw [uD]
  exact bu k (.bl _)
 ·cases e
theorem Cz:fO G rGe oGe:=by
 intro Φ η H0 H x y u w F1 F2 m t Q tw e k
 obtain ⟨m1,x⟩:=x
 obtain ⟨m2,y⟩:=y
 obtain ⟨same,r1,r2,f1,f2,nd⟩:=tw
 unfold oGe oLe at e
 split at e
 ·rename_i e1 e2
  cases e1
  cases e2
  cases e
  exact .inl ⟨_,_,r1.int_inv,r2.int_inv,bu k (.bl _)⟩
 ·rename_i s _ s' e1 e2
  cases e1
  cases e2
  cases e
  refine .inr ⟨_,_,r1.str_inv.1,r2.str_inv.1,?_⟩
  rw [uD]
  exact bu k (.bl _)
 ·cases e
theorem ub:Tells oGt:=fun x y m t e=>kS y x m t e
theorem tm:Tells oGe:=fun x y m t e=>uy y x m t e
theorem Ds (ha:PV G X a ca) (hb:PV G X b cb):PVT G X (.Compare a [.Gt] [b] pos) (e2 oGt ca cb):=gB (r:=rGt) (B6.or sN) Ci ub ha hb (iD _)
theorem Cn (ha:PV G X a ca) (hb:PV G X b cb):PVT G X (.Compare a [.GtE] [b] pos) (e2 oGe ca cb):=gB (r:=rGe) (Dk.or sF) Cz tm ha hb (iD _)
theorem t5 {r r':R2} {f g:Val->Val->Wh} (ok:fO G r f) (ok':fO G r' g) {σ:L2.St} {H:Hp} {Q:VK} (h:tE G (iH f g ca cb cc) σ H Q):uG r r' (tE G ca) (tE G cb) (tE G cc) σ H Q:=by
 obtain ⟨Φ,η,m,t,s,e,k⟩:=h
 unfold iH at e
 obtain ⟨x,ea,e⟩:=Zz.mp e
 obtain ⟨y,eb,e⟩:=Zz.mp e
 obtain ⟨⟨mz,z⟩,ez,e⟩:=Zz.mp e
 refine vF s ea eb fun u w H2 F1 F2 tw=>ok Φ η H H2 x y u w F1 F2 mz z _ tw ez fun v H3 F e1 r1 f1=>?_
 cases z with
 | bl q =>
  refine ⟨q,r1.bl_inv,?_⟩
  cases q with
  | false =>
   cases e
   rw [Zo Ze]
   exact k _ H3 [] (tw.same.trans e1) (.bl false) Fp.nil
  | true =>
   rw [Zq rfl]
   obtain ⟨z2,ec,e⟩:=Zz.mp (show (cc η).bind (fun z=>g y z)=some (m,t) from e)
   have sm:=tw.same.trans e1
   refine ⟨Φ,η,z2.1,z2.2,s.same sm,ec,fun w2 H4 F4 e4 r4 f4=>?_⟩
   refine ok' Φ η H H4 y z2 w w2 F2 F4 m t Q ⟨sm.trans e4,(tw.r2.same e1).same e4,r4,tw.f2,f4.back sm,fun hx hy=>?_⟩ e fun v' H5 F5 e5 r5 f5=>k v' H5 F5 ((sm.trans e4).trans e5) r5 f5
   have f2:=tw.f2
   rw [hx] at f2
   rw [hy] at f4
   refine ZP.mpr ⟨f2.1,f4.1,fun a ha b hb z=>?_⟩
   subst z
   exact Mut.ne_none ((tw.r2.same e1).dom a ha) (f4.2 a hb)
 | _=>cases e
theorem xq {x:Str} {i:Int} (h:∃ t,X.mg x=some (.int i t)) (hg:Gl X x:=by rfl) (hd:(x == ("__debug__" : Str))=false:=by decide):PV G X (.Name x pos) (eC (.int i)):=by
 obtain ⟨t,ht⟩:=h
 exact yJ (v:=.int i) hg ht ⟨t,rfl⟩ (fun H=>.int i) hd
end
end VS
end
section
namespace L2
open PySem PySem.Spec PyProof.Rows
end L2
namespace VS
open PySem PySem.Spec PyProof.Rows L2
section
variable {G:Gx} {X:Cx} {a b c e tg:Expr} {es:List Expr} {ca cb cc:Ex} {cs:Exs} {pos p p1 p2 apos cpos:Pos} {k k':Nat}
theorem BV:PV G X (.Dict [] [] pos) (iV 0 []):=PE.weak tP fun σ H Q hq=>by
 obtain ⟨Φ,η,m,t,s,e,k⟩:=hq
 cases (show some (Md.fr,T.dct 0 [])=some (m,t) from e)
 intro q hq
 have:Rp G (upd H q (.dK [])) (.ref q) (.dct 0 ((([]:List Key).map aT).zip [])) (q :: ([]:Wu).flatten):=.dct ay rfl .nil
 exact k _ _ [q] (da hq) this ⟨by simp,fun b hb=>by rw [Zb.mp hb];exact hq⟩
end
section
variable {G:Gx} {X:Cx} {a b c e tg:Expr} {es:List Expr} {ca cb cc ce:Ex} {cs:Exs} {pos p p1 p2 apos cpos pos':Pos} {k k':Nat}
theorem rX {body:List Stmt} {cb:Sx} (hp:PassesOwn (model X.prog X.w) X.A X.env X.xe) (hc:PVT G X c cc) (hb:di G X body cb):PSV G X (.While c body [] pos) (jP cc cb) :=
 PS.weak (vJ hp hc hb) fun D σ H hq=>by
  obtain ⟨Φ,η,o,s,e,k⟩:=hq
  refine ⟨fun n σ2 H2=>∃ Φ2 η2,SR G Φ2 η2 σ2 H2/\Frm Φ η H Φ2 η2 H2/\eQ cc cb n η2=some o,⟨uY,Φ,η,s,Frm.refl Φ η H,e⟩,?_⟩
  rintro n σ2 H2 ⟨Φ2,η2,s2,f2,e2⟩
  cases n with
  | zero=>cases (show (none:Option Out)=some o from e2)
  | succ n =>
   rw [eQ] at e2
   obtain ⟨⟨mx,x⟩,ex,e3⟩:=Zz.mp e2
   obtain ⟨t,et,e4⟩:=Zz.mp e3
   refine ⟨Φ2,η2,mx,x,t,s2,ex,et,fun H3 sm=>?_⟩
   have s3:=s2.same sm
   have f3:Frm Φ η H Φ2 η2 H3:=f2.trans (Frm.same sm)
   cases t with
   | false =>
    rw [Zo Ze] at e4
    cases e4
    show if false=true then _ else _
    rw [Zo Ze]
    exact k Φ2 σ2 H3 s3 f3
   | true =>
    rw [Zq rfl] at e4
    show if true=true then _ else _
    rw [Zq rfl]
    obtain ⟨o',e5,e6⟩:=Zz.mp e4
    refine ⟨fun σ4 H4=>∃ Φ4 η4,SR G Φ4 η4 σ4 H4/\Frm Φ η H Φ4 η4 H4/\eQ cc cb n η4=some o,fun σ4 H4 q=>⟨n,Yl n,q⟩,Φ2,η2,o',s3,e5,?_⟩
    cases o' with
    | nx η4=>exact fun Φ4 σ4 H4 s5 fb=>⟨Φ4,η4,s5,f3.trans fb,e6⟩
    | ct η4=>exact fun Φ4 σ4 H4 s5 fb=>⟨Φ4,η4,s5,f3.trans fb,e6⟩
    | bk η4 =>
     cases (show some (Out.nx η4)=some o from e6)
     exact fun Φ4 σ4 H4 s5 fb=>k Φ4 σ4 H4 s5 (f3.trans fb)
    | rt v η4 =>
     cases (show some (Out.rt v η4)=some o from e6)
     exact fun u H4 F4 Φ4 σ4 s5 fb r5 q5=>k u H4 F4 Φ4 σ4 s5 (f3.trans fb) r5 (q5.back f3)
noncomputable def sNo:Sx:=fun _=>none
theorem z8 {st:Stmt}:PSV G X st sNo:=fun pins s σ H D I ⟨_,_,_,_,e,_⟩=>nomatch (show (none:Option Out)=some _ from e)
theorem eB {H:Hp} {v:V} {l:List (T×T)} {F:Wr} (r:Rp G H v (.dct 0 l) F):∃ (a:Addr) (ks:List Key) (vs:List V) (ts:Wg) (Fs:Wu),v=.ref a/\F=a :: Fs.flatten/\H a=some (.dK (ks.zip vs))/\ks.length=vs.length/\l=(ks.map aT).zip ts/\RpL G H vs ts Fs:=by
 cases r with
 | dct h hl q=>exact ⟨_,_,_,_,_,rfl,rfl,h,hl,rfl,q⟩
theorem dG {H:Hp} {v:V} {t:T} {F:Wr} (r:Rp G H v t F) (h:hV t=true):∃ k:Key,v=kV k/\t=aT k:=by
 cases t with
 | int i=>exact ⟨.inl i,r.int_inv,rfl⟩
 | str s=>exact ⟨.inr (sx s),r.str_inv.1,by simp [aT,sx]⟩
 | _=>cases h
theorem ju {H:Hp} {k:Key}:∀ {ks:List Key} {vs:List V} {ts:Wg} {Fs:Wu},ks.length=vs.length->RpL G H vs ts Fs →
  (dI ((ks.map aT).zip ts) (aT k)=none/\fN (ks.zip vs) k=none)\/∃ (i:Nat) (v:V) (t:T) (F:Wr),dI ((ks.map aT).zip ts) (aT k)=some t/\fN (ks.zip vs) k=some v/\vs[i]?=some v/\Fs[i]?=some F/\Rp G H v t F
 | [],[],_,_,_,.nil=>.inl ⟨rfl,rfl⟩
 | k' :: ks,v :: vs,_,_,hl,.cons (t:=t) (F:=F) (ts:=ts) (Fs:=Fs) r q=>by
  have e:eqT (aT k') (aT k)=decide (k'=k):=by
   rw [YA,decide_eq_true_eq]
   cases k with
   | inl i=>cases k' <;> simp [aT]
   | inr x =>
    obtain ⟨⟨x⟩⟩:=x
    cases k' with
    | inl j=>simp [aT]
    | inr y=>obtain ⟨⟨y⟩⟩:=y;simp [aT]
  by_cases hk:k'=k
  ·refine .inr ⟨0,v,t,F,?_,hR hk,rfl,rfl,r⟩
   have e':eqT (aT k') (aT k)=true:=by rw [e];exact decide_eq_true hk
   simp only [dI,Zn,Zc,Z8,e']
   rfl
  ·have h1:dI (((k' :: ks).map aT).zip (t :: ts)) (aT k)=dI ((ks.map aT).zip ts) (aT k):=by
    have e':eqT (aT k') (aT k)=false:=by rw [e];exact ZZ hk
    simp only [dI,Zn,Zc,Z8,e']
   have h2:fN ((k' :: ks).zip (v :: vs)) k=fN (ks.zip vs) k:=by simp [fN,hk]
   rw [h1,h2]
   rcases ju (k:=k) (by simpa using hl) q with h | ⟨i,v',t',F',a1,a2,a3,a4,a5⟩
   ·exact .inl h
   ·exact .inr ⟨i+1,v',t',F',a1,a2,by simpa using a3,by simpa using a4,a5⟩
theorem nF (hu:X.A.units+1 < cLine):IxR X (fun x y H Q=>∃ a v,x=.ref a/\fY H a y (some v)/\Q v H):=by
 intro value slice pins s σ H x y v u Q I rx ry h hs
 obtain ⟨a,w,rfl,g,q⟩:=h
 cases rx
 have hT:=pb I g
 unfold subscriptTail
 refine Zs ?_
 rw [getitemInPython_of_ne hT.not_modules]
 refine Zs (wpAny_specialOf hT PySem.F.slot_dict_getitem.lookup ?_)
 have fin:wpAny (model X.prog X.w) X.A (subscripted slice false (.ref a) u) (fun r s₃=>wpAny (model X.prog X.w) X.A (letTemporaryGo value (.ref a) r >>= fun _=>pure r) (EP X pins σ Q) X.xe s₃) X.xe s:=by
  rw [hs]
  exact wpAny_operating (sy hu I g ry fun w' s3 I3 rw'=>Zs (wpAny_letTemporaryGo (Zj ⟨w,H,I3,rw',q⟩)))
 first
  | exact Zj (Zs fin)
  | exact Zs (Zj (Zs fin))
  | exact Zs fin
noncomputable def Dx (K:Wt):R2:=fun x y H Q=>rIx K x y H Q\/∃ a v,x=.ref a/\fY H a y (some v)/\Q v H
theorem CM:fO G (Dx G.K) oIx:=by
 intro Φ η H0 H x y u w F1 F2 m t Q tw e k
 obtain ⟨m1,x⟩:=x
 by_cases hd:∃ l,x=.dct 0 l
 ·obtain ⟨l,rfl⟩:=hd
  simp only [oIx] at e
  split at e
  ·rename_i hk
   obtain ⟨t',e1,e2⟩:=Zu.mp e
   obtain ⟨a,ks,vs,ts,Fs,rfl,rfl,ha,hl,rfl,q⟩:=eB tw.r1
   obtain ⟨kk,rfl,ek⟩:=dG tw.r2 hk
   rw [ek] at e1
   rcases ju (k:=kk) hl q with ⟨h1,_⟩ | ⟨i,v,t2,F,a1,a2,a3,a4,a5⟩
   ·rw [h1] at e1;cases e1
   ·rw [a1] at e1
    cases e1
    cases e2
    refine .inr ⟨a,v,rfl,by rw [← a2];exact fY.k ha,?_⟩
    have f:=((tw.f1.sub (Z5 _ _)).sub (dv a4)).up a5
    exact k v H F (aJ.refl _) a5 f
  ·cases e
 ·have e':ax (m1,x) y=some (m,t):=by
   simp only [oIx] at e
   split at e
   ·rename_i l hx
    exact absurd ⟨_,rfl⟩ hd
   ·exact e
  exact .inl (v7 Φ η H0 H (m1,x) y u w F1 F2 m t Q tw e' k)
theorem DC (hr:Room k X.A) (ha:PV G X a ca) (hb:PV G X b cb) (hs:eA b:=by intro _ _;rfl) (hK:X.K=G.K:=by rfl):PV G X (.Subscript a b pos) (e2 oIx ca cb) :=
 PE.weak (qZ (IxR.or nM (nF (je hr))) ha hb hs) fun σ H Q h=>by rw [hK];exact jK CM h
noncomputable def fV:T->V
 | .bl b=>.bl b
 | .int i=>.int i
 | .str s=>.str (sx s)
 | _=>.non
theorem zr {H:Hp} {v:V} {t:T} {F:Wr} (r:Rp G H v t F) (h:flat t=true):v=fV t/\eU v=true:=by
 cases r with
 | non=>exact ⟨rfl,rfl⟩
 | bl b=>exact ⟨rfl,rfl⟩
 | int i=>exact ⟨rfl,rfl⟩
 | str s hl=>exact ⟨rfl,rfl⟩
 | _=>cases h
theorem Dj:∀ {t u:T},flat t=true->flat u=true->eqV (fV t) (fV u)=eqT t u
 | .non,.non,_,_=>rfl
 | .non,.bl _,_,_=>rfl
 | .non,.int _,_,_=>rfl
 | .non,.str _,_,_=>rfl
 | .bl _,.non,_,_=>rfl
 | .bl _,.bl _,_,_=>rfl
 | .bl _,.int _,_,_=>rfl
 | .bl _,.str _,_,_=>rfl
 | .int _,.non,_,_=>rfl
 | .int _,.bl _,_,_=>rfl
 | .int _,.int _,_,_=>rfl
 | .int _,.str _,_,_=>rfl
 | .str _,.non,_,_=>rfl
 | .str _,.bl _,_,_=>rfl
 | .str _,.int _,_,_=>rfl
 | .str _,.str _,_,_=>t4
theorem uE {H:Hp} {v w:V} {t u:T} {F F':Wr} (r:Rp G H v t F) (r':Rp G H w u F') (h1:flat t=true) (h2:flat u=true):eqV v w=eqT t u/\eU v=true/\eU w=true:=by
 obtain ⟨e1,f1⟩:=zr r h1
 obtain ⟨e2,f2⟩:=zr r' h2
 refine ⟨?_,f1,f2⟩
 rw [e1,e2]
 exact Dj h1 h2
theorem m8 {H:Hp} {x:V} {t:T} {F:Wr} (r:Rp G H x t F) (hx:flat t=true):∀ {vs:List V} {ts:Wg} {Fs:Wu},RpL G H vs ts Fs->ts.all flat=true->vs.all eU=true/\inV x vs=ts.any fun y=>eqT y t
 | _,_,_,.nil,_=>⟨rfl,rfl⟩
 | _,_,_,.cons r' q,h=>by
  rw [Xw,Zf] at h
  obtain ⟨h1,h2⟩:=m8 r hx q h.2
  obtain ⟨e1,e2,e3⟩:=uE r' r h.1 hx
  refine ⟨by rw [Xw,e2,h1];rfl,?_⟩
  unfold inV at h2 ⊢
  rw [Yg,Yg,h2,e1]
noncomputable def B8 (K:Wt):R2:=fun x y H Q=>rIn K false x y H Q\/∃ a o,y=.ref a/\fY H a x o/\Q (.bl o.isSome) H
noncomputable def qO (K:Wt):R2:=fun x y H Q=>rIn K true x y H Q\/∃ a o,y=.ref a/\fY H a x o/\Q (.bl (!o.isSome)) H
theorem xA (hu:X.A.units+1 < cLine):OpR X (compareOp .In) (fun x y H Q=>∃ a o,y=.ref a/\fY H a x o/\Q (.bl o.isSome) H):=by
 intro pins s σ H x y v u Q I rx ry h
 obtain ⟨a,o,rfl,g,q⟩:=h
 cases ry
 exact Dz hu I g rx fun s3 I3=>⟨.bl o.isSome,H,I3,rfl,q⟩
theorem vO (hu:X.A.units+1 < cLine):OpR X (compareOp .NotIn) (fun x y H Q=>∃ a o,y=.ref a/\fY H a x o/\Q (.bl (!o.isSome)) H):=by
 intro pins s σ H x y v u Q I rx ry h
 obtain ⟨a,o,rfl,g,q⟩:=h
 cases ry
 exact yz hu I g rx fun s3 I3=>⟨.bl (!o.isSome),H,I3,rfl,q⟩
theorem oz {Φ:Fps} {η:VS.Env} {H0 H:Hp} {x y:Val} {u w:V} {F1 F2:Wr} {m:Md} {t:T} (tw:Two G Φ η H0 H x y u w F1 F2) (e:kc x y=some (m,t)) :
  ∃ b,m=.fr/\t=.bl b/\((∃ p xs,w=.ref p/\(SqL G.K H p xs\/SqT G.K H p xs)/\eU u=true/\xs.all eU=true/\inV u xs=b)\/∃ a o,w=.ref a/\fY H a u o/\o.isSome=b):=by
 obtain ⟨m2,y⟩:=y
 simp only [kc] at e
 split at e
 ·split at e
  ·rename_i hk
   cases e
   obtain ⟨a,ks,vs,ts,Fs,rfl,rfl,ha,hl,rfl,q⟩:=eB tw.r2
   obtain ⟨kk,rfl,ek⟩:=dG tw.r1 hk
   refine ⟨_,rfl,rfl,.inr ⟨a,fN (ks.zip vs) kk,rfl,fY.k ha,?_⟩⟩
   rw [ek]
   rcases ju (k:=kk) hl q with ⟨h1,h2⟩ | ⟨i,v,t2,F,a1,a2,_⟩
   ·rw [h1,h2];rfl
   ·rw [a1,a2];rfl
  ·cases e
 ·split at e
  ·rename_i hk
   cases e
   rw [Zf] at hk
   obtain ⟨a,vs,Fs,rfl,rfl,ha,ra⟩:=tw.r2.lst_inv
   obtain ⟨h1,h2⟩:=m8 tw.r1 hk.1 ra hk.2
   have hf:eU u=true:=(uE tw.r1 tw.r1 hk.1 hk.1).2.1
   exact ⟨_,rfl,rfl,.inl ⟨a,vs,rfl,.inl (SqL.of ha),hf,h1,h2⟩⟩
  ·cases e
 ·split at e
  ·rename_i hk
   cases e
   rw [Zf] at hk
   obtain ⟨a,vs,Fs,rfl,rfl,ha,ra⟩:=tw.r2.tup_inv
   obtain ⟨h1,h2⟩:=m8 tw.r1 hk.1 ra hk.2
   have hf:eU u=true:=(uE tw.r1 tw.r1 hk.1 hk.1).2.1
   exact ⟨_,rfl,rfl,.inl ⟨a,vs,rfl,.inr (SqT.of ha),hf,h1,h2⟩⟩
  ·cases e
 ·cases e
theorem Cj:fO G (B8 G.K) kc:=by
 intro Φ η H0 H x y u w F1 F2 m t Q tw e k
 obtain ⟨b,rfl,rfl,h⟩:=oz tw e
 rcases h with ⟨p,xs,rfl,hq,f1,f2,hb⟩ | ⟨a,o,rfl,g,hb⟩
 ·refine .inl ⟨p,xs,rfl,hq,f1,f2,?_⟩
  rw [hb]
  exact bu k (.bl b)
 ·refine .inr ⟨a,o,rfl,g,?_⟩
  rw [hb]
  exact bu k (.bl b)
theorem Al:fO G (qO G.K) cH:=by
 intro Φ η H0 H x y u w F1 F2 m t Q tw e k
 unfold cH at e
 split at e
 ·rename_i m' b' e'
  cases e
  obtain ⟨b,rfl,hb',h⟩:=oz tw e'
  cases hb'
  rcases h with ⟨p,xs,rfl,hq,f1,f2,hb⟩ | ⟨a,o,rfl,g,hb⟩
  ·refine .inl ⟨p,xs,rfl,hq,f1,f2,?_⟩
   rw [hb]
   exact bu k (.bl (!b'))
  ·refine .inr ⟨a,o,rfl,g,?_⟩
   rw [hb]
   exact bu k (.bl (!b'))
 ·cases e
theorem uj:Tells kc:=by
 intro x y m t e
 simp only [kc] at e
 split at e
 all_goals first | (split at e <;> first | (cases e;exact ⟨_,rfl⟩) | cases e) | cases e
theorem sq:Tells cH:=by
 intro x y m t e
 unfold cH at e
 split at e
 ·cases e;exact ⟨_,rfl⟩
 ·cases e
theorem CO (hr:Room k X.A) (ha:PV G X a ca) (hb:PV G X b cb) (hm:behindInMarks .In b=false:=by with_unfolding_all rfl) (hK:X.K=G.K:=by rfl):PVT G X (.Compare a [.In] [b] pos) (e2 kc ca cb):=gB (r:=B8 X.K) (sH.or (xA (je hr))) (hK ▸ Cj) uj ha hb hm
theorem zJ (hr:Room k X.A) (ha:PV G X a ca) (hb:PV G X b cb) (hm:behindInMarks .NotIn b=false:=by with_unfolding_all rfl) (hK:X.K=G.K:=by rfl):PVT G X (.Compare a [.NotIn] [b] pos) (e2 cH ca cb):=gB (r:=qO X.K) (nu.or (vO (je hr))) (hK ▸ Al) sq ha hb hm
end
end VS
end
section
open PySem PyProof.Rows
namespace TS
variable {prog:Program} {w:World} {A:Around} {E:Ww} {s:Shared}
variable {κ:SortKind} {G:Keyed->Prop} {r:Keyed->Keyed->Bool}
end TS
end
section
open PySem PyProof.Rows
namespace TS
variable {prog:Program} {w:World} {A:Around} {E:Ww} {s:Shared} {κ:SortKind} {G:Keyed->Prop} {r:Keyed->Keyed->Bool}
end TS
end
section
open PySem PyProof.Rows
namespace TS
variable {prog:Program} {w:World} {A:Around} {E:Ww} {s:Shared} {κ:SortKind} {G:Keyed->Prop} {r:Keyed->Keyed->Bool}
end TS
end
section
open PySem PyProof.Rows
namespace TS
variable {prog:Program} {w:World} {A:Around} {E:Ww} {s:Shared} {κ:SortKind} {G:Keyed->Prop} {r:Keyed->Keyed->Bool}
end TS
end
section
open PySem PyProof.Rows
namespace TS
variable {prog:Program} {w:World} {A:Around} {E:Ww} {s:Shared} {κ:SortKind} {G:Keyed->Prop} {r:Keyed->Keyed->Bool}
end TS
end
section
open PySem PyProof.Rows
namespace TS
variable {prog:Program} {w:World} {A:Around} {E:Ww} {s:Shared} {κ:SortKind} {G:Keyed->Prop} {r:Keyed->Keyed->Bool}
end TS
end
section
open PySem PyProof.Rows
namespace TS
variable {prog:Program} {w:World} {A:Around} {E:Ww} {s:Shared} {κ:SortKind} {G:Keyed->Prop} {r:Keyed->Keyed->Bool}
end TS
end
section
open PySem PyProof.Rows
namespace TS
variable {prog:Program} {w:World} {A:Around} {E:Ww} {s:Shared} {κ:SortKind} {G:Keyed->Prop} {r:Keyed->Keyed->Bool}
end TS
end
section
open PySem PyProof.Rows
namespace TS
variable {prog:Program} {w:World} {A:Around} {E:Ww} {s:Shared} {κ:SortKind} {G:Keyed->Prop} {r:Keyed->Keyed->Bool}
end TS
end
section
open PySem PyProof.Rows
namespace TS
variable {prog:Program} {w:World} {A:Around} {E:Ww} {s:Shared} {G:Keyed->Prop} {r:Keyed->Keyed->Bool}
theorem mn {vs:Wq} {xs:Array Keyed} (hp:xs.Perm (pairsOf vs)):(xs.map (·.2)).toList.Perm vs/\(xs.map (·.2)).toList.map (fun v=>(v,v))=xs.toList:=by
 have hp':=Array.perm_iff_toList_perm.mp hp
 rw [pairsOf_toList] at hp'
 constructor
 ·rw [Array.toList_map]
  refine (hp'.map _).trans ?_
  rw [show (fun x:Keyed=>x.2)=Prod.snd from rfl,List.map_snd_zip (Zl _)]
 ·rw [Array.toList_map,Z1]
  conv=>rhs;rw [← XQ xs.toList]
  apply Yu
  intro p hpm
  have:=mem_zip_self (hp'.mem_iff.mp hpm)
  exact Prod.ext this.1.symm rfl
end TS
end
section
namespace L2
open PySem PySem.Spec PyProof.Rows TS
section
variable {X:Cx}
theorem om:∀ {us:Wq},(∀ v∈us,∃ x t,v=Value.str x t)->aO ((us.map strOf).map V.str) us
 | [],_=>.nil
 | u :: us,h=>by
  obtain ⟨x,t,rfl⟩:=h u (Zw ..)
  exact .cons ⟨t,rfl⟩ (om fun v hv=>h v (Zx _ hv))
end
end L2
end
section
namespace VS
mutual
theorem px:∀ (n:Nat) (t:T),eqD n t=true->eqT t t=true
 | n,.non,_=>by simp
 | n,.bl _,_=>by simp
 | n,.int _,_=>by simp
 | n,.str _,_=>by simp
 | n+1,.tup l,h=>by
  simp only [eqD,Yq] at h
  simp only [eqT]
  exact jO n l h
 | n+1,.lst l,h=>by
  simp only [eqD,Yq] at h
  simp only [eqT]
  exact jO n l h
 | 0,.tup _,h=>by simp at h
 | 0,.lst _,h=>by simp at h
 | _,.scr _,h=>by simp at h
 | _,.dct _ _,h=>by simp at h
 | _,.obj _ _,h=>by simp at h
theorem jO:∀ (n:Nat) (l:Wg),(∀ t∈l,eqD n t=true)->pS l l=true
 | _,[],_=>rfl
 | n,t :: r,h=>by
  simp only [pS,Zf]
  exact ⟨px n t (h t Zw),jO n r fun u hu=>h u (Zx _ hu)⟩
end
theorem A4 {α:Type} (l:List α) (k:Nat):cut l none (some (k:Int))=l.take k:=by
 have h:¬ ((k:Int) < 0):=by lia
 by_cases h2:k<=l.length
 ·simp [cut,clip,h,Xu h2]
 ·rw [Xf (by lia)]
  simp [cut,clip,h,X9 (Xy h2)]
theorem d9 {tg:Tg} {it:Its} {body:Sx} {η:Env} {m:Md} {l:Wg} (e:it η=some (m,l)) (h:okF m=true):hU tg it body η=forL tg body l η:=by
 unfold hU
 rw [e]
 exact Zq h
theorem fB {g:Fn} {as:Exs} {η:Env} {xs:Wi} {t:T} (h:as η=some xs) (h2:g (trees xs)=some (.fr,t)):bG g as η=some (.fr,t):=by
 simp only [bG,h,Zt,h2]
theorem aK {i:Nat} {e:Ex} {η:Env} {m:Md} {t:T} (h:e η=some (m,t)) (hm:m ≠ .bo) (hi:i < η.length):aC i e η=some (.nx (η.set i (some (.pu t)))):=by
 simp only [aC,h,Zt]
 cases m with
 | bo=>exact absurd rfl hm
 | _=>simp [hi]
end VS
end
section
namespace VS
open PySem PySem.Spec PyProof.Rows L2
theorem Dd {a b c:Tx} (h:a < b) (h':¬ c < b):a < c:=by
 by_cases e:a < c
 ·exact e
 ·exact absurd (List.lt_of_le_of_lt (List.not_lt.mp e) h) h'
theorem iC (x:Tx):∀ l:List Tx,(kA x l).Perm (x :: l)
 | []=>List.Perm.refl _
 | y :: r=>by
  unfold kA
  split
  ·exact ((iC x r).cons y).trans (List.Perm.swap _ _ _)
  ·exact List.Perm.refl _
theorem gY:∀ l:List Tx,(d5 l).Perm l
 | []=>List.Perm.refl _
 | x :: l=>(iC x _).trans ((gY l).cons x)
theorem n5 (x:Tx):∀ {l:List Tx},l.Pairwise (fun a b=>¬ b < a)->(kA x l).Pairwise (fun a b=>¬ b < a)
 | [],_=>by simp [kA]
 | y :: r,h=>by
  unfold kA
  rw [lO]
  obtain ⟨h1,h2⟩:=XE.mp h
  split
  ·rename_i c
   have c':y < x:=by simpa using c
   refine XE.mpr ⟨fun z hz=>?_,n5 x h2⟩
   rcases Zg.mp ((iC x r).mem_iff.mp hz) with rfl | hz
   ·exact fun z=>List.lt_irrefl _ (List.lt_trans c' z)
   ·exact h1 z hz
  ·rename_i c
   have c':¬ y < x:=by simpa using c
   refine XE.mpr ⟨fun z hz=>?_,h⟩
   rcases Zg.mp hz with rfl | hz
   ·exact c'
   ·exact fun w=>h1 z hz (Dd w c')
theorem mw:∀ l:List Tx,(d5 l).Pairwise (fun a b=>¬ b < a)
 | []=>List.Pairwise.nil
 | x :: l=>n5 x (mw l)
theorem mJ {l l':List Tx} (h:l'.Perm l) (hp:l'.Pairwise (fun a b=>¬ b < a)):l'=d5 l :=
 List.Perm.eq_of_pairwise (le:=fun a b=>¬ b < a) (fun a b _ _ h1 h2=>List.le_antisymm (List.not_lt.mp h1) (List.not_lt.mp h2)) hp (mw l) (h.trans (gY l).symm)
theorem vg (s:Tx):(sx s).cps.toList=s:=rfl
theorem vU {ss:List Tx} {ss':List Str} (h:ss'.Perm (ss.map sx)) (hp:ss'.Pairwise (fun a b=>¬ b.cps.toList < a.cps.toList)):ss'=(d5 ss).map sx:=by
 have e:ss'=(ss'.map fun x=>x.cps.toList).map sx:=by
  rw [Z1]
  conv=>lhs;rw [← XQ ss']
  apply Yu
  intro x hx
  obtain ⟨s,_,rfl⟩:=ZG.mp (h.mem_iff.mp hx)
  show sx s=sx (sx s).cps.toList
  rw [vg]
 have e2:(ss'.map fun x=>x.cps.toList)=d5 ss:=by
  refine mJ ?_ ?_
  ·have:=h.map fun x:Str=>x.cps.toList
   rw [Z1] at this
   have e3:((fun x:Str=>x.cps.toList) ∘ sx)=id:=by
    funext s
    exact vg s
   rw [e3,XQ] at this
   exact this
  ·rw [Xn];exact hp
 rw [e,e2]
noncomputable def txB (s:Tx):Bool:=decide (s.length<=eO) && s.all (fun c=>decide (c < 1114112))
theorem BF {s:Tx} (h:txB s=true):lS s:=by
 unfold txB at h
 simp at h
 exact h
section
variable {G:Gx} {X:Cx} {e:Expr} {cs:Exs} {p pos:Pos}
theorem qc {H:Hp}:∀ {ss:List Tx},(∀ s∈ss,lS s)->RpL G H (ss.map fun s=>V.str (sx s)) (ss.map T.str) (ss.map fun _=>[])
 | [],_=>.nil
 | s :: ss,h=>.cons (.str s (h s (Zw ..))) (qc fun x hx=>h x (Zx _ hx))
theorem ox {α β:Type}:∀ (l:List α),(l.map fun _=>([]:List β)).flatten=[]
 | []=>rfl
 | _ :: l=>by simp
theorem uQ {Φ:Fps} {η:VS.Env} {H0 H:Hp} {ss:List Tx} {Q:VK} (k:∀ v H' F,aJ H H'->Rp G H' v (.lst ((d5 ss).map T.str)) F->Fp Φ η H0 .fr F->Q v H') (s0:aJ H0 H) (tk:∀ s∈ss,lS s) :
  ∀ (l:Addr) (ss':List Str),H l=none->ss'.Perm (ss.map sx)->ss'.Pairwise (fun a b=>¬ b.cps.toList < a.cps.toList)->Q (.ref l) (upd H l (.lst (ss'.map V.str))):=fun q ss' hq hp hw=>by
 rw [vU hp hw]
 have sm:aJ H (upd H q (.lst (((d5 ss).map sx).map V.str))):=da hq
 have r0:=qc (G:=G) (H:=upd H q (.lst (((d5 ss).map sx).map V.str))) fun s hs=>tk s ((gY ss).mem_iff.mp hs)
 have r:Rp G (upd H q (.lst (((d5 ss).map sx).map V.str))) (.ref q) (.lst ((d5 ss).map T.str)) (q :: ((d5 ss).map fun _=>[]).flatten):=.lst (by rw [ay,Z1];rfl) r0
 rw [ox] at r
 exact k _ _ _ sm r (Fp.new (s0.free hq) (by simp) Fp.nil)
theorem keys_str:∀ {ks:List Key} {ss:List Tx},strs? (ks.map aT)=some ss->ks=(ss.map sx).map Sum.inr
 | [],_,e=>by cases e;rfl
 | .inl i :: ks,_,e=>by cases e
 | .inr x :: ks,ss,e=>by
  simp only [Zn,aT,strs?] at e
  obtain ⟨ss',e1,e2⟩:=Zu.mp e
  subst e2
  rw [keys_str e1]
  simp [sx]
theorem rV:bootBuiltins ("sorted" : Str)=some (.builtin "sorted"):=by decide +kernel
end
end VS
end
section
namespace VS
open PySem PySem.Builtin.Str PySem.StrLaws
end VS
end
section
namespace VS
open PySem PySem.Spec PyProof.Rows L2
end VS
end
section
namespace ST
open PySem PySem.Spec PyProof.Rows
variable {prog:Program} {w:World} {A:Around} {E:Ww} {s:Shared}
end ST
end
section
namespace ST
open PySem PySem.Spec PyProof.Rows
variable {prog:Program} {w:World} {A:Around} {E:Ww} {s:Shared}
theorem Df {Q:PySem.Fin->Shared->Prop} {E':Ww} (hh:A.handled=none) (h:∀ (h':Heap) (x:Addr),(∀ b o,s.heap.get? b=some o->h'.get? b=some o)->(∃ o,h'.get? x=some o/\o.cls=.type "StopIteration")->E' (.ref x) { s with heap:=h' }) :
  wpAny (model prog w) A (newExc (.type "StopIteration") [] >>= fun e=>raiseNew e) Q E' s:=by
 simp only [newExc,newTuple]
 refine Zs (Zs (Yh (Zs (m:=firstArgMember _ _) (wpAny_of_eq (a:=Value.none) (by first | rfl | (simp only [firstArgMember];rfl)) (Yh ?_ (by size_fits)))) (by size_fits)))
 simp only [raiseNew]
 refine Zs (wpAny_handled ?_)
 rw [hh]
 exact Zs (Zj (wpAny_throw (h _ _ (fun b o e=>Zi _ (Zi _ e)) ⟨_,ZM _ rfl,rfl⟩)))
end ST
end
section
namespace ST
open PySem PySem.Spec PyProof.Rows
variable {prog:Program} {w:World} {A:Around} {E:Ww} {s:Shared}
end ST
end
section
namespace L2
open PySem PySem.Spec PyProof.Rows TS
end L2
namespace VS
open PySem PySem.Spec PyProof.Rows L2
inductive Pth (G:Gx) (H:Hp):List Ky->V->V->Prop
 | nil (v:V):Pth G H [] v v
 | fld {c k:Nat} {a dx:Addr} {fs:List (Str×V)} {u w:V} {ks:List Ky}:H a=some (.ins (G.ct (c+1)).1 dx fs)->fs.lookup ((G.ct (c+1)).2 k)=some u->Pth G H ks u w->Pth G H (.fld k :: ks) (.ref a) w
 | ix {a:Addr} {vs:List V} {i:Int} {j:Nat} {u w:V} {ks:List Ky}:H a=some (.lst vs)->ixP vs.length i=some j->vs[j]?=some u->Pth G H ks u w->Pth G H (.at (.int i) :: ks) (.ref a) w
 | key {a:Addr} {kvs:List (Key×V)} {k:Key} {u w:V} {ks:List Ky}:H a=some (.dK kvs)->fN kvs k=some u->Pth G H ks u w->Pth G H (.at (aT k) :: ks) (.ref a) w
section
variable {G:Gx}
theorem qK {Fs:Wu} {i j:Nat} {F F':Wr} (nd:Fs.flatten.Nodup) (hi:Fs[i]?=some F) (hj:Fs[j]?=some F') (n:i ≠ j) {a:Addr} (ha:a∈F):a ∉ F':=by
 intro hb
 induction Fs generalizing i j with
 | nil=>simp at hi
 | cons G Gs ih =>
  rw [ZW,ZP] at nd
  cases i with
  | zero =>
   simp at hi;subst hi
   cases j with
   | zero=>exact n rfl
   | succ j=>exact nd.2.2 a ha a (dk (by simpa using hj) hb) rfl
  | succ i =>
   cases j with
   | zero =>
    simp at hj;subst hj
    exact nd.2.2 a hb a (dk (by simpa using hi) ha) rfl
   | succ j=>exact ih nd.2.1 (by simpa using hi) (by simpa using hj) (by lia)
theorem cI {Fs:Wu} {j:Nat} {F':Wr} {a:Addr} (h:a∈(Fs.set j F').flatten):a∈F'\/∃ i F,i ≠ j/\Fs[i]?=some F/\a∈F:=by
 obtain ⟨i,F,h1,h2⟩:=fj h
 by_cases e:i=j
 ·subst e
  rw [List.getElem?_set_self' ] at h1
  cases q:Fs[i]? with
  | none=>rw [q] at h1;cases h1
  | some _=>rw [q] at h1;cases h1;exact .inl h2
 ·rw [YY (YV e)] at h1
  exact .inr ⟨i,F,e,h1,h2⟩
theorem dR:∀ {Fs:Wu} {j:Nat} {F':Wr},Fs.flatten.Nodup->F'.Nodup->(∀ i F,i ≠ j->Fs[i]?=some F->∀ a∈F,a ∉ F')->(Fs.set j F').flatten.Nodup
 | [],_,_,h,_,_=>by simpa using h
 | G :: Gs,0,F',h,h',d=>by
  rw [ZW,ZP] at h
  rw [List.set_cons_zero,ZW,ZP]
  refine ⟨h',h.2.1,fun a ha b hb e=>?_⟩
  subst e
  obtain ⟨i,F,h1,h2⟩:=fj hb
  exact d (i+1) F (by lia) (by simpa using h1) a h2 ha
 | G :: Gs,j+1,F',h,h',d=>by
  rw [ZW,ZP] at h
  rw [List.set_cons_succ,ZW,ZP]
  refine ⟨h.1,dR h.2.1 h' fun i F n hi=>d (i+1) F (by lia) (by simpa using hi),fun a ha b hb e=>?_⟩
  subst e
  rcases cI hb with z | ⟨i,F,n,h1,h2⟩
  ·exact d 0 G (by lia) rfl a ha z
  ·exact h.2.2 a ha a (dk h1 h2) rfl
theorem RpL.each {H H2:Hp}:∀ {vs:List V} {ts:Wg} {Fs:Wu},RpL G H vs ts Fs->(∀ (i:Nat) v t F,vs[i]?=some v->ts[i]?=some t->Fs[i]?=some F->Rp G H v t F->Rp G H2 v t F)->RpL G H2 vs ts Fs
 | _,_,_,.nil,_=>.nil
 | _,_,_,.cons r q,k=>.cons (k 0 _ _ _ rfl rfl rfl r) (RpL.each q fun i v t F a b c d=>k (i+1) v t F (by simpa using a) (by simpa using b) (by simpa using c) d)
theorem RpL.setAt {H H2:Hp}:∀ {vs:List V} {ts:Wg} {Fs:Wu} {j:Nat} {u:V} {x':T} {F':Wr},RpL G H vs ts Fs->vs[j]?=some u->Rp G H2 u x' F'->(∀ (i:Nat) v t F,i ≠ j->vs[i]?=some v->ts[i]?=some t->Fs[i]?=some F->Rp G H v t F->Rp G H2 v t F)->RpL G H2 vs (ts.set j x') (Fs.set j F')
 | _,_,_,_,_,_,_,.nil,h,_,_=>by simp at h
 | _,_,_,0,_,_,_,.cons r q,h,r',k=>by
  simp at h;subst h
  exact .cons r' (RpL.each q fun i v t F a b c d=>k (i+1) v t F (by lia) (by simpa using a) (by simpa using b) (by simpa using c) d)
 | _,_,_,j+1,_,_,_,.cons r q,h,r',k=>.cons (k 0 _ _ _ (by lia) rfl rfl rfl r) (RpL.setAt q (by simpa using h) r' fun i v t F n a b c d=>k (i+1) v t F (by lia) (by simpa using a) (by simpa using b) (by simpa using c) d)
theorem nh {H H2:Hp} {a:Addr} {o:HO} {vs:List V} {ts:Wg} {Fs:Wu} {j:Nat} {u:V} {x':T} {Fj Fj':Wr} (ha:H a=some o) (ra:RpL G H vs ts Fs) (nd:(a :: Fs.flatten).Nodup) (hu:vs[j]?=some u) (hF:Fs[j]?=some Fj)
  (g:Chg G H u Fj x' H2 Fj'):H2 a=some o/\RpL G H2 vs (ts.set j x') (Fs.set j Fj')/\(a :: (Fs.set j Fj').flatten).Nodup/\(∀ b∈a :: (Fs.set j Fj').flatten,b∈a :: Fs.flatten\/H b=none)/\∀ b o,b ∉ a :: Fs.flatten->H b=some o->H2 b=some o:=by
 rw [Zh] at nd
 have subF:∀ b∈Fj,b∈Fs.flatten:=fun b hb=>dk hF hb
 have dis:∀ i F,i ≠ j->Fs[i]?=some F->∀ b∈F,b ∉ Fj':=fun i F n hi b hb hb'=>by
  rcases g.sub b hb' with z | z
  ·exact qK nd.2 hi hF n hb z
  ·exact Mut.ne_none (ra.dom b (dk hi hb)) z
 refine ⟨g.keep a o (fun z=>nd.1 (subF a z)) ha,ra.setAt hu g.rp (fun i v t F n h1 h2 h3 r=>r.keep g.kept fun b hb o' ho=>g.keep b o' (qK nd.2 h3 hF n hb) ho),?_,fun b hb=>?_,fun b o' hb ho=>g.keep b o' (fun z=>hb (Zx _ (subF b z))) ho⟩
 ·rw [Zh]
  refine ⟨fun h=>?_,dR nd.2 g.nd dis⟩
  rcases cI h with z | ⟨i,F,n,h1,h2⟩
  ·rcases g.sub a z with z | z
   ·exact nd.1 (subF a z)
   ·rw [ha] at z;cases z
  ·exact nd.1 (dk h1 h2)
 ·rcases Zg.mp hb with rfl | hb
  ·exact .inl Zw
  ·rcases cI hb with z | ⟨i,F,n,h1,h2⟩
   ·rcases g.sub b z with z | z
    ·exact .inl (Zx _ (subF b z))
    ·exact .inr z
   ·exact .inl (Zx _ (dk h1 h2))
theorem nH {α β:Type}:∀ (as:List α) (bs:List β) (i:Nat) (a:α) (y:β),as[i]?=some a->(as.zip bs).set i (a,y)=as.zip (bs.set i y)
 | [],_,_,_,_,h=>by simp at h
 | a :: as,[],i,_,_,_=>by cases i <;> simp
 | a :: as,b :: bs,0,_,y,h=>by simp at h;subst h;rfl
 | a :: as,b :: bs,i+1,_,y,h=>by
  have:=nH as bs i _ y (by simpa using h)
  simp [this]
theorem jk {α β:Type} (p:α->Bool):∀ {as:List α} {bs:List β} {i:Nat},as.length=bs.length->(as.zip bs).findIdx? (fun q=>p q.1)=some i->∃ a b,as[i]?=some a/\bs[i]?=some b/\p a=true/\(as.zip bs).find? (fun q=>p q.1)=some (a,b)
 | [],[],_,_,h=>by simp at h
 | a :: as,b :: bs,i,hl,h=>by
  rw [Zc,XD] at h
  by_cases hp:p a=true
  ·rw [Zq hp] at h
   cases h
   exact ⟨a,b,rfl,rfl,hp,by simp [hp]⟩
  ·rw [Zo hp] at h
   obtain ⟨j,hj,rfl⟩:=Zu.mp h
   obtain ⟨a',b',h1,h2,h3,h4⟩:=jk p (by simpa using hl) hj
   exact ⟨a',b',by simpa using h1,by simpa using h2,h3,by simp [hp,h4]⟩
theorem jd (k k':Key):eqT (aT k') (aT k)=true ↔ k'=k:=by
 cases k with
 | inl i=>cases k' <;> simp [aT]
 | inr x =>
  obtain ⟨⟨x⟩⟩:=x
  cases k' with
  | inl j=>simp [aT]
  | inr y=>obtain ⟨⟨y⟩⟩:=y;simp [aT]
theorem rE {k:Key} {u:V}:∀ {ns:List Key} {ts:Wg} {vs:List V} {i:Nat},ns.length=ts.length->ns.length=vs.length->((ns.map aT).zip ts).findIdx? (fun q=>eqT q.1 (aT k))=some i->vs[i]?=some u->fN (ns.zip vs) k=some u
 | [],_,_,_,_,_,h,_=>by simp at h
 | n :: ns,t :: ts,v :: vs,i,h1,h2,h,hu=>by
  rw [Zn,Zc,XD] at h
  by_cases hp:eqT (aT n) (aT k)=true
  ·rw [Zq hp] at h
   cases h
   simp at hu;subst hu
   exact hR ((jd k n).mp hp)
  ·rw [Zo hp] at h
   obtain ⟨j,hj,rfl⟩:=Zu.mp h
   have hn:n ≠ k:=fun z=>hp ((jd k n).mpr z)
   have:fN ((n :: ns).zip (v :: vs)) k=fN (ns.zip vs) k:=by simp [fN,hn]
   rw [this]
   exact rE (by simpa using h1) (by simpa using h2) hj (by simpa using hu)
 | _ :: _,[],_,_,h,_,_,_=>by simp at h
 | _ :: _,_ :: _,[],_,_,h,_,_=>by simp at h
theorem dS {H:Hp} {v:V} {c:Nat} {q0:Nat×T} {fs:List (Nat×T)} {F:Wr} (r:Rp G H v (.obj c (q0 :: fs)) F):∃ (c':Nat) (a dx:Addr) (b:Bool) (ks:Wo) (vs:List V) (ts:Wg) (Fs:Wu),c=c'+1/\v=.ref a/\q0=(0,.bl b)/\fs=ks.zip ts/\F=a :: Fs.flatten ∧
  H a=some (.ins (G.ct (c'+1)).1 dx ((ks.map (G.ct (c'+1)).2).zip vs))/\ks.length=vs.length/\(b=true->G.me=some a)/\RpL G H vs ts Fs:=by
 generalize hz:T.obj c (q0 :: fs)=z at r
 cases r with
 | ins h l m q =>
  cases hz
  exact ⟨_,_,_,_,_,_,_,_,rfl,rfl,rfl,rfl,rfl,h,l,m,q⟩
 | _=>cases hz
theorem pw {c k0:Nat} (inj:∀ c k k':Nat,(G.ct c).2 k=(G.ct c).2 k'->k=k') {ns:Wo} {vs:List V} {ts:Wg} {u:V} {i:Nat} (hl:ns.length=vs.length) (h1:(ns.zip ts).findIdx? (fun q=>q.1 == k0)=some i) (g1:ns[i]?=some k0) (u1:vs[i]?=some u):((ns.map (G.ct c).2).zip vs).lookup ((G.ct c).2 k0)=some u:=by
 induction ns generalizing vs ts i with
 | nil=>simp at g1
 | cons a0 as ih =>
  cases vs with
  | nil=>simp at hl
  | cons b0 bs =>
   cases ts with
   | nil=>simp at h1
   | cons t0 ts =>
    rw [Zn,Zc,Yz]
    rw [Zc,XD] at h1
    by_cases q:(a0 == k0)=true
    ·rw [Zq q] at h1
     cases h1
     have:a0=k0:=by simpa using q
     subst this
     simp at u1
     simp [u1]
    ·rw [Zo q] at h1
     obtain ⟨j,hj,rfl⟩:=Zu.mp h1
     have:((G.ct c).2 k0 == (G.ct c).2 a0)=false:=by
      rw [ZV]
      intro z
      exact q (by simpa using (inj c _ _ z).symm)
     rw [this]
     exact ih (by simpa using hl) hj (by simpa using g1) (by simpa using u1)
theorem g6 {H:Hp} {α:Type} {f:T->Option (T×α)}:∀ (ks:List Ky) {v:V} {t t':T} {F:Wr} {y:α},(∀ c k k':Nat,(G.ct c).2 k=(G.ct c).2 k'->k=k')->Rp G H v t F->F.Nodup->pm f ks t=some (t',y) →
  ∃ w x F1 x',Pth G H ks v w/\Rp G H w x F1/\F1.Nodup/\f x=some (x',y)/\∀ H2 F1',Chg G H w F1 x' H2 F1'->∃ F',Chg G H v F t' H2 F'
 | [],v,t,t',F,y,_,r,nd,e=>⟨v,t,F,t',.nil v,r,nd,e,fun H2 F1' g=>⟨F1',g⟩⟩
 | .fld k :: ks,v,t,t',F,y,inj,r,nd,e=>by
  cases t with
  | obj c fs0 =>
   cases fs0 with
   | nil=>cases e
   | cons q0 fs =>
   obtain ⟨i,h1,e⟩:=Zz.mp e
   obtain ⟨p,h2,e⟩:=Zz.mp e
   obtain ⟨⟨z,y'⟩,e1,e2⟩:=Zu.mp e
   cases e2
   obtain ⟨c',a,dx,b,ns,vs,ts,Fs,ec,rfl,rfl,rfl,rfl,ha,hl,hb,ra⟩:=dS r
   subst ec
   have lts:ns.length=ts.length:=hl.trans ra.len.1
   obtain ⟨k0,x0,g1,g2,g3,g4⟩:=jk (fun n=>n == k) lts h1
   have ek:k0=k:=by simpa using g3
   subst ek
   have ep:p=(k0,x0):=by
    have:(ns.zip ts)[i]?=some (k0,x0):=by rw [Yb];exact ⟨g1,g2⟩
    rw [this] at h2;exact (Zp h2).symm
   subst ep
   obtain ⟨u,Fi,u1,u2,u3⟩:=ra.get i g2
   obtain ⟨w,x,F1,x',w1,w2,w3,w4,w5⟩:=g6 ks inj u3 (((Zh.mp nd).2).sublist (dv u2)) e1
   refine ⟨w,x,F1,x',.fld (c:=c') ha (pw inj hl h1 g1 u1) w1,w2,w3,w4,fun H2 F1' g=>?_⟩
   obtain ⟨Fi',gi⟩:=w5 H2 F1' g
   obtain ⟨s1,s2,s3,s4,s5⟩:=nh ha ra nd u1 u2 gi
   refine ⟨_,gi.kept,s5,gi.dom,?_,s3,s4⟩
   rw [nH ns ts i k0 z g1]
   exact .ins s1 hl hb s2
  | _=>cases e
 | .at k :: ks,v,t,t',F,y,inj,r,nd,e=>by
  cases t with
  | lst l =>
   cases k with
   | int i =>
    obtain ⟨j,h1,e⟩:=Zz.mp e
    obtain ⟨x0,h2,e⟩:=Zz.mp e
    obtain ⟨⟨z,y'⟩,e1,e2⟩:=Zu.mp e
    cases e2
    obtain ⟨a,vs,Fs,rfl,rfl,ha,ra⟩:=r.lst_inv
    obtain ⟨u,Fi,u1,u2,u3⟩:=ra.get j h2
    obtain ⟨w,x,F1,x',w1,w2,w3,w4,w5⟩:=g6 ks inj u3 (((Zh.mp nd).2).sublist (dv u2)) e1
    refine ⟨w,x,F1,x',.ix ha (by rw [ra.len.1];exact h1) u1 w1,w2,w3,w4,fun H2 F1' g=>?_⟩
    obtain ⟨Fi',gi⟩:=w5 H2 F1' g
    obtain ⟨s1,s2,s3,s4,s5⟩:=nh ha ra nd u1 u2 gi
    exact ⟨_,gi.kept,s5,gi.dom,.lst s1 s2,s3,s4⟩
   | _=>cases e
  | dct kd l =>
   cases kd with
   | zero =>
    have hk:hV k=true/\((l.findIdx? fun p=>eqT p.1 k).bind fun i=>(l[i]?).bind fun p=>(pm f ks p.2).map fun z=>(T.dct 0 (l.set i (p.1,z.1)),z.2))=some (t',y):=by
     cases k with
     | int i=>exact ⟨rfl,e⟩
     | str s=>exact ⟨rfl,e⟩
     | _=>cases e
    obtain ⟨hk,e⟩:=hk
    obtain ⟨i,h1,e⟩:=Zz.mp e
    obtain ⟨p,h2,e⟩:=Zz.mp e
    obtain ⟨⟨z,y'⟩,e1,e2⟩:=Zu.mp e
    cases e2
    obtain ⟨a,ns,vs,ts,Fs,rfl,rfl,ha,hl,rfl,ra⟩:=eB r
    have lts:(ns.map aT).length=ts.length:=by rw [Zy];exact hl.trans ra.len.1
    obtain ⟨k0,x0,g1,g2,g3,g4⟩:=jk (fun n=>eqT n k) lts h1
    have ep:p=(k0,x0):=by
     have:((ns.map aT).zip ts)[i]?=some (k0,x0):=by rw [Yb];exact ⟨g1,g2⟩
     rw [this] at h2;exact (Zp h2).symm
    subst ep
    obtain ⟨kk,ekk⟩:∃ kk:Key,k=aT kk:=by
     cases k with
     | int i=>exact ⟨.inl i,rfl⟩
     | str s=>exact ⟨.inr (sx s),by simp [aT,sx]⟩
     | _=>cases hk
    subst ekk
    obtain ⟨u,Fi,u1,u2,u3⟩:=ra.get i g2
    obtain ⟨w,x,F1,x',w1,w2,w3,w4,w5⟩:=g6 ks inj u3 (((Zh.mp nd).2).sublist (dv u2)) e1
    refine ⟨w,x,F1,x',.key ha ?_ w1,w2,w3,w4,fun H2 F1' g=>?_⟩
    ·exact rE (by simpa using lts) hl h1 u1
    ·obtain ⟨Fi',gi⟩:=w5 H2 F1' g
     obtain ⟨s1,s2,s3,s4,s5⟩:=nh ha ra nd u1 u2 gi
     refine ⟨_,gi.kept,s5,gi.dom,?_,s3,s4⟩
     rw [nH (ns.map aT) ts i k0 z g1]
     exact .dct s1 hl s2
   | succ kd=>cases k <;> cases e
  | _=>cases k <;> cases e
end
section
variable {G:Gx}
theorem Pth.same {H H':Hp} (e:aJ H H') {ks:List Ky} {v w:V} (p:Pth G H ks v w):Pth G H' ks v w:=by
 induction p with
 | nil v=>exact .nil v
 | fld h l _ ih=>exact .fld (e _ _ h) l ih
 | ix h l m _ ih=>exact .ix (e _ _ h) l m ih
 | key h l _ ih=>exact .key (e _ _ h) l ih
theorem Pth.split {H:Hp} {k:Ky} {w:V}:∀ {ks:List Ky} {v:V},Pth G H (ks++[k]) v w->∃ u,Pth G H ks v u/\Pth G H [k] u w
 | [],v,p=>⟨v,.nil v,p⟩
 | _ :: ks,_,.fld h l p=>let ⟨u,a,b⟩:=Pth.split (ks:=ks) p;⟨u,.fld h l a,b⟩
 | _ :: ks,_,.ix h l m p=>let ⟨u,a,b⟩:=Pth.split (ks:=ks) p;⟨u,.ix h l m a,b⟩
 | _ :: ks,_,.key h l p=>let ⟨u,a,b⟩:=Pth.split (ks:=ks) p;⟨u,.key h l a,b⟩
theorem iu {η:VS.Env} {s:Stp}:∀ {way:List Stp} {ks:List Ky},keys (way++[s]) η=some ks->∃ ks0 k,keys way η=some ks0/\keys [s] η=some [k]/\ks=ks0++[k]
 | [],ks,e=>by
  cases s with
  | fld k=>cases e;exact ⟨[],.fld k,rfl,rfl,rfl⟩
  | ix c =>
   obtain ⟨x,h1,h2⟩:=Zz.mp (show (c η).bind (fun x=>(keys [] η).map (Ky.at x.2 :: ·))=some ks from e)
   cases h2
   exact ⟨[],.at x.2,rfl,by simp [keys,h1],rfl⟩
 | .fld k :: way,ks,e=>by
  obtain ⟨ks1,h1,h2⟩:=Zu.mp (show (keys (way++[s]) η).map (Ky.fld k :: ·)=some ks from e)
  obtain ⟨ks0,k',a,b,c⟩:=iu h1
  exact ⟨.fld k :: ks0,k',by simp [keys,a],b,by rw [← h2,c];rfl⟩
 | .ix c :: way,ks,e=>by
  obtain ⟨x,h0,h⟩:=Zz.mp (show (c η).bind (fun x=>(keys (way++[s]) η).map (Ky.at x.2 :: ·))=some ks from e)
  obtain ⟨ks1,h1,h2⟩:=Zu.mp h
  obtain ⟨ks0,k',a,b,d⟩:=iu h1
  exact ⟨.at x.2 :: ks0,k',by simp [keys,h0,a],b,by rw [← h2,d];rfl⟩
noncomputable def tPl (G:Gx) (i:Nat) (way:List Stp):TE:=fun σ H Q=>∃ Φ η t ks v w,SR G Φ η σ H/\η[i]?=some (some (.ow t))/\σ[i]?=some (some v)/\keys way η=some ks/\Pth G H ks v w/\∀ H',aJ H H'->Q w H'
noncomputable def PPl (G:Gx) (X:Cx) (e:Expr) (i:Nat) (way:List Stp):Prop:=PE X e (tPl G i way)
theorem PE.weakP {X:Cx} {e:Expr} {t:TE} {i:Nat} {way:List Stp} (h:PE X e t) (w:∀ σ H Q,tPl G i way σ H Q->t σ H Q):PPl G X e i way:=fun pins s σ H Q I q=>h pins s σ H Q I (w σ H Q q)
variable {X:Cx} {e:Expr} {es:List Expr} {i:Nat} {way:List Stp} {pos pos' p1 apos cpos:Pos} {c:Ex} {cs:Exs} {b:Expr} {k:Nat}
theorem xV (i:Nat) {x:Str} (hN:X.N[i]?=some x) (hv:Vis X.env.scope x) (hd:(x == ("__debug__" : Str))=false) (hcd:(x == ("__classdict__" : Str))=false):PPl G X (.Name x pos) i [] :=
 PE.weakP (gH hN hv hd hcd) fun σ H Q hq=>by
  obtain ⟨Φ,η,t,ks,v,w,s,h1,h2,h3,h4,h5⟩:=hq
  cases (show some ([]:List Ky)=some ks from h3)
  cases h4
  exact ⟨v,h2,h5 H (aJ.refl _)⟩
structure FldOk (G:Gx) (K:Wt) (k:Nat) (f:Str):Prop where
 nm:∀ c,(G.ct (c+1)).2 k=f
 cl:∀ c,Cls K (G.ct (c+1)).1
 no:∀ c,b6 K (G.ct (c+1)).1 f
theorem Bf (k:Nat) {f:Str} (F:FldOk G X.K k f) (h:PPl G X e i way) (hb:attributeBase e f X.env (eval e X.env)=eval e X.env):PPl G X (.Attribute e f pos) i (way++[.fld k]) :=
 PE.weakP (vL h hb) fun σ H Q hq=>by
  obtain ⟨Φ,η,t,ks,v,w,s,h1,h2,h3,h4,h5⟩:=hq
  obtain ⟨ks0,k',a,b,rfl⟩:=iu h3
  cases (show some [Ky.fld k]=some [k'] from b)
  obtain ⟨u,p1,p2⟩:=h4.split
  refine ⟨Φ,η,t,ks0,v,u,s,h1,h2,a,p1,fun H' sm=>?_⟩
  cases p2 with
  | @fld c _ a dx fs u' _ _ ha hl q =>
   cases q
   rw [F.nm c] at hl
   exact ⟨a,_,dx,fs,w,rfl,sm a _ ha,F.cl c,F.no c,hl,h5 H' sm⟩
theorem Ce {kr:Nat} (hr:Room kr X.A) (h:PPl G X e i way) (hb:PV G X b c) (hs:eA b) (hK:X.K=G.K):PPl G X (.Subscript e b pos) i (way++[.ix c]) :=
 PE.weakP (qZ (IxR.or nM (nF (je hr))) h hb hs) fun σ H Q hq=>by
  obtain ⟨Φ,η,t,ks,v,w,s,h1,h2,h3,h4,h5⟩:=hq
  obtain ⟨ks0,k',a,b',rfl⟩:=iu h3
  obtain ⟨⟨mx,x⟩,ec,e2⟩:=Zz.mp (show (c η).bind (fun x=>(keys [] η).map (Ky.at x.2 :: ·))=some [k'] from b')
  cases e2
  obtain ⟨u,p1,p2⟩:=h4.split
  refine ⟨Φ,η,t,ks0,v,u,s,h1,h2,a,p1,fun H1 sm=>⟨Φ,η,mx,x,s.same sm,ec,fun y H2 F2 sm2 r2 f2=>?_⟩⟩
  have p3:=(p2.same sm).same sm2
  have q:=h5 H2 (sm.trans sm2)
  cases p3 with
  | @ix a vs i0 j u' _ _ ha hl hu q' =>
   cases q'
   refine .inl (.inl ⟨a,vs,i0,w,rfl,r2.int_inv,SqL.of ha,lH hl hu,q⟩)
  | @key a kvs kk u' _ _ ha hl q' =>
   cases q'
   refine .inr ⟨a,w,rfl,?_,q⟩
   have hy:y=kV kk:=by
    cases kk with
    | inl n=>exact r2.int_inv
    | inr z =>
     have:=r2.str_inv.1
     rw [this]
     simp [kV,sx]
   rw [hy,← hl]
   exact fY.k ha
@[simp] noncomputable def gv (i:Nat) (way:List Stp) (f:T->Wi->Option (T×Val)) (as:Exs) (η:VS.Env):Option (Val×VS.Env):=match η[i]? with
 | some (some (.ow t))=>(keys way η).bind fun ks=>(as η).bind fun xs=>(pm (fun x=>f x xs) ks t).map fun z=>(z.2,η.set i (some (.ow z.1)))
 | _=>none
noncomputable def eT (G:Gx):Prop:=∀ c k k':Nat,(G.ct c).2 k=(G.ct c).2 k'->k=k'
theorem vE {T' id:String} {name:Str} {o:Expr} {r:V->List V->Hp->VK->Prop} {f:T->Wi->Option (T×Val)} (J:eT G) (pa:PlainAttrs T') (slot:Slot T' name id) (hty:typeOf (.builtin id)=pure (.type "method_descriptor")) (hm:MtR X id r) (ok:vI G r f)
  (hT:∀ H v t F l z,Rp G H v t F->f t l=some z->tyV G.K T' v H) (ho:PPl G X o i way) (ha:PVs G X (e :: es) cs) (hK:X.K=G.K)
  (hbase:attributeBase o name X.env (eval o X.env)=eval o X.env)
  (hfew:((backTo cpos (starEach (e :: es) X.env)).all (fun x=>!x.1) && (backToKw cpos (keywordEach [] X.env)).all (fun x=>x.1.isSome)
   && decide ((e :: es).length+([]:List Keyword).length+(if ([]:List Keyword).isEmpty then 0 else 1) < 30))=true)
  (hline:(apos.endLine == cpos.line)=true) (hs:starEach (e :: es) X.env=(false,eval e X.env) :: starEach es X.env) (hplain:(backTo cpos (starEach es X.env)).any (·.1)=false)
  (hsw:swapsWith (.Call (.Attribute o name apos) (e :: es) [] cpos) none pos.line X.env=pure false) :
  PSV G X (.Expr (.Call (.Attribute o name apos) (e :: es) [] cpos) pos) (sX (gv i way f cs)) :=
 PS.weak (jo (qD pa slot hty hm ho ha hbase hfew hline hs hplain) hsw) fun D σ H hq=>by
  obtain ⟨Φ,η,out,s,e,k⟩:=hq
  refine L2.jl fun P_ k_=>?_
  unfold sX gv at e
  obtain ⟨⟨x',η'⟩,e1,e2⟩:=Zu.mp e
  split at e1
  ·rename_i t ht
   obtain ⟨ks,ek,e3⟩:=Zz.mp e1
   obtain ⟨l,el,e4⟩:=Zz.mp e3
   obtain ⟨⟨t',x2⟩,e5,e6⟩:=Zu.mp e4
   cases e6
   cases e2
   obtain ⟨v,h1,h2⟩:=s.rp _ _ ht
   obtain ⟨w,x,F1,x3,w1,w2,w3,w4,w5⟩:=g6 ks J h2 (s.nd i t ht) e5
   refine k_ ?_
   refine ⟨Φ,η,t,ks,v,w,s,ht,h1,ek,w1,fun H0 sm0=>⟨by rw [hK];exact hT H0 w x _ l _ (w2.same sm0) w4,Φ,η,l,s.same sm0,el,fun vs H' Fs q1 q2 q3=>?_⟩⟩
   refine ok Φ η H H' w x x3 F1 l vs Fs x2 _ w2 w3 ⟨sm0.trans q1,q2,⟨fun n v' F' a1 a2=>(q3.each n v' F' a1 a2).back sm0,q3.nd⟩⟩ w4 fun u H2 F' g=>?_
   obtain ⟨F2,g2⟩:=w5 H2 F' g
   obtain ⟨z1,z2⟩:=s.mut ht h1 g2
   exact k _ σ H2 z1 z2
  ·cases e1
end
section
variable {G:Gx} {X:Cx} {e o:Expr} {es:List Expr} {i:Nat} {way:List Stp} {pos pos' p1 apos cpos:Pos} {c:Ex} {cs:Exs} {b:Expr} {k:Nat} {ce ck:Ex}
noncomputable def iI (k v:Val):T->Option (T×Unit)
 | .lst l=>match k.2 with
  | .int n=>(fit v).bind fun t=>(ixP l.length n).map fun j=>(.lst (l.set j t),())
  | _=>none
 | .dct 0 l=>if hV k.2/\imm v.2/\l.length < eO then some (.dct 0 (dput l k.2 v.2),()) else none
 | _=>none
noncomputable def dN (i:Nat) (way:List Stp) (k e:Ex) (η:VS.Env):Option Out:=(e η).bind fun v=>match η[i]? with
 | some (some (.ow t))=>(keys way η).bind fun ks=>(k η).bind fun kv=>(pm (iI kv v) ks t).map fun z=>.nx (η.set i (some (.ow z.1)))
 | _=>none
theorem RpL.putAt {H:Hp}:∀ {vs:List V} {ts:Wg} {Fs:Wu} (j:Nat) {u:V} {x:T} {F:Wr},RpL G H vs ts Fs->Rp G H u x F->RpL G H (vs.set j u) (ts.set j x) (Fs.set j F)
 | _,_,_,_,_,_,_,.nil,_=>.nil
 | _,_,_,0,_,_,_,.cons r q,r'=>.cons r' q
 | _,_,_,j+1,_,_,_,.cons r q,r'=>.cons r (RpL.putAt j q r')
theorem rK {H:Hp} {kk:Key} {xv:V} {t:T} (rv:Rp G H xv t []):∀ {ks:List Key} {vs:List V} {ts:Wg} {Fs:Wu},ks.length=vs.length->RpL G H vs ts Fs →
  ∃ vs' ts' Fs',(ks.zip vs).map (fun kv=>if kv.1=kk then (kv.1,xv) else kv)=ks.zip vs'/\ks.length=vs'.length/\((ks.map aT).zip ts).map (fun p=>if eqT p.1 (aT kk) then (p.1,t) else p)=(ks.map aT).zip ts'/\RpL G H vs' ts' Fs'/\Fs'.flatten.Sublist Fs.flatten
 | [],[],_,_,_,.nil=>⟨[],[],[],rfl,rfl,rfl,.nil,Y5 _⟩
 | k :: ks,v :: vs,_,_,hl,.cons (t:=t0) (F:=F) (ts:=ts) (Fs:=Fs) r q=>by
  obtain ⟨vs',ts',Fs',h1,h2,h3,h4,h5⟩:=rK rv (by simpa using hl) q
  by_cases hk:k=kk
  ·have e:eqT (aT k) (aT kk)=true:=(jd kk k).mpr hk
   refine ⟨xv :: vs',t :: ts',[] :: Fs',?_,by simp [h2],?_,.cons rv h4,?_⟩
   ·rw [Zc,Zn,h1,Zc];simp [hk]
   ·rw [Zn,Zc,Zn,h3,Zc];simp [e]
   ·rw [ZW,ZW]
    exact h5.trans (Yc _ _)
  ·have e:¬ eqT (aT k) (aT kk)=true:=fun z=>hk ((jd kk k).mp z)
   refine ⟨v :: vs',t0 :: ts',F :: Fs',?_,by simp [h2],?_,.cons r h4,?_⟩
   ·rw [Zc,Zn,h1,Zc];simp [hk]
   ·rw [Zn,Zc,Zn,h3,Zc];simp [e]
   ·rw [ZW,ZW]
    exact List.Sublist.append (Y5 _) h5
theorem oQ {kk:Key}:∀ {ks:List Key} {vs:List V} {ts:Wg},ks.length=vs.length->ks.length=ts.length->((ks.zip vs).any fun kv=>decide (kv.1=kk))=(((ks.map aT).zip ts).any fun p=>eqT p.1 (aT kk))
 | [],_,_,_,_=>by simp
 | k :: ks,v :: vs,t :: ts,h1,h2=>by
  rw [Zn,Zc,Zc,Yg,Yg,oQ (by simpa using h1) (by simpa using h2)]
  have:decide (k=kk)=eqT (aT k) (aT kk):=by rw [YA,decide_eq_true_eq];exact (jd kk k).symm
  rw [this]
 | _ :: _,[],_,h,_=>by simp at h
 | _ :: _,_ :: _,[],_,h=>by simp at h
theorem pD {H:Hp} {kk:Key} {xv:V} {t:T} (rv:Rp G H xv t []) {ks:List Key} {vs:List V} {ts:Wg} {Fs:Wu} (hl:ks.length=vs.length) (ra:RpL G H vs ts Fs) :
  ∃ (ks':List Key) (vs':List V) (ts':Wg) (Fs':Wu),putK (ks.zip vs) kk xv=ks'.zip vs'/\ks'.length=vs'.length/\dput ((ks.map aT).zip ts) (aT kk) t=(ks'.map aT).zip ts'/\RpL G H vs' ts' Fs'/\Fs'.flatten.Sublist Fs.flatten:=by
 have an:=oQ (kk:=kk) hl (hl.trans ra.len.1)
 unfold putK dput
 rw [an]
 by_cases h:(((ks.map aT).zip ts).any fun p=>eqT p.1 (aT kk))=true
 ·rw [Zq h,Zq h]
  obtain ⟨vs',ts',Fs',h1,h2,h3,h4,h5⟩:=rK (kk:=kk) rv hl ra
  exact ⟨ks,vs',ts',Fs',h1,h2,h3,h4,h5⟩
 ·rw [Zo h,Zo h]
  refine ⟨ks++[kk],vs++[xv],ts++[t],Fs++[[]],?_,by simp [hl],?_,ra.append (.cons rv .nil),by simp⟩
  ·rw [List.zip_append hl];rfl
  ·rw [Z6,List.zip_append (by rw [Zy];exact hl.trans ra.len.1)];rfl
noncomputable def yZ:yT:=fun o i v H Q=>zp o i v H Q\/∃ a H4,o=.ref a/\pK H a i v H4/\Q H4
theorem vw (hu:X.A.units+1 < cLine):zG X yZ:=by
 intro pins s σ H o i v ov iv u Q I ro ri rv h
 rcases h with h | ⟨a,H4,rfl,g,q⟩
 ·exact set_list pins s σ H o i v ov iv u Q I ro ri rv h
 ·cases ro
  exact rZ hu I g ri rv fun s4 I4=>⟨H4,I4,q⟩
theorem vi {kr:Nat} (J:eT G) (hr:Room kr X.A) (ho:PPl G X o i way) (hk:PV G X b ck) (he:PV G X e ce)
  (ha:∀ v,assign (.Subscript o b pos') X.env v=(do
   let ov ← holding [v] (eval o X.env)
   let iv ← holding [v,ov] (eval b X.env)
   standAt pos'
   holding [v,ov,iv] (setItem ov iv v)
   release [v,ov,iv] [])) (hs:swapsWithSole [.Subscript o b pos'] e pos.line X.env=pure false) (hw:swappedStores [.Subscript o b pos'] e X.env=pure none)
  (h1:(assignEach [.Subscript o b pos'] X.env).map (·.2)=[assign (.Subscript o b pos') X.env]):PSV G X (.Assign [.Subscript o b pos'] e pos) (dN i way ck ce) :=
 PS.weak (pO he (pR ho hk (vw (je hr)) ha) hs hw h1) fun D σ H hq=>by
  obtain ⟨Φ,η,out,s,e,k⟩:=hq
  refine L2.jl fun P_ k_=>?_
  unfold dN at e
  obtain ⟨⟨mv,tv⟩,ev,e⟩:=Zz.mp e
  split at e
  ·rename_i t ht
   obtain ⟨ks,ek,e⟩:=Zz.mp e
   obtain ⟨⟨mk,tk⟩,ekk,e⟩:=Zz.mp e
   obtain ⟨⟨t',y'⟩,e5,e6⟩:=Zu.mp e
   cases e6
   obtain ⟨v,g1,g2⟩:=s.rp _ _ ht
   obtain ⟨w,x,F1,x3,w1,w2,w3,w4,w5⟩:=g6 ks J g2 (s.nd i t ht) e5
   refine k_ ?_
   refine ⟨Φ,η,mv,tv,s,ev,fun xv H1 Fv sm1 rv fv=>?_⟩
   refine ⟨Φ,η,t,ks,v,w,s.same sm1,ht,g1,ek,w1.same sm1,fun H2 sm2=>⟨Φ,η,mk,tk,(s.same sm1).same sm2,ekk,fun kv H3 Fk sm3 rk fk=>?_⟩⟩
   have sm:aJ H H3:=(sm1.trans sm2).trans sm3
   have rv3:Rp G H3 xv tv Fv:=(rv.same sm2).same sm3
   have fin:∀ H4 F',Chg G H w F1 x3 H4 F'->D.nx σ H4:=fun H4 F' g=>by
    obtain ⟨F2,g2'⟩:=w5 H4 F' g
    obtain ⟨z1,z2⟩:=s.mut ht g1 g2'
    exact k _ σ H4 z1 z2
   refine L2.jl fun P_ k_=>?_
   cases x with
   | lst l =>
    cases tk with
    | int n =>
     obtain ⟨tt,et,e7⟩:=Zz.mp (show ((fit (mv,tv)).bind fun t=>(ixP l.length n).map fun j=>(T.lst (l.set j t),()))=some (x3,y') from w4)
     obtain ⟨j,ej,e8⟩:=Zu.mp e7
     cases e8
     have em:=kj et
     cases em
     obtain ⟨a,vs,Fs,rfl,rfl,ha',ra⟩:=w2.lst_inv
     have ha3:H3 a=some (.lst vs):=sm a _ ha'
     have nd:=Zh.mp w3
     have na:a ∉ Fv:=fun z=>by rw [fv.2 a z] at ha';cases ha'
     have m3:Mut (H3 a):=by rw [ha3];exact True.intro
     have off:∀ bb∈Fs.flatten,bb ∉ Fv:=fun bb hb hv=>Mut.ne_none (ra.dom bb hb) (fv.2 bb hv)
     refine k_ ?_
     refine .inl ⟨a,vs,n,j,rfl,rk.int_inv,ha3,by rw [← qb,ra.len.1];exact ej,fin _ (a :: (Fs.set j Fv).flatten) ?_⟩
     have keep:∀ {u:V} {x:T} {F:Wr},Rp G H3 u x F->a ∉ F->Rp G (upd H3 a (.lst (vs.set j xv))) u x F:=fun r hn=>r.keep (Kept.upd (.inl m3)) fun bb hb o' ho'=>by rw [aG (fun z=>hn (by rw [← z];exact hb))];exact ho'
     refine Chg.upd sm Zw m3 (.lst ay ((((ra.same sm).off m3 nd.1)).putAt j (keep rv3 na))) ?_ ?_
     ·rw [Zh]
      refine ⟨fun h=>?_,dR nd.2 fv.1 fun i' F' _ hi bb hb=>off bb (dk hi hb)⟩
      rcases cI h with z | ⟨i',F',_,h1,h2⟩
      ·exact na z
      ·exact nd.1 (dk h1 h2)
     ·intro bb hb
      rcases Zg.mp hb with rfl | hb
      ·exact .inl Zw
      ·rcases cI hb with z | ⟨i',F',_,h1,h2⟩
       ·exact .inr (fv.2 bb z)
       ·exact .inl (Zx _ (dk h1 h2))
    | _=>cases w4
   | dct kd l =>
    cases kd with
    | zero =>
     have hc:(hV tk=true/\imm tv=true/\l.length < eO)/\x3=.dct 0 (dput l tk tv):=by
      have w4':(if hV tk/\imm tv/\l.length < eO then some (T.dct 0 (dput l tk tv),()) else none)=some (x3,y'):=w4
      split at w4'
      ·rename_i hc
       cases w4'
       exact ⟨hc,rfl⟩
      ·cases w4'
     obtain ⟨⟨c1,c2,c3⟩,rfl⟩:=hc
     have eF:=rv3.imm c2
     subst eF
     obtain ⟨a,ns,vs,ts,Fs,rfl,rfl,ha',hl,rfl,ra⟩:=eB w2
     obtain ⟨kk,rfl,ekk'⟩:=dG rk c1
     subst ekk'
     have ha3:H3 a=some (.dK (ns.zip vs)):=sm a _ ha'
     have m3:Mut (H3 a):=by rw [ha3];exact True.intro
     have nd:=Zh.mp w3
     obtain ⟨ks',vs',ts',Fs',q1,q2,q3,q4,q5⟩:=pD (kk:=kk) rv3 hl (ra.same sm)
     have ln:(ns.zip vs).length < sizeLine:=by
      have:((ns.map aT).zip ts).length < 16777216:=c3
      rw [Yw,Zy] at this
      rw [Yw]
      have:=ra.len.1
      have:(sizeLine:Nat)=16777216:=rfl
      lia
     refine k_ ?_
     refine .inr ⟨a,_,rfl,pK.k ha3 ln,fin _ (a :: Fs'.flatten) ?_⟩
     rw [q1,q3]
     refine Chg.upd sm Zw m3 (.dct ay q2 (q4.off m3 fun z=>nd.1 (q5.subset z))) ?_ ?_
     ·exact Zh.mpr ⟨fun z=>nd.1 (q5.subset z),nd.2.sublist q5⟩
     ·intro bb hb
      rcases Zg.mp hb with rfl | hb
      ·exact .inl Zw
      ·exact .inl (Zx _ (q5.subset hb))
    | succ n=>cases w4
   | _=>cases w4
  ·cases e
end
theorem A7 {K:Wt} {H:Hp} {a:Addr} {ns:Wm} (hO:tW H) (hS:SqL K H a (ns.map V.int)):jS K H a ns:=by
 rcases hS with h | h
 ·rcases h with h | h
  ·rcases hO a with z | ⟨o,xs,z⟩
   ·rw [z] at h;cases h
   ·rw [z] at h;cases h
  ·exact .inl h
 ·exact .inr h
theorem Aw {G:Gx} {g:Fn} {H:Hp} {a:Addr} {ns:Wm} {E:XK} (hg:g [.scr ns]=some (.fr,.bl true)) (hO:tW H) (hS:SqL G.K H a (ns.map V.int)):spF G g [.ref a] H (fun v _=>v=.bl true) E :=
 ⟨[.scr ns],[[]],.fr,.bl true,.cons (.scr (A7 hO hS)) .nil,hg,fun v H' F _ r _=>r.bl_inv⟩
noncomputable def gx0 (K:Wt):Gx:=⟨K,fun _=>(0,fun k=>⟨#[k]⟩),none⟩
theorem tZ {l:PySem.W.OpenLaw} {q:Program} {loose:List Str} {XP:(Ws)->Heap->Prop} {d:DefRec} {K:Params->Wt} {g:Fn} {x:Str} {k:Nat} (hn:l.most=some 63) (hdf:d.params.defaults=[]) (hr:Room k callerA)
  (hg:∀ ns:Wm,g [.scr ns]=some (.fr,.bl true))
  (F:∀ (w:World) (mg:Ws) (fa:Addr) (h:Heap),(K w.params).In h->h.Ns mainGlobals mg->mg d.name=some (.ref fa) →
   ∃ fd:FuncData,(∀ (s:Shared) (u:Value),BindsTo s fd ⟨[u],[]⟩ [(x,u)])/\∀ base:Heap,(K w.params).In base->base.Ns mainGlobals mg->FnOk l.prog w (K w.params) mg base CX0 k fa fd [x] (spF (gx0 (K w.params)) g)) :
  PySem.W.WalkO q loose XP (fun w h=>(K w.params).In h) l.row.toRowW d [] (fun f vs=>PySem.call f vs) :=
 L2.yx (n:=63) (k:=k) (x:=x) (CX:=fun _=>CX0) (sp:=fun w=>spF (gx0 (K w.params)) g) hn (by decide) hdf hr (fun _ _ h=>h) F (fun w H a ns _ hO hS=>Aw (G:=gx0 (K w.params)) (hg ns) hO hS) fun _ _ _ _ _ z=>z
end VS
end
section
namespace L2
open PySem PySem.Spec PyProof.Rows
section
variable {X:Cx}
theorem qd (hc:X.calm=true):dD X (.type "list") (fun xs H Q=>∃ x:Str,xs=[.str x]/\x.cps.size<=sizeLine/\∀ l,H l=none->Q (.ref l) (upd H l (.lst (x.cps.toList.map fun c=>V.str ⟨#[c]⟩)))):=by
 intro pins s σ H xs us Q I rx h
 obtain ⟨x,rfl,hz,q⟩:=h
 obtain ⟨u,rfl,t,rfl⟩:=vals1 rx
 refine call_list_str (I.ok.hd hc) x t (fun h' tk acc c kp g ha=>?_) hz
 have hv:aO (x.cps.toList.map fun c=>V.str ⟨#[c]⟩) acc.toList:=by
  have key:∀ (cs:Wo) (vs:Wq),cs.length=vs.length->(∀ (i:Nat) (v:Value),vs[i]?=some v->∃ c u,cs[i]?=some c/\v=.str ⟨#[c]⟩ u)->aO (cs.map fun c=>V.str ⟨#[c]⟩) vs:=by
   intro cs
   induction cs with
   | nil =>
    intro vs hl _
    cases vs with
    | nil=>exact .nil
    | cons v vs=>simp at hl
   | cons c cs ih =>
    intro vs hl hg
    cases vs with
    | nil=>simp at hl
    | cons v vs =>
     obtain ⟨d,u,e1,e2⟩:=hg 0 v rfl
     cases e1
     exact .cons ⟨u,e2⟩ (ih vs (by simpa using hl) fun i w hw=>by simpa using hg (i+1) w (by simpa using hw))
  refine key _ _ (by rw [Yi,Yi,ha.1]) fun i v hi=>?_
  rw [Ym] at hi
  obtain ⟨d,u,e1,e2⟩:=ha.2 i v hi
  exact ⟨d,u,by rw [Ym];exact e1,e2⟩
 refine ⟨.ref s.heap.objs.size,_,I.laid kp (Zl _) (show cq X.prog X.w _ h' _ (.lst (x.cps.toList.map fun c=>V.str ⟨#[c]⟩)) from ⟨by rw [Zy,Yi];exact hz,acc.toList,c,hv,g⟩),rfl,q _ (I.hok.fresh (Zl _))⟩
end
end L2
namespace VS
open PySem PySem.Spec PyProof.Rows L2
section
variable {G:Gx} {X:Cx} {a b c e tg:Expr} {es:List Expr} {ca cb cc ce ck:Ex} {cs:Exs} {pos p p1 p2 apos cpos pos':Pos} {k k' kr:Nat}
@[simp] noncomputable def gL:Wi->Wh
 | [(m,.lst l)]=>mkL m l
 | [(m,.tup l)]=>mkL m l
 | [(_,.str s)]=>mkL .fr (s.map fun c=>.str [c])
 | _=>none
theorem uc:eP G (fun xs H Q=>zc G.K xs H Q\/∃ x:Str,xs=[.str x]/\x.cps.size<=sizeLine/\∀ l,H l=none->Q (.ref l) (upd H l (.lst (x.cps.toList.map fun c=>V.str ⟨#[c]⟩)))) gL:=by
 intro Φ η H0 H l vs Fs m t Q A e k
 unfold gL at e
 split at e
 ·exact .inl (rM Φ η H0 H _ vs Fs m t Q A e k)
 ·exact .inl (rM Φ η H0 H _ vs Fs m t Q A e k)
 ·rename_i mx x
  obtain ⟨v,F,rfl,rfl,rx⟩:=(show RpL G H vs [.str x] Fs from A.rp).one
  have ts:=rx.str_inv.2
  refine .inr ⟨sx x,by rw [rx.str_inv.1],?_,fun q hq=>?_⟩
  ·have:=ts.1
   simp only [sx,Za]
   exact this
  ·have ec:(sx x).cps.toList.map (fun c=>V.str ⟨#[c]⟩)=(x.map fun c=>[c]).map fun s=>V.str (sx s):=by
    simp [sx]
   have et:(x.map fun c=>T.str [c])=(x.map fun c=>[c]).map T.str:=by simp
   rw [ec]
   rw [et] at e
   have r0:=qc (G:=G) (H:=H) (ss:=x.map fun c=>[c]) fun s hs=>by
    obtain ⟨c,hc,rfl⟩:=ZG.mp hs
    exact ⟨by show 1<=eO;decide,fun y hy=>by rw [Zb.mp hy];exact ts.2 c hc⟩
   refine ie A.same e r0 ?_ k q hq
   rw [ox]
   exact Fp.nil
 ·cases e
theorem xx (hm:X.mg "list" = none) (ha:PVs G X [e] cs) (hg:Gl X "list" := by rfl) (hK:X.K=G.K:=by rfl) (hc:X.calm=true:=by rfl) (he:starEach [e] X.env=(false,eval e X.env) :: starEach [] X.env:=by rfl):PV G X (.Call (.Name "list" p) [e] [] pos) (eN gL cs) :=
 jC (nr.or (qd hc)) (hK ▸ uc) hg hm xQ ha (he:=he) (hpl:=rfl)
end
end VS
end
section
open PySem PyProof.Rows
namespace TS
variable {prog:Program} {w:World} {A:Around} {E:Ww} {s:Shared}
end TS
end
section
namespace ST
open PySem PySem.Spec PyProof.Rows
variable {prog:Program} {w:World} {A:Around} {E:Ww} {s:Shared}
noncomputable abbrev dO (es:Array DictEntry) (ep:Nat):Obj:={ cls:=.type "dict",data:=.dict es ep }
noncomputable abbrev kO (d:Addr) (i n ep:Nat):Obj:={ cls:=.type "dict_keyiterator",data:=.fields #[.ref d,.int i 0,.int n 0,.int ep 0] }
theorem uh {d:Addr} {es:Array DictEntry} {ep:Nat} {Q:Ww} (hd:(d == sysModules)=false) (hm:s.heap.get? d=some (dO es ep)) (q:Q (.ref s.heap.objs.size) { s with heap:=s.heap.push (kO d 0 es.size ep) }) :
  wpAny (model prog w) A (pyIter (.ref d)) Q E s:=by
 have ty:s.TypeIs (.ref d) "dict" := ⟨_,hm,rfl⟩
 refine wpAny_pyIter_slot ty F.slot_dict_iter (Y0 F.slot_dict_iter ty F.entry_dict_iter (show wpAny _ _ (Builtin.«dict.__iter__» _) _ _ _ from ?_) (F.args_dict_iter_1 _))
 unfold Builtin.«dict.__iter__» Builtin.Dict.dictSlotNone Builtin.Dict.showsAll
 refine Zs (Zs (wpAny_notOrdered_dict ty (show wpAny _ _ (pure (Value.ref d)) _ _ s from Zj (Zs (m:=Builtin.Dict.addrOf (.ref d)) (Zj ?_)))))
 rw [Zo (by rw [hd];exact Ze)]
 exact Zs (Zj (Zs (wpAny_dictEntries hm rfl (Zs (wpAny_dictEpoch hm rfl (Zs (Yh (Zj ⟨_,rfl, "dict_keyiterator",_,⟨_,ZM _ rfl,rfl⟩,YH.lookup,q⟩))))))))
theorem oC {I d:Addr} {i ep:Nat} {es:Array DictEntry} {Q:Wp->Shared->Prop} (hh:A.handled=none) (hI:s.heap.get? I=some (kO d i es.size ep)) (hm:s.heap.get? d=some (dO es ep))
  (h1:∀ e,es[i]?=some e->∀ h',Heap.SameBut I s.heap h'->h'.get? I=some (kO d (i+1) es.size ep)->Q (some e.key) { s with heap:=h' })
  (h2:es[i]?=none->∀ h',(∀ b o,b ≠ I->s.heap.get? b=some o->h'.get? b=some o)->Q none { s with heap:=h' }):wpAny (model prog w) A (pyNext (.ref I)) Q E s:=by
 have ty:s.TypeIs (.ref I) "dict_keyiterator" := ⟨_,hI,rfl⟩
 unfold pyNext
 refine Zs (wpAny_attempt (XS (name:=Str.ofString "__next__") ty YH (Y0 YH ty F.entry_dict_keyiterator_next (YL
  (Q:=fun f s'=>∃ v,f=.done (.ret v)/\Q (some v) s') (E:=fun e s'=>∃ x,e=.ref x/\(∃ o,s'.heap.get? x=some o/\o.cls=.type "StopIteration")/\Q none s') ?_ (fun f s' ⟨v,e,q⟩=>⟨v,e,Zj q⟩) fun e s' ⟨x,e1,⟨o,g,c⟩,q⟩=>?_) (F.args_dict_keyiterator_next_1 _))))
 ·refine Zs (Zj (Zs (Zs (Zs (Xp ty (Zj (Zs (wpAny_fieldsOf hI rfl ?_))))))))
  have own:Builtin.Dict_items.ownsTuple "dict_keyiterator" = false:=rfl
  simp only [own,Y2,↓reduceIte]
  refine (show wpAny _ _ (if (Value.ref d == Value.none)=true then _ else _) _ _ s from ?_)
  rw [Zo (fun e:(Value.ref d == Value.none)=true=>Ze e)]
  refine Zs (Zj (Zs (wpAny_dictEntries hm rfl ?_)))
  rw [Zo (by simp)]
  refine Zs (Zj (Zs (wpAny_dictEpoch hm rfl ?_)))
  rw [Zo (by simp)]
  refine Zj ?_
  simp only [show ¬ ((i:Int) < 0) from by lia,↓reduceIte,Xm]
  cases he:es[i]? with
  | some e =>
   dsimp only
   have g1:(s.heap.update I (Obj.mapFields (·.setIfInBounds 1 (rawInt ((i:Int)+1))))).get? I=some (kO d (i+1) es.size ep):=Heap.get?_update_self _ hI rfl
   refine Zs (Zs (Xp ty (Zj (Zs (wpAny_isOneOf_keyiter ty ?_)))))
   refine (show wpAny _ _ (setField (.ref I) 1 (rawInt ((i:Int)+1)) >>= _) _ _ s from Zs (wpAny_setField hI rfl (by show 1 < 4;decide) (Zs (Y3 ?_))))
   refine Zs (wpAny_isOneOf_keyiter (s:={ s with heap:=s.heap.update I (Obj.mapFields (·.setIfInBounds 1 (rawInt ((i:Int)+1)))) }) ⟨_,g1,rfl⟩ ?_)
   refine (show wpAny _ _ (pure e.key) _ _ _ from Zj (Zj ⟨_,rfl,h1 e he _ (Heap.SameBut.update ..) g1⟩))
  | none =>
   dsimp only
   refine Zs (Zs (Xp ty (Zj ?_)))
   refine (show wpAny _ _ (setField (.ref I) 0 .none >>= _) _ _ s from Zs (wpAny_setField hI rfl (by show 0 < 4;decide) (Df hh fun h' x kp hx=>⟨x,rfl,hx,h2 he h' fun b o hb e=>kp b o ?_⟩)))
   rw [XI _ _ (YV hb)]
   exact e
 ·subst e1
  exact Zs (wpAny_isInstance (T := "StopIteration") (b:=true) ⟨o,g,c⟩ isSubtype_stop (Zj q))
end ST
end
section
namespace L2
open PySem PySem.Spec PyProof.Rows TS
end L2
end
section
namespace VS
open PySem PySem.Spec PyProof.Rows L2 TS
section
variable {G:Gx} {X:Cx} {a b c e tg:Expr} {es:List Expr} {ca cb cc ce ck:Ex} {cs:Exs} {pos p p1 p2 apos cpos pos':Pos} {k k' kr:Nat}
noncomputable def zD:T->Bool
 | .tup l=>l.all hV
 | _=>false
@[simp] noncomputable def DR (x y:Val):Wh:=match y.2 with
 | .dct 1 l=>if zD x.2 then some (.fr,.bl (dI l x.2).isSome) else none
 | .lst l=>if zD x.2 && l.all zD then some (.fr,.bl (l.any fun z=>eqT z x.2)) else none
 | _=>none
@[simp] noncomputable def Dy (x y:Val):Wh:=match DR x y with
 | some (_,.bl b)=>some (.fr,.bl (!b))
 | _=>none
end
end VS
namespace VS
open PySem PySem.Spec PyProof.Rows L2
end VS
end
section
namespace L2
open PySem PySem.Spec PyProof.Rows
end L2
namespace VS
open PySem PySem.Spec PyProof.Rows L2
end VS
end
section
namespace L2
open PySem PySem.Spec PyProof.Rows
end L2
namespace VS
open PySem PySem.Spec PyProof.Rows L2
end VS
end
section
namespace L2
open PySem PySem.Spec PyProof.Rows
section
variable {X:Cx} {tg:Expr} {pos:Pos}
theorem uK {o:Obj} {es:Array DictEntry} {ep:Nat} (h:o.ExactDict) (e:o.data=.dict es ep):o=ST.dO es ep:=by
 obtain ⟨c,d,dt,sl⟩:=o
 obtain ⟨h1,h2,h3⟩:=h
 simp only at h1 h2 h3 e
 subst h1 h2 h3 e
 rfl
end
end L2
namespace VS
open PySem PySem.Spec PyProof.Rows L2
end VS
end
section
open PySem PyProof.Rows
namespace TS
variable {prog:Program} {w:World} {A:Around} {E:Ww} {s:Shared} {G:Keyed->Prop} {r:Keyed->Keyed->Bool}
end TS
end
section
open PySem PyProof.Rows
namespace TS
variable {prog:Program} {w:World} {A:Around} {E:Ww} {s:Shared}
end TS
end
section
namespace L2
open PySem PySem.Spec PyProof.Rows TS
end L2
end
section
namespace VS
open PySem PySem.Spec PyProof.Rows L2 TS
end VS
end
section
namespace L2
open PySem PySem.Spec PyProof.Rows
end L2
namespace VS
open PySem PySem.Spec PyProof.Rows L2
section
variable {G:Gx} {X:Cx} {e b:Expr} {cs:Exs} {cb:Ex} {pos p p1 p2 kp apos cpos:Pos} {k k' kr:Nat} {x:Str} {ps:List Str} {g:Fn}
theorem lN {a b c:Expr} {ca cb cc:Ex} (ha:PV G X a ca) (hb:PV G X b cb) (hc:PV G X c cc) (hm:lastMarks [.LtE,.Lt] [b,c]=false):PVT G X (.Compare a [.LtE,.Lt] [b,c] pos) (iH oLe oLt ca cb cc) :=
 PT.weak (v9 tN vh ha hb hc hm) fun σ H Q h=>nX h (fun η m r e=>by
  unfold iH at e
  obtain ⟨x,ea,e⟩:=Zz.mp e
  obtain ⟨y,eb,e⟩:=Zz.mp e
  obtain ⟨⟨mz,z⟩,ez,e⟩:=Zz.mp e
  cases z with
  | bl q =>
   cases q with
   | false=>cases e;exact ⟨_,rfl⟩
   | true =>
    obtain ⟨z2,ec,e⟩:=Zz.mp (show (cc η).bind (fun z=>oLt y z)=some (m,r) from e)
    exact kS y z2 m r e
  | _=>cases e) fun Q h=>t5 zt zi h
theorem An {ce:Ex} (h:PV G X e ce) (hsw:swapsWith e none pos.line X.env=pure false):PSV G X (.Expr e pos) (sX (xP ce)) :=
 PS.weak (jo h hsw) fun D σ H hq=>by
  obtain ⟨Φ,η,out,s,e,k⟩:=hq
  unfold sX xP at e
  obtain ⟨⟨v,η'⟩,e1,e2⟩:=Zu.mp e
  obtain ⟨⟨m,t⟩,e3,e4⟩:=Zu.mp e1
  cases e4
  cases e2
  exact ⟨Φ,η,m,t,s,e3,fun v H' F e1 r1 f1=>k Φ σ H' (s.same e1) (Frm.same e1)⟩
@[simp] noncomputable def Ef (i:Nat) (c:Ex) (as:Exs) (η:VS.Env):Option (Val×VS.Env):=match η[i]? with
 | some (some (.ow (.lst l)))=>(c η).bind fun kv=>(int? kv.2).bind fun n=>(ixP l.length n).bind fun j=>(l[j]?).bind fun x=>(as η).bind fun xs=>(aD x xs).map fun z=>(z.2,η.set i (some (.ow (.lst (l.set j z.1)))))
 | _=>none
end
section
variable {G:Gx} {X:Cx} {a b e:Expr} {ca ck ce:Ex} {pos pos' p1:Pos} {kr:Nat}
theorem AK {j pos'} (ha:PV G X a ca):PVT G X (.Compare a [.Is] [.Constant .none j pos'] pos) (qi ca) :=
 PT.weak (uZ (zY ha)) fun σ H Q h=>zh h (fun η m r e=>by
  unfold qi at e
  obtain ⟨x,_,e⟩:=Zz.mp e
  cases e
  exact ⟨_,rfl⟩) fun Q hq=>by
   obtain ⟨Φ,η,m,r,s,e,q⟩:=hq
   unfold qi at e
   obtain ⟨⟨n,x⟩,ea,e⟩:=Zz.mp e
   cases e
   refine ⟨Φ,η,n,x,s,ea,fun v H' F e1 r1 f1=>?_⟩
   show Q (.bl (decide (v=.non))) H'
   rw [qy r1]
   exact q _ H' _ e1 (.bl _) Fp.nil
theorem xN {j pos'} (ha:PV G X a ca):PVT G X (.Compare a [.IsNot] [.Constant .none j pos'] pos) (eW ca) :=
 PT.weak (uZ (wI ha)) fun σ H Q h=>zh h (fun η m r e=>by
  unfold eW at e
  obtain ⟨x,_,e⟩:=Zz.mp e
  cases e
  exact ⟨_,rfl⟩) fun Q hq=>by
   obtain ⟨Φ,η,m,r,s,e,q⟩:=hq
   unfold eW at e
   obtain ⟨⟨n,x⟩,ea,e⟩:=Zz.mp e
   cases e
   refine ⟨Φ,η,n,x,s,ea,fun v H' F e1 r1 f1=>?_⟩
   show Q (.bl (!decide (v=.non))) H'
   rw [qy r1]
   exact q _ H' _ e1 (.bl _) Fp.nil
noncomputable def iB (i:Nat) (k e:Ex) (η:VS.Env):Option Out:=(e η).bind fun v=>match η[i]? with
 | some (some (.ow (.dct 0 l)))=>(k η).bind fun kv=>if hV kv.2/\imm v.2/\l.length < eO then some (.nx (η.set i (some (.ow (.dct 0 (dput l kv.2 v.2)))))) else none
 | _=>none
theorem AW (i:Nat) {x:Str} (hr:Room kr X.A) (hk:PV G X b ck) (he:PV G X e ce) (hN:X.N[i]?=some x) (hv:Vis X.env.scope x) (hd:(x == ("__debug__" : Str))=false) (hcd:(x == ("__classdict__" : Str))=false)
  (ha:∀ v,assign (.Subscript (.Name x p1) b pos') X.env v=(do
   let ov ← holding [v] (eval (.Name x p1) X.env)
   let iv ← holding [v,ov] (eval b X.env)
   standAt pos'
   holding [v,ov,iv] (setItem ov iv v)
   release [v,ov,iv] [])) (hs:swapsWithSole [.Subscript (.Name x p1) b pos'] e pos.line X.env=pure false) (hw:swappedStores [.Subscript (.Name x p1) b pos'] e X.env=pure none)
  (h1:(assignEach [.Subscript (.Name x p1) b pos'] X.env).map (·.2)=[assign (.Subscript (.Name x p1) b pos') X.env]):PSV G X (.Assign [.Subscript (.Name x p1) b pos'] e pos) (iB i ck ce) :=
 PS.weak (pO he (pR (gH hN hv hd hcd) hk (vw (je hr)) ha) hs hw h1) fun D σ H hq=>by
  obtain ⟨Φ,η,out,s,e,k⟩:=hq
  unfold iB at e
  obtain ⟨⟨mv,tv⟩,ev,e⟩:=Zz.mp e
  split at e
  ·rename_i l ht
   obtain ⟨⟨mk,tk⟩,ekk,e⟩:=Zz.mp e
   split at e
   ·rename_i hc
    obtain ⟨c1,c2,c3⟩:=hc
    cases e
    obtain ⟨w,g1,w2⟩:=s.rp _ _ ht
    have w3:=s.nd i _ ht
    refine ⟨Φ,η,mv,tv,s,ev,fun xv H1 Fv sm1 rv fv=>⟨w,g1,Φ,η,mk,tk,s.same sm1,ekk,fun kv H3 Fk sm3 rk fk=>?_⟩⟩
    have sm:aJ H H3:=sm1.trans sm3
    have rv3:Rp G H3 xv tv Fv:=rv.same sm3
    have eF:=rv3.imm c2
    subst eF
    obtain ⟨a,ns,vs,ts,Fs,rfl,eF1,ha',hl,rfl,ra⟩:=eB w2
    rw [eF1] at w3
    obtain ⟨kk,rfl,ekk'⟩:=dG rk c1
    subst ekk'
    have ha3:H3 a=some (.dK (ns.zip vs)):=sm a _ ha'
    have m3:Mut (H3 a):=by rw [ha3];exact True.intro
    have nd:=Zh.mp w3
    obtain ⟨ks',vs',ts',Fs',q1,q2,q3,q4,q5⟩:=pD (kk:=kk) rv3 hl (ra.same sm)
    have ln:(ns.zip vs).length < sizeLine:=by
     have:((ns.map aT).zip ts).length < 16777216:=c3
     rw [Yw,Zy] at this
     rw [Yw]
     have:=ra.len.1
     have:(sizeLine:Nat)=16777216:=rfl
     lia
    refine .inr ⟨a,_,rfl,pK.k ha3 ln,?_⟩
    have g:Chg G H (.ref a) (Φ i) (.dct 0 (dput ((ns.map aT).zip ts) (aT kk) tv)) (upd H3 a (.dK (putK (ns.zip vs) kk xv))) (a :: Fs'.flatten):=by
     rw [eF1,q1,q3]
     refine Chg.upd sm Zw m3 (.dct ay q2 (q4.off m3 fun z=>nd.1 (q5.subset z))) ?_ ?_
     ·exact Zh.mpr ⟨fun z=>nd.1 (q5.subset z),nd.2.sublist q5⟩
     ·intro bb hb
      rcases Zg.mp hb with rfl | hb
      ·exact .inl Zw
      ·exact .inl (Zx _ (q5.subset hb))
    obtain ⟨z1,z2⟩:=s.mut ht g1 g
    exact k _ σ _ z1 z2
   ·cases e
  ·cases e
end
end VS
end
section
namespace DP
open PySem PySem.Spec PyProof.Rows
variable {prog:Program} {w:World} {A:Around} {E:Ww}
end DP
end
section
namespace DP
open PySem PySem.Spec PyProof.Rows L2
variable {prog:Program} {w:World} {A:Around} {E:Ww}
end DP
end
section
namespace DP
open PySem PySem.Spec PyProof.Rows L2
variable {prog:Program} {w:World} {A:Around} {E:Ww} {s:Shared}
end DP
end
section
namespace L2
open PySem PySem.Spec PyProof.Rows
end L2
end
section
namespace VS
open PySem PySem.Spec PyProof.Rows L2
section
variable {G:Gx} {X:Cx} {e:Expr} {cs:Exs} {p pos:Pos}
theorem yp:bootBuiltins ("dict" : Str)=some (.type "dict"):=by decide +kernel
@[simp] noncomputable def Ei:Wi->Wh
 | [(_,.int i)]=>some (.fr,.int i)
 | [(_,.bl b)]=>some (.fr,.int (if b then 1 else 0))
 | _=>none
end
end VS
end
section
namespace L2
open PySem PySem.Spec PyProof.Rows
section
variable {X:Cx} {pins:Wv} {σ:St} {H:Hp} {s:Shared}
theorem nz {d:Addr} {kvs:List (Key×V)} {o:Obj} (I:Inv X pins σ H s) (e:H d=some (.dK kvs)) (g:s.heap.get? d=some o):Inv X pins σ (upd H d (.frz o (.dK kvs))) s :=
 ki (t':=s.toks) I (by rw [e];exact True.intro) ⟨rfl,fun _ _=>rfl⟩ ⟨o,g⟩ ⟨g,I.hok d _ e⟩
end
noncomputable def Itk (d:Addr) (o:Obj) (kvs:List (Key×V)):It :=
 ⟨fun i H=>H d=some (.frz o (.dK kvs))/\i < kvs.length,fun i H x H'=>H'=H/\∃ p,kvs[i]?=some p/\x=kV p.1,fun i H=>H d=some (.frz o (.dK kvs))/\kvs.length<=i⟩
theorem xU {k:Key} {v:Value} (h:jU k v=true):RelV (kV k) v:=by
 rcases bJ h with ⟨i,t,rfl,rfl⟩ | ⟨x,t,rfl,rfl⟩
 ·exact ⟨t,rfl⟩
 ·exact ⟨t,rfl⟩
theorem mQ {P:Program} {w:World} {es:List DictEntry} {m:List (Key×Value)} (r:Pairs (bB P w) es m) {i:Nat} {e:DictEntry} (h:es[i]?=some e):∃ q,m[i]?=some q/\jU q.1 e.key=true:=by
 induction r generalizing i with
 | nil=>simp at h
 | @cons e' kv es kvs h1 h2 _ ih =>
  cases i with
  | zero =>
   simp at h
   subst h
   exact ⟨kv,rfl,h1⟩
  | succ i=>simpa using ih (by simpa using h)
theorem Bj {l:List (Key×V)} {m:List (Key×Value)} (r:KV l m) {i:Nat} {q:Key×Value} (h:m[i]?=some q):∃ p,l[i]?=some p/\p.1=q.1:=by
 induction r generalizing i with
 | nil=>simp at h
 | @cons p' q' ps qs hq t ih =>
  cases i with
  | zero=>simp at h;subst h;exact ⟨p',rfl,hq.1⟩
  | succ i=>simpa using ih (by simpa using h)
section
variable {X:Cx} {tg:Expr} {pos:Pos}
theorem BL {P:Program} {w:World} {K:Wt} (d it:Addr) {kvs:List (Key×V)} {es:Array DictEntry} {ep:Nat} {xs:List (Key×Value)} (rel:KV kvs xs) (he:Pairs (bB P w) es.toList xs) :
  Turn P w K tg (Itk d (ST.dO es ep) kvs) [it] it (fun i h=>h.get? it=some (ST.kO d i es.size ep)) where
 mem:=by simp
 obj:=fun i h st b hb=>by
  rw [Zb.mp hb]
  exact ⟨_,st,fun v z=>by cases z⟩
 keep:=fun i h h' st k=>k it (by simp) _ st
 item:=by
  intro X hP hw hK hc i pins s σ H E I hf st hg
  subst hP hw hK
  obtain ⟨f0,f1,f2,f3,f4,f5⟩:=hf it (by simp)
  refine ST.oC (I.ok.hd hc) st (show s.heap.get? d=some (ST.dO es ep) from (I.hok d _ hg.1).1) (fun e hi h' sb g=>?_) fun hn=>?_
  ·have I1:Inv X pins σ H { s with heap:=h' }:=I.turned (t':=s.toks) (fun b o hb e=>(sb.2 b hb).trans e) f0 f1 f3 f4 f5
   rw [← Ym] at hi
   obtain ⟨q,hq,hk⟩:=mQ he hi
   obtain ⟨p,hp,hb⟩:=Bj rel hq
   exact ⟨_,rfl,oV (s:={ s with heap:=h' }) g rfl rfl rfl ⟨kV p.1,H,I1,by rw [hb];exact xU hk,⟨rfl,p,hp,rfl⟩,g,fun b hb=>(hf b hb).1⟩⟩
  ·exfalso
   rw [← Ym,Yv,he.length,← Y4 rel] at hn
   exact absurd hg.2 (by lia)
 done:=by
  intro X hP hw hK hc i pins s σ H E I hf st hg
  subst hP hw hK
  obtain ⟨f0,f1,f2,f3,f4,f5⟩:=hf it (by simp)
  refine ST.oC (I.ok.hd hc) st (show s.heap.get? d=some (ST.dO es ep) from (I.hok d _ hg.1).1) (fun e hi h' sb g=>?_) fun hn h' kp=>⟨rfl,I.turned (t':=s.toks) (fun b o hb e=>kp b o hb e) f0 f1 f3 f4 f5⟩
  exfalso
  rw [← Ym] at hi
  obtain ⟨q,hq,hk⟩:=mQ he hi
  have:=(Zd.mp hq).1
  have h2:=hg.2
  rw [Y4 rel] at h2
  lia
 self:=fun _ _ _ _ _ st hQ=>wpAny_pyIter_slot ⟨_,st,rfl⟩ F.slot_dict_keyiterator_iter (Y0 F.slot_dict_keyiterator_iter ⟨_,st,rfl⟩ F.entry_dict_keyiterator_iter (show wpAny _ _ (ret (.ref it)) _ _ _ from Zj ⟨_,rfl, "dict_keyiterator",_,⟨_,st,rfl⟩,YH.lookup,hQ⟩) (F.args_dict_keyiterator_iter_1 _))
noncomputable def iDk (tl:TE):TI:=fun σ H R=>tl σ H fun x H1=>∃ d kvs,x=.ref d/\H1 d=some (.dK kvs)/\∀ o,R (Itk d o kvs) (upd H1 d (.frz o (.dK kvs)))
theorem B1 {l:Expr} {tl:TE} (hl:PE X l tl):PI X tg l (iDk tl):=by
 intro pins s σ H R I h
 refine thn (hl pins s σ H _ I h) fun v s1 ⟨x,H1,I1,r1,q1⟩=>?_
 obtain ⟨d,kvs,ex,e,q⟩:=q1
 subst ex
 cases r1
 obtain ⟨z,y,xs,rel,o,es,ep,g,ex,hd,_,he,hn⟩:=oG I1.hok e
 have eo:=uK ex hd
 subst eo
 refine ST.uh y g ?_
 refine ⟨s1.heap.objs.size,[s1.heap.objs.size],_,_,_,rfl,(nz I1 e g).kept (t':=s1.toks) fun b o e=>Zi _ e,BL d _ rel he,ZM _ rfl,fun b hb=>?_,q _⟩
 have eb:b=s1.heap.objs.size:=by simpa using hb
 subst eb
 exact (nz I1 e g).fpOk (Zl _) ((nz I1 e g).hok.fresh (Zl _))
end
end L2
namespace VS
open PySem PySem.Spec PyProof.Rows L2
noncomputable def sca:T->Bool
 | .non=>true
 | .bl _=>true
 | .int _=>true
 | .str _=>true
 | _=>false
theorem yr {G:Gx} {H H':Hp} {v:V} {t:T} {F:Wr} (h:sca t=true) (r:Rp G H v t F):F=[]/\Rp G H' v t []:=by
 cases r with
 | non=>exact ⟨rfl,.non⟩
 | bl b=>exact ⟨rfl,.bl b⟩
 | int i=>exact ⟨rfl,.int i⟩
 | str s ok=>exact ⟨rfl,.str s ok⟩
 | _=>cases h
end VS
end
section
namespace L2
open PySem PySem.Spec PyProof.Rows
noncomputable def pick {α:Type} (l:List α) (is:Wo):List α:=is.filterMap (l[·]?)
noncomputable def DZ {α:Type} (l:List α) (lo hi st:Option Int):List α:=pick l (sliceRange (sliceBounds lo hi st l.length).1 (sliceBounds lo hi st l.length).2.1 (sliceBounds lo hi st l.length).2.2)
end L2
namespace VS
open PySem PySem.Spec PyProof.Rows L2
section
variable {G:Gx} {X:Cx} {a:Expr} {ca:Ex} {pos:Pos}
noncomputable def sl3 (x:Val) (l h c:Option Int):Wh:=match x with
 | (_,.lst ts)=>if ts.all sca/\c ≠ some 0 then some (.fr,.lst (DZ ts l h c)) else none
 | _=>none
end
end VS
end
section
namespace L2
open PySem PySem.Spec PyProof.Rows
end L2
namespace VS
open PySem PySem.Spec PyProof.Rows L2
end VS
end
section
namespace ST
open PySem PySem.Spec PyProof.Rows
variable {prog:Program} {w:World} {A:Around} {E:Ww} {s:Shared}
end ST
namespace L2
open PySem PySem.Spec PyProof.Rows TS
end L2
namespace VS
open PySem PySem.Spec PyProof.Rows L2
end VS
end
section
namespace L2
theorem Bo {α:Type} {n:Nat} {us:List α} (hl:us.length=n+1):∃ a t,us=a :: t/\t.length=n:=by
 obtain ⟨a,t,e⟩:=List.exists_cons_of_length_eq_add_one hl
 subst e
 exact ⟨a,t,rfl,Nat.succ.inj hl⟩
theorem kR {α:Type} {us:List α} (hl:us.length=1):∃ a,us=[a]:=List.length_eq_one_iff.mp hl
theorem fo {α:Type} {us:List α} (hl:us.length=2):∃ a b,us=[a,b]:=by
 obtain ⟨a,t,rfl,ht⟩:=Bo hl
 obtain ⟨b,rfl⟩:=kR ht
 exact ⟨a,b,rfl⟩
theorem sg {α:Type} {us:List α} (hl:us.length=3):∃ a b c,us=[a,b,c]:=by
 obtain ⟨a,t,rfl,ht⟩:=Bo hl
 obtain ⟨b,c,rfl⟩:=fo ht
 exact ⟨a,b,c,rfl⟩
theorem Cp {α:Type} {us:List α} (hl:us.length=4):∃ a b c d,us=[a,b,c,d]:=by
 obtain ⟨a,t,rfl,ht⟩:=Bo hl
 obtain ⟨b,c,d,rfl⟩:=sg ht
 exact ⟨a,b,c,d,rfl⟩
end L2
end
section
namespace ST
open PySem PySem.Spec PyProof.Rows
variable {prog:Program} {w:World} {A:Around} {E:Ww} {s:Shared}
end ST
namespace VS
end VS
namespace VS
open PySem PySem.Spec PyProof.Rows L2
end VS
end
section
namespace XN
open PySem PySem.Spec PyProof.Rows L2
end XN
end
section
namespace VS
open PySem PySem.Spec PyProof.Rows L2 XN
inductive Res where | ok (v:Val) | ex (x:Str)
inductive OutX where | ok (o:Out) | ex (x:Str) (η:VS.Env)
noncomputable abbrev ExX:=VS.Env->Option Res
noncomputable abbrev SxX:=VS.Env->Option OutX
end VS
end
section
namespace XN
open PySem PySem.Spec PyProof.Rows L2
end XN
namespace VS
open PySem PySem.Spec PyProof.Rows L2 XN
end VS
end
section
namespace XN
open PySem PySem.Spec PyProof.Rows L2
end XN
namespace VS
open PySem PySem.Spec PyProof.Rows L2 XN
end VS
end
section
namespace XN
open PySem PySem.Spec PyProof.Rows L2 PySem.W
end XN
namespace VS
open PySem PySem.Spec PyProof.Rows L2 XN
end VS
end
section
namespace VS
open PySem PySem.Spec PyProof.Rows L2 XN PySem.F
section
variable {P:Program} {w:World} {K:Wt} {mg:Ws} {base:Heap}
noncomputable def yC:Fn:=fun ts=>match ts with
 | [.scr _]=>some (.fr,.bl true)
 | _=>none
end
end VS
end
section
namespace VS
open PySem PySem.Spec PyProof.Rows L2 XN
end VS
end
section
namespace VS
open PySem PySem.Spec PyProof.Rows L2
end VS
end
section
namespace VS
open PySem PySem.Spec PyProof.Rows L2 PySem.Builtin.Str PySem.StrLaws
end VS
end
section
namespace VS
open PySem PySem.Spec PyProof.Rows L2 XN
end VS
end
section
namespace L2
open PySem PySem.Spec PyProof.Rows
end L2
namespace VS
open PySem PySem.Spec PyProof.Rows L2
end VS
end
section
namespace TS
open PySem PySem.Spec PyProof.Rows
variable {prog:Program} {w:World} {A:Around} {E:Ww} {s:Shared}
theorem rO {us:Wq} (hv:∀ v∈us,∃ x t,v=Value.str x t) {xs:Array Keyed} (hp:xs.Perm (pairsOf us)) (hs:SortedToK strKind xs (pairsOf us).size):((xs.map (·.2)).toList.map strOf).Pairwise (fun a b=>¬ b.cps.toList < a.cps.toList):=by
 obtain ⟨p1,p2⟩:=mn hp
 rw [Xn,List.pairwise_iff_getElem]
 intro i j hi hj hij
 have key:∀ i (h:i < (xs.map (·.2)).toList.length),KK strKind xs i=(strOf (xs.map (·.2)).toList[i]).cps.toList:=fun i h=>by
  have e:xs[i]?=some ((xs.map (·.2)).toList[i],(xs.map (·.2)).toList[i]):=by
   rw [← Ym,← p2,ZO,Zm h]
   rfl
  obtain ⟨x,t,ex⟩:=hv _ (p1.mem_iff.mp (Yy h))
  unfold KK
  rw [e]
  rw [ex]
  rfl
 have q:=hs i j (X0 hij) (by rw [← hp.size_eq];simpa using hj)
 rw [key i hi,key j hj] at q
 exact of_decide_eq_false q
theorem m6 {x:Value} {Q:Ww}
  (hcol:∀ (A':Around) (E':Ww),A'.handled=A.handled->wpAny (model prog w) A' (collect x) (fun us s1=>(∀ v∈us,∃ x t,v=Value.str x t)/\us.length < 64/\∀ (out:Wq) (h':Heap) (e:Nat),out.Perm us->(out.map strOf).Pairwise (fun a b=>¬ b.cps.toList < a.cps.toList)->(∀ b o,s1.heap.get? b=some o->h'.get? b=some o)->h'.get? s1.heap.objs.size=some (seqObj "list" out.toArray e)->Q (.ref s1.heap.objs.size) { s1 with heap:=h' }) E' s) :
  wpAny (model prog w) A (call (.builtin "sorted") [x]) Q E s:=by
 refine Calls.call_function_entry kind_sorted plain_sorted entry_sorted (args_sorted1 _) (show wpAny _ _ (Builtin.«sorted» _) _ _ _ from ?_)
 unfold Builtin.«sorted»
 refine Zs (m:=checkCount "sorted" 1 1 _) (Zj (Zs (YL (hcol A.in1 (fun _ _=>False) rfl) ?_ fun _ _ e=>e.elim)))
 rintro vs s1 ⟨hv,h64,h⟩
 refine Zs (wpAny_newList ?_ (by show vs.length<=sizeLine;rw [Y9];omega))
 have hoL:(s1.heap.push (seqObj "list" vs.toArray 0)).get? s1.heap.objs.size=some (seqObj "list" vs.toArray 0):=ZM _ rfl
 show wpAny _ _ _ _ _ { s1 with heap:=s1.heap.push (seqObj "list" vs.toArray 0) }
 refine Zs (Y3 (Y0 slot_list_sort ⟨_,hoL,rfl⟩ entry_list_sort (list_sort_treeK strKind_oneLt hoL (strsAre_map _ hv).keysOf (fun v₁ v₂ rest e=>keyKind_strs (by rw [← e];exact strsAre_map _ hv)) h64 fun st' a1 a2=>⟨_,rfl,?_⟩) (args_list_sort _)))
 obtain ⟨e,he⟩:=sortedHeap_at (out:=(arrOf st').map (·.2)) hoL
 exact Zj ⟨_,rfl,h ((arrOf st').map (·.2)).toList _ e (mn a1).1 (rO hv a1 a2) (fun b o eb=>by
  have hb:=ZR eb
  show (sortedHeap (s1.heap.push (seqObj "list" vs.toArray 0)) s1.heap.objs.size vs ((arrOf st').map (·.2))).get? b=some o
  rw [sortedHeap_old (ZQ hb) (by rw [size_push'];exact XA hb),Heap.get?_push_ne _ _ _ (ZQ hb)]
  exact eb) he⟩
end TS
namespace L2
open PySem PySem.Spec PyProof.Rows TS
section
variable {X:Cx}
theorem iE (hc:X.calm=true):dD X (.builtin "sorted") (fun xs H Q=>∃ p,∃ (ss:List Str) (vs:List V),xs=[.ref p]/\ss.length < 64/\ss.length=vs.length/\H p=some (.dK ((ss.map Sum.inr).zip vs)) ∧
  ∀ (l:Addr) (ss':List Str),H l=none->ss'.Perm ss->ss'.Pairwise (fun a b=>¬ b.cps.toList < a.cps.toList)->Q (.ref l) (upd H l (.lst (ss'.map V.str)))):=by
 intro pins s σ H xs us Q I rx h
 obtain ⟨p,ss,vs,rfl,h64,hl,hq,q⟩:=h
 obtain ⟨u,rfl,ru⟩:=rx.one
 cases ru
 obtain ⟨hz,hS,kvs,rel,dd⟩:=oG I.hok hq
 obtain ⟨ep,dd⟩:=dd.dictAt
 have hkl:kvs.length=ss.length:=by
  have:=rel.length
  rw [Yw,Zy] at this
  lia
 have hky:∀ i:Nat,(kvs[i]?).map (fun x=>x.1)=(ss[i]?).map (Sum.inr:Str->Key):=fun i=>by
  have h1:((kvs.map (·.1)))[i]?=(ss.map (Sum.inr:Str->Key))[i]?:=by
   rw [← rel.keys]
   rw [Wz (by rw [Zy];exact Xq hl)]
  rw [ZO,ZO] at h1
  exact h1
 refine TS.m6 fun A' E' hA=>PySem.W.kdu_collect (PySem.W.kdl_dict hS) (hA.trans (I.ok.hd hc)) dd (by rw [Yw,Zy] at hz;lia) fun h' tk acc kp hacc=>?_
 have I1:Inv X pins σ H { s with heap:=h',toks:=tk }:=I.kept kp
 have hal:acc.toList.length=ss.length:=by rw [Yi,hacc.1,hkl]
 have each:∀ i v,acc.toList[i]?=some v->∃ x t,v=Value.str x t/\ss[i]?=some x:=fun i v hv=>by
  rw [Ym] at hv
  obtain ⟨k,x,e1,e2⟩:=hacc.2 i v hv
  have e3:=hky i
  rw [e1] at e3
  cases e4:ss[i]? with
  | none=>rw [e4] at e3;cases e3
  | some y =>
   rw [e4] at e3
   have e5:k=Sum.inr y:=Zp e3
   subst e5
   obtain ⟨t,rfl⟩:=Value.isStrOf_shape (show Value.isStrOf y v=true from e2)
   exact ⟨y,t,rfl,e4⟩
 have hv:∀ v∈acc.toList,∃ x t,v=Value.str x t:=fun v hm=>by
  obtain ⟨i,hi,e⟩:=List.getElem_of_mem hm
  obtain ⟨x,t,e1,_⟩:=each i v (by rw [Zm hi,e])
  exact ⟨x,t,e1⟩
 have es:acc.toList.map strOf=ss:=by
  apply List.ext_getElem?
  intro i
  rw [ZO]
  cases e:acc.toList[i]? with
  | none =>
   have:acc.toList.length<=i:=Yv.mp e
   rw [Yv.mpr (by lia)]
   rfl
  | some v =>
   obtain ⟨x,t,rfl,e1⟩:=each i v e
   rw [e1]
   rfl
 refine ⟨hv,by omega,fun out h2 e o1 o2 kp2 he=>?_⟩
 have hv':∀ v∈out,∃ x t,v=Value.str x t:=fun v hm=>hv v (o1.mem_iff.mp hm)
 have hz2:((out.map strOf).map V.str).length<=sizeLine:=by rw [Zy,Zy,o1.length_eq,hal,Y9];omega
 exact ⟨.ref h'.objs.size,_,I1.laid (t':=tk) kp2 (Zl _) (show cq X.prog X.w _ h2 _ (.lst ((out.map strOf).map V.str)) from ⟨hz2,out,e,om hv',he⟩),rfl,q _ _ (I1.hok.fresh (Zl _)) (by rw [← es];exact o1.map _) o2⟩
end
end L2
namespace VS
open PySem PySem.Spec PyProof.Rows L2
section
variable {G:Gx} {X:Cx} {e:Expr} {cs:Exs} {p pos:Pos}
noncomputable def fD:Wi->Wh
 | [(_,.dct 0 l)]=>(strs? (l.map (·.1))).bind fun ss=>if ss.length < 64/\ss.all txB=true then some (.fr,.lst ((d5 ss).map .str)) else none
 | _=>none
theorem u0:eP G (fun xs H Q=>∃ p,∃ (ss:List Str) (vs:List V),xs=[.ref p]/\ss.length < 64/\ss.length=vs.length/\H p=some (.dK ((ss.map Sum.inr).zip vs)) ∧
  ∀ (l:Addr) (ss':List Str),H l=none->ss'.Perm ss->ss'.Pairwise (fun a b=>¬ b.cps.toList < a.cps.toList)->Q (.ref l) (upd H l (.lst (ss'.map V.str)))) fD:=by
 intro Φ η H0 H l vs Fs m t Q A e k
 unfold fD at e
 split at e
 ·rename_i mx x
  obtain ⟨ss,e1,e2⟩:=Zz.mp e
  split at e2
  ·rename_i hb
   cases e2
   obtain ⟨v,F,rfl,rfl,rx⟩:=(show RpL G H vs [.dct 0 x] Fs from A.rp).one
   obtain ⟨a,ks,ys,ts,Gs,rfl,rfl,ha,hl,rfl,ra⟩:=eB rx
   have hl2:ks.length=ts.length:=by rw [hl,ra.len.1]
   have e3:((ks.map aT).zip ts).map (·.1)=ks.map aT:=Wz (by rw [Zy];exact Xq hl2)
   rw [e3] at e1
   have e4:=keys_str e1
   refine ⟨a,ss.map sx,ys,rfl,by rw [Zy];exact hb.1,?_,by rw [← e4];exact ha,uQ k A.same fun s hs=>BF (Yq.mp hb.2 s hs)⟩
   rw [← hl,e4,Zy,Zy,Zy]
  ·cases e2
 ·cases e
theorem wM (hm:X.mg "sorted" = none) (ha:PVs G X [e] cs) (hg:Gl X "sorted" := by rfl) (hK:X.K=G.K:=by rfl) (hc:X.calm=true:=by rfl) (he:starEach [e] X.env=(false,eval e X.env) :: starEach [] X.env:=by rfl):PV G X (.Call (.Name "sorted" p) [e] [] pos) (eN fD cs) :=
 gX (iE hc) u0 hg hm rV ha (he:=he) (hpl:=rfl)
end
@[simp] noncomputable def isT:T->Bool
 | .bl true=>true
 | _=>false
mutual
@[simp] noncomputable def eZ:T->Bool
 | .tup l=>cJ l
 | .lst l=>cJ l
 | .dct _ l=>mS l
 | .obj _ l=>dH l
 | _=>true
@[simp] noncomputable def cJ:Wg->Bool
 | []=>true
 | t :: r=>eZ t && cJ r
@[simp] noncomputable def mS:List (T×T)->Bool
 | []=>true
 | (_,v) :: r=>eZ v && mS r
@[simp] noncomputable def dH:List (Nat×T)->Bool
 | []=>true
 | (n,v) :: r=>(eZ v && !(n == 0 && isT v)) && dH r
end
theorem gh:∀ {ks:Wg} {ts:Wg},ks.length=ts.length->mS (ks.zip ts)=true->cJ ts=true
 | [],[],_,_=>rfl
 | _ :: _,[],h,_=>by simp at h
 | [],_ :: _,h,_=>by simp at h
 | k :: ks,t :: ts,h,e=>by
  rw [Zc,mS,Zf] at e
  rw [cJ,Zf]
  exact ⟨e.1,gh (by simpa using h) e.2⟩
theorem dX:∀ {ks:Wo} {ts:Wg},ks.length=ts.length->dH (ks.zip ts)=true->cJ ts=true
 | [],[],_,_=>rfl
 | _ :: _,[],h,_=>by simp at h
 | [],_ :: _,h,_=>by simp at h
 | k :: ks,t :: ts,h,e=>by
  rw [Zc,dH,Zf,Zf] at e
  rw [cJ,Zf]
  exact ⟨e.1.1,dX (by simpa using h) e.2⟩
section
variable {G:Gx} {H:Hp}
theorem Rp.at {v:V} {t:T} {F:Wr} (m:Option Addr) (r:Rp G H v t F):eZ t=true->Rp (G.at m) H v t F :=
 Rp.rec (G:=G) (H:=H) (motive_1:=fun v t F _=>eZ t=true->Rp (G.at m) H v t F) (motive_2:=fun vs ts Fs _=>cJ ts=true->RpL (G.at m) H vs ts Fs)
  (fun _=>.non) (fun b _=>.bl b) (fun i _=>.int i) (fun s h _=>.str s h) (fun h _=>.scr h) (fun h _ ih f=>.tup h (ih (by simpa using f))) (fun h _ ih f=>.lst h (ih (by simpa using f)))
  (fun h l q ih f=>.dct h l (ih (gh (by rw [Zy,l];exact q.len.1) (by simpa using f)))) (fun h l q ih f=>.dctT h l (ih (gh (by rw [Zy,l];exact q.len.1) (by simpa using f))))
  (fun h l n q ih f=>.dctN h l n (ih (gh (by rw [Zy,l];exact q.len.1) (by simpa using f)))) (fun h l q ih f=>.dctZ h l (ih (gh (by rw [Zy,l];exact q.len.1) (by simpa using f)))) (fun h hc _=>.exc h hc)
  (fun {c a dx b ks vs ts Fs} h l mm q ih f=>by
   rw [eZ,dH,Zf] at f
   have hb:b=false:=by
    cases b with
    | false=>rfl
    | true=>simp at f
   refine .ins h l (fun z=>?_) (ih (dX (by rw [l];exact q.len.1) f.2))
   rw [hb] at z
   cases z)
  (fun _=>.nil) (fun _ _ i1 i2 f=>by
   rw [cJ,Zf] at f
   exact .cons (i1 f.1) (i2 f.2)) r
theorem RpL.at (m:Option Addr):∀ {vs:List V} {ts:Wg} {Fs:Wu},RpL G H vs ts Fs->cJ ts=true->RpL (G.at m) H vs ts Fs
 | _,_,_,.nil,_=>.nil
 | _,_,_,.cons r q,f=>by
  rw [cJ,Zf] at f
  exact .cons (r.at m f.1) (RpL.at m q f.2)
mutual
theorem lz:∀ t:T,imm t=true->eZ t=true
 | .non,_=>rfl
 | .bl _,_=>rfl
 | .int _,_=>rfl
 | .str _,_=>rfl
 | .scr _,_=>rfl
 | .tup l,h=>by
  rw [eZ]
  exact rm l (by simpa using h)
 | .lst _,h=>by simp at h
 | .dct _ _,h=>by simp at h
 | .obj _ _,h=>by simp at h
theorem rm:∀ l:Wg,eK l=true->cJ l=true
 | [],_=>rfl
 | t :: l,h=>by
  rw [eK,Zf] at h
  rw [cJ,Zf]
  exact ⟨lz t h.1,rm l h.2⟩
end
end
noncomputable def nJ (k:Nat):T->Option T
 | .obj _ (_ :: fs)=>(fs.findIdx? fun p=>p.1 == k).bind fun i=>(fs[i]?).map (·.2)
 | _=>none
noncomputable def aV (k:Nat) (a:Ex):Ex:=fun η=>(a η).bind fun x=>(nJ k x.2).map fun t=>sub x.1 t
section
variable {G:Gx} {X:Cx} {a e o:Expr} {ca ce:Ex} {k i:Nat} {f x:Str} {pos pos' p1:Pos}
theorem w_fld (J:eT G) (F:FldOk G X.K k f) (ha:PV G X a ca) (hb:attributeBase a f X.env (eval a X.env)=eval a X.env):PV G X (.Attribute a f pos) (aV k ca) :=
 PE.weak (vL ha hb) fun σ H Q hq=>by
  obtain ⟨Φ,η,m,t,s,e,kq⟩:=hq
  unfold aV at e
  obtain ⟨⟨mx,y⟩,ea,e1⟩:=Zz.mp e
  obtain ⟨z,ez,e2⟩:=Zu.mp e1
  refine ⟨Φ,η,mx,y,s,ea,fun v H' F' sm r1 f1=>?_⟩
  unfold nJ at ez
  split at ez
  ·rename_i c q0 fs hy
   dsimp only at hy
   subst hy
   obtain ⟨j,h1,e3⟩:=Zz.mp ez
   obtain ⟨p,h2,e4⟩:=Zu.mp e3
   subst e4
   obtain ⟨c',a,dx,b,ns,vs,ts,Fs,rfl,rfl,rfl,rfl,rfl,hA,hl,hb,ra⟩:=dS r1
   have lts:ns.length=ts.length:=hl.trans ra.len.1
   obtain ⟨k0,x0,g1,g2,g3,g4⟩:=jk (fun n=>n == k) lts h1
   have ek:k0=k:=by simpa using g3
   subst ek
   have ep:p=(k0,x0):=by
    have:(ns.zip ts)[j]?=some (k0,x0):=by rw [Yb];exact ⟨g1,g2⟩
    rw [this] at h2;exact (Zp h2).symm
   subst ep
   obtain ⟨u,Fi,u1,u2,u3⟩:=ra.get j g2
   have hlk:=pw (G:=G) (c:=c'+1) J hl h1 g1 u1
   rw [F.nm c'] at hlk
   refine ⟨a,_,dx,_,u,rfl,hA,F.cl c',F.no c',hlk,?_⟩
   have fp:=((f1.sub (Z5 _ _)).sub (dv u2)).up u3
   unfold VS.sub at e2
   rw [e2] at fp
   have et:x0=t:=congrArg Prod.snd e2
   rw [et] at u3
   exact kq u H' Fi sm u3 fp
  ·cases ez
noncomputable def gM (i k:Nat) (e:Ex) (η:VS.Env):Option Out:=(e η).bind fun v=>match η[i]? with
 | some (some (.ow (.obj c (q :: fs))))=>(fit v).bind fun t=>if fs.length < 900/\(fs.all fun p=>!(p.1 == k))=true then some (.nx (η.set i (some (.ow (.obj c (q :: (fs++[(k,t)]))))))) else none
 | _=>none
theorem oj {g:Nat->Str} {k:Nat} {v:V} (J:∀ k k':Nat,g k=g k'->k=k'):∀ {ks:Wo} {vs:List V} {ts:Wg},ks.length=vs.length->ks.length=ts.length->((ks.zip ts).all fun p=>!(p.1 == k))=true->gP (g k) v ((ks.map g).zip vs)=((ks++[k]).map g).zip (vs++[v])
 | [],[],_,_,_,_=>rfl
 | [],_ :: _,_,h,_,_=>by simp at h
 | _ :: _,[],_,h,_,_=>by simp at h
 | _ :: _,_ :: _,[],_,h,_=>by simp at h
 | k0 :: ks,v0 :: vs,t0 :: ts,h1,h2,h3=>by
  rw [Zc,Xw,Zf] at h3
  have ne:g k0 ≠ g k:=fun z=>by
   have:=J _ _ z
   subst this
   simp at h3
  rw [Zn,Zc,gP,Zo ne,oj J (by simpa using h1) (by simpa using h2) h3.2]
  rfl
theorem Ad (i k:Nat) (J:eT G) (F:FldOk G X.K k f) (he:PV G X e ce) (hN:X.N[i]?=some x) (hv:Vis X.env.scope x) (hd:(x == ("__debug__" : Str))=false) (hcd:(x == ("__classdict__" : Str))=false)
  (hs:swapsWith e (some (.Attribute (.Name x p1) f pos')) pos.line X.env=pure false):PSV G X (.Assign [.Attribute (.Name x p1) f pos'] e pos) (gM i k ce) :=
 PS.weak (Bc (gH hN hv hd hcd) he hs) fun D σ H hq=>by
  obtain ⟨Φ,η,out,s,e,kq⟩:=hq
  unfold gM at e
  obtain ⟨⟨mv,tv⟩,ev,e⟩:=Zz.mp e
  split at e
  ·rename_i c q0 fs ht
   obtain ⟨t,et,e⟩:=Zz.mp e
   have em:=kj et
   cases em
   split at e
   ·rename_i hc
    cases e
    obtain ⟨v,g1,g2⟩:=s.rp _ _ ht
    refine ⟨Φ,η,.fr,tv,s,ev,fun y H1 Fy sm ry fy=>⟨v,g1,?_⟩⟩
    obtain ⟨c',a,dx,b,ns,vs,ts,Fs,rfl,rfl,rfl,rfl,eF,hA,hl,hb,ra⟩:=dS g2
    have nd:=s.nd i _ ht
    rw [eF] at nd
    have nd':=Zh.mp nd
    have hA1:H1 a=some (.ins (G.ct (c'+1)).1 dx ((ns.map (G.ct (c'+1)).2).zip vs)):=sm a _ hA
    have m1:Mut (H1 a):=by rw [hA1];exact True.intro
    have lts:ns.length=ts.length:=hl.trans ra.len.1
    have na:a ∉ Fy:=fun z=>by rw [fy.2 a z] at hA;cases hA
    have ln:((ns.map (G.ct (c'+1)).2).zip vs).length < 1000:=by
     have:=hc.1
     rw [Yw] at this ⊢
     rw [Zy]
     lia
    refine ⟨a,_,dx,_,rfl,hA1,F.cl c',F.no c',ln,?_⟩
    have ep:=oj (g:=(G.ct (c'+1)).2) (k:=k) (v:=y) (J (c'+1)) hl lts hc.2
    rw [F.nm c'] at ep
    rw [ep]
    have off:∀ bb∈Fs.flatten,bb ∉ Fy:=fun bb hb hw=>Mut.ne_none (ra.dom bb hb) (fy.2 bb hw)
    have g:Chg G H (.ref a) (Φ i) (.obj (c'+1) ((0,.bl b) :: (ns.zip ts++[(k,tv)]))) (upd H1 a (.ins (G.ct (c'+1)).1 dx (((ns++[k]).map (G.ct (c'+1)).2).zip (vs++[y])))) (a :: (Fs++[Fy]).flatten):=by
     rw [eF,show ns.zip ts++[(k,tv)]=(ns++[k]).zip (ts++[tv]) from by rw [List.zip_append lts];rfl]
     refine Chg.upd sm Zw m1 (.ins ay (by simp [hl]) hb (((ra.same sm).off m1 nd'.1).append (.cons (ry.keep (Kept.upd (.inl m1)) fun bb hb o ho=>by rw [aG (fun z=>na (by rw [← z];exact hb))];exact ho) .nil))) ?_ ?_
     ·rw [Yt]
      refine Zh.mpr ⟨fun m=>?_,ZP.mpr ⟨nd'.2,by simpa using fy.1,fun b hb c hc z=>?_⟩⟩
      ·rcases ZY.mp m with m | m
       ·exact nd'.1 m
       ·exact na (by simpa using m)
      ·subst z;exact off b hb (by simpa using hc)
     ·intro bb hb
      rcases Zg.mp hb with rfl | hb
      ·exact .inl Zw
      ·rw [Yt] at hb
       rcases ZY.mp hb with hb | hb
       ·exact .inl (Zx _ hb)
       ·exact .inr (fy.2 bb (by simpa using hb))
    obtain ⟨z1,z2⟩:=s.mut ht g1 g
    exact kq _ σ _ z1 z2
   ·cases e
  ·cases e
end
noncomputable abbrev n6:=List (Nat×T)
noncomputable abbrev Mt:=n6->Wg->Option (n6×T)
noncomputable def mvF:List Bool->Wu->Wr
 | b :: bs,F :: Fs=>(if b then F else [])++mvF bs Fs
 | _,_=>[]
noncomputable def puF:List Bool->Wu->Wr
 | b :: bs,F :: Fs=>(if b then [] else F)++puF bs Fs
 | _,_=>[]
theorem fP:∀ {mv:List Bool} {Fs:Wu} {j:Nat} {F:Wr},mv[j]?=some true->Fs[j]?=some F->F.Sublist (mvF mv Fs)
 | [],_,_,_,h,_=>by simp at h
 | _ :: _,[],_,_,_,h=>by simp at h
 | b :: bs,F0 :: Fs,0,F,h1,h2=>by
  simp at h1 h2
  subst h1 h2
  rw [mvF,Zq rfl]
  exact List.sublist_append_left _ _
 | b :: bs,F0 :: Fs,j+1,F,h1,h2=>by
  rw [mvF]
  exact (fP (by simpa using h1) (by simpa using h2)).trans (Yc _ _)
theorem nc:∀ {mv:List Bool} {Fs:Wu} {j:Nat} {F:Wr},mv[j]?=some false->Fs[j]?=some F->F.Sublist (puF mv Fs)
 | [],_,_,_,h,_=>by simp at h
 | _ :: _,[],_,_,_,h=>by simp at h
 | b :: bs,F0 :: Fs,0,F,h1,h2=>by
  simp at h1 h2
  subst h1 h2
  rw [puF]
  exact List.sublist_append_left _ _
 | b :: bs,F0 :: Fs,j+1,F,h1,h2=>by
  rw [puF]
  exact (nc (by simpa using h1) (by simpa using h2)).trans (Yc _ _)
theorem rC:∀ {mv:List Bool} {Fs:Wu} {i j:Nat} {F F':Wr},(mvF mv Fs).Nodup->mv[i]?=some true->mv[j]?=some true->Fs[i]?=some F->Fs[j]?=some F'->i ≠ j->∀ a∈F,a ∉ F'
 | [],_,_,_,_,_,_,h,_,_,_,_=>by simp at h
 | _ :: _,[],_,_,_,_,_,_,_,h,_,_=>by simp at h
 | b :: bs,F0 :: Fs,0,0,F,F',_,_,_,_,_,n=>absurd rfl n
 | b :: bs,F0 :: Fs,0,j+1,F,F',nd,h1,h2,h3,h4,n=>fun a ha ha'=>by
  simp at h1 h3
  subst h1 h3
  rw [mvF,Zq rfl,ZP] at nd
  exact nd.2.2 a ha a ((fP (by simpa using h2) (by simpa using h4)).subset ha') rfl
 | b :: bs,F0 :: Fs,i+1,0,F,F',nd,h1,h2,h3,h4,n=>fun a ha ha'=>by
  simp at h2 h4
  subst h2 h4
  rw [mvF,Zq rfl,ZP] at nd
  exact nd.2.2 a ha' a ((fP (by simpa using h1) (by simpa using h3)).subset ha) rfl
 | b :: bs,F0 :: Fs,i+1,j+1,F,F',nd,h1,h2,h3,h4,n=>by
  rw [mvF,ZP] at nd
  exact rC nd.2.1 (by simpa using h1) (by simpa using h2) (by simpa using h3) (by simpa using h4) (by lia)
theorem rD:∀ {mv:List Bool} {Fs:Wu} {a:Addr},a∈mvF mv Fs->∃ (j:Nat) (F:Wr),mv[j]?=some true/\Fs[j]?=some F/\a∈F
 | [],_,_,h=>by simp [mvF] at h
 | _ :: _,[],_,h=>by simp [mvF] at h
 | b :: bs,F0 :: Fs,a,h=>by
  rw [mvF] at h
  rcases ZY.mp h with h | h
  ·cases b with
   | true=>exact ⟨0,F0,rfl,rfl,h⟩
   | false=>simp at h
  ·obtain ⟨j,F,h1,h2,h3⟩:=rD h
   exact ⟨j+1,F,by simpa using h1,by simpa using h2,h3⟩
noncomputable def kX (b:Bool) (t:T):Wj:=some (if b then .ow t else .pu t)
noncomputable def vW (c:Nat) (η:VS.Env):Option n6:=match (η[(0:Nat)]?:Option (Wj)) with
 | some (some (.ow (.obj c' ((0,.bl true) :: fs))))=>if c'=c+1 then some fs else none
 | _=>none
noncomputable def mfn (c np nn:Nat) (mv:List Bool) (body:Sx):Mt:=fun fs ts=>if ts.length+1=np/\mv.length=ts.length then
 (body ((some (.ow (.obj (c+1) ((0,.bl true) :: fs))) :: List.zipWith kX mv ts)++List.replicate (nn - np) none)).bind fun o=>match o with
  | .rt v η=>(vW c η).bind fun fs'=>if imm v.2 then some (fs',v.2) else none
  | .nx η=>(vW c η).map fun fs'=>(fs',.non)
  | _=>none else none
noncomputable def spM (G:Gx) (c:Nat) (mv:List Bool) (g:Mt):Sp:=fun vs H Q _=>∃ (a:Addr) (us:List V) (fs:n6) (ts:Wg) (F:Wr) (Fs:Wu) (fs':n6) (x:T),vs=.ref a :: us/\Rp (G.at (some a)) H (.ref a) (.obj (c+1) ((0,.bl true) :: fs)) F ∧
 RpL (G.at (some a)) H us ts Fs/\mv.length=ts.length/\(F++mvF mv Fs).Nodup/\(∀ b∈F++mvF mv Fs,b ∉ puF mv Fs)/\g fs ts=some (fs',x) ∧
 ∀ u H' F',Chg (G.at (some a)) H (.ref a) (F++mvF mv Fs) (.obj (c+1) ((0,.bl true) :: fs')) H' F'->Rp (G.at (some a)) H' u x []->Q u H'
section
variable {G:Gx} {H:Hp}
theorem wu {v:V} {us:List V} {t:T} {ts:Wg} {F:Wr} {Fs:Wu} {mv:List Bool} (r0:Rp G H v t F) (r:RpL G H us ts Fs) (hm:mv.length=ts.length) (nd:(F++mvF mv Fs).Nodup) (sp:∀ b∈F++mvF mv Fs,b ∉ puF mv Fs) (n nv:Nat) (hn:nv=us.length+1) :
  SR G (fun i=>(F :: Fs).getD i []) ((some (.ow t) :: List.zipWith kX mv ts)++List.replicate (n - (ts.length+1)) none) ((v :: us).map some++List.replicate (n - nv) none) H ∧
  ∀ a,cw (fun i=>(F :: Fs).getD i []) ((some (.ow t) :: List.zipWith kX mv ts)++List.replicate (n - (ts.length+1)) none) a->a∈F++mvF mv Fs:=by
 subst hn
 have hl:=r.len
 have zl:(List.zipWith kX mv ts).length=ts.length:=by rw [List.length_zipWith,hm,Nat.min_self]
 have back:∀ {i:Nat} {c:Cell},((some (Cell.ow t) :: List.zipWith kX mv ts)++List.replicate (n - (ts.length+1)) none)[i]?=some (some c)->(i=0/\c=.ow t)\/∃ (j:Nat) (b:Bool) (u:T),i=j+1/\mv[j]?=some b/\ts[j]?=some u/\c=(if b then .ow u else .pu u):=fun {i c} h=>by
  cases i with
  | zero=>exact .inl ⟨rfl,(Zp (Zp h)).symm⟩
  | succ j =>
   rw [Xg,List.getElem?_cons_succ] at h
   by_cases hj:j < ts.length
   ·rw [ZE (by rw [zl];exact hj),List.getElem?_zipWith] at h
    have e1:mv[j]?=some mv[j]:=Zm (by rw [hm];exact hj)
    have e2:ts[j]?=some ts[j]:=Zm hj
    rw [e1,e2] at h
    exact .inr ⟨j,_,_,rfl,e1,e2,(Zp (Zp h)).symm⟩
   ·rw [Z2 (by rw [zl];exact ZJ hj),Yj] at h
    split at h <;> cases h
 have fp:∀ {j:Nat} {u:T},ts[j]?=some u->∃ w Fj,us[j]?=some w/\Fs[j]?=some Fj/\Rp G H w u Fj:=fun {j u} h=>r.get j h
 have ow:∀ {i:Nat} {u:T},((some (Cell.ow t) :: List.zipWith kX mv ts)++List.replicate (n - (ts.length+1)) none)[i]?=some (some (.ow u))->i=0\/∃ j:Nat,i=j+1/\mv[j]?=some true/\ts[j]?=some u:=fun {i u} h=>by
  rcases back h with ⟨h1,h2⟩ | ⟨j,b,u',h1,h2,h3,h4⟩
  ·exact .inl h1
  ·cases b with
   | true=>cases h4;exact .inr ⟨j,h1,h2,h3⟩
   | false=>cases h4
 rw [ZP] at nd
 refine ⟨⟨?_,fun i c h=>?_,fun i u h=>?_,fun i j u c h1 h2 n=>?_⟩,fun a ⟨i,u,h1,h2⟩=>?_⟩
 ·simp [zl];lia
 ·rcases back h with ⟨rfl,rfl⟩ | ⟨j,b,u,rfl,h2,h3,h4⟩
  ·exact ⟨v,rfl,r0⟩
  ·obtain ⟨w,Fj,g1,g2,g3⟩:=fp h3
   refine ⟨w,?_,?_⟩
   ·rw [Zn,Xg,List.getElem?_cons_succ,ZE (by rw [Zy];exact (Zd.mp g1).1),ZO,g1]
    rfl
   ·show Rp G H w (iT c) ((F :: Fs).getD (j+1) [])
    rw [YU,Zr,g2,h4]
    cases b <;> exact g3
 ·rcases ow h with rfl | ⟨j,rfl,h2,h3⟩
  ·exact nd.1
  ·obtain ⟨w,Fj,g1,g2,g3⟩:=fp h3
   show ((F :: Fs).getD (j+1) []).Nodup
   rw [YU,Zr,g2]
   exact nd.2.1.sublist (fP h2 g2)
 ·rcases ow h1 with rfl | ⟨i',rfl,a2,a3⟩
  ·rcases back h2 with ⟨rfl,_⟩ | ⟨j',b,u',rfl,b2,b3,_⟩
   ·exact absurd rfl n
   ·obtain ⟨w,Fj,g1,g2,g3⟩:=fp b3
    intro a ha
    show a ∉ (F :: Fs).getD (j'+1) []
    rw [YU,Zr,g2]
    intro ha'
    cases b with
    | true=>exact nd.2.2 a ha a ((fP b2 g2).subset ha') rfl
    | false=>exact sp a (ZD _ ha) ((nc b2 g2).subset ha')
  ·obtain ⟨w,Fi,g1,g2,g3⟩:=fp a3
   have ei:(F :: Fs).getD (i'+1) []=Fi:=by rw [YU,Zr,g2];rfl
   show ∀ a∈(F :: Fs).getD (i'+1) [],_
   rw [ei]
   rcases back h2 with ⟨rfl,_⟩ | ⟨j',b,u',rfl,b2,b3,_⟩
   ·exact fun a ha ha'=>nd.2.2 a ha' a ((fP a2 g2).subset ha) rfl
   ·obtain ⟨w',Fj,k1,k2,k3⟩:=fp b3
    intro a ha
    show a ∉ (F :: Fs).getD (j'+1) []
    rw [YU,Zr,k2]
    intro ha'
    cases b with
    | true=>exact rC nd.2.1 a2 b2 g2 k2 (fun z=>n (by rw [z])) a ha ha'
    | false=>exact sp a (ZX _ ((fP a2 g2).subset ha)) ((nc b2 k2).subset ha')
 ·rcases ow h1 with rfl | ⟨j,rfl,h3,h4⟩
  ·exact ZD _ h2
  ·obtain ⟨w,Fj,g1,g2,g3⟩:=fp h4
   have h2':a∈(F :: Fs).getD (j+1) []:=h2
   rw [YU,Zr,g2] at h2'
   exact ZX _ ((fP h3 g2).subset h2')
theorem vm {c:Nat} {η:VS.Env} {fs:n6} (h:vW c η=some fs):η[0]?=some (some (.ow (.obj (c+1) ((0,.bl true) :: fs)))):=by
 unfold vW at h
 split at h
 ·rename_i c' fs' e
  split at h
  ·rename_i hc
   cases h
   rw [e,hc]
  ·cases h
 ·cases h
end
section
variable {G:Gx} {P:Program} {w:World} {K:Wt} {mg:Ws} {base:Heap}
theorem C9 {qual:Str} {st:Stmt} {f:Addr} {fd:FuncData} {N ps:List Str} {k np nn c:Nat} {mv:List Bool} {body:Sx} (ok:∀ {sp:Sp},(∀ vs H Q E,sp vs H Q E->vs.length=ps.length)->(∀ (cdv:Value) (A:Around) (outer:List PySem.Env) (s:Shared) (H:Hp) (vs:List V) (Q:VK) (E:XK),Room k (A.deeper (envOfC qual (af st) s.heap.objs.size f cdv))->sp vs H Q E →
   ∃ t,PSs (fM CX0 P w K mg base N qual (af st) f cdv A outer s H E).nox (au st) t/\t { nx:=fun _ H'=>Q .non H',rt:=Q } (L2.start N vs) H)->FnOk P w K mg base CX0 (k+1) f fd ps sp) (hp:ps.length=np) (hn:N.length=nn)
  (hb:∀ (a:Addr) (cdv:Value) (A:Around) (outer:List PySem.Env) (s:Shared) (H:Hp) (E:XK),Room k (A.deeper (envOfC qual (af st) s.heap.objs.size f cdv))->di (G.at (some a)) (fM CX0 P w K mg base N qual (af st) f cdv A outer s H E).nox (au st) body) :
  FnOk P w K mg base CX0 (k+1) f fd ps (spM G c mv (mfn c np nn mv body)):=by
 refine ok (fun vs H Q E h=>?_) fun cdv A outer s H vs Q E hr h=>?_
 ·obtain ⟨a,us,fs,ts,F,Fs,fs',y,rfl,r0,r,hm,nd,sp,e,q⟩:=h
  unfold mfn at e
  split at e
  ·rename_i hl
   rw [Zk,r.len.1,hl.1,hp]
  ·cases e
 ·obtain ⟨a,us,fs,ts,F,Fs,fs',y,rfl,r0,r,hm,nd,sp,e,q⟩:=h
  refine ⟨_,hb a cdv A outer s H E hr,?_⟩
  unfold mfn at e
  split at e
  ·rename_i hl
   obtain ⟨o,e1,e2⟩:=Zz.mp e
   obtain ⟨s0,ow0⟩:=wu r0 r hm nd sp nn (us.length+1) rfl
   rw [hl.1] at s0 ow0
   have e3:L2.start N (V.ref a :: us)=(V.ref a :: us).map some++List.replicate (nn - (us.length+1)) none:=by
    unfold L2.start
    rw [hn]
    rfl
   rw [e3]
   have fin:∀ {η':VS.Env} {Φ':Fps} {σ':L2.St} {H':Hp},vW c η'=some fs'->SR (G.at (some a)) Φ' η' σ' H'->Frm (fun i=>(F :: Fs).getD i []) ((some (.ow (.obj (c+1) ((0,.bl true) :: fs))) :: List.zipWith kX mv ts)++List.replicate (nn - np) none) H Φ' η' H' →
     Chg (G.at (some a)) H (.ref a) (F++mvF mv Fs) (.obj (c+1) ((0,.bl true) :: fs')) H' (Φ' 0):=fun {η' Φ' σ' H'} hme s' fr=>by
    have h0:=vm hme
    obtain ⟨v',g1,g2⟩:=s'.rp 0 _ h0
    have g2':Rp (G.at (some a)) H' v' (.obj (c+1) ((0,.bl true) :: fs')) (Φ' 0):=g2
    obtain ⟨c',a',dx,b,ns,vs,ts',Fs',ec,rfl,eb,_,eF,hA,hl',hb',ra⟩:=dS g2'
    have hb1:b=true:=by cases eb;rfl
    have ea:some a=some a':=hb' hb1
    cases ea
    refine ⟨fr.kept,fun b' o' hb' ho=>(fr.keep b' o' ho fun z=>hb' (ow0 b' z)).1,fr.dom,g2',s'.nd 0 _ h0,fun b' hb'=>?_⟩
    rcases fr.ow b' ⟨0,_,h0,hb'⟩ with z | z
    ·exact .inl (ow0 b' z)
    ·exact .inr z
   refine ⟨_,_,o,s0,e1,?_⟩
   cases o with
   | nx η' =>
    obtain ⟨fs2,e4,e5⟩:=Zu.mp e2
    cases e5
    intro Φ' σ' H' s' fr
    exact q .non H' _ (fin e4 s' fr) .non
   | rt v η' =>
    obtain ⟨fs2,e4,e5⟩:=Zz.mp e2
    split at e5
    ·rename_i hi
     cases e5
     intro u H' F' Φ' σ' s' fr r' rf
     have:=r'.imm hi
     subst this
     exact q u H' _ (fin e4 s' fr) r'
    ·cases e5
   | bk η'=>cases e2
   | ct η'=>cases e2
  ·cases e
theorem fnM {x qual:Str} {st:Stmt} {f:Addr} {fd:FuncData} {N ps:List Str} {k np nn c:Nat} {mv:List Bool} {body:Sx} (F:Fun K x qual st f fd) (S:FnScope N ps (af st)) (hp:ps.length=np) (hn:N.length=nn)
  (hb:∀ (a:Addr) (cdv:Value) (A:Around) (outer:List PySem.Env) (s:Shared) (H:Hp) (E:XK),Room k (A.deeper (envOfC qual (af st) s.heap.objs.size f cdv))->di (G.at (some a)) (fM CX0 P w K mg base N qual (af st) f cdv A outer s H E).nox (au st) body) :
  FnOk P w K mg base CX0 (k+1) f fd ps (spM G c mv (mfn c np nn mv body)):=C9 (fun l b=>F.ok S l b) hp hn hb
structure FunD (K:Wt) (x qual:Str) (st:Stmt) (f:Addr) (fd:FuncData):Prop where
 ex:∃ (T:Addr) (oc:Value) (od:Option Addr) (kV doc pm:Value) (an:Option Addr) (cdv ct:Value) (osl:Array (Wp)) (o:Obj) (n:Nat),
  fd=PySem.W.fnOf x qual (aA st) (au st) (af st) (.ref T) kV doc pm an cdv ct/\K.lookup f=some ⟨oc,od,.func fd,osl⟩/\PySem.W.codeIn K cdv qual=true/\K.lookup T=some o/\o.data=.seq #[.none] n
 kp:PySem.W.keepIn K (.ref f)=true
theorem FunD.ok {x qual:Str} {st:Stmt} {f:Addr} {fd:FuncData} {N ps:List Str} {k:Nat} {sp:Sp} (F:FunD K x qual st f fd) (S:FnScope N ps (af st)) (len:∀ vs H Q E,sp vs H Q E->vs.length=ps.length)
  (hbody:∀ (cdv:Value) (A:Around) (outer:List PySem.Env) (s:Shared) (H:Hp) (vs:List V) (Q:VK) (E:XK),Room k (A.deeper (envOfC qual (af st) s.heap.objs.size f cdv))->sp vs H Q E →
   ∃ t,PSs (fM CX0 P w K mg base N qual (af st) f cdv A outer s H E).nox (au st) t/\t { nx:=fun _ H'=>Q .non H',rt:=Q } (L2.start N vs) H):FnOk P w K mg base CX0 (k+1) f fd ps sp:=by
 obtain ⟨T,oc,od,kV,doc,pm,an,cdv,ct,osl,o,n,rfl,lk,hcd,_⟩:=F.ex
 refine yY lk hcd S len fun A outer s H vs Q E hr hsp=>?_
 obtain ⟨t,h,q⟩:=hbody cdv A outer s H vs Q E hr hsp
 exact ⟨t,h.nox,q⟩
theorem FunD.binds {x qual:Str} {st:Stmt} {f:Addr} {fd:FuncData} {ps:List Str} (F:FunD K x qual st f fd)
  (h:∀ (s:Shared) (T:Addr) (kV doc pm:Value) (an:Option Addr) (cdv ct:Value) (o:Obj) (n:Nat) (us:Wq),K.In s.heap->K.lookup T=some o->o.data=.seq #[.none] n->us.length=ps.length->BindsTo s (PySem.W.fnOf x qual (aA st) (au st) (af st) (.ref T) kV doc pm an cdv ct) ⟨us,[]⟩ (ps.zip us)):Binds K fd ps []:=by
 obtain ⟨T,oc,od,kV,doc,pm,an,cdv,ct,osl,o,n,rfl,lk,hcd,l2,l3⟩:=F.ex
 intro s us X hl
 rw [ZK] at hl ⊢
 exact h s T kV doc pm an cdv ct o n us X l2 l3 hl
end
noncomputable def argsOk:List Bool->Wi->Bool
 | [],[]=>true
 | b :: bs,v :: vs=>(if b then v.1 == .fr else imm v.2) && argsOk bs vs
 | _,_=>false
noncomputable def jT (c:Nat) (mv:List Bool) (g:Mt) (xs:Wi):T->Option (T×Val)
 | .obj c' ((0,.bl b) :: fs)=>if c'=c+1/\dH fs=true/\argsOk mv xs=true/\cJ (trees xs)=true then (g fs (trees xs)).bind fun z=>if dH z.1=true/\imm z.2=true then some (.obj c' ((0,.bl b) :: z.1),(.fr,z.2)) else none else none
 | _=>none
noncomputable def bc (i:Nat) (way:List Stp) (c:Nat) (mv:List Bool) (g:Mt) (as:Exs) (η:VS.Env):Option (Val×VS.Env):=match (η[i]?:Option (Wj)) with
 | some (some (.ow t))=>(keys way η).bind fun ks=>(as η).bind fun xs=>(pm (jT c mv g xs) ks t).map fun z=>(z.2,η.set i (some (.ow z.1)))
 | _=>none
noncomputable def tX (G:Gx) (x:Xx):TE:=fun σ H Q=>∃ Φ η v η',SR G Φ η σ H/\x η=some (v,η')/\imm v.2=true/\∀ u H' Φ',SR G Φ' η' σ H'->Frm Φ η H Φ' η' H'->Rp G H' u v.2 []->Q u H'
noncomputable def PX (G:Gx) (X:Cx) (e:Expr) (x:Xx):Prop:=PE X e (tX G x)
theorem iF:∀ {mv:List Bool} {xs:Wi},argsOk mv xs=true->mv.length=xs.length
 | [],[],_=>rfl
 | [],_ :: _,h=>by simp [argsOk] at h
 | _ :: _,[],h=>by simp [argsOk] at h
 | b :: bs,v :: vs,h=>by
  rw [argsOk,Zf] at h
  rw [Zk,Zk,iF h.2]
theorem lE:∀ {mv:List Bool} {xs:Wi} {Fs:Wu},argsOk mv xs=true->(mvF mv Fs).Sublist (frs xs Fs)
 | [],[],_,_=>by simp [mvF]
 | [],_ :: _,_,h=>by simp [argsOk] at h
 | _ :: _,[],_,h=>by simp [argsOk] at h
 | b :: bs,v :: vs,[],h=>by simp [mvF]
 | b :: bs,(m,t) :: vs,F :: Fs,h=>by
  rw [argsOk,Zf] at h
  have ih:=lE (Fs:=Fs) h.2
  rw [mvF]
  cases b with
  | true =>
   have:m=.fr:=by simpa using h.1
   subst this
   exact List.Sublist.append (Y5 _) ih
  | false =>
   rw [Zo Ze,Xc]
   cases m with
   | fr=>exact ih.trans (Yc _ _)
   | pu=>exact ih
   | bo=>exact ih
theorem nK {G:Gx} {H:Hp}:∀ {mv:List Bool} {xs:Wi} {us:List V} {Fs:Wu},argsOk mv xs=true->RpL G H us (trees xs) Fs->puF mv Fs=[]
 | [],[],_,_,_,_=>by simp [puF]
 | [],_ :: _,_,_,h,_=>by simp [argsOk] at h
 | _ :: _,[],_,_,h,_=>by simp [argsOk] at h
 | b :: bs,(m,t) :: vs,_,_,h,r=>by
  rw [argsOk,Zf] at h
  cases r with
  | cons r0 q =>
   rw [puF,nK h.2 q,ZK]
   cases b with
   | true=>rfl
   | false=>exact r0.imm (by simpa using h.1)
theorem qR {Φ:Fps} {η:VS.Env} {H:Hp} {mv:List Bool} {xs:Wi} {Fs:Wu} (h:argsOk mv xs=true) (f:FpL Φ η H xs Fs):∀ a∈mvF mv Fs,H a=none:=fun a ha=>by
 obtain ⟨j,F,h1,h2,h3⟩:=rD ha
 have key:∀ {mv:List Bool} {xs:Wi} {j:Nat},argsOk mv xs=true->mv[j]?=some true->∃ v,xs[j]?=some v/\v.1=.fr:=by
  intro mv
  induction mv with
  | nil=>intro xs j _ h;simp at h
  | cons b bs ih =>
   intro xs j h h1
   cases xs with
   | nil=>simp [argsOk] at h
   | cons v vs =>
    rw [argsOk,Zf] at h
    cases j with
    | zero =>
     simp at h1
     subst h1
     exact ⟨v,rfl,by simpa using h.1⟩
    | succ j =>
     obtain ⟨w,q1,q2⟩:=ih h.2 (by simpa using h1)
     exact ⟨w,by simpa using q1,q2⟩
 obtain ⟨v,q1,q2⟩:=key h h1
 have:=f.each j v F q1 h2
 rw [q2] at this
 exact this.2 a h3
section
variable {G:Gx} {X:Cx} {CX:CXT} {i c k k':Nat} {way:List Stp} {o e:Expr} {es:List Expr} {cs:Exs} {m:Str} {f:Addr} {fd:FuncData} {ps:List Str} {mv:List Bool} {g:Mt} {apos pos:Pos}
theorem oY {σ:L2.St} {H:Hp} {Q:VK} {E:XK} {t:TA} (J:eT G) (hn:∀ k,(G.ct (c+1)).2 k ≠ m) (ht:∀ Φ η xs σ H (R:List V->Hp->Prop),SR G Φ η σ H->cs η=some xs->(∀ vs H' Fs,aJ H H'->RpL G H' vs (trees xs) Fs->FpL Φ η H xs Fs->R vs H')->t σ H R)
  (h:tX G (bc i way c mv g cs) σ H Q):qw (G.ct (c+1)).1 m (spM G c mv g) [] E (tPl G i way) t σ H Q:=by
 obtain ⟨Φ,η,v,η',s,e,him,kq⟩:=h
 unfold bc at e
 split at e
 ·rename_i t0 h0
  obtain ⟨ks,ek,e3⟩:=Zz.mp e
  obtain ⟨xs,el,e4⟩:=Zz.mp e3
  obtain ⟨⟨t',x2⟩,e5,e6⟩:=Zu.mp e4
  cases e6
  obtain ⟨v0,h1,h2⟩:=s.rp _ _ h0
  obtain ⟨w,x,F1,x3,w1,w2,w3,w4,w5⟩:=g6 ks J h2 (s.nd i t0 h0) e5
  unfold jT at w4
  split at w4
  ·rename_i c1 b fs
   split at w4
   ·rename_i hc
    obtain ⟨rfl,hno,hao,han⟩:=hc
    obtain ⟨⟨fs',y⟩,eg,e7⟩:=Zz.mp w4
    split at e7
    ·rename_i hno'
     cases e7
     obtain ⟨c',a,dx,b',ns,vs,ts,Fs,ec,rfl,eb,rfl,eF,hA,hl,hb,ra⟩:=dS w2
     cases ec
     cases eb
     have lts:ns.length=ts.length:=hl.trans ra.len.1
     refine ⟨Φ,η,t0,ks,v0,.ref a,s,h0,h1,ek,w1,fun H1 sm=>⟨a,dx,_,rfl,sm a _ hA,?_,?_⟩⟩
     ·have key:∀ (ns:Wo) (vs:List V),((ns.map (G.ct (c+1)).2).zip vs).lookup m=none:=by
       intro ns
       induction ns with
       | nil=>intro vs;simp
       | cons n ns ih =>
        intro vs
        cases vs with
        | nil=>simp
        | cons v vs =>
         rw [Zn,Zc,Yz]
         have:(m == (G.ct (c+1)).2 n)=false:=by
          rw [ZV]
          exact fun z=>hn n z.symm
         rw [this]
         exact ih vs
      exact key ns vs
     ·refine ht Φ η xs σ H1 _ (s.same sm) el fun us H2 Gs sm2 rp2 fp2=>?_
      have sm3:aJ H H2:=sm.trans sm2
      have fp0:FpL Φ η H xs Gs:=⟨fun n v' F' a1 a2=>(fp2.each n v' F' a1 a2).back sm,fp2.nd⟩
      have mvn:=qR hao fp0
      have ra2:RpL (G.at (some a)) H2 vs ts Fs:=(ra.same sm3).at (some a) (dX lts hno)
      refine ⟨a,us,ns.zip ts,trees xs,F1,Gs,fs',y,by rw [ZK],?_,rp2.at (some a) han,?_,?_,?_,eg,fun u H' F' gc ru=>?_⟩
      ·rw [eF]
       exact .ins (sm3 a _ hA) hl (fun _=>rfl) ra2
      ·rw [iF hao]
       simp [trees]
      ·refine ZP.mpr ⟨w3,fp2.nd.sublist (lE hao),fun b1 hb1 b2 hb2 z=>?_⟩
       subst z
       exact Mut.ne_none (w2.dom b1 hb1) (mvn b1 hb2)
      ·rw [nK hao rp2]
       exact fun b1 _ z=>nomatch z
      ·have back:Rp G H' (.ref a) (.obj (c+1) ((0,.bl b) :: fs')) F':=by
        obtain ⟨c2,a2,dx2,b2,ns2,vs2,ts2,Fs2,ec2,ea2,eb2,ef2,eF2,hA2,hl2,hb2,ra3⟩:=dS gc.rp
        cases ec2
        cases ea2
        subst ef2
        rw [eF2]
        exact .ins hA2 hl2 hb (ra3.at G.me (dX (hl2.trans ra3.len.1) hno'.1))
       have gG:Chg G H (.ref a) F1 (.obj (c+1) ((0,.bl b) :: fs')) H' F':=⟨(Kept.of sm3).trans gc.kept,fun b1 o1 hb1 ho=>gc.keep b1 o1 (fun z=>(ZY.mp z).elim hb1 fun z=>by rw [mvn b1 z] at ho;cases ho) (sm3 b1 o1 ho),fun b1 h=>gc.dom b1 fun z=>h (sm3.free z),back,gc.nd,fun b1 hb1=>by
        rcases gc.sub b1 hb1 with z | z
        ·rcases ZY.mp z with z | z
         ·exact .inl z
         ·exact .inr (mvn b1 z)
        ·exact .inr (sm3.free z)⟩
       obtain ⟨F2,g2⟩:=w5 H' F' gG
       obtain ⟨z1,z2⟩:=s.mut h0 h1 g2
       exact kq u H' _ z1 z2 (ru.at G.me (lz y hno'.2))
    ·cases e7
   ·cases w4
  ·cases w4
 ·cases e
theorem yK {pl:Sem Bool} (J:eT G) (hn:∀ k,(G.ct (c+1)).2 k ≠ m) (ho:PPl G X o i way) (hc:Cls X.K (G.ct (c+1)).1) (hm:Meth X.K (G.ct (c+1)).1 m f) (F:FnOk X.prog X.w X.K X.mg X.base CX0 k f fd ps (spM G c mv g)) (hr:Room k' X.A) (hk:k<=k') (hb:Binds X.K fd ps []) (ha:PVs G X (e :: es) cs)
  (hst:starEach (e :: es) X.env=(false,eval e X.env) :: starEach es X.env) (hpl:(backTo pos (starEach es X.env)).any (·.1)=false)
  (ht:eval (.Call (.Attribute o m apos) (e :: es) [] pos) X.env=(do
   let ov ← eval o X.env
   standAt apos.atName
   let (f,first) ← holding [ov] (getMethod ov m pl)
   callWith pos f first (backTo pos (starEach (e :: es) X.env)) (backToKw pos (keywordEach [] X.env)))):PX G X (.Call (.Attribute o m apos) (e :: es) [] pos) (bc i way c mv g cs) :=
 PE.weak (m7 (E:=E0) ho hc hm F (hr.mono hk) hb .nil j4 ha hst hpl ht) fun σ H Q h=>oY (t:=tEs G cs) J hn (fun Φ η xs σ H R s e k=>⟨Φ,η,xs,s,e,k⟩) h
theorem vd {pl:Sem Bool} (J:eT G) (hn:∀ k,(G.ct (c+1)).2 k ≠ m) (ho:PPl G X o i way) (hc:Cls X.K (G.ct (c+1)).1) (hm:Meth X.K (G.ct (c+1)).1 m f) (F:FnOk X.prog X.w X.K X.mg X.base CX0 k f fd ps (spM G c mv g)) (hr:Room k' X.A) (hk:k<=k') (hb:Binds X.K fd ps [])
  (ht:eval (.Call (.Attribute o m apos) [] [] pos) X.env=(do
   let ov ← eval o X.env
   standAt apos.atName
   let (f,first) ← holding [ov] (getMethod ov m pl)
   callWith pos f first (backTo pos (starEach [] X.env)) (backToKw pos (keywordEach [] X.env)))):PX G X (.Call (.Attribute o m apos) [] [] pos) (bc i way c mv g aj) :=
 PE.weak (pd (E:=E0) ho hc hm F (hr.mono hk) hb .nil j4 ht) fun σ H Q h=>oY (t:=sj) J hn (fun Φ η xs σ H R s e k=>by
  cases (show some ([]:Wi)=some xs from e)
  exact k [] H [] (aJ.refl _) .nil ⟨fun i v F h=>by simp at h,by simp [frs]⟩) h
noncomputable def sXM (x:Xx):Sx:=fun η=>(x η).bind fun z=>if imm z.1.2 then some (.nx z.2) else none
noncomputable def gk (j:Nat) (x:Xx):Sx:=fun η=>(x η).bind fun z=>if imm z.1.2=true/\j < z.2.length then some (.nx (z.2.set j (some (.pu z.1.2)))) else none
noncomputable def jZ (x:Xx):Sx:=fun η=>(x η).bind fun z=>if imm z.1.2 then some (.rt (.fr,z.1.2) z.2) else none
variable {x:Xx}
theorem wj (h:PX G X e x) (hsw:swapsWith e none pos.line X.env=pure false):PSV G X (.Expr e pos) (sXM x) :=
 PS.weak (jo h hsw) fun D σ H hq=>by
  obtain ⟨Φ,η,out,s,e,k⟩:=hq
  unfold sXM at e
  obtain ⟨⟨v,η'⟩,e1,e2⟩:=Zz.mp e
  split at e2
  ·rename_i hi
   cases e2
   exact ⟨Φ,η,v,η',s,e1,hi,fun u H' Φ' s' f r=>k Φ' σ H' s' f⟩
  ·cases e2
theorem wB (h:PX G X e x):PSV G X (.Return (some e) pos) (jZ x) :=
 PS.weak (ng h) fun D σ H hq=>by
  obtain ⟨Φ,η,out,s,e,k⟩:=hq
  unfold jZ at e
  obtain ⟨⟨v,η'⟩,e1,e2⟩:=Zz.mp e
  split at e2
  ·rename_i hi
   cases e2
   exact ⟨Φ,η,v,η',s,e1,hi,fun u H' Φ' s' f r=>k u H' [] Φ' σ s' f r ⟨Yn,fun a h=>nomatch h⟩⟩
  ·cases e2
theorem xg {j:Nat} {nm:Str} {pos':Pos} (h:PX G X e x) (hN:X.N.Nodup) (hi:X.N[j]?=some nm) (hx:Loc X.env.scope nm) (hs:swapsWith e (some (.Name nm pos')) pos.line X.env=pure false) (hf:X.fn nm=true\/X.env.scope.names.lookup nm=some .local) :
  PSV G X (.Assign [.Name nm pos'] e pos) (gk j x) :=
 PS.weak (pB hN hi hx h hs hf) fun D σ H hq=>by
  obtain ⟨Φ,η,out,s,e,k⟩:=hq
  unfold gk at e
  obtain ⟨⟨v,η'⟩,e1,e2⟩:=Zz.mp e
  split at e2
  ·rename_i hi
   cases e2
   refine ⟨Φ,η,v,η',s,e1,hi.1,fun u H' Φ' s' f r=>?_⟩
   obtain ⟨q1,q2⟩:=s'.val (c:=.pu v.2) (m:=.fr) hi.2 (aJ.refl H') r ⟨Yn,fun a h=>nomatch h⟩ (.inl ⟨rfl,by decide⟩)
   exact k _ _ H' q1 (f.trans q2)
  ·cases e2
noncomputable def gN (i:Nat) (way:List Stp) (k:Ex) (x:Xx):Sx:=fun η=>(x η).bind fun z=>if imm z.1.2 then dN i way k (fun _=>some (.fr,z.1.2)) z.2 else none
theorem tJ {Φ:Fps} {η:VS.Env} {σ:L2.St} {H H1:Hp} {t t':T} {ks:List Ky} {mk mv:Md} {tk tv:T} {y':Unit} {xv:V} {Fv:Wr} {ck:Ex} {D:L2.St->Hp->Prop} (J:eT G) (s:SR G Φ η σ H) (ht:η[i]?=some (some (.ow t))) (ek:keys way η=some ks) (ekk:ck η=some (mk,tk)) (e5:pm (iI (mk,tk) (mv,tv)) ks t=some (t',y'))
  (sm1:aJ H H1) (rv:Rp G H1 xv tv Fv) (fv:Fp Φ η H mv Fv) (k:∀ Φ' H',SR G Φ' (η.set i (some (.ow t'))) σ H'->Frm Φ η H Φ' (η.set i (some (.ow t'))) H'->D σ H'):CN (tPl G i way) (tE G ck) yZ xv σ H1 D:=by
   obtain ⟨v,g1,g2⟩:=s.rp _ _ ht
   obtain ⟨w,x,F1,x3,w1,w2,w3,w4,w5⟩:=g6 ks J g2 (s.nd i t ht) e5
   refine ⟨Φ,η,t,ks,v,w,s.same sm1,ht,g1,ek,w1.same sm1,fun H2 sm2=>⟨Φ,η,mk,tk,(s.same sm1).same sm2,ekk,fun kv H3 Fk sm3 rk fk=>?_⟩⟩
   have sm:aJ H H3:=(sm1.trans sm2).trans sm3
   have rv3:Rp G H3 xv tv Fv:=(rv.same sm2).same sm3
   have fin:∀ H4 F',Chg G H w F1 x3 H4 F'->D σ H4:=fun H4 F' g=>by
    obtain ⟨F2,g2'⟩:=w5 H4 F' g
    obtain ⟨z1,z2⟩:=s.mut ht g1 g2'
    exact k _ H4 z1 z2
   refine L2.jl fun P_ k_=>?_
   cases x with
   | lst l =>
    cases tk with
    | int n =>
     obtain ⟨tt,et,e7⟩:=Zz.mp (show ((fit (mv,tv)).bind fun t=>(ixP l.length n).map fun j=>(T.lst (l.set j t),()))=some (x3,y') from w4)
     obtain ⟨j,ej,e8⟩:=Zu.mp e7
     cases e8
     have em:=kj et
     cases em
     obtain ⟨a,vs,Fs,rfl,rfl,ha',ra⟩:=w2.lst_inv
     have ha3:H3 a=some (.lst vs):=sm a _ ha'
     have nd:=Zh.mp w3
     have na:a ∉ Fv:=fun z=>by rw [fv.2 a z] at ha';cases ha'
     have m3:Mut (H3 a):=by rw [ha3];exact True.intro
     have off:∀ bb∈Fs.flatten,bb ∉ Fv:=fun bb hb hv=>Mut.ne_none (ra.dom bb hb) (fv.2 bb hv)
     refine k_ ?_
     refine .inl ⟨a,vs,n,j,rfl,rk.int_inv,ha3,by rw [← qb,ra.len.1];exact ej,fin _ (a :: (Fs.set j Fv).flatten) ?_⟩
     have keep:∀ {u:V} {x:T} {F:Wr},Rp G H3 u x F->a ∉ F->Rp G (upd H3 a (.lst (vs.set j xv))) u x F:=fun r hn=>r.keep (Kept.upd (.inl m3)) fun bb hb o' ho'=>by rw [aG (fun z=>hn (by rw [← z];exact hb))];exact ho'
     refine Chg.upd sm Zw m3 (.lst ay ((((ra.same sm).off m3 nd.1)).putAt j (keep rv3 na))) ?_ ?_
     ·rw [Zh]
      refine ⟨fun h=>?_,dR nd.2 fv.1 fun i' F' _ hi bb hb=>off bb (dk hi hb)⟩
      rcases cI h with z | ⟨i',F',_,h1,h2⟩
      ·exact na z
      ·exact nd.1 (dk h1 h2)
     ·intro bb hb
      rcases Zg.mp hb with rfl | hb
      ·exact .inl Zw
      ·rcases cI hb with z | ⟨i',F',_,h1,h2⟩
       ·exact .inr (fv.2 bb z)
       ·exact .inl (Zx _ (dk h1 h2))
    | _=>cases w4
   | dct kd l =>
    cases kd with
    | zero =>
     have hc:(hV tk=true/\imm tv=true/\l.length < eO)/\x3=.dct 0 (dput l tk tv):=by
      have w4':(if hV tk/\imm tv/\l.length < eO then some (T.dct 0 (dput l tk tv),()) else none)=some (x3,y'):=w4
      split at w4'
      ·rename_i hc
       cases w4'
       exact ⟨hc,rfl⟩
      ·cases w4'
     obtain ⟨⟨c1,c2,c3⟩,rfl⟩:=hc
     have eF:=rv3.imm c2
     subst eF
     obtain ⟨a,ns,vs,ts,Fs,rfl,rfl,ha',hl,rfl,ra⟩:=eB w2
     obtain ⟨kk,rfl,ekk'⟩:=dG rk c1
     subst ekk'
     have ha3:H3 a=some (.dK (ns.zip vs)):=sm a _ ha'
     have m3:Mut (H3 a):=by rw [ha3];exact True.intro
     have nd:=Zh.mp w3
     obtain ⟨ks',vs',ts',Fs',q1,q2,q3,q4,q5⟩:=pD (kk:=kk) rv3 hl (ra.same sm)
     have ln:(ns.zip vs).length < sizeLine:=by
      have:((ns.map aT).zip ts).length < 16777216:=c3
      rw [Yw,Zy] at this
      rw [Yw]
      have:=ra.len.1
      have:(sizeLine:Nat)=16777216:=rfl
      lia
     refine k_ ?_
     refine .inr ⟨a,_,rfl,pK.k ha3 ln,fin _ (a :: Fs'.flatten) ?_⟩
     rw [q1,q3]
     refine Chg.upd sm Zw m3 (.dct ay q2 (q4.off m3 fun z=>nd.1 (q5.subset z))) ?_ ?_
     ·exact Zh.mpr ⟨fun z=>nd.1 (q5.subset z),nd.2.sublist q5⟩
     ·intro bb hb
      rcases Zg.mp hb with rfl | hb
      ·exact .inl Zw
      ·exact .inl (Zx _ (q5.subset hb))
    | succ n=>cases w4
   | _=>cases w4
theorem yH {kr:Nat} {b:Expr} {ck:Ex} {pos':Pos} (J:eT G) (hr:Room kr X.A) (ho:PPl G X o i way) (hk:PV G X b ck) (he:PX G X e x)
  (ha:∀ v,assign (.Subscript o b pos') X.env v=(do
   let ov ← holding [v] (eval o X.env)
   let iv ← holding [v,ov] (eval b X.env)
   standAt pos'
   holding [v,ov,iv] (setItem ov iv v)
   release [v,ov,iv] [])) (hs:swapsWithSole [.Subscript o b pos'] e pos.line X.env=pure false) (hw:swappedStores [.Subscript o b pos'] e X.env=pure none)
  (h1:(assignEach [.Subscript o b pos'] X.env).map (·.2)=[assign (.Subscript o b pos') X.env]):PSV G X (.Assign [.Subscript o b pos'] e pos) (gN i way ck x) :=
 PS.weak (pO he (pR ho hk (vw (je hr)) ha) hs hw h1) fun D σ H hq=>by
  obtain ⟨Φ,η,out,s,e,k⟩:=hq
  unfold gN at e
  obtain ⟨⟨v,η'⟩,e1,e2⟩:=Zz.mp e
  split at e2
  ·rename_i hi
   refine ⟨Φ,η,v,η',s,e1,hi,fun u H' Φ' s' f r=>?_⟩
   unfold dN at e2
   obtain ⟨⟨mv,tv⟩,ev,e2⟩:=Zz.mp e2
   cases ev
   split at e2
   ·rename_i t ht
    obtain ⟨ks,ek,e2⟩:=Zz.mp e2
    obtain ⟨⟨mk,tk⟩,ekk,e2⟩:=Zz.mp e2
    obtain ⟨⟨t',y'⟩,e5,e6⟩:=Zu.mp e2
    cases e6
    exact tJ J s' ht ek ekk e5 (aJ.refl H') r (mv:=.fr) ⟨Yn,fun a h=>nomatch h⟩ fun Φ2 H2 z1 z2=>k _ σ H2 z1 (f.trans z2)
   ·cases e2
  ·cases e2
end
end VS
end
section
namespace L2
open PySem PySem.Spec PyProof.Rows
theorem qm {X:Cx}:dD X (.type "dict") (fun xs H Q=>∃ (d:Addr) (kvs:List (Key×V)),xs=[.ref d]/\H d=some (.dK kvs)/\∀ l,H l=none->Q (.ref l) (upd H l (.dK kvs))):=by
 intro pins s σ H xs us Q I rx h
 obtain ⟨d,kvs,rfl,hd,q⟩:=h
 obtain ⟨u,rfl,ru⟩:=rx.one
 cases ru
 obtain ⟨hz,hne,vs,rel,dd⟩:=oG I.hok hd
 refine PySem.kt_call_dict hne dd (by rw [← Y4 rel];exact hz) fun h' dd' sb=>?_
 exact ⟨.ref s.heap.objs.size,_,I.laid (t':=s.toks) (fun b o e=>(sb.2 b (ZQ (ZR e))).trans (Zi _ e)) (Zl _) (pZ hz (ZV.mpr (YV (ZQ I.big))) rel dd'),rfl,q _ (I.hok.fresh (Zl _))⟩
end L2
namespace VS
open PySem PySem.Spec PyProof.Rows L2
noncomputable def iG:Wi->Wh
 | [(_,.dct 0 l)]=>if eK (l.map (·.2))=true then some (.fr,.dct 0 l) else none
 | _=>none
section
variable {G:Gx} {X:Cx} {a b e o:Expr} {ca cb ce:Ex} {cs:Exs} {p pos cpos apos:Pos} {k kr:Nat}
theorem u9:eP G (fun xs H Q=>∃ (d:Addr) (kvs:List (Key×V)),xs=[.ref d]/\H d=some (.dK kvs)/\∀ l,H l=none->Q (.ref l) (upd H l (.dK kvs))) iG:=by
 intro Φ η H0 H l vs Fs m t Q A e k
 unfold iG at e
 split at e
 ·rename_i mx l0
  split at e
  ·rename_i hi
   cases e
   obtain ⟨v,F,rfl,rfl,r⟩:=(show RpL G H vs [.dct 0 l0] Fs from A.rp).one
   obtain ⟨a,ns,us,ts,Gs,rfl,rfl,ha,hl,rfl,ra⟩:=eB r
   refine ⟨a,_,rfl,ha,fun q hq=>?_⟩
   have sm:aJ H (upd H q (.dK (ns.zip us))):=da hq
   rw [List.map_snd_zip (by rw [Zy,hl,ra.len.1];exact Zl _)] at hi
   have eF:=ra.imm hi
   refine k _ _ (q :: Gs.flatten) sm (.dct ay hl (ra.same sm)) ?_
   rw [eF]
   exact Fp.new (A.same.free hq) (by simp) Fp.nil
  ·cases e
 ·cases e
theorem yR (hm:X.mg "dict" = none) (ha:PVs G X [e] cs) (hg:Gl X "dict") (he:starEach [e] X.env=(false,eval e X.env) :: starEach [] X.env):PV G X (.Call (.Name "dict" p) [e] [] pos) (eN iG cs) :=
 jC qm u9 hg hm yp ha (he:=he) (hpl:=rfl)
theorem AX {i i':Int} {j j':Nat} {q q':Pos}:PV G X (.Dict [some (.Constant (.int i) j q)] [.Constant (.int i') j' q'] pos) (iV 0 [(eC (.int i),eC (.int i'))]) :=
 PE.weak (rB (oH mZ mZ rn) rfl rfl (by simp) (by show 1<=15;decide)) fun σ H Q hq=>by
  obtain ⟨Φ,η,m,r,s,e,k⟩:=hq
  cases (show some (Md.fr,T.dct 0 [(.int i,.int i')])=some (m,r) from e)
  intro p hp
  refine ⟨ay,[(Sum.inl i,.int i')],rfl,(by show 1<=15;decide),?_⟩
  rw [qz]
  have:Rp G (upd H p (.dK [(Sum.inl i,V.int i')])) (.ref p) (.dct 0 ((([Sum.inl i]:List Key).map aT).zip [.int i'])) (p :: ([[]]:Wu).flatten) :=
   .dct (ks:=[Sum.inl i]) (vs:=[V.int i']) ay rfl (.cons (.int i') .nil)
  exact k _ _ _ (da hp) this ⟨by simp,fun b hb=>by simp at hb;rw [hb];exact hp⟩
noncomputable def qq (x y:Val):Wh:=match x.2 with
 | .dct 0 l=>if hV y.2 then some (match dI l y.2 with | some t=>sub x.1 t | none=>(.fr,.non)) else none
 | _=>none
theorem w_get (hr:Room kr X.A) (ho:PV G X o ca) (he:PV G X e cb) (hbase:attributeBase o "get" X.env (eval o X.env)=eval o X.env)
  (hfew:((backTo cpos (starEach [e] X.env)).all (fun x=>!x.1) && (backToKw cpos (keywordEach [] X.env)).all (fun x=>x.1.isSome)
   && decide (([e]:List Expr).length+([]:List Keyword).length+(if ([]:List Keyword).isEmpty then 0 else 1) < 30))=true)
  (hline:(apos.endLine == cpos.line)=true) (htr:backTo cpos (starEach [e] X.env)=[(false,eval e X.env)]):PV G X (.Call (.Attribute o "get" apos) [e] [] cpos) (e2 qq ca cb) :=
 PE.weak (vk (je hr) ho he ⟨hbase,hfew,hline,htr⟩) fun σ H Q hq=>by
  obtain ⟨Φ,η,m,r,s,e,kq⟩:=hq
  unfold e2 at e
  obtain ⟨⟨m1,x⟩,ea,e⟩:=Zz.mp e
  obtain ⟨⟨m2,y⟩,eb,e⟩:=Zz.mp e
  unfold qq at e
  split at e
  ·rename_i l hx
   dsimp only at hx
   subst hx
   split at e
   ·rename_i hk
    have e':=Zp e
    refine ⟨Φ,η,m1,_,s,ea,fun v H1 F1 sm1 r1 f1=>?_⟩
    obtain ⟨a,ks,vs,ts,Fs,rfl,rfl,ha,hl,rfl,q⟩:=eB r1
    refine ⟨a,rfl,.inl ⟨_,.inl ha⟩,Φ,η,m2,y,s.same sm1,eb,fun v2 H2 F2 sm2 r2 f2=>?_⟩
    obtain ⟨kk,rfl,ek⟩:=dG r2 hk
    dsimp only at e'
    rw [ek] at e'
    rcases ju (k:=kk) hl (q.same sm2) with ⟨h1,h2⟩ | ⟨i,v,t2,F,a1,a2,a3,a4,a5⟩
    ·rw [h1] at e'
     cases e'
     refine ⟨_,fY.k (sm2 a _ ha),?_⟩
     rw [h2]
     exact kq .non H2 [] (sm1.trans sm2) .non Fp.nil
    ·rw [a1] at e'
     refine ⟨_,fY.k (sm2 a _ ha),?_⟩
     rw [a2]
     have f:=((f1.sub (Z5 _ _)).sub (dv a4)).up a5
     unfold VS.sub at e'
     dsimp only at e'
     rw [e'] at f
     have et:t2=r:=congrArg Prod.snd e'
     rw [et] at a5
     exact kq v H2 F (sm1.trans sm2) a5 f
   ·cases e
  ·cases e
noncomputable def lT (x y:Val):Wh:=match x.2 with
 | .dct 3 l=>if hV y.2 then (dI l y.2).map (sub x.1) else none
 | _=>none
theorem oB {H:Hp} {v:V} {l:List (T×T)} {F:Wr} (r:Rp G H v (.dct 3 l) F):∃ (a:Addr) (o:Obj) (ks:List Key) (vs:List V) (ts:Wg) (Fs:Wu),v=.ref a/\F=Fs.flatten/\H a=some (.frz o (.dK (ks.zip vs)))/\ks.length=vs.length/\l=(ks.map aT).zip ts/\RpL G H vs ts Fs:=by
 generalize hz:T.dct 3 l=z at r
 cases r with
 | dctZ h hl q=>cases hz;exact ⟨_,_,_,_,_,_,rfl,rfl,h,hl,rfl,q⟩
 | _=>cases hz
theorem BJ:fO G (Dx G.K) lT:=by
 intro Φ η H0 H x y u w F1 F2 m t Q tw e k
 obtain ⟨m1,x⟩:=x
 unfold lT at e
 split at e
 ·rename_i l hx
  dsimp only at hx
  subst hx
  split at e
  ·rename_i hk
   obtain ⟨t',e1,e2⟩:=Zu.mp e
   obtain ⟨a,o,ks,vs,ts,Fs,rfl,rfl,ha,hl,rfl,q⟩:=oB tw.r1
   obtain ⟨kk,rfl,ek⟩:=dG tw.r2 hk
   rw [ek] at e1
   rcases ju (k:=kk) hl q with ⟨h1,_⟩ | ⟨i,v,t2,F,a1,a2,a3,a4,a5⟩
   ·rw [h1] at e1;cases e1
   ·rw [a1] at e1
    cases e1
    cases e2
    refine .inr ⟨a,v,rfl,.inl ⟨_,kk,.inr ⟨o,ha⟩,rfl,a2.symm⟩,?_⟩
    have f:=(tw.f1.sub (dv a4)).up a5
    exact k v H F (aJ.refl _) a5 f
  ·cases e
 ·cases e
theorem Cq (hr:Room kr X.A) (ha:PV G X a ca) (hb:PV G X b cb) (hs:eA b) (hK:X.K=G.K):PV G X (.Subscript a b pos) (e2 lT ca cb) :=
 PE.weak (qZ (IxR.or nM (nF (je hr))) ha hb hs) fun σ H Q h=>by rw [hK];exact jK BJ h
end
noncomputable def eNew (c:Nat) (g:Mt) (cs:Exs):Ex:=fun η=>(cs η).bind fun xs=>if cJ (trees xs)=true then (g [] (trees xs)).bind fun z=>if dH z.1=true/\isN z.2=true then some (.fr,.obj (c+1) ((0,.bl false) :: z.1)) else none else none
noncomputable def dC (c:Nat) (g:Fn) (ca:Ex) (cs:Exs):Ex:=fun η=>(ca η).bind fun x=>match x.2 with
 | .obj c' (_ :: _)=>if c'=c+1 then (cs η).bind fun xs=>(g (x.2 :: trees xs)).bind fun r=>match r.1 with
  | .fr=>some r
  | _=>none else none
 | _=>none
theorem vy {α:Type}:∀ (l:List α) (Fs:Wu),mvF (l.map fun _=>false) Fs=[]
 | [],_=>by simp [mvF]
 | _ :: _,[]=>by simp [mvF]
 | _ :: l,F :: Fs=>by
  rw [Zn,mvF,Zo Ze,Xc]
  exact vy l Fs
theorem wg:∀ (mv:List Bool) (Fs:Wu),∀ a∈puF mv Fs,a∈Fs.flatten
 | [],_,a,h=>by simp [puF] at h
 | _ :: _,[],a,h=>by simp [puF] at h
 | b :: bs,F :: Fs,a,h=>by
  rw [puF] at h
  rw [ZW]
  rcases ZY.mp h with h | h
  ·cases b with
   | true=>simp at h
   | false=>exact ZD _ (by simpa using h)
  ·exact ZX _ (wg bs Fs a h)
section
variable {G:Gx} {X:Cx} {i c k k':Nat} {o e:Expr} {es:List Expr} {cs:Exs} {ca:Ex} {m x:Str} {f:Addr} {fd:FuncData} {ps:List Str} {g:Mt} {h:Fn} {apos pos p:Pos}
theorem yO {G:Gx} {H:Hp} {u:V} {t:T} {F:Wr} (r:Rp G H u t F) (h:isN t=true):u=.non:=by
 cases r with
 | non=>rfl
 | _=>cases h
theorem wo {σ:L2.St} {H:Hp} {Q:VK} {E:XK} {t:TA} (F:∀ n,FnOk X.prog X.w X.K X.mg X.base CX0 k f fd ps (spM G c (List.replicate n false) g)->True) (ht:∀ Φ η xs σ H (R:List V->Hp->Prop),SR G Φ η σ H->cs η=some xs->(∀ vs H' Fs,aJ H H'->RpL G H' vs (trees xs) Fs->FpL Φ η H xs Fs->R vs H')->t σ H R)
  (n:Nat) (hn:∀ η xs,cs η=some xs->xs.length=n) (hq:tE G (eNew c g cs) σ H Q):uM (G.ct (c+1)).1 (spM G c (List.replicate n false) g) [] E t σ H Q:=by
 obtain ⟨Φ,η,mo,r,s,e,kq⟩:=hq
 unfold eNew at e
 obtain ⟨xs,el,e1⟩:=Zz.mp e
 split at e1
 ·rename_i han
  obtain ⟨⟨fs',y⟩,eg,e2⟩:=Zz.mp e1
  split at e2
  ·rename_i hc
   cases e2
   have lx:=hn η xs el
   refine ht Φ η xs σ H _ s el fun vs H1 Gs sm1 rp1 fp1 a dx ha hdx ne=>?_
   have hHa:H a=none:=sm1.free ha
   have sm2:aJ H1 (upd (upd H1 dx (.own a)) a (.ins (G.ct (c+1)).1 dx [])):=fun b ob q=>by
    rw [aG (fun z=>by rw [z,ha] at q;cases q),aG (fun z=>by rw [z,hdx] at q;cases q)]
    exact q
   have em:List.replicate n false=(List.range n).map fun _=>false:=by rw [List.map_const',ZC]
   have mv0:mvF (List.replicate n false) Gs=[]:=by rw [em];exact vy _ _
   have fresh:∀ b,(upd (upd H1 dx (.own a)) a (.ins (G.ct (c+1)).1 dx [])) b=none->H b=none:=fun b z=>sm1.free (sm2.free z)
   refine ⟨a,vs,[],trees xs,[a],Gs,fs',y,by rw [ZK],.ins (ks:=[]) (vs:=[]) (ts:=[]) (Fs:=[]) ay rfl (fun _=>rfl) .nil,(rp1.same sm2).at (some a) han,?_,?_,?_,eg,fun u H' F' gc ru=>⟨yO ru hc.2,?_⟩⟩
   ·simp [trees,lx]
   ·rw [mv0];simp
   ·rw [mv0]
    intro b hb hb'
    have:b=a:=by simpa using hb
    subst this
    exact Mut.ne_none (rp1.dom b (wg _ _ b hb')) ha
   ·rw [mv0,ZK] at gc
    have back:Rp G H' (.ref a) (.obj (c+1) ((0,.bl false) :: fs')) F':=by
     obtain ⟨c2,a2,dx2,b2,ns2,vs2,ts2,Fs2,ec2,ea2,eb2,ef2,eF2,hA2,hl2,hb2,ra3⟩:=dS gc.rp
     cases ec2
     cases ea2
     subst ef2
     rw [eF2]
     exact .ins hA2 hl2 (fun z=>nomatch z) (ra3.at G.me (dX (hl2.trans ra3.len.1) hc.1))
    refine kq (.ref a) H' F' (fun b ob q=>gc.keep b ob (fun z=>?_) (sm2 b ob (sm1 b ob q))) back ⟨gc.nd,fun b hb=>?_⟩
    ·have:b=a:=by simpa using z
     rw [this,hHa] at q
     cases q
    ·rcases gc.sub b hb with z | z
     ·have:b=a:=by simpa using z
      rw [this]
      exact hHa
     ·exact fresh b z
  ·cases e2
 ·cases e1
theorem Di (n:Nat) (M:Mk X.K (G.ct (c+1)).1 f) (F:FnOk X.prog X.w X.K X.mg X.base CX0 k f fd ps (spM G c (List.replicate n false) g)) (hr:Room k' X.A) (hk:k+1<=k') (hg:Gl X x) (hm:X.mg x=some (.ref (G.ct (c+1)).1)) (hb:Binds X.K fd ps []) (ha:PVs G X (e :: es) cs) (hn:∀ η xs,cs η=some xs->xs.length=n)
  (hdb:(x == ("__debug__" : Str))=false) (he:starEach (e :: es) X.env=(false,eval e X.env) :: starEach es X.env) (hpl:(backTo pos (starEach es X.env)).any (·.1)=false):PV G X (.Call (.Name x p) (e :: es) [] pos) (eNew c g cs) :=
 PE.weak (xY (E:=E0) M F (hr.mono hk) hg hm hb .nil j4 ha hdb he hpl) fun σ H Q h=>wo (X:=X) (k:=k) (f:=f) (fd:=fd) (ps:=ps) (t:=tEs G cs) (fun _ _=>True.intro) (fun Φ η xs σ H R s e k=>⟨Φ,η,xs,s,e,k⟩) n hn h
theorem zZ (M:Mk X.K (G.ct (c+1)).1 f) (F:FnOk X.prog X.w X.K X.mg X.base CX0 k f fd ps (spM G c [] g)) (hr:Room k' X.A) (hk:k+1<=k') (hg:Gl X x) (hm:X.mg x=some (.ref (G.ct (c+1)).1)) (hb:Binds X.K fd ps [])
  (hdb:(x == ("__debug__" : Str))=false):PV G X (.Call (.Name x p) [] [] pos) (eNew c g aj) :=
 PE.weak (vT (E:=E0) M F (hr.mono hk) hg hm hb .nil j4 hdb) fun σ H Q h=>wo (X:=X) (k:=k) (f:=f) (fd:=fd) (ps:=ps) (t:=sj) (fun _ _=>True.intro) (fun Φ η xs σ H R s e k=>by
  cases (show some ([]:Wi)=some xs from e)
  exact k [] H [] (aJ.refl _) .nil ⟨fun i v F h=>by simp at h,by simp [frs]⟩) 0 (fun η xs e=>by
  cases (show some ([]:Wi)=some xs from e)
  rfl) h
theorem rG {g:Nat->Str} (hn:∀ k,g k ≠ m):∀ (ns:Wo) (vs:List V),((ns.map g).zip vs).lookup m=none
 | [],vs=>by simp
 | _ :: _,[]=>by simp
 | n :: ns,v :: vs=>by
  rw [Zn,Zc,Yz]
  have:(m == g n)=false:=by
   rw [ZV]
   exact fun z=>hn n z.symm
  rw [this]
  exact rG hn ns vs
theorem rL {σ:L2.St} {H:Hp} {Q:VK} {E:XK} {t:TA} (hn:∀ k,(G.ct (c+1)).2 k ≠ m) (ht:∀ Φ η xs σ H (R:List V->Hp->Prop),SR G Φ η σ H->cs η=some xs->(∀ vs H' Fs,aJ H H'->RpL G H' vs (trees xs) Fs->FpL Φ η H xs Fs->R vs H')->t σ H R)
  (hq:tE G (dC c h ca cs) σ H Q):qw (G.ct (c+1)).1 m (spF G h) [] E (tE G ca) t σ H Q:=by
 obtain ⟨Φ,η,mo,r,s,e,kq⟩:=hq
 unfold dC at e
 obtain ⟨⟨mx,y⟩,ea,e1⟩:=Zz.mp e
 split at e1
 ·rename_i c' q0 fs hy
  dsimp only at hy
  subst hy
  split at e1
  ·rename_i hc
   subst hc
   obtain ⟨xs,el,e2⟩:=Zz.mp e1
   obtain ⟨⟨n,r'⟩,eg,e3⟩:=Zz.mp e2
   refine ⟨Φ,η,mx,_,s,ea,fun v H1 F1 sm1 r1 f1=>?_⟩
   obtain ⟨c2,a,dx,b,ns,vs,ts,Fs,ec,rfl,eb,ef,eF,hA,hl,hb,ra⟩:=dS r1
   cases ec
   refine ⟨a,dx,_,rfl,hA,rG hn _ _,ht Φ η xs σ H1 _ (s.same sm1) el fun us H2 Gs sm2 rp2 fp2=>?_⟩
   rw [ZK]
   refine ⟨_ :: trees xs,F1 :: Gs,n,r',.cons (r1.same sm2) rp2,eg,fun u H' F' sm3 r3 f3=>?_⟩
   cases n with
   | fr =>
    cases e3
    exact kq u H' F' ((sm1.trans sm2).trans sm3) r3 ⟨f3.1,fun b hb=>sm1.free (sm2.free (f3.2 b hb))⟩
   | pu=>cases e3
   | bo=>cases e3
  ·cases e1
 ·cases e1
theorem zC {pl:Sem Bool} (hn:∀ k,(G.ct (c+1)).2 k ≠ m) (ho:PV G X o ca) (hc:Cls X.K (G.ct (c+1)).1) (hm:Meth X.K (G.ct (c+1)).1 m f) (F:FnOk X.prog X.w X.K X.mg X.base CX0 k f fd ps (spF G h)) (hr:Room k' X.A) (hk:k<=k') (hb:Binds X.K fd ps []) (ha:PVs G X (e :: es) cs)
  (hst:starEach (e :: es) X.env=(false,eval e X.env) :: starEach es X.env) (hpl:(backTo pos (starEach es X.env)).any (·.1)=false)
  (ht:eval (.Call (.Attribute o m apos) (e :: es) [] pos) X.env=(do
   let ov ← eval o X.env
   standAt apos.atName
   let (f,first) ← holding [ov] (getMethod ov m pl)
   callWith pos f first (backTo pos (starEach (e :: es) X.env)) (backToKw pos (keywordEach [] X.env)))):PV G X (.Call (.Attribute o m apos) (e :: es) [] pos) (dC c h ca cs) :=
 PE.weak (m7 (E:=E0) ho hc hm F (hr.mono hk) hb .nil j4 ha hst hpl ht) fun σ H Q q=>rL (t:=tEs G cs) hn (fun Φ η xs σ H R s e k=>⟨Φ,η,xs,s,e,k⟩) q
theorem yh {pl:Sem Bool} (hn:∀ k,(G.ct (c+1)).2 k ≠ m) (ho:PV G X o ca) (hc:Cls X.K (G.ct (c+1)).1) (hm:Meth X.K (G.ct (c+1)).1 m f) (F:FnOk X.prog X.w X.K X.mg X.base CX0 k f fd ps (spF G h)) (hr:Room k' X.A) (hk:k<=k') (hb:Binds X.K fd ps [])
  (ht:eval (.Call (.Attribute o m apos) [] [] pos) X.env=(do
   let ov ← eval o X.env
   standAt apos.atName
   let (f,first) ← holding [ov] (getMethod ov m pl)
   callWith pos f first (backTo pos (starEach [] X.env)) (backToKw pos (keywordEach [] X.env)))):PV G X (.Call (.Attribute o m apos) [] [] pos) (dC c h ca aj) :=
 PE.weak (pd (E:=E0) ho hc hm F (hr.mono hk) hb .nil j4 ht) fun σ H Q q=>rL (t:=sj) hn (fun Φ η xs σ H R s e k=>by
  cases (show some ([]:Wi)=some xs from e)
  exact k [] H [] (aJ.refl _) .nil ⟨fun i v F h=>by simp at h,by simp [frs]⟩) q
end
noncomputable def jz (i:Nat) (way:List Stp) (j:Nat) (η:VS.Env):Option Out:=match (η[i]?:Option (Wj)),(η[j]?:Option (Wj)) with
 | some (some (.ow t)),some (some (.ow u))=>if i ≠ j then (keys way η).bind fun ks=>(pm (fun x=>aD x [(.fr,u)]) ks t).map fun z=>.nx ((η.set j none).set i (some (.ow z.1))) else none
 | _,_=>none
open Classical in
noncomputable def less (H:Hp) (F:Wr):Hp:=fun b=>if b∈F then none else H b
section
variable {G:Gx} {X:Cx} {i j:Nat} {way:List Stp} {o:Expr} {y:Str} {apos cpos pos p1:Pos}
theorem m9 {H:Hp} {F:Wr} {b:Addr} (h:b∈F):less H F b=none:=Zq h
theorem gf {H:Hp} {F:Wr} {b:Addr} (h:b ∉ F):less H F b=H b:=Zo h
theorem gb {H:Hp} {F:Wr} {b:Addr} {o:HO} (h:less H F b=some o):H b=some o/\b ∉ F:=by
 by_cases q:b∈F
 ·rw [m9 q] at h;cases h
 ·rw [gf q] at h;exact ⟨h,q⟩
theorem so {H:Hp} {F:Wr} (h:∀ b∈F,Mut (H b)):Kept H (less H F) :=
 ⟨fun b xs e=>by
  rw [gf (fun z=>by have:=h b z;rw [e] at this;exact this)]
  exact e,fun b o u e=>by
  rw [gf (fun z=>by have:=h b z;rw [e] at this;exact this)]
  exact e⟩
theorem wG (J:eT G) (ho:PPl G X o i way) (hK:X.K=G.K) (hN:X.N[j]?=some y) (hv:Vis X.env.scope y) (hd:(y == ("__debug__" : Str))=false) (hcd:(y == ("__classdict__" : Str))=false)
  (hbase:attributeBase o "append" X.env (eval o X.env)=eval o X.env)
  (hfew:((backTo cpos (starEach [.Name y p1] X.env)).all (fun x=>!x.1) && (backToKw cpos (keywordEach [] X.env)).all (fun x=>x.1.isSome)
   && decide ([Expr.Name y p1].length+([]:List Keyword).length+(if ([]:List Keyword).isEmpty then 0 else 1) < 30))=true)
  (hline:(apos.endLine == cpos.line)=true) (hs:starEach [.Name y p1] X.env=(false,eval (.Name y p1) X.env) :: starEach [] X.env) (hplain:(backTo cpos (starEach [] X.env)).any (·.1)=false)
  (hsw:swapsWith (.Call (.Attribute o "append" apos) [.Name y p1] [] cpos) none pos.line X.env=pure false) :
  PSV G X (.Expr (.Call (.Attribute o "append" apos) [.Name y p1] [] cpos) pos) (jz i way j) :=
 PS.weak (jo (qD Xj Xk Xl ib ho (fQ (gH hN hv hd hcd) kC hs) hbase hfew hline hs hplain) hsw) fun D σ H hq=>by
  obtain ⟨Φ,η,out,s,e,k⟩:=hq
  unfold jz at e
  split at e
  ·rename_i t u ht hu
   split at e
   ·rename_i hij
    obtain ⟨ks,ek,e3⟩:=Zz.mp e
    obtain ⟨⟨t',x2⟩,e5,e6⟩:=Zu.mp e3
    cases e6
    obtain ⟨vj,j1,j2⟩:=s.rp _ _ hu
    have j2':Rp G H vj u (Φ j):=j2
    have ndj:=s.nd j u hu
    have mj:∀ b∈Φ j,Mut (H b):=j2'.dom
    have kp:=so mj
    have sepj:∀ i' c',i' ≠ j->η[i']?=some (some c')->∀ b∈Φ i',b ∉ Φ j:=fun i' c' n h b hb hb'=>s.sep j i' u c' hu h (YV n) b hb' hb
    have s0:SR G Φ (η.set j none) σ (less H (Φ j)):=⟨(s.drop j).len,fun i' c' h=>by
     obtain ⟨n,h'⟩:=cL h
     obtain ⟨v,h1,h2⟩:=s.rp i' c' h'
     exact ⟨v,h1,h2.keep kp fun b hb ob hob=>by rw [gf (sepj i' c' n h' b hb)];exact hob⟩,(s.drop j).nd,(s.drop j).sep⟩
    have ht0:(η.set j none)[i]?=some (some (.ow t)):=by
     rw [YY (YV hij)]
     exact ht
    obtain ⟨v,h1,h2⟩:=s0.rp _ _ ht0
    obtain ⟨w,x,F1,x3,w1,w2,w3,w4,w5⟩:=g6 ks J h2 (s0.nd i t ht0) e5
    unfold aD at w4
    split at w4
    ·rename_i l yv heq
     cases heq
     obtain ⟨z,ez,e7⟩:=Zz.mp w4
     cases (show some u=some z from ez)
     split at e7
     ·rename_i hl
      cases e7
      obtain ⟨a,us,Gs,rfl,rfl,ha,ra⟩:=w2.lst_inv
      obtain ⟨haH,haj⟩:=gb ha
      have w1':Pth G H ks v (.ref a):=by
       have:∀ {ks:List Ky} {v w:V},Pth G (less H (Φ j)) ks v w->Pth G H ks v w:=by
        intro ks v w p
        induction p with
        | nil v=>exact .nil v
        | fld h l _ ih=>exact .fld (gb h).1 l ih
        | ix h l m _ ih=>exact .ix (gb h).1 l m ih
        | key h l _ ih=>exact .key (gb h).1 l ih
       exact this w1
      refine ⟨Φ,η,t,ks,v,.ref a,s,ht,h1,ek,w1',fun H0 sm0=>⟨.inl ⟨rfl,us,by rw [hK];exact SqL.of (sm0 a _ haH)⟩,vj,j1,a,us,vj,rfl,rfl,sm0 a _ haH,by rw [ra.len.1];exact hl,?_⟩⟩
      have m0:Mut (H0 a):=by rw [sm0 a _ haH];exact True.intro
      have nd1:=Zh.mp w3
      have offj:∀ b∈Gs.flatten,b ∉ Φ j:=fun b hb hb'=>by
       have:=ra.dom b hb
       rw [m9 hb'] at this
       exact this
      have lsm:∀ b ob,less H (Φ j) b=some ob->H0 b=some ob:=fun b ob h=>sm0 b ob (gb h).1
      have kl:Kept (less H (Φ j)) H0:=⟨fun b xs h=>lsm b _ h,fun b ob u h=>lsm b _ h⟩
      have g:Chg G (less H (Φ j)) (.ref a) (a :: Gs.flatten) (.lst (l++[u])) (upd H0 a (.lst (us++[vj]))) (a :: (Gs++[Φ j]).flatten):=by
       refine ⟨kl.trans (Kept.upd (.inl m0)),fun b ob hb h=>by rw [aG (fun z=>hb (by rw [z];exact Zw))];exact lsm b ob h,fun b h z=>?_,.lst ay ((RpL.off (ra.keep kl fun b hb ob h=>lsm b ob h) m0 nd1.1).append (.cons (((j2'.same sm0)).keep (Kept.upd (.inl m0)) fun b hb ob ho=>by rw [aG (fun z=>haj (by rw [← z];exact hb))];exact ho) .nil)),?_,fun b hb=>?_⟩
       ·by_cases q:b=a
        ·rw [q,ay] at z;cases z
        ·rw [aG q] at z
         cases e:less H (Φ j) b with
         | none=>exact h e
         | some ob=>rw [lsm b ob e] at z;cases z
       ·rw [Yt]
        refine Zh.mpr ⟨fun m=>?_,ZP.mpr ⟨nd1.2,by simpa using ndj,fun b hb c hc z=>?_⟩⟩
        ·rcases ZY.mp m with m | m
         ·exact nd1.1 m
         ·exact haj (by simpa using m)
        ·subst z;exact offj b hb (by simpa using hc)
       ·rcases Zg.mp hb with rfl | hb
        ·exact .inl Zw
        ·rw [Yt] at hb
         rcases ZY.mp hb with hb | hb
         ·exact .inl (Zx _ hb)
         ·exact .inr (m9 (by simpa using hb))
      obtain ⟨F2,g2⟩:=w5 _ _ g
      obtain ⟨z1,z2⟩:=s0.mut ht0 h1 g2
      have back:∀ b,less H (Φ j) b=none->cw Φ η b\/H b=none:=fun b h=>by
       by_cases q:b∈Φ j
       ·exact .inl ⟨j,u,hu,q⟩
       ·rw [gf q] at h;exact .inr h
      have ow0:∀ b,cw Φ (η.set j none) b->cw Φ η b:=fun b ⟨j',t',q1,q2⟩=>⟨j',t',(cL q1).2,q2⟩
      have pu0:∀ b,dE Φ (η.set j none) b->dE Φ η b:=fun b ⟨j',t',q1,q2⟩=>⟨j',t',(cL q1).2,q2⟩
      refine k _ σ _ z1 ⟨fun b ob h n=>?_,fun b h z=>?_,fun b h=>?_,fun b h=>?_,(Kept.of sm0).trans (Kept.upd (.inl m0))⟩
      ·have nj:b ∉ Φ j:=fun z=>n ⟨j,u,hu,z⟩
       exact z2.keep b ob (by rw [gf nj];exact h) fun z=>n (ow0 b z)
      ·by_cases q:b=a
       ·rw [q,ay] at z;cases z
       ·rw [aG q] at z;exact h (sm0.free z)
      ·rcases z2.ow b h with h | h
       ·exact .inl (ow0 b h)
       ·exact back b h
      ·rcases z2.pu b h with h | h | h
       ·exact .inl (pu0 b h)
       ·exact .inr (.inl (ow0 b h))
       ·exact (back b h).elim (fun z=>.inr (.inl z)) fun z=>.inr (.inr z)
     ·cases e7
    ·cases w4
   ·cases e
  ·cases e
end
end VS
end
section
namespace VS
open PySem PySem.Spec PyProof.Rows L2
noncomputable def isInt:T->Bool
 | .int _=>true
 | _=>false
noncomputable def oU (i:Nat):Its:=fun η=>match (η[i]?:Option (Wj)) with
 | some (some (.pu (.dct 3 l)))=>if (l.all fun p=>isInt p.1)=true then some (.fr,l.map (·.1)) else none
 | _=>none
noncomputable def qW (i:Nat) (tg:Tg) (ce:Ex):Sx:=fun η=>match (η[i]?:Option (Wj)) with
 | some (some (.ow (.dct 0 l)))=>(cM 1 tg (oU i) none ce (η.set i (some (.pu (.dct 3 l))))).bind fun v=>match v.1 with
  | .fr=>some (.rt v (η.set i none))
  | _=>none
 | _=>none
theorem zip_inj {α β:Type}:∀ {a c:List α} {b d:List β},a.length=b.length->c.length=d.length->a.zip b=c.zip d->a=c
 | [],[],_,_,_,_,_=>rfl
 | [],_ :: _,_,[],_,h,_=>by simp at h
 | [],_ :: _,[],_ :: _,_,_,h=>by simp at h
 | [],_ :: _,_ :: _,_ :: _,h,_,_=>by simp at h
 | _ :: _,_,[],_,h,_,_=>by simp at h
 | _ :: _,[],_ :: _,[],_,_,h=>by simp at h
 | _ :: _,[],_ :: _,_ :: _,_,h,_=>by simp at h
 | _ :: _,_ :: _,_ :: _,[],_,h,_=>by simp at h
 | x :: a,y :: c,z :: b,w :: d,h1,h2,h=>by
  rw [Zc,Zc] at h
  obtain ⟨e1,e2⟩:=List.cons.inj h
  rw [zip_inj (by simpa using h1) (by simpa using h2) e2,(Xv e1).1]
section
variable {G:Gx} {X:Cx} {i:Nat} {elt tg:Expr} {sc:Scope} {pos pos' p1:Pos} {N:List Str} {x:Str} {g:Tg} {ce:Ex}
theorem Aa (i:Nat) (N:List Str) (hcalm:X.calm=true) (hN:X.N[i]?=some x) (hv:Vis X.env.scope x) (hd:(x == ("__debug__" : Str))=false) (hcd:(x == ("__classdict__" : Str))=false) (hin:o6 1 g)
  (hg:∀ cl C s H fp,PVG G (bZ X N sc cl C s H fp) tg g) (he:∀ cl C s H fp,PV G (bZ X N sc cl C s H fp) elt ce)
  (hsc:kN X.env sc=true) (hnm:jr sc (N.drop 1) X.N=true) (hNl:1<=N.length) (hs:∀ y,foldedSetIterable (.Name x p1) X.env y=pure y) :
  PSV G X (.Return (some (.ListComp elt [⟨tg,.Name x p1,[],0⟩] sc pos)) pos') (qW i g ce) :=
 PS.weak (ng (nI hcalm (B1 (gH hN hv hd hcd)) hsc hnm hNl (fun cl C s H fp=>⟨hg cl C s H fp,oF,he cl C s H fp⟩) hs)) fun D σ H hq=>by
  obtain ⟨Φ,η,out,s,e,k⟩:=hq
  unfold qW at e
  split at e
  ·rename_i l hl
   obtain ⟨⟨mv,tv⟩,ev,e1⟩:=Zz.mp e
   have hfr:mv=.fr/\out=.rt (.fr,tv) (η.set i none):=by
    cases mv with
    | fr=>cases e1;exact ⟨rfl,rfl⟩
    | pu=>cases e1
    | bo=>cases e1
   obtain ⟨rfl,rfl⟩:=hfr
   obtain ⟨v,g1,g2⟩:=s.rp _ _ hl
   obtain ⟨a,ns,vs,ts,Fs,rfl,eF,ha,hln,rfl,ra⟩:=eB g2
   have hlt:i < η.length:=(Zd.mp hl).1
   have nd:=s.nd i _ hl
   rw [eF] at nd
   have nd':=Zh.mp nd
   refine ⟨.ref a,g1,a,ns.zip vs,rfl,ha,fun o=>?_⟩
   have mu:Mut (H a):=by rw [ha];exact True.intro
   have kp:Kept H (upd H a (.frz o (.dK (ns.zip vs)))):=Kept.upd (.inl mu)
   have es:σ.set i (some (.ref a))=σ:=by
    obtain ⟨h,e⟩:=Zd.mp g1
    rw [← e]
    exact XY h
   have aΦ:a∈Φ i:=by rw [eF];exact Zw
   have sub:∀ b∈Fs.flatten,b∈Φ i:=fun b hb=>by rw [eF];exact Zx _ hb
   have s1:SR G (j8 Φ i Fs.flatten) (η.set i (some (.pu (.dct 3 ((ns.map aT).zip ts))))) σ (upd H a (.frz o (.dK (ns.zip vs)))):=by
    have:=s.put (c:=.pu (.dct 3 ((ns.map aT).zip ts))) (v:=.ref a) (F:=Fs.flatten) (H':=upd H a (.frz o (.dK (ns.zip vs)))) hlt (.dctZ ay hln (ra.off mu nd'.1)) (fun j c' n hj w q=>q.keep kp fun b hb ob ho=>by
     rw [aG (fun z=>s.sep i j _ c' hl hj (YV n) a aΦ (by rw [← z];exact hb))];exact ho) (fun _ z=>nomatch z) (fun _ z=>nomatch z) fun j u n hj b hb hb'=>s.sep j i u _ hj hl n b hb (sub b hb')
    rw [es] at this
    exact this
   have hT:tE G (cM 1 g (oU i) none ce) σ (upd H a (.frz o (.dK (ns.zip vs)))) D.rt:=by
    refine ⟨_,_,.fr,tv,s1,ev,fun u H' F sm r f=>?_⟩
    have ee:(η.set i (some (.pu (.dct 3 ((ns.map aT).zip ts))))).set i none=η.set i none:=by rw [List.set_set]
    have sd:=(s1.drop i).same sm
    rw [ee] at sd
    have ow0:∀ b,cw (j8 Φ i Fs.flatten) (η.set i none) b->cw Φ η b:=fun b ⟨j,t,q1,q2⟩=>by
     obtain ⟨n,q1'⟩:=cL q1
     rw [d8 n] at q2
     exact ⟨j,t,q1',q2⟩
    refine k u H' F _ σ sd ⟨fun b ob h n=>?_,fun b h z=>?_,fun b h=>.inl (ow0 b h),fun b ⟨j,t,q1,q2⟩=>?_,kp.trans (Kept.of sm)⟩ r ⟨f.1,fun b hb=>.inl ?_⟩
    ·have nb:b ≠ a:=fun z=>n ⟨i,_,hl,by rw [z];exact aΦ⟩
     exact ⟨sm b ob (by rw [aG nb];exact h),fun z=>n (ow0 b z)⟩
    ·have z1:=sm.free z
     by_cases q:b=a
     ·rw [q,ay] at z1;cases z1
     ·rw [aG q] at z1;exact h z1
    ·obtain ⟨n,q1'⟩:=cL q1
     rw [d8 n] at q2
     exact .inl ⟨j,t,q1',q2⟩
    ·have:=f.2 b hb
     by_cases q:b=a
     ·rw [q,ay] at this;cases this
     ·rw [aG q] at this;exact this
   obtain ⟨Φ2,η2,m2,l2,s2,e2,k2⟩:=nG (cond:=none) hin hT
   refine k2 (Itk a o (ns.zip vs)) _ [] (aJ.refl _) ?_ (fun b hb=>nomatch hb)
   unfold oU at e2
   split at e2
   ·rename_i l3 h3
    split at e2
    ·rename_i hint
     cases e2
     obtain ⟨v3,q1,q2⟩:=s2.rp _ _ h3
     rw [g1] at q1
     cases q1
     obtain ⟨a3,o3,ks3,vs3,ts3,Fs3,ea3,_,ha3,hl3,rfl,ra3⟩:=oB q2
     cases ea3
     rw [ay] at ha3
     have hz:ns.zip vs=ks3.zip vs3:=HO.dK.inj (HO.frz.inj (Zp ha3)).2
     have ek:=zip_inj hln hl3 hz
     subst ek
     have em:((ns.map aT).zip ts3).map (·.1)=ns.map aT:=Wz (by rw [Zy,hl3,ra3.len.1];exact Zl _)
     have zl:(ns.zip vs).length=ns.length:=by rw [Yw,hln,Nat.min_self]
     refine ⟨fun H2 kp2 _=>⟨fun n t hn=>?_,fun n hn=>?_⟩,fun b hb=>nomatch hb⟩
     ·rw [em,ZO] at hn
      obtain ⟨kk,hk1,hk2⟩:=Zu.mp hn
      have hnl:=(Zd.mp hk1).1
      refine ⟨⟨kp2.frz _ _ _ ay,by rw [zl];exact hnl⟩,fun y H3 hy=>?_⟩
      obtain ⟨rfl,p,hp,rfl⟩:=hy
      refine ⟨aJ.refl _,[],?_,fun b hb=>nomatch hb⟩
      have hp1:p.1=kk:=by
       have hzip:(ns.zip vs)[n]?=some p:=hp
       rw [Yb] at hzip
       rw [hk1] at hzip
       exact (Zp hzip.1).symm
      have hi:isInt t=true:=by
       have:=Yq.mp hint (t,ts3[n]'(by rw [← ra3.len.1,← hl3];exact hnl)) (by
        refine YI (i:=n) ?_
        rw [Yb]
        exact ⟨by rw [ZO,hk1];exact congrArg some hk2,Zm _⟩)
       exact this
      rw [hp1,← hk2]
      rw [← hk2] at hi
      cases kk with
      | inl n=>exact .int n
      | inr z=>cases hi
     ·refine ⟨kp2.frz _ _ _ ay,?_⟩
      rw [em,Zy] at hn
      rw [zl]
      exact hn
    ·cases e2
   ·cases e2
  ·cases e
end
noncomputable def AV (c:Nat):Option (Wj)->Bool
 | some (some (.ow (.obj c' (_ :: _))))=>c' == c+1
 | _=>false
noncomputable def lJ (i c:Nat) (mv:List Bool) (g:Mt) (x:Xx) (cs:Exs) (η:VS.Env):Option (Val×VS.Env):=if AV c (η[i]?:Option (Wj))=true then (x η).bind fun z=>if imm z.1.2=true then (match (z.2[i]?:Option (Wj)) with
 | some (some (.ow t))=>(cs z.2).bind fun xs=>(jT c mv g ((.fr,z.1.2) :: xs) t).map fun r=>(r.2,z.2.set i (some (.ow r.1)))
 | _=>none) else none else none
section
variable {G:Gx} {X:Cx} {i c k k':Nat} {e:Expr} {es:List Expr} {cs:Exs} {m y:Str} {f:Addr} {fd:FuncData} {ps:List Str} {mv:List Bool} {g:Mt} {x:Xx} {apos pos p1:Pos}
theorem xO {pl:Sem Bool} (hn:∀ k,(G.ct (c+1)).2 k ≠ m) (hN:X.N[i]?=some y) (hv:Vis X.env.scope y) (hd:(y == ("__debug__" : Str))=false) (hcd:(y == ("__classdict__" : Str))=false) (hc:Cls X.K (G.ct (c+1)).1) (hm:Meth X.K (G.ct (c+1)).1 m f) (F:FnOk X.prog X.w X.K X.mg X.base CX0 k f fd ps (spM G c mv g)) (hr:Room k' X.A) (hk:k<=k') (hb:Binds X.K fd ps []) (h1:PX G X e x) (ha:PVs G X es cs)
  (hst:starEach (e :: es) X.env=(false,eval e X.env) :: starEach es X.env) (hpl:(backTo pos (starEach es X.env)).any (·.1)=false)
  (ht:eval (.Call (.Attribute (.Name y p1) m apos) (e :: es) [] pos) X.env=(do
   let ov ← eval (.Name y p1) X.env
   standAt apos.atName
   let (f,first) ← holding [ov] (getMethod ov m pl)
   callWith pos f first (backTo pos (starEach (e :: es) X.env)) (backToKw pos (keywordEach [] X.env)))):PX G X (.Call (.Attribute (.Name y p1) m apos) (e :: es) [] pos) (lJ i c mv g x cs) :=
 PE.weak (m7 (E:=E0) (gH hN hv hd hcd) hc hm F (hr.mono hk) hb .nil j4 (fQ h1 ha hst) hst hpl ht) fun σ H Q h=>by
  obtain ⟨Φ,η,v,η',s,e,him,kq⟩:=h
  unfold lJ at e
  split at e
  ·rename_i hob
   obtain ⟨⟨v1,η1⟩,e1,e2⟩:=Zz.mp e
   split at e2
   ·rename_i him1
    unfold AV at hob
    split at hob
    ·rename_i c0 q0 fs0 h0
     have ec0:c0=c+1:=by simpa using hob
     subst ec0
     obtain ⟨v0,g1,g2⟩:=s.rp _ _ h0
     have g2':Rp G H v0 (.obj (c+1) (q0 :: fs0)) (Φ i):=g2
     obtain ⟨c',a,dx,b,ns,vs,ts,Fs,ec,rfl,eb,ef,eF,hA,hl,hbb,ra⟩:=dS g2'
     cases ec
     have key:∀ (ns:Wo) (vs:List V),((ns.map (G.ct (c+1)).2).zip vs).lookup m=none:=by
      intro ns
      induction ns with
      | nil=>intro vs;simp
      | cons n ns ih =>
       intro vs
       cases vs with
       | nil=>simp
       | cons v vs =>
        rw [Zn,Zc,Yz]
        have:(m == (G.ct (c+1)).2 n)=false:=by
         rw [ZV]
         exact fun z=>hn n z.symm
        rw [this]
        exact ih vs
     refine ⟨.ref a,g1,a,dx,_,rfl,hA,key _ _,Φ,η,v1,η1,s,e1,him1,fun u1 H1 Φ1 s1 f1 r1=>?_⟩
     dsimp only at e2
     split at e2
     ·rename_i t1 ht1
      obtain ⟨xs,el,e3⟩:=Zz.mp e2
      obtain ⟨⟨x3,y3⟩,w4,e4⟩:=Zu.mp e3
      cases e4
      obtain ⟨va,q1,w2⟩:=s1.rp _ _ ht1
      rw [g1] at q1
      cases q1
      have w3:=s1.nd i t1 ht1
      refine ⟨Φ1,η1,xs,s1,el,fun us H2 Gs sm2 rp2 fp2=>?_⟩
      show spM G c mv g (V.ref a :: ((u1 :: us)++[])) H2 Q E0
      rw [ZK]
      unfold jT at w4
      split at w4
      ·rename_i c1 b1 fs
       split at w4
       ·rename_i hcc
        obtain ⟨rfl,hno,hao,han⟩:=hcc
        obtain ⟨⟨fs',z⟩,eg,e7⟩:=Zz.mp w4
        split at e7
        ·rename_i hno'
         cases e7
         have w2':Rp G H1 (.ref a) (.obj (c+1) ((0,.bl b1) :: fs)) (Φ1 i):=w2
         obtain ⟨c2,a2,dx2,b2,ns2,vs2,ts2,Fs2,ec2,ea2,eb2,rfl,eF2,hA2,hl2,hb2,ra2⟩:=dS w2'
         cases ec2
         cases ea2
         cases eb2
         have lts:ns2.length=ts2.length:=hl2.trans ra2.len.1
         have fpl:FpL Φ1 η1 H1 ((.fr,v1.2) :: xs) ([] :: Gs):=⟨fun n v' F' a1 a2=>by
          cases n with
          | zero=>cases a1;cases a2;exact Fp.nil
          | succ n=>exact fp2.each n v' F' (by simpa using a1) (by simpa using a2),by
          show ([]++frs xs Gs).Nodup
          exact fp2.nd⟩
         have mvn:=qR hao fpl
         have rpA:RpL G H2 (u1 :: us) (trees ((.fr,v1.2) :: xs)) ([] :: Gs):=.cons (r1.same sm2) rp2
         refine ⟨a,u1 :: us,ns2.zip ts2,trees ((.fr,v1.2) :: xs),Φ1 i,[] :: Gs,fs',z,rfl,?_,rpA.at (some a) han,?_,?_,?_,eg,fun u H' F' gc ru=>?_⟩
         ·rw [eF2]
          exact .ins (sm2 a _ hA2) hl2 (fun _=>rfl) ((ra2.same sm2).at (some a) (dX lts hno))
         ·rw [iF hao]
          simp [trees]
         ·refine ZP.mpr ⟨w3,fpl.nd.sublist (lE hao),fun b1 hb1 b2 hb2 z=>?_⟩
          subst z
          exact Mut.ne_none (w2.dom b1 hb1) (mvn b1 hb2)
         ·rw [nK hao rpA]
          exact fun b1 _ z=>nomatch z
         ·have back:Rp G H' (.ref a) (.obj (c+1) ((0,.bl b1) :: fs')) F':=by
           obtain ⟨c3,a3,dx3,b3,ns3,vs3,ts3,Fs3,ec3,ea3,eb3,ef3,eF3,hA3,hl3,hb3,ra3⟩:=dS gc.rp
           cases ec3
           cases ea3
           subst ef3
           rw [eF3]
           exact .ins hA3 hl3 hb2 (ra3.at G.me (dX (hl3.trans ra3.len.1) hno'.1))
          have gG:Chg G H1 (.ref a) (Φ1 i) (.obj (c+1) ((0,.bl b1) :: fs')) H' F':=⟨(Kept.of sm2).trans gc.kept,fun b1 o1 hb1 ho=>gc.keep b1 o1 (fun z=>(ZY.mp z).elim hb1 fun z=>by rw [mvn b1 z] at ho;cases ho) (sm2 b1 o1 ho),fun b1 h=>gc.dom b1 fun z=>h (sm2.free z),back,gc.nd,fun b1 hb1=>by
           rcases gc.sub b1 hb1 with z | z
           ·rcases ZY.mp z with z | z
            ·exact .inl z
            ·exact .inr (mvn b1 z)
           ·exact .inr (sm2.free z)⟩
          obtain ⟨z1,z2⟩:=s1.mut ht1 g1 gG
          exact kq u H' _ z1 (f1.trans z2) (ru.at G.me (lz z hno'.2))
        ·cases e7
       ·cases w4
      ·cases w4
     ·cases e2
    ·cases hob
   ·cases e2
  ·cases e
end
noncomputable def fnm (ns:List Str) (k:Nat):Str:=match ns[k]? with
 | some x=>x
 | none=>⟨#[k]⟩
noncomputable def gxO (ns:List Str) (K:Wt) (C D:Addr):Gx:=⟨K,fun c=>(if c=2 then D else C,fnm ns),none⟩
theorem xo {ns:List Str} (nd:ns.Nodup) (h:∀ x∈ns,x.cps.size ≠ 1) (k k':Nat) (e:fnm ns k=fnm ns k'):k=k':=by
 unfold fnm at e
 by_cases h1:k < ns.length
 ·by_cases h2:k' < ns.length
  ·rw [Zm h1,Zm h2] at e
   exact (YD nd).mp e
  ·rw [Zm h1,Z0 (ZJ h2)] at e
   have e':ns[k]=(⟨#[k']⟩:Str):=e
   exact absurd (by rw [e'];rfl) (h _ (Yy h1))
 ·by_cases h2:k' < ns.length
  ·rw [Z0 (ZJ h1),Zm h2] at e
   have e':(⟨#[k]⟩:Str)=ns[k']:=e
   exact absurd (by rw [← e'];rfl) (h _ (Yy h2))
  ·rw [Z0 (ZJ h1),Z0 (ZJ h2)] at e
   have e':(⟨#[k]⟩:Str)=⟨#[k']⟩:=e
   cases e'
   rfl
theorem yf {ns:List Str} {K:Wt} {C D:Addr} {m:Option Addr} (nd:ns.Nodup) (h:∀ x∈ns,x.cps.size ≠ 1):eT ((gxO ns K C D).at m):=fun _ k k' e=>xo nd h k k' e
theorem fA {ns:List Str} {x:Str} (h:x ∉ ns) (h1:x.cps.size ≠ 1) (k:Nat):fnm ns k ≠ x:=fun e=>by
 unfold fnm at e
 split at e
 ·rename_i y hy
  exact h (e ▸ YI hy)
 ·exact h1 (by rw [← e];rfl)
theorem sE {ns:List Str} {K:Wt} {C D:Addr} {m:Option Addr} {k:Nat} {f:Str} (hk:ns[k]?=some f) (cC:Cls K C) (cD:Cls K D) (nC:b6 K C f) (nD:b6 K D f):FldOk ((gxO ns K C D).at m) K k f :=
 ⟨fun c=>by show fnm ns k=f;unfold fnm;rw [hk],fun c=>by show Cls K (if c+1=2 then D else C);split <;> assumption,fun c=>by show b6 K (if c+1=2 then D else C) f;split <;> assumption⟩
structure MtAt (P:Program) (w:World) (K:Wt) (mg:Ws) (base:Heap) (k:Nat) (G:Gx) (c:Nat) (x:Str) (ps:List Str) (mv:List Bool) (g:Mt):Prop where
 ex:∃ f fd,FnOk P w K mg base CX0 k f fd ps (spM G c mv g)/\Meth K (G.ct (c+1)).1 x f/\Binds K fd ps []
 cl:Cls K (G.ct (c+1)).1
 no:∀ k,(G.ct (c+1)).2 k ≠ x
structure MpAt (P:Program) (w:World) (K:Wt) (mg:Ws) (base:Heap) (k:Nat) (G:Gx) (c:Nat) (x:Str) (ps:List Str) (h:Fn):Prop where
 ex:∃ f fd,FnOk P w K mg base CX0 k f fd ps (spF G h)/\Meth K (G.ct (c+1)).1 x f/\Binds K fd ps []
 cl:Cls K (G.ct (c+1)).1
 no:∀ k,(G.ct (c+1)).2 k ≠ x
structure InAt (P:Program) (w:World) (K:Wt) (mg:Ws) (base:Heap) (k:Nat) (G:Gx) (c n:Nat) (x:Str) (ps:List Str) (g:Mt):Prop where
 ex:∃ f fd,FnOk P w K mg base CX0 k f fd ps (spM G c (List.replicate n false) g)/\Mk K (G.ct (c+1)).1 f/\Binds K fd ps []
 mg:mg x=some (.ref (G.ct (c+1)).1)
section
variable {P:Program} {w:World} {K:Wt} {mg:Ws} {base:Heap} {k c n:Nat} {G:Gx} {x:Str} {ps:List Str} {mv:List Bool} {g:Mt}
theorem MtAt.at {m:Option Addr} (h:MtAt P w K mg base k G c x ps mv g):MtAt P w K mg base k (G.at m) c x ps mv g:=⟨h.ex,h.cl,h.no⟩
theorem InAt.at {m:Option Addr} (h:InAt P w K mg base k G c n x ps g):InAt P w K mg base k (G.at m) c n x ps g:=⟨h.ex,h.mg⟩
theorem A3 {qual:Str} {st:Stmt} {f:Addr} {fd:FuncData} {N:List Str} {np nn:Nat} {body:Sx} (F:Fun K x qual st f fd) (hm:Meth K (G.ct (c+1)).1 x f) (hc:Cls K (G.ct (c+1)).1) (hno:∀ k,(G.ct (c+1)).2 k ≠ x) (S:FnScope N ps (af st)) (hp:ps.length=np) (hn:N.length=nn)
  (hbd:∀ (kV doc pm:Value) (an:Option Addr) (cdv ct:Value) (us:Wq),us.length=ps.length->bindArgs (PySem.W.fnOf x qual (aA st) (au st) (af st) .none kV doc pm an cdv ct) ⟨us,[]⟩=pure (ps.zip us))
  (hb:∀ (a:Addr) (cdv:Value) (A:Around) (outer:List PySem.Env) (s:Shared) (H:Hp) (E:XK),Room k (A.deeper (envOfC qual (af st) s.heap.objs.size f cdv))->di (G.at (some a)) (fM CX0 P w K mg base N qual (af st) f cdv A outer s H E).nox (au st) body) :
  MtAt P w K mg base (k+1) G c x ps mv (mfn c np nn mv body):=⟨⟨f,fd,fnM F S hp hn hb,hm,F.binds hbd⟩,hc,hno⟩
theorem Bb {y qual:Str} {st:Stmt} {f:Addr} {fd:FuncData} {N:List Str} {np nn:Nat} {body:Sx} (F:Fun K y qual st f fd) (hm:Mk K (G.ct (c+1)).1 f) (hg:mg x=some (.ref (G.ct (c+1)).1)) (S:FnScope N ps (af st)) (hp:ps.length=np) (hn:N.length=nn)
  (hbd:∀ (kV doc pm:Value) (an:Option Addr) (cdv ct:Value) (us:Wq),us.length=ps.length->bindArgs (PySem.W.fnOf y qual (aA st) (au st) (af st) .none kV doc pm an cdv ct) ⟨us,[]⟩=pure (ps.zip us))
  (hb:∀ (a:Addr) (cdv:Value) (A:Around) (outer:List PySem.Env) (s:Shared) (H:Hp) (E:XK),Room k (A.deeper (envOfC qual (af st) s.heap.objs.size f cdv))->di (G.at (some a)) (fM CX0 P w K mg base N qual (af st) f cdv A outer s H E).nox (au st) body) :
  InAt P w K mg base (k+1) G c n x ps (mfn c np nn (List.replicate n false) body):=⟨⟨f,fd,fnM F S hp hn hb,hm,F.binds hbd⟩,hg⟩
theorem xB {y qual:Str} {st:Stmt} {f:Addr} {fd:FuncData} {N:List Str} {np nn:Nat} {body:Sx} (F:FunD K y qual st f fd) (hm:Mk K (G.ct (c+1)).1 f) (hg:mg x=some (.ref (G.ct (c+1)).1)) (S:FnScope N ps (af st)) (hp:ps.length=np) (hn:N.length=nn)
  (hbd:∀ (s:Shared) (T:Addr) (kV doc pm:Value) (an:Option Addr) (cdv ct:Value) (o:Obj) (n:Nat) (us:Wq),K.In s.heap->K.lookup T=some o->o.data=.seq #[.none] n->us.length=ps.length->BindsTo s (PySem.W.fnOf y qual (aA st) (au st) (af st) (.ref T) kV doc pm an cdv ct) ⟨us,[]⟩ (ps.zip us))
  (hb:∀ (a:Addr) (cdv:Value) (A:Around) (outer:List PySem.Env) (s:Shared) (H:Hp) (E:XK),Room k (A.deeper (envOfC qual (af st) s.heap.objs.size f cdv))->di (G.at (some a)) (fM CX0 P w K mg base N qual (af st) f cdv A outer s H E).nox (au st) body) :
  InAt P w K mg base (k+1) G c n x ps (mfn c np nn (List.replicate n false) body):=⟨⟨f,fd,C9 (fun l b=>F.ok S l b) hp hn hb,hm,F.binds hbd⟩,hg⟩
theorem Ao {qual:Str} {st:Stmt} {f:Addr} {fd:FuncData} {N:List Str} {np nn:Nat} {body:Sx} (F:Fun K x qual st f fd) (hm:Meth K (G.ct (c+1)).1 x f) (hc:Cls K (G.ct (c+1)).1) (hno:∀ k,(G.ct (c+1)).2 k ≠ x) (S:FnScope N ps (af st)) (hp:ps.length=np) (hn:N.length=nn)
  (hbd:∀ (kV doc pm:Value) (an:Option Addr) (cdv ct:Value) (us:Wq),us.length=ps.length->bindArgs (PySem.W.fnOf x qual (aA st) (au st) (af st) .none kV doc pm an cdv ct) ⟨us,[]⟩=pure (ps.zip us))
  (hb:∀ (cdv:Value) (A:Around) (outer:List PySem.Env) (s:Shared) (H:Hp) (E:XK),Room k (A.deeper (envOfC qual (af st) s.heap.objs.size f cdv))->di G (fM CX0 P w K mg base N qual (af st) f cdv A outer s H E).nox (au st) body) :
  MpAt P w K mg base (k+1) G c x ps (fn np nn body):=⟨⟨f,fd,fnV F S hp hn hb,hm,F.binds hbd⟩,hc,hno⟩
theorem x6 {k:Nat} {f:Addr} {fd:FuncData} {y:Str} {g:Fn} (hK:G.K=K) (F:FnOk P w K mg base CX0 k f fd [y] (spF G g)) (hg:∀ ns:Wm,g [.scr ns]=some (.fr,.bl true)) :
  FnOk P w K mg base CX0 k f fd [y] (spF (gx0 K) yC):=F.imp fun vs H Q E h=>by
 obtain ⟨ts,Fs,m,r,h1,h2,q⟩:=h
 unfold yC at h2
 split at h2
 ·rename_i ns
  cases h2
  cases h1 with
  | cons r1 r2 =>
   cases r2
   cases r1 with
   | scr hs=>exact ⟨[.scr ns],[[]],.fr,.bl true,.cons (.scr (by rw [hK];exact hs)) .nil,hg ns,fun v H' F e1 r f1=>q v H' F e1 (by cases r;exact .bl _) f1⟩
 ·cases h2
end
section
variable {G:Gx} {X:Cx} {i j c k k' kr n:Nat} {way:List Stp} {o e b:Expr} {es:List Expr} {cs:Exs} {ca ck ce:Ex} {m x:Str} {ps:List Str} {mv:List Bool} {g:Mt} {h:Fn} {xc:Xx} {f:Str} {apos cpos pos pos' p p1:Pos}
theorem u6 (i:Nat) (hN:X.N[i]?=some x) (hv:Vis X.env.scope x) (hd:(x == ("__debug__" : Str))=false) (hcd:(x == ("__classdict__" : Str))=false):PPl G X (.Name x pos) i []:=xV i hN hv hd hcd
theorem xp (k:Nat) (F:FldOk G X.K k f) (h:PPl G X e i way) (hb:attributeBase e f X.env (eval e X.env)=eval e X.env):PPl G X (.Attribute e f pos) i (way++[.fld k]):=Bf k F h hb
theorem AG (hr:Room kr X.A) (h:PPl G X e i way) (hb:PV G X b ck) (hs:eA b) (hK:X.K=G.K):PPl G X (.Subscript e b pos) i (way++[.ix ck]):=Ce hr h hb hs hK
theorem xf {pl:Sem Bool} (J:eT G) (F:MtAt X.prog X.w X.K X.mg X.base k G c m ps mv g) (hr:Room k' X.A) (hk:k<=k') (ho:PPl G X o i way) (ha:PVs G X (e :: es) cs)
  (hst:starEach (e :: es) X.env=(false,eval e X.env) :: starEach es X.env) (hpl:(backTo pos (starEach es X.env)).any (·.1)=false)
  (ht:eval (.Call (.Attribute o m apos) (e :: es) [] pos) X.env=(do
   let ov ← eval o X.env
   standAt apos.atName
   let (f,first) ← holding [ov] (getMethod ov m pl)
   callWith pos f first (backTo pos (starEach (e :: es) X.env)) (backToKw pos (keywordEach [] X.env)))):PX G X (.Call (.Attribute o m apos) (e :: es) [] pos) (bc i way c mv g cs):=by
 obtain ⟨f,fd,h1,h2,h3⟩:=F.ex
 exact yK J F.no ho F.cl h2 h1 hr hk h3 ha hst hpl ht
theorem vG {pl:Sem Bool} (J:eT G) (F:MtAt X.prog X.w X.K X.mg X.base k G c m ps mv g) (hr:Room k' X.A) (hk:k<=k') (ho:PPl G X o i way)
  (ht:eval (.Call (.Attribute o m apos) [] [] pos) X.env=(do
   let ov ← eval o X.env
   standAt apos.atName
   let (f,first) ← holding [ov] (getMethod ov m pl)
   callWith pos f first (backTo pos (starEach [] X.env)) (backToKw pos (keywordEach [] X.env)))):PX G X (.Call (.Attribute o m apos) [] [] pos) (bc i way c mv g aj):=by
 obtain ⟨f,fd,h1,h2,h3⟩:=F.ex
 exact vd J F.no ho F.cl h2 h1 hr hk h3 ht
theorem A1 {pl:Sem Bool} (F:MtAt X.prog X.w X.K X.mg X.base k G c m ps mv g) (hr:Room k' X.A) (hk:k<=k') (hN:X.N[i]?=some x) (hv:Vis X.env.scope x) (hd:(x == ("__debug__" : Str))=false) (hcd:(x == ("__classdict__" : Str))=false) (h1:PX G X e xc) (ha:PVs G X es cs)
  (hst:starEach (e :: es) X.env=(false,eval e X.env) :: starEach es X.env) (hpl:(backTo pos (starEach es X.env)).any (·.1)=false)
  (ht:eval (.Call (.Attribute (.Name x p1) m apos) (e :: es) [] pos) X.env=(do
   let ov ← eval (.Name x p1) X.env
   standAt apos.atName
   let (f,first) ← holding [ov] (getMethod ov m pl)
   callWith pos f first (backTo pos (starEach (e :: es) X.env)) (backToKw pos (keywordEach [] X.env)))):PX G X (.Call (.Attribute (.Name x p1) m apos) (e :: es) [] pos) (lJ i c mv g xc cs):=by
 obtain ⟨f,fd,h2,h3,h4⟩:=F.ex
 exact xO F.no hN hv hd hcd F.cl h3 h2 hr hk h4 h1 ha hst hpl ht
theorem xR {pl:Sem Bool} (F:MpAt X.prog X.w X.K X.mg X.base k G c m ps h) (hr:Room k' X.A) (hk:k<=k') (ho:PV G X o ca) (ha:PVs G X (e :: es) cs)
  (hst:starEach (e :: es) X.env=(false,eval e X.env) :: starEach es X.env) (hpl:(backTo pos (starEach es X.env)).any (·.1)=false)
  (ht:eval (.Call (.Attribute o m apos) (e :: es) [] pos) X.env=(do
   let ov ← eval o X.env
   standAt apos.atName
   let (f,first) ← holding [ov] (getMethod ov m pl)
   callWith pos f first (backTo pos (starEach (e :: es) X.env)) (backToKw pos (keywordEach [] X.env)))):PV G X (.Call (.Attribute o m apos) (e :: es) [] pos) (dC c h ca cs):=by
 obtain ⟨f,fd,h1,h2,h3⟩:=F.ex
 exact zC F.no ho F.cl h2 h1 hr hk h3 ha hst hpl ht
theorem uw {pl:Sem Bool} (F:MpAt X.prog X.w X.K X.mg X.base k G c m ps h) (hr:Room k' X.A) (hk:k<=k') (ho:PV G X o ca)
  (ht:eval (.Call (.Attribute o m apos) [] [] pos) X.env=(do
   let ov ← eval o X.env
   standAt apos.atName
   let (f,first) ← holding [ov] (getMethod ov m pl)
   callWith pos f first (backTo pos (starEach [] X.env)) (backToKw pos (keywordEach [] X.env)))):PV G X (.Call (.Attribute o m apos) [] [] pos) (dC c h ca aj):=by
 obtain ⟨f,fd,h1,h2,h3⟩:=F.ex
 exact yh F.no ho F.cl h2 h1 hr hk h3 ht
theorem B2 {e:Ex}:∀ (η:VS.Env) (xs:Wi),ae e aj η=some xs->xs.length=1:=fun η xs h=>by
 obtain ⟨a,_,h⟩:=Zz.mp h
 cases h
 rfl
theorem zW (F:InAt X.prog X.w X.K X.mg X.base k G c n x ps g) (hr:Room k' X.A) (hk:k+1<=k') (ha:PVs G X (e :: es) cs) (hn:∀ η xs,cs η=some xs->xs.length=n) (hg:Gl X x)
  (hdb:(x == ("__debug__" : Str))=false) (he:starEach (e :: es) X.env=(false,eval e X.env) :: starEach es X.env) (hpl:(backTo pos (starEach es X.env)).any (·.1)=false):PV G X (.Call (.Name x p) (e :: es) [] pos) (eNew c g cs):=by
 obtain ⟨f,fd,h1,h2,h3⟩:=F.ex
 exact Di n h2 h1 hr hk hg F.mg h3 ha hn hdb he hpl
theorem yj (F:InAt X.prog X.w X.K X.mg X.base k G c 0 x ps g) (hr:Room k' X.A) (hk:k+1<=k') (hg:Gl X x) (hdb:(x == ("__debug__" : Str))=false):PV G X (.Call (.Name x p) [] [] pos) (eNew c g aj):=by
 obtain ⟨f,fd,h1,h2,h3⟩:=F.ex
 exact zZ h2 h1 hr hk hg F.mg h3 hdb
theorem Co (h:PX G X e xc) (hsw:swapsWith e none pos.line X.env=pure false):PSV G X (.Expr e pos) (sXM xc):=wj h hsw
theorem AY (h:PX G X e xc):PSV G X (.Return (some e) pos) (jZ xc):=wB h
theorem zV (h:PX G X e xc) (hN:X.N.Nodup) (hi:X.N[j]?=some x) (hx:Loc X.env.scope x) (hs:swapsWith e (some (.Name x pos')) pos.line X.env=pure false) (hf:X.fn x=true\/X.env.scope.names.lookup x=some .local):PSV G X (.Assign [.Name x pos'] e pos) (gk j xc):=xg h hN hi hx hs hf
theorem Bt (J:eT G) (hr:Room kr X.A) (ho:PPl G X o i way) (hk:PV G X b ck) (he:PX G X e xc)
  (ha:∀ v,assign (.Subscript o b pos') X.env v=(do
   let ov ← holding [v] (eval o X.env)
   let iv ← holding [v,ov] (eval b X.env)
   standAt pos'
   holding [v,ov,iv] (setItem ov iv v)
   release [v,ov,iv] [])) (hs:swapsWithSole [.Subscript o b pos'] e pos.line X.env=pure false) (hw:swappedStores [.Subscript o b pos'] e X.env=pure none)
  (h1:(assignEach [.Subscript o b pos'] X.env).map (·.2)=[assign (.Subscript o b pos') X.env]):PSV G X (.Assign [.Subscript o b pos'] e pos) (gN i way ck xc):=yH J hr ho hk he ha hs hw h1
theorem zN (J:eT G) (hr:Room kr X.A) (ho:PPl G X o i way) (hk:PV G X b ck) (he:PV G X e ce)
  (ha:∀ v,assign (.Subscript o b pos') X.env v=(do
   let ov ← holding [v] (eval o X.env)
   let iv ← holding [v,ov] (eval b X.env)
   standAt pos'
   holding [v,ov,iv] (setItem ov iv v)
   release [v,ov,iv] [])) (hs:swapsWithSole [.Subscript o b pos'] e pos.line X.env=pure false) (hw:swappedStores [.Subscript o b pos'] e X.env=pure none)
  (h1:(assignEach [.Subscript o b pos'] X.env).map (·.2)=[assign (.Subscript o b pos') X.env]):PSV G X (.Assign [.Subscript o b pos'] e pos) (dN i way ck ce):=vi J hr ho hk he ha hs hw h1
theorem zS (J:eT G) (ho:PPl G X o i way) (ha:PVs G X [e] cs) (hK:X.K=G.K)
  (hbase:attributeBase o "append" X.env (eval o X.env)=eval o X.env)
  (hfew:((backTo cpos (starEach [e] X.env)).all (fun x=>!x.1) && (backToKw cpos (keywordEach [] X.env)).all (fun x=>x.1.isSome)
   && decide ([e].length+([]:List Keyword).length+(if ([]:List Keyword).isEmpty then 0 else 1) < 30))=true)
  (hline:(apos.endLine == cpos.line)=true) (hs:starEach [e] X.env=(false,eval e X.env) :: starEach [] X.env) (hplain:(backTo cpos (starEach [] X.env)).any (·.1)=false)
  (hsw:swapsWith (.Call (.Attribute o "append" apos) [e] [] cpos) none pos.line X.env=pure false) :
  PSV G X (.Expr (.Call (.Attribute o "append" apos) [e] [] cpos) pos) (sX (gv i way aD cs)) :=
 vE J Xj Xk Xl ib mP (fun H v t F l z r h=>jW r h) ho ha hK hbase hfew hline hs hplain hsw
end
section
variable {G:Gx} {X:Cx} {a:Expr} {ca:Ex} {pos:Pos}
noncomputable def slT (b:Nat) (x:Val):Wh:=match x with
 | (_,.tup ts)=>if b < ts.length/\(ts.take b).all sca then some (.fr,.tup (ts.take b)) else none
 | _=>none
noncomputable def v8 (a:Ex) (b:Nat) (η:VS.Env):Wh:=(a η).bind (slT b)
theorem AF {H H':Hp}:∀ {vs:List V} {ts:Wg} {Fs:Wu},RpL G H vs ts Fs->ts.all sca=true->RpL G H' vs ts (List.replicate ts.length []):=by
 intro vs ts
 induction ts generalizing vs with
 | nil=>intro Fs r _;cases r;exact .nil
 | cons t ts ih =>
  intro Fs r hs
  rw [Xw,Zf] at hs
  cases r with
  | cons q r=>exact .cons (yr hs.1 q).2 (ih r hs.2)
theorem Dp {b:Nat} {j:Nat} {p2 p3:Pos} (ha:PV G X a ca) (hK:X.K=G.K:=by rfl):PV G X (.Subscript a (.Slice none (some (.Constant (.int (b:Int)) j p3)) none p2) pos) (v8 ca b) :=
 PE.weak (og Be ha oT (o9 uW)) fun σ H Q hq=>by
  obtain ⟨Φ,η,m,t,s,e,k⟩:=hq
  unfold v8 at e
  obtain ⟨⟨mx,x⟩,ea,e4⟩:=Zz.mp e
  refine ⟨Φ,η,mx,x,s,ea,fun v H1 F e1 r1 f1=>⟨Φ,η,none,s.same e1,rfl,fun H2 e2=>⟨Φ,η,some (b:Int),(s.same e1).same e2,rfl,fun H3 e3=>?_⟩⟩⟩
  have e03:aJ H H3:=(e1.trans e2).trans e3
  have r3:=(r1.same e2).same e3
  unfold slT at e4
  split at e4
  ·rename_i m' ts q
   cases q
   split at e4
   ·rename_i hc
    cases e4
    cases r3 with
    | tup ha' ra =>
     rename_i a' vs Fs
     have el:vs.length=ts.length:=ra.len.1
     have hm:min b vs.length=b:=Xu (by omega)
     refine ⟨a',vs,rfl,by rw [hK];exact SqT.of ha',?_,fun p hp=>?_⟩
     ·rw [HT.qY,hm]
      intro z
      omega
     ·have ec:lY vs none (some (b:Int))=vs.take b:=by
       unfold lY
       rw [HT.qY,hm]
       rfl
      rw [ec]
      have fl:(List.replicate (ts.take b).length ([]:Wr)).flatten=[]:=by simp
      refine k (.ref p) _ ((List.replicate (ts.take b).length ([]:Wr)).flatten) (e03.trans (da hp)) (.tup ay (AF (ra.take b) hc.2)) ?_
      rw [fl]
      exact Fp.nil
   ·cases e4
  ·cases e4
theorem zF {i:Int} {b':Bool} {j j':Nat} {q q':Pos}:PV G X (.Dict [some (.Constant (.int i) j q)] [.Constant (.bool b') j' q'] pos) (iV 0 [(eC (.int i),eC (.bl b'))]) :=
 PE.weak (rB (oH mZ zg rn) rfl rfl (by simp) (by show 1<=15;decide)) fun σ H Q hq=>by
  obtain ⟨Φ,η,m,r,s,e,k⟩:=hq
  cases (show some (Md.fr,T.dct 0 [(.int i,.bl b')])=some (m,r) from e)
  intro p hp
  refine ⟨ay,[(Sum.inl i,.bl b')],rfl,(by show 1<=15;decide),?_⟩
  rw [qz]
  have:Rp G (upd H p (.dK [(Sum.inl i,V.bl b')])) (.ref p) (.dct 0 ((([Sum.inl i]:List Key).map aT).zip [.bl b'])) (p :: ([[]]:Wu).flatten) :=
   .dct (ks:=[Sum.inl i]) (vs:=[V.bl b']) ay rfl (.cons (.bl b') .nil)
  exact k _ _ _ (da hp) this ⟨by simp,fun b hb=>by simp at hb;rw [hb];exact hp⟩
end
end VS
end
section
namespace VS
open PySem PySem.Spec PyProof.Rows L2 XN
structure Q (p:Prop):Prop where h:p
section
variable {G:Gx} {X:Cx} {a b c e tg iter elt:Expr} {es rest:List Expr} {ca cb cc ce:Ex} {cs:Exs} {pos pos' spos p p1 p2 apos cpos tpos:Pos} {k k' n i:Nat} {x:Str} {st:Stmt} {sts:List Stmt} {c1 c2:Sx} {sc:Scope} {N:List Str} {ci:Its} {g:Tg} {elts:List Expr} {ps:List Str}
theorem ai {i j pos}:Q (PV G X (.Constant (.int i) j pos) (eC (.int i))):=⟨uW⟩
theorem kh {i j pos}:Q (PV G X (.Constant (.bool i) j pos) (eC (.bl i))):=⟨Cy⟩
theorem iO {j pos}:Q (PV G X (.Constant .none j pos) (eC .non)):=⟨A5⟩
theorem dM {x:Str} {t:Tx} {j pos} (h:x=sx t) (hl:lS t):Q (PV G X (.Constant (.str x) j pos) (eC (.str t))):=⟨Ak h hl⟩
theorem cA (i:Nat) {x:Str} {pos:Pos} (hN:X.N[i]?=some x) (hv:Vis X.env.scope x) (hd:(x == ("__debug__" : Str))=false) (hcd:(x == ("__classdict__" : Str))=false):Q (PV G X (.Name x pos) (ab i)):=⟨zK i hN hv hd hcd⟩
theorem ah  : Q (PVs G X [] aj):=⟨xl⟩
theorem aa (ha:Q (PV G X e ca)) (hr:Q (PVs G X es cs)) (hs:starEach (e :: es) X.env=(false,eval e X.env) :: starEach es X.env):Q (PVs G X (e :: es) (ae ca cs)):=⟨vn ha.h hr.h hs⟩
theorem cO (h:Q (PVs G X es cs)):Q (PV G X (.List es pos) (fL cs)):=⟨Bv h.h⟩
theorem gx {x1} (h:Q (PVs G X es cs)):Q (PV G X (.Tuple es x1 pos) (j7 cs)):=⟨zO h.h⟩
theorem mN (h:Q (PV G X a ca)) (hK:X.K=G.K) (he:∀ whole,isTrue a X.env whole=(do let v ← whole;standAt a.pos;holding [v] (truthy v))):Q (PVT G X a ca):=⟨xJ h.h hK he⟩
theorem fg (h:Q (PVW G X e ca)):Q (PVT G X e ca):=⟨PVW.pvt h.h⟩
theorem iJ (ha:Q (PVT G X a ca)):Q (PVW G X (.BoolOp .And [a] pos) ca):=⟨vt ha.h⟩
theorem jA (ha:Q (PVT G X a ca)):Q (PVW G X (.BoolOp .Or [a] pos) ca):=⟨xD ha.h⟩
theorem jG (ha:Q (PVT G X a ca)) (hb:Q (PVW G X (.BoolOp .And (b :: rest) pos) cb)):Q (PVW G X (.BoolOp .And (a :: b :: rest) pos) (gu ca cb)):=⟨xZ ha.h hb.h⟩
theorem fZ (ha:Q (PVT G X a ca)) (hb:Q (PVW G X (.BoolOp .Or (b :: rest) pos) cb)):Q (PVW G X (.BoolOp .Or (a :: b :: rest) pos) (eOr ca cb)):=⟨Bg ha.h hb.h⟩
theorem jL (ha:Q (PVT G X a ca)):Q (PVT G X (.UnaryOp .Not a pos) (j9 ca)):=⟨xG ha.h⟩
theorem wb (ha:Q (PV G X a ca)):Q (PV G X (.UnaryOp .Not a pos) (j9 ca)):=⟨AL ha.h⟩
theorem oI {op} (h:Q (PV G X a ca)):Q (PV G X (.BoolOp op [a] pos) ca):=⟨A8 h.h⟩
theorem oq (ha:Q (PV G X a ca)) (hb:Q (PV G X (.BoolOp .And (b :: rest) pos) cb)):Q (PV G X (.BoolOp .And (a :: b :: rest) pos) (gu ca cb)):=⟨Bp ha.h hb.h⟩
theorem pF  : Q (PVO G X none none):=⟨oT⟩
theorem pE (h:Q (PV G X a ca)):Q (PVO G X (some a) (some ca)):=⟨o9 h.h⟩
theorem qr {lo hi:Option Expr} {cl ch:Option Ex} {p2:Pos} (ha:Q (PV G X a ca)) (hl:Q (PVO G X lo cl)) (hh:Q (PVO G X hi ch)) (hK:X.K=G.K):Q (PV G X (.Subscript a (.Slice lo hi none p2) pos) (eSl ca cl ch)):=⟨tH ha.h hl.h hh.h hK⟩
theorem mO {apos cpos:Pos} (ho:Q (PV G X a ca)) (ha:Q (PVs G X [e] cs)) (hK:X.K=G.K) (hbase:attributeBase a "join" X.env (eval a X.env)=eval a X.env) (hfew:((backTo cpos (starEach [e] X.env)).all (fun x=>!x.1) && (backToKw cpos (keywordEach [] X.env)).all (fun x=>x.1.isSome)
   && decide ([e].length+([]:List Keyword).length+(if ([]:List Keyword).isEmpty then 0 else 1) < 30))=true) (hline:(apos.endLine == cpos.line)=true) (hs:starEach [e] X.env=(false,eval e X.env) :: starEach [] X.env) (hplain:(backTo cpos (starEach [] X.env)).any (·.1)=false):Q (PV G X (.Call (.Attribute a "join" apos) [e] [] cpos) (eM ia ca cs)):=⟨yS ho.h ha.h hK hbase hfew hline hs hplain⟩
theorem bh  : Q (di G X [] eR):=⟨yA⟩
theorem ag (h1:Q (PSV G X st c1)) (h2:Q (di G X sts c2)):Q (di G X (st :: sts) (ar c1 c2)):=⟨vM h1.h h2.h⟩
theorem aq (h1:Q (PSV G X st c1)):Q (di G X [st] c1):=⟨yo h1.h⟩
theorem bA {t:Expr} {ct:Ex} {a b:List Stmt} (hc:Q (PVT G X t ct)) (ha:Q (di G X a c1)) (hb:Q (di G X b c2)):Q (PSV G X (.If t a b pos) (sIf ct c1 c2)):=⟨zU hc.h ha.h hb.h⟩
theorem aX (he:Q (PV G X e ce)):Q (PSV G X (.Return (some e) pos) (eY ce)):=⟨xn he.h⟩
theorem fh (i:Nat) {x:Str} {p:Pos} (hN:X.N[i]?=some x) (hv:Vis X.env.scope x) (hd:(x == ("__debug__" : Str))=false) (hcd:(x == ("__classdict__" : Str))=false):Q (PSV G X (.Return (some (.Name x p)) pos) (gZ i)):=⟨u7 i hN hv hd hcd⟩
theorem ff {i:Nat} {x:Str} {pos':Pos} (he:Q (PV G X e ce)) (hN:X.N.Nodup) (hi:X.N[i]?=some x) (hx:Loc X.env.scope x) (hs:swapsWith e (some (.Name x pos')) pos.line X.env=pure false) (hf:X.fn x=true\/X.env.scope.names.lookup x=some .local):Q (PSV G X (.Assign [.Name x pos'] e pos) (lX i ce)):=⟨wW he.h hN hi hx hs hf⟩
theorem aw {i:Nat} {x:Str} {pos':Pos} (he:Q (PV G X e ce)) (hN:X.N.Nodup) (hi:X.N[i]?=some x) (hx:Loc X.env.scope x) (hs:swapsWith e (some (.Name x pos')) pos.line X.env=pure false) (hf:X.fn x=true\/X.env.scope.names.lookup x=some .local):Q (PSV G X (.Assign [.Name x pos'] e pos) (aC i ce)):=⟨uf he.h hN hi hx hs hf⟩
theorem ic {c:Sx} (i:Nat) (h:Q (di G X sts c)):Q (di G X sts (ar (qo i) c)):=⟨xK i h.h⟩
theorem ja (ha:Q (PV G X a ca)) (hg:Gl X "range") (hm:X.mg "range" = none) (hs:starEach [a] X.env=(false,eval a X.env) :: starEach [] X.env) (hs':starEach [a] X.env=[(false,eval a X.env)]):Q (PVI G X tg (.Call (.Name "range" p) [a] [] pos) (ed ca)):=⟨pQ ha.h hg hm hs hs'⟩
theorem gz (ha:Q (PV G X a ca)) (hb:Q (PV G X b cb)) (hg:Gl X "range") (hm:X.mg "range" = none) (hs:starEach [a,b] X.env=(false,eval a X.env) :: starEach [b] X.env) (hs':starEach [a,b] X.env=[(false,eval a X.env),(false,eval b X.env)]) (hs1:starEach [b] X.env=(false,eval b X.env) :: starEach [] X.env) (hs2:starEach [b] X.env=[(false,eval b X.env)]):Q (PVI G X tg (.Call (.Name "range" p) [a,b] [] pos) (fe ca cb)):=⟨pG ha.h hb.h hg hm hs hs' hs1 hs2⟩
theorem aU (i:Nat) {x:Str} (hN:X.N.Nodup) (hi:X.N[i]?=some x) (hx:Loc X.env.scope x) (hf:X.fn x=true\/X.env.scope.names.lookup x=some .local):Q (PVG G X (.Name x pos) (bw i)):=⟨ug i hN hi hx hf⟩
theorem pM  : Q (oy G X [] []):=⟨vH⟩
theorem j3 {g:Tg} {gs:List Tg} (h1:Q (PVG G X e g)) (h2:Q (oy G X es gs)) (hs:(assignEach (e :: es) X.env).map (·.2)=assign e X.env :: (assignEach es X.env).map (·.2)):Q (oy G X (e :: es) (g :: gs)):=⟨rQ h1.h h2.h hs⟩
theorem rY {gs:List Tg} {k:Nat} (hc:X.calm=true) (h:Q (oy G X es gs)) (hn:(assignEach es X.env).length=gs.length) (hst:(assignEach es X.env).findIdx? (·.1)=none) (hK:X.K=G.K):Q (PVG G X (.Tuple es k pos) (oJ gs)):=⟨yW hc h.h hn hst hK⟩
theorem cQ {iter:Expr} {body:List Stmt} {ci:Its} {g:Tg} {cb:Sx} (hp:PassesOwn (model X.prog X.w) X.A X.env X.xe) (hc:X.calm=true) (hi:Q (PVI G X tg iter ci)) (hg:Q (PVG G X tg g)) (hb:Q (di G X body cb)) (hs:∀ x,foldedSetIterable iter X.env x=pure x):Q (PSV G X (.For tg iter body [] pos) (hU g ci cb)):=⟨yB hp hc hi.h hg.h hb.h hs⟩
theorem ig (k:Nat) (N:List Str) (hcalm:X.calm=true) (hi:Q (PVI G X tg iter ci)) (hin:o6 k g) (hg:∀ cl C s H fp,Q (PVG G (bZ X N sc cl C s H fp) tg g)) (he:∀ cl C s H fp,Q (PV G (bZ X N sc cl C s H fp) elt ce)) (hsc:kN X.env sc=true) (hnm:jr sc (N.drop k) X.N=true) (hNl:k<=N.length) (hs:∀ x,foldedSetIterable iter X.env x=pure x):Q (PV G X (.ListComp elt [⟨tg,iter,[],0⟩] sc pos) (cM k g ci none ce)):=⟨wD k N hcalm hi.h hin (fun cl C s H fp=>(hg cl C s H fp).h) (fun cl C s H fp=>(he cl C s H fp).h) hsc hnm hNl hs⟩
theorem oE (k:Nat) (N:List Str) (hcalm:X.calm=true) (hi:Q (PVI G X tg iter ci)) (hin:o6 k g) (hg:∀ cl C s H fp,Q (PVG G (bZ X N sc cl C s H fp) tg g)) (hc:∀ cl C s H fp,Q (PVT G (bZ X N sc cl C s H fp) c cc)) (he:∀ cl C s H fp,Q (PV G (bZ X N sc cl C s H fp) elt ce)) (hsc:kN X.env sc=true) (hnm:jr sc (N.drop k) X.N=true) (hNl:k<=N.length) (hs:∀ x,foldedSetIterable iter X.env x=pure x):Q (PV G X (.ListComp elt [⟨tg,iter,[c],0⟩] sc pos) (cM k g ci (some cc) ce)):=⟨sr k N hcalm hi.h hin (fun cl C s H fp=>(hg cl C s H fp).h) (fun cl C s H fp=>(hc cl C s H fp).h) (fun cl C s H fp=>(he cl C s H fp).h) hsc hnm hNl hs⟩
theorem bV (ha:Q (PV G X a ca)) (hb:Q (PV G X b cb)):Q (PV G X (.BinOp a .Add b pos) (e2 cG ca cb)):=⟨w_add ha.h hb.h⟩
theorem jt (ha:Q (PV G X a ca)) (hb:Q (PV G X b cb)):Q (PV G X (.BinOp a .Sub b pos) (e2 jF ca cb)):=⟨w_sub ha.h hb.h⟩
theorem gI (ha:Q (PV G X a ca)) (hb:Q (PV G X b cb)):Q (PV G X (.BinOp a .Mult b pos) (e2 gC ca cb)):=⟨w_mul ha.h hb.h⟩
theorem dP (ha:Q (PV G X a ca)) (hb:Q (PV G X b cb)):Q (PV G X (.BinOp a .FloorDiv b pos) (e2 bY ca cb)):=⟨Bw ha.h hb.h⟩
theorem dh (ha:Q (PV G X a ca)) (hb:Q (PV G X b cb)):Q (PV G X (.BinOp a .Mod b pos) (e2 oMod ca cb)):=⟨w_mod ha.h hb.h⟩
theorem qH (ha:Q (PV G X a ca)) (hb:Q (PV G X b cb)):Q (PVT G X (.Compare a [.Lt] [b] pos) (e2 oLt ca cb)):=⟨CJ ha.h hb.h⟩
theorem vQ (ha:Q (PV G X a ca)) (hb:Q (PV G X b cb)):Q (PV G X (.Compare a [.LtE] [b] pos) (e2 oLe ca cb)):=⟨DE ha.h hb.h⟩
theorem wx (hr:Room k X.A) (ha:Q (PV G X a ca)) (hb:Q (PV G X b cb)):Q (PV G X (.Compare a [.Eq] [b] pos) (e2 oEq ca cb)):=⟨w_eq hr ha.h hb.h⟩
theorem gy (hr:Room k X.A) (ha:Q (PV G X a ca)) (hb:Q (PV G X b cb)):Q (PVT G X (.Compare a [.Eq] [b] pos) (e2 oEq ca cb)):=⟨CS hr ha.h hb.h⟩
theorem qP (hr:Room k X.A) (ha:Q (PV G X a ca)) (hb:Q (PV G X b cb)):Q (PVT G X (.Compare a [.NotEq] [b] pos) (e2 oNe ca cb)):=⟨CY hr ha.h hb.h⟩
theorem aB (ha:Q (PV G X a ca)) (hb:Q (PV G X b cb)) (hs:eA b) (hK:X.K=G.K):Q (PV G X (.Subscript a b pos) (e2 ax ca cb)):=⟨C2 ha.h hb.h hs hK⟩
theorem bq (hm:X.mg "len" = none) (ha:Q (PVs G X [e] cs)) (hg:Gl X "len") (hK:X.K=G.K) (he:starEach [e] X.env=(false,eval e X.env) :: starEach [] X.env):Q (PV G X (.Call (.Name "len" p) [e] [] pos) (eN bX cs)):=⟨Dw hm ha.h hg hK he⟩
theorem tD (hm:X.mg "max" = none) (ha:Q (PVs G X [a,b] cs)) (hc:X.calm=true) (hg:Gl X "max") (he:starEach [a,b] X.env=(false,eval a X.env) :: starEach [b] X.env) (hpl:(backTo pos (starEach [b] X.env)).any (·.1)=false):Q (PV G X (.Call (.Name "max" p) [a,b] [] pos) (eN mL cs)):=⟨zT hm ha.h hc hg he hpl⟩
theorem tq (hm:X.mg "min" = none) (ha:Q (PVs G X [a,b] cs)) (hc:X.calm=true) (hg:Gl X "min") (he:starEach [a,b] X.env=(false,eval a X.env) :: starEach [b] X.env) (hpl:(backTo pos (starEach [b] X.env)).any (·.1)=false):Q (PV G X (.Call (.Name "min" p) [a,b] [] pos) (eN mh cs)):=⟨BW hm ha.h hc hg he hpl⟩
theorem uX (t:Ty) (hm:X.mg "isinstance" = none) (hm2:X.mg (tyN t)=none) (ha:Q (PV G X a ca)) (hg:Gl X "isinstance") (hg2:Gl X (tyN t)) (hK:X.K=G.K) (hs:starEach [a,.Name (tyN t) p2] X.env=(false,eval a X.env) :: starEach [.Name (tyN t) p2] X.env):Q (PV G X (.Call (.Name "isinstance" p1) [a,.Name (tyN t) p2] [] pos) (eIs t ca)):=⟨w_is t hm hm2 ha.h hg hg2 hK hs⟩
theorem iK (i:Nat) {x:Str} (ha:Q (PVs G X [e] cs)) (hK:X.K=G.K) (hN:X.N[i]?=some x) (hv:Vis X.env.scope x) (hd:(x == ("__debug__" : Str))=false) (hcd:(x == ("__classdict__" : Str))=false) (hfew:((backTo cpos (starEach [e] X.env)).all (fun x=>!x.1) && (backToKw cpos (keywordEach [] X.env)).all (fun x=>x.1.isSome)
   && decide ([e].length+([]:List Keyword).length+(if ([]:List Keyword).isEmpty then 0 else 1) < 30))=true) (hline:(apos.endLine == cpos.line)=true) (hs:starEach [e] X.env=(false,eval e X.env) :: starEach [] X.env):Q (PSV G X (.Expr (.Call (.Attribute (.Name x p1) "append" apos) [e] [] cpos) pos) (sX (lW i [] aD cs))):=⟨vZ i ha.h hK hN hv hd hcd hfew hline hs⟩
theorem dq {g:Fn} (F:FnAt X.prog X.w X.K X.mg X.base k x ps G g) (hr:Room k' X.A) (ha:Q (PVs G X (e :: es) cs)) (hk:k<=k') (hg:Gl X x) (hdb:(x == ("__debug__" : Str))=false) (he:starEach (e :: es) X.env=(false,eval e X.env) :: starEach es X.env) (hpl:(backTo pos (starEach es X.env)).any (·.1)=false):Q (PV G X (.Call (.Name x p) (e :: es) [] pos) (bG g cs)):=⟨BD F hr ha.h hk hg hdb he hpl⟩
theorem cR (ha:Q (PV G X a ca)) (hK:X.K=G.K):Q (PVI G X tg a (fK ca)):=⟨wF ha.h hK⟩
theorem qX (hm:X.mg "sum" = none) (ha:Q (PVs G X [e] cs)) (hg:Gl X "sum") (hK:X.K=G.K) (hc:X.calm=true) (he:starEach [e] X.env=(false,eval e X.env) :: starEach [] X.env):Q (PV G X (.Call (.Name "sum" p) [e] [] pos) (eN oA cs)):=⟨w_sum hm ha.h hg hK hc he⟩
theorem rW (hm:X.mg "tuple" = none) (ha:Q (PVs G X [e] cs)) (hg:Gl X "tuple") (hK:X.K=G.K) (he:starEach [e] X.env=(false,eval e X.env) :: starEach [] X.env):Q (PV G X (.Call (.Name "tuple" p) [e] [] pos) (eN ik cs)):=⟨x5 hm ha.h hg hK he⟩
theorem km (ha:Q (PV G X a ca)) (hb:Q (PV G X b cb)):Q (PVT G X (.Compare a [.Gt] [b] pos) (e2 oGt ca cb)):=⟨Ds ha.h hb.h⟩
theorem rj (ha:Q (PV G X a ca)) (hb:Q (PV G X b cb)):Q (PVT G X (.Compare a [.GtE] [b] pos) (e2 oGe ca cb)):=⟨Cn ha.h hb.h⟩
theorem mI {x:Str} {i:Int} (h:∃ t,X.mg x=some (.int i t)) (hg:Gl X x) (hd:(x == ("__debug__" : Str))=false):Q (PV G X (.Name x pos) (eC (.int i))):=⟨xq h hg hd⟩
theorem lI  : Q (PV G X (.Dict [] [] pos) (iV 0 [])):=⟨BV⟩
theorem gT {body:List Stmt} {cb:Sx} (hp:PassesOwn (model X.prog X.w) X.A X.env X.xe) (hc:Q (PVT G X c cc)) (hb:Q (di G X body cb)):Q (PSV G X (.While c body [] pos) (jP cc cb)):=⟨rX hp hc.h hb.h⟩
theorem kT {st:Stmt}:Q (PSV G X st sNo):=⟨z8⟩
theorem ky (hr:Room k X.A) (ha:Q (PV G X a ca)) (hb:Q (PV G X b cb)) (hs:eA b) (hK:X.K=G.K):Q (PV G X (.Subscript a b pos) (e2 oIx ca cb)):=⟨DC hr ha.h hb.h hs hK⟩
theorem wU (hr:Room k X.A) (ha:Q (PV G X a ca)) (hb:Q (PV G X b cb)) (hm:behindInMarks .In b=false) (hK:X.K=G.K):Q (PVT G X (.Compare a [.In] [b] pos) (e2 kc ca cb)):=⟨CO hr ha.h hb.h hm hK⟩
theorem kE (hr:Room k X.A) (ha:Q (PV G X a ca)) (hb:Q (PV G X b cb)) (hm:behindInMarks .NotIn b=false) (hK:X.K=G.K):Q (PVT G X (.Compare a [.NotIn] [b] pos) (e2 cH ca cb)):=⟨zJ hr ha.h hb.h hm hK⟩
theorem mf (hm:X.mg "list" = none) (ha:Q (PVs G X [e] cs)) (hg:Gl X "list") (hK:X.K=G.K) (hc:X.calm=true) (he:starEach [e] X.env=(false,eval e X.env) :: starEach [] X.env):Q (PV G X (.Call (.Name "list" p) [e] [] pos) (eN gL cs)):=⟨xx hm ha.h hg hK hc he⟩
theorem jB {a b c:Expr} {ca cb cc:Ex} (ha:Q (PV G X a ca)) (hb:Q (PV G X b cb)) (hc:Q (PV G X c cc)) (hm:lastMarks [.LtE,.Lt] [b,c]=false):Q (PVT G X (.Compare a [.LtE,.Lt] [b,c] pos) (iH oLe oLt ca cb cc)):=⟨lN ha.h hb.h hc.h hm⟩
theorem wa {ce:Ex} (h:Q (PV G X e ce)) (hsw:swapsWith e none pos.line X.env=pure false):Q (PSV G X (.Expr e pos) (sX (xP ce))):=⟨An h.h hsw⟩
theorem nZ {j pos'} (ha:Q (PV G X a ca)):Q (PVT G X (.Compare a [.Is] [.Constant .none j pos'] pos) (qi ca)):=⟨AK ha.h⟩
theorem iw {j pos'} (ha:Q (PV G X a ca)):Q (PVT G X (.Compare a [.IsNot] [.Constant .none j pos'] pos) (eW ca)):=⟨xN ha.h⟩
theorem lh (i:Nat) {x:Str} (hr:Room kr X.A) (hk:Q (PV G X b ck)) (he:Q (PV G X e ce)) (hN:X.N[i]?=some x) (hv:Vis X.env.scope x) (hd:(x == ("__debug__" : Str))=false) (hcd:(x == ("__classdict__" : Str))=false) (ha:∀ v,assign (.Subscript (.Name x p1) b pos') X.env v=(do
   let ov ← holding [v] (eval (.Name x p1) X.env)
   let iv ← holding [v,ov] (eval b X.env)
   standAt pos'
   holding [v,ov,iv] (setItem ov iv v)
   release [v,ov,iv] [])) (hs:swapsWithSole [.Subscript (.Name x p1) b pos'] e pos.line X.env=pure false) (hw:swappedStores [.Subscript (.Name x p1) b pos'] e X.env=pure none) (h1:(assignEach [.Subscript (.Name x p1) b pos'] X.env).map (·.2)=[assign (.Subscript (.Name x p1) b pos') X.env]):Q (PSV G X (.Assign [.Subscript (.Name x p1) b pos'] e pos) (iB i ck ce)):=⟨AW i hr hk.h he.h hN hv hd hcd ha hs hw h1⟩
theorem mK (hm:X.mg "sorted" = none) (ha:Q (PVs G X [e] cs)) (hg:Gl X "sorted") (hK:X.K=G.K) (hc:X.calm=true) (he:starEach [e] X.env=(false,eval e X.env) :: starEach [] X.env):Q (PV G X (.Call (.Name "sorted" p) [e] [] pos) (eN fD cs)):=⟨wM hm ha.h hg hK hc he⟩
end
section
variable {G:Gx} {X:Cx} {a e o:Expr} {ca ce:Ex} {k i:Nat} {f x:Str} {pos pos' p1:Pos}
theorem aY (J:eT G) (F:FldOk G X.K k f) (ha:Q (PV G X a ca)) (hb:attributeBase a f X.env (eval a X.env)=eval a X.env):Q (PV G X (.Attribute a f pos) (aV k ca)):=⟨w_fld J F ha.h hb⟩
end
section
variable {G:Gx} {X:Cx} {a e o:Expr} {ca ce:Ex} {k i:Nat} {f x:Str} {pos pos' p1:Pos}
theorem gq (i k:Nat) (J:eT G) (F:FldOk G X.K k f) (he:Q (PV G X e ce)) (hN:X.N[i]?=some x) (hv:Vis X.env.scope x) (hd:(x == ("__debug__" : Str))=false) (hcd:(x == ("__classdict__" : Str))=false) (hs:swapsWith e (some (.Attribute (.Name x p1) f pos')) pos.line X.env=pure false):Q (PSV G X (.Assign [.Attribute (.Name x p1) f pos'] e pos) (gM i k ce)):=⟨Ad i k J F he.h hN hv hd hcd hs⟩
end
section
variable {G:Gx} {X:Cx} {a b e o:Expr} {ca cb ce:Ex} {cs:Exs} {p pos cpos apos:Pos} {k kr:Nat}
theorem sJ (hm:X.mg "dict" = none) (ha:Q (PVs G X [e] cs)) (hg:Gl X "dict") (he:starEach [e] X.env=(false,eval e X.env) :: starEach [] X.env):Q (PV G X (.Call (.Name "dict" p) [e] [] pos) (eN iG cs)):=⟨yR hm ha.h hg he⟩
end
section
variable {G:Gx} {X:Cx} {a b e o:Expr} {ca cb ce:Ex} {cs:Exs} {p pos cpos apos:Pos} {k kr:Nat}
theorem vA {i i':Int} {j j':Nat} {q q':Pos}:Q (PV G X (.Dict [some (.Constant (.int i) j q)] [.Constant (.int i') j' q'] pos) (iV 0 [(eC (.int i),eC (.int i'))])):=⟨AX⟩
end
section
variable {G:Gx} {X:Cx} {a b e o:Expr} {ca cb ce:Ex} {cs:Exs} {p pos cpos apos:Pos} {k kr:Nat}
theorem yE (hr:Room kr X.A) (ho:Q (PV G X o ca)) (he:Q (PV G X e cb)) (hbase:attributeBase o "get" X.env (eval o X.env)=eval o X.env) (hfew:((backTo cpos (starEach [e] X.env)).all (fun x=>!x.1) && (backToKw cpos (keywordEach [] X.env)).all (fun x=>x.1.isSome)
   && decide (([e]:List Expr).length+([]:List Keyword).length+(if ([]:List Keyword).isEmpty then 0 else 1) < 30))=true) (hline:(apos.endLine == cpos.line)=true) (htr:backTo cpos (starEach [e] X.env)=[(false,eval e X.env)]):Q (PV G X (.Call (.Attribute o "get" apos) [e] [] cpos) (e2 qq ca cb)):=⟨w_get hr ho.h he.h hbase hfew hline htr⟩
end
section
variable {G:Gx} {X:Cx} {a b e o:Expr} {ca cb ce:Ex} {cs:Exs} {p pos cpos apos:Pos} {k kr:Nat}
theorem qU (hr:Room kr X.A) (ha:Q (PV G X a ca)) (hb:Q (PV G X b cb)) (hs:eA b) (hK:X.K=G.K):Q (PV G X (.Subscript a b pos) (e2 lT ca cb)):=⟨Cq hr ha.h hb.h hs hK⟩
end
section
variable {G:Gx} {X:Cx} {i j:Nat} {way:List Stp} {o:Expr} {y:Str} {apos cpos pos p1:Pos}
theorem sD (J:eT G) (ho:Q (PPl G X o i way)) (hK:X.K=G.K) (hN:X.N[j]?=some y) (hv:Vis X.env.scope y) (hd:(y == ("__debug__" : Str))=false) (hcd:(y == ("__classdict__" : Str))=false) (hbase:attributeBase o "append" X.env (eval o X.env)=eval o X.env) (hfew:((backTo cpos (starEach [.Name y p1] X.env)).all (fun x=>!x.1) && (backToKw cpos (keywordEach [] X.env)).all (fun x=>x.1.isSome)
   && decide ([Expr.Name y p1].length+([]:List Keyword).length+(if ([]:List Keyword).isEmpty then 0 else 1) < 30))=true) (hline:(apos.endLine == cpos.line)=true) (hs:starEach [.Name y p1] X.env=(false,eval (.Name y p1) X.env) :: starEach [] X.env) (hplain:(backTo cpos (starEach [] X.env)).any (·.1)=false) (hsw:swapsWith (.Call (.Attribute o "append" apos) [.Name y p1] [] cpos) none pos.line X.env=pure false):Q (PSV G X (.Expr (.Call (.Attribute o "append" apos) [.Name y p1] [] cpos) pos) (jz i way j)):=⟨wG J ho.h hK hN hv hd hcd hbase hfew hline hs hplain hsw⟩
end
section
variable {G:Gx} {X:Cx} {i:Nat} {elt tg:Expr} {sc:Scope} {pos pos' p1:Pos} {N:List Str} {x:Str} {g:Tg} {ce:Ex}
theorem tM (i:Nat) (N:List Str) (hcalm:X.calm=true) (hN:X.N[i]?=some x) (hv:Vis X.env.scope x) (hd:(x == ("__debug__" : Str))=false) (hcd:(x == ("__classdict__" : Str))=false) (hin:o6 1 g) (hg:∀ cl C s H fp,Q (PVG G (bZ X N sc cl C s H fp) tg g)) (he:∀ cl C s H fp,Q (PV G (bZ X N sc cl C s H fp) elt ce)) (hsc:kN X.env sc=true) (hnm:jr sc (N.drop 1) X.N=true) (hNl:1<=N.length) (hs:∀ y,foldedSetIterable (.Name x p1) X.env y=pure y):Q (PSV G X (.Return (some (.ListComp elt [⟨tg,.Name x p1,[],0⟩] sc pos)) pos') (qW i g ce)):=⟨Aa i N hcalm hN hv hd hcd hin (fun cl C s H fp=>(hg cl C s H fp).h) (fun cl C s H fp=>(he cl C s H fp).h) hsc hnm hNl hs⟩
end
section
variable {G:Gx} {X:Cx} {i j c k k' kr n:Nat} {way:List Stp} {o e b:Expr} {es:List Expr} {cs:Exs} {ca ck ce:Ex} {m x:Str} {ps:List Str} {mv:List Bool} {g:Mt} {h:Fn} {xc:Xx} {f:Str} {apos cpos pos pos' p p1:Pos}
theorem aL (i:Nat) (hN:X.N[i]?=some x) (hv:Vis X.env.scope x) (hd:(x == ("__debug__" : Str))=false) (hcd:(x == ("__classdict__" : Str))=false):Q (PPl G X (.Name x pos) i []):=⟨u6 i hN hv hd hcd⟩
end
section
variable {G:Gx} {X:Cx} {i j c k k' kr n:Nat} {way:List Stp} {o e b:Expr} {es:List Expr} {cs:Exs} {ca ck ce:Ex} {m x:Str} {ps:List Str} {mv:List Bool} {g:Mt} {h:Fn} {xc:Xx} {f:Str} {apos cpos pos pos' p p1:Pos}
theorem cf (k:Nat) (F:FldOk G X.K k f) (h:Q (PPl G X e i way)) (hb:attributeBase e f X.env (eval e X.env)=eval e X.env):Q (PPl G X (.Attribute e f pos) i (way++[.fld k])):=⟨xp k F h.h hb⟩
end
section
variable {G:Gx} {X:Cx} {i j c k k' kr n:Nat} {way:List Stp} {o e b:Expr} {es:List Expr} {cs:Exs} {ca ck ce:Ex} {m x:Str} {ps:List Str} {mv:List Bool} {g:Mt} {h:Fn} {xc:Xx} {f:Str} {apos cpos pos pos' p p1:Pos}
theorem o5 (hr:Room kr X.A) (h:Q (PPl G X e i way)) (hb:Q (PV G X b ck)) (hs:eA b) (hK:X.K=G.K):Q (PPl G X (.Subscript e b pos) i (way++[.ix ck])):=⟨AG hr h.h hb.h hs hK⟩
end
section
variable {G:Gx} {X:Cx} {i j c k k' kr n:Nat} {way:List Stp} {o e b:Expr} {es:List Expr} {cs:Exs} {ca ck ce:Ex} {m x:Str} {ps:List Str} {mv:List Bool} {g:Mt} {h:Fn} {xc:Xx} {f:Str} {apos cpos pos pos' p p1:Pos}
theorem dU {pl:Sem Bool} (J:eT G) (F:MtAt X.prog X.w X.K X.mg X.base k G c m ps mv g) (hr:Room k' X.A) (hk:k<=k') (ho:Q (PPl G X o i way)) (ha:Q (PVs G X (e :: es) cs)) (hst:starEach (e :: es) X.env=(false,eval e X.env) :: starEach es X.env) (hpl:(backTo pos (starEach es X.env)).any (·.1)=false) (ht:eval (.Call (.Attribute o m apos) (e :: es) [] pos) X.env=(do
   let ov ← eval o X.env
   standAt apos.atName
   let (f,first) ← holding [ov] (getMethod ov m pl)
   callWith pos f first (backTo pos (starEach (e :: es) X.env)) (backToKw pos (keywordEach [] X.env)))):Q (PX G X (.Call (.Attribute o m apos) (e :: es) [] pos) (bc i way c mv g cs)):=⟨xf J F hr hk ho.h ha.h hst hpl ht⟩
end
section
variable {G:Gx} {X:Cx} {i j c k k' kr n:Nat} {way:List Stp} {o e b:Expr} {es:List Expr} {cs:Exs} {ca ck ce:Ex} {m x:Str} {ps:List Str} {mv:List Bool} {g:Mt} {h:Fn} {xc:Xx} {f:Str} {apos cpos pos pos' p p1:Pos}
theorem qj {pl:Sem Bool} (J:eT G) (F:MtAt X.prog X.w X.K X.mg X.base k G c m ps mv g) (hr:Room k' X.A) (hk:k<=k') (ho:Q (PPl G X o i way)) (ht:eval (.Call (.Attribute o m apos) [] [] pos) X.env=(do
   let ov ← eval o X.env
   standAt apos.atName
   let (f,first) ← holding [ov] (getMethod ov m pl)
   callWith pos f first (backTo pos (starEach [] X.env)) (backToKw pos (keywordEach [] X.env)))):Q (PX G X (.Call (.Attribute o m apos) [] [] pos) (bc i way c mv g aj)):=⟨vG J F hr hk ho.h ht⟩
end
section
variable {G:Gx} {X:Cx} {i j c k k' kr n:Nat} {way:List Stp} {o e b:Expr} {es:List Expr} {cs:Exs} {ca ck ce:Ex} {m x:Str} {ps:List Str} {mv:List Bool} {g:Mt} {h:Fn} {xc:Xx} {f:Str} {apos cpos pos pos' p p1:Pos}
theorem ui {pl:Sem Bool} (F:MtAt X.prog X.w X.K X.mg X.base k G c m ps mv g) (hr:Room k' X.A) (hk:k<=k') (hN:X.N[i]?=some x) (hv:Vis X.env.scope x) (hd:(x == ("__debug__" : Str))=false) (hcd:(x == ("__classdict__" : Str))=false) (h1:Q (PX G X e xc)) (ha:Q (PVs G X es cs)) (hst:starEach (e :: es) X.env=(false,eval e X.env) :: starEach es X.env) (hpl:(backTo pos (starEach es X.env)).any (·.1)=false) (ht:eval (.Call (.Attribute (.Name x p1) m apos) (e :: es) [] pos) X.env=(do
   let ov ← eval (.Name x p1) X.env
   standAt apos.atName
   let (f,first) ← holding [ov] (getMethod ov m pl)
   callWith pos f first (backTo pos (starEach (e :: es) X.env)) (backToKw pos (keywordEach [] X.env)))):Q (PX G X (.Call (.Attribute (.Name x p1) m apos) (e :: es) [] pos) (lJ i c mv g xc cs)):=⟨A1 F hr hk hN hv hd hcd h1.h ha.h hst hpl ht⟩
end
section
variable {G:Gx} {X:Cx} {i j c k k' kr n:Nat} {way:List Stp} {o e b:Expr} {es:List Expr} {cs:Exs} {ca ck ce:Ex} {m x:Str} {ps:List Str} {mv:List Bool} {g:Mt} {h:Fn} {xc:Xx} {f:Str} {apos cpos pos pos' p p1:Pos}
theorem sR {pl:Sem Bool} (F:MpAt X.prog X.w X.K X.mg X.base k G c m ps h) (hr:Room k' X.A) (hk:k<=k') (ho:Q (PV G X o ca)) (ha:Q (PVs G X (e :: es) cs)) (hst:starEach (e :: es) X.env=(false,eval e X.env) :: starEach es X.env) (hpl:(backTo pos (starEach es X.env)).any (·.1)=false) (ht:eval (.Call (.Attribute o m apos) (e :: es) [] pos) X.env=(do
   let ov ← eval o X.env
   standAt apos.atName
   let (f,first) ← holding [ov] (getMethod ov m pl)
   callWith pos f first (backTo pos (starEach (e :: es) X.env)) (backToKw pos (keywordEach [] X.env)))):Q (PV G X (.Call (.Attribute o m apos) (e :: es) [] pos) (dC c h ca cs)):=⟨xR F hr hk ho.h ha.h hst hpl ht⟩
end
section
variable {G:Gx} {X:Cx} {i j c k k' kr n:Nat} {way:List Stp} {o e b:Expr} {es:List Expr} {cs:Exs} {ca ck ce:Ex} {m x:Str} {ps:List Str} {mv:List Bool} {g:Mt} {h:Fn} {xc:Xx} {f:Str} {apos cpos pos pos' p p1:Pos}
theorem iM {pl:Sem Bool} (F:MpAt X.prog X.w X.K X.mg X.base k G c m ps h) (hr:Room k' X.A) (hk:k<=k') (ho:Q (PV G X o ca)) (ht:eval (.Call (.Attribute o m apos) [] [] pos) X.env=(do
   let ov ← eval o X.env
   standAt apos.atName
   let (f,first) ← holding [ov] (getMethod ov m pl)
   callWith pos f first (backTo pos (starEach [] X.env)) (backToKw pos (keywordEach [] X.env)))):Q (PV G X (.Call (.Attribute o m apos) [] [] pos) (dC c h ca aj)):=⟨uw F hr hk ho.h ht⟩
end
section
variable {G:Gx} {X:Cx} {i j c k k' kr n:Nat} {way:List Stp} {o e b:Expr} {es:List Expr} {cs:Exs} {ca ck ce:Ex} {m x:Str} {ps:List Str} {mv:List Bool} {g:Mt} {h:Fn} {xc:Xx} {f:Str} {apos cpos pos pos' p p1:Pos}
theorem t7 (F:InAt X.prog X.w X.K X.mg X.base k G c n x ps g) (hr:Room k' X.A) (hk:k+1<=k') (ha:Q (PVs G X (e :: es) cs)) (hn:∀ η xs,cs η=some xs->xs.length=n) (hg:Gl X x) (hdb:(x == ("__debug__" : Str))=false) (he:starEach (e :: es) X.env=(false,eval e X.env) :: starEach es X.env) (hpl:(backTo pos (starEach es X.env)).any (·.1)=false):Q (PV G X (.Call (.Name x p) (e :: es) [] pos) (eNew c g cs)):=⟨zW F hr hk ha.h hn hg hdb he hpl⟩
end
section
variable {G:Gx} {X:Cx} {i j c k k' kr n:Nat} {way:List Stp} {o e b:Expr} {es:List Expr} {cs:Exs} {ca ck ce:Ex} {m x:Str} {ps:List Str} {mv:List Bool} {g:Mt} {h:Fn} {xc:Xx} {f:Str} {apos cpos pos pos' p p1:Pos}
theorem sL (F:InAt X.prog X.w X.K X.mg X.base k G c 0 x ps g) (hr:Room k' X.A) (hk:k+1<=k') (hg:Gl X x) (hdb:(x == ("__debug__" : Str))=false):Q (PV G X (.Call (.Name x p) [] [] pos) (eNew c g aj)):=⟨yj F hr hk hg hdb⟩
end
section
variable {G:Gx} {X:Cx} {i j c k k' kr n:Nat} {way:List Stp} {o e b:Expr} {es:List Expr} {cs:Exs} {ca ck ce:Ex} {m x:Str} {ps:List Str} {mv:List Bool} {g:Mt} {h:Fn} {xc:Xx} {f:Str} {apos cpos pos pos' p p1:Pos}
theorem rH (h:Q (PX G X e xc)) (hsw:swapsWith e none pos.line X.env=pure false):Q (PSV G X (.Expr e pos) (sXM xc)):=⟨Co h.h hsw⟩
end
section
variable {G:Gx} {X:Cx} {i j c k k' kr n:Nat} {way:List Stp} {o e b:Expr} {es:List Expr} {cs:Exs} {ca ck ce:Ex} {m x:Str} {ps:List Str} {mv:List Bool} {g:Mt} {h:Fn} {xc:Xx} {f:Str} {apos cpos pos pos' p p1:Pos}
theorem uV (h:Q (PX G X e xc)):Q (PSV G X (.Return (some e) pos) (jZ xc)):=⟨AY h.h⟩
end
section
variable {G:Gx} {X:Cx} {i j c k k' kr n:Nat} {way:List Stp} {o e b:Expr} {es:List Expr} {cs:Exs} {ca ck ce:Ex} {m x:Str} {ps:List Str} {mv:List Bool} {g:Mt} {h:Fn} {xc:Xx} {f:Str} {apos cpos pos pos' p p1:Pos}
theorem lr (h:Q (PX G X e xc)) (hN:X.N.Nodup) (hi:X.N[j]?=some x) (hx:Loc X.env.scope x) (hs:swapsWith e (some (.Name x pos')) pos.line X.env=pure false) (hf:X.fn x=true\/X.env.scope.names.lookup x=some .local):Q (PSV G X (.Assign [.Name x pos'] e pos) (gk j xc)):=⟨zV h.h hN hi hx hs hf⟩
end
section
variable {G:Gx} {X:Cx} {i j c k k' kr n:Nat} {way:List Stp} {o e b:Expr} {es:List Expr} {cs:Exs} {ca ck ce:Ex} {m x:Str} {ps:List Str} {mv:List Bool} {g:Mt} {h:Fn} {xc:Xx} {f:Str} {apos cpos pos pos' p p1:Pos}
theorem oW (J:eT G) (hr:Room kr X.A) (ho:Q (PPl G X o i way)) (hk:Q (PV G X b ck)) (he:Q (PX G X e xc)) (ha:∀ v,assign (.Subscript o b pos') X.env v=(do
   let ov ← holding [v] (eval o X.env)
   let iv ← holding [v,ov] (eval b X.env)
   standAt pos'
   holding [v,ov,iv] (setItem ov iv v)
   release [v,ov,iv] [])) (hs:swapsWithSole [.Subscript o b pos'] e pos.line X.env=pure false) (hw:swappedStores [.Subscript o b pos'] e X.env=pure none) (h1:(assignEach [.Subscript o b pos'] X.env).map (·.2)=[assign (.Subscript o b pos') X.env]):Q (PSV G X (.Assign [.Subscript o b pos'] e pos) (gN i way ck xc)):=⟨Bt J hr ho.h hk.h he.h ha hs hw h1⟩
end
section
variable {G:Gx} {X:Cx} {i j c k k' kr n:Nat} {way:List Stp} {o e b:Expr} {es:List Expr} {cs:Exs} {ca ck ce:Ex} {m x:Str} {ps:List Str} {mv:List Bool} {g:Mt} {h:Fn} {xc:Xx} {f:Str} {apos cpos pos pos' p p1:Pos}
theorem iU (J:eT G) (hr:Room kr X.A) (ho:Q (PPl G X o i way)) (hk:Q (PV G X b ck)) (he:Q (PV G X e ce)) (ha:∀ v,assign (.Subscript o b pos') X.env v=(do
   let ov ← holding [v] (eval o X.env)
   let iv ← holding [v,ov] (eval b X.env)
   standAt pos'
   holding [v,ov,iv] (setItem ov iv v)
   release [v,ov,iv] [])) (hs:swapsWithSole [.Subscript o b pos'] e pos.line X.env=pure false) (hw:swappedStores [.Subscript o b pos'] e X.env=pure none) (h1:(assignEach [.Subscript o b pos'] X.env).map (·.2)=[assign (.Subscript o b pos') X.env]):Q (PSV G X (.Assign [.Subscript o b pos'] e pos) (dN i way ck ce)):=⟨zN J hr ho.h hk.h he.h ha hs hw h1⟩
end
section
variable {G:Gx} {X:Cx} {i j c k k' kr n:Nat} {way:List Stp} {o e b:Expr} {es:List Expr} {cs:Exs} {ca ck ce:Ex} {m x:Str} {ps:List Str} {mv:List Bool} {g:Mt} {h:Fn} {xc:Xx} {f:Str} {apos cpos pos pos' p p1:Pos}
theorem i9 (J:eT G) (ho:Q (PPl G X o i way)) (ha:Q (PVs G X [e] cs)) (hK:X.K=G.K) (hbase:attributeBase o "append" X.env (eval o X.env)=eval o X.env) (hfew:((backTo cpos (starEach [e] X.env)).all (fun x=>!x.1) && (backToKw cpos (keywordEach [] X.env)).all (fun x=>x.1.isSome)
   && decide ([e].length+([]:List Keyword).length+(if ([]:List Keyword).isEmpty then 0 else 1) < 30))=true) (hline:(apos.endLine == cpos.line)=true) (hs:starEach [e] X.env=(false,eval e X.env) :: starEach [] X.env) (hplain:(backTo cpos (starEach [] X.env)).any (·.1)=false) (hsw:swapsWith (.Call (.Attribute o "append" apos) [e] [] cpos) none pos.line X.env=pure false):Q (PSV G X (.Expr (.Call (.Attribute o "append" apos) [e] [] cpos) pos) (sX (gv i way aD cs))):=⟨zS J ho.h ha.h hK hbase hfew hline hs hplain hsw⟩
theorem yw {b:Nat} {j:Nat} {p2 p3:Pos} (ha:Q (PV G X a ca)) (hK:X.K=G.K):Q (PV G X (.Subscript a (.Slice none (some (.Constant (.int (b:Int)) j p3)) none p2) pos) (v8 ca b)):=⟨Dp ha.h hK⟩
theorem ue {i:Int} {b':Bool} {j j':Nat} {q q':Pos}:Q (PV G X (.Dict [some (.Constant (.int i) j q)] [.Constant (.bool b') j' q'] pos) (iV 0 [(eC (.int i),eC (.bl b'))])):=⟨zF⟩
end
section
variable {G:Gx} {P:Program} {w:World} {K:Wt} {mg:Ws} {base:Heap}
theorem j0 {x:Str} {st:Stmt} {f:Addr} {fd:FuncData} {N ps:List Str} {k np nn:Nat} {c:Sx} (F:Fun K x x st f fd) (hm:mg x=some (.ref f)) (S:FnScope N ps (af st)) (hp:ps.length=np) (hn:N.length=nn)
  (hbd:∀ (kV doc pm:Value) (an:Option Addr) (cdv ct:Value) (us:Wq),us.length=ps.length->bindArgs (PySem.W.fnOf x x (aA st) (au st) (af st) .none kV doc pm an cdv ct) ⟨us,[]⟩=pure (ps.zip us))
  (hb:∀ (cdv:Value) (A:Around) (outer:List PySem.Env) (s:Shared) (H:Hp) (E:XK),Room k (A.deeper (envOfC x (af st) s.heap.objs.size f cdv))->Q (di G (fM CX0 P w K mg base N x (af st) f cdv A outer s H E).nox (au st) c)) :
  FnAt P w K mg base (k+1) x ps G (fn np nn c):=Dl F hm S hp hn hbd fun cdv A outer s H E hr=>(hb cdv A outer s H E hr).h
theorem DU {x qual:Str} {st:Stmt} {f:Addr} {fd:FuncData} {N ps:List Str} {k np nn:Nat} {c:Sx} (F:Fun K x qual st f fd) (S:FnScope N ps (af st)) (hp:ps.length=np) (hn:N.length=nn)
  (hb:∀ (cdv:Value) (A:Around) (outer:List PySem.Env) (s:Shared) (H:Hp) (E:XK),Room k (A.deeper (envOfC qual (af st) s.heap.objs.size f cdv))->Q (di G (fM CX0 P w K mg base N qual (af st) f cdv A outer s H E).nox (au st) c)) :
  FnOk P w K mg base CX0 (k+1) f fd ps (spF G (fn np nn c)):=fnV F S hp hn fun cdv A outer s H E hr=>(hb cdv A outer s H E hr).h
theorem sW {c:Nat} {x qual:Str} {st:Stmt} {f:Addr} {fd:FuncData} {N ps:List Str} {k np nn:Nat} {mv:List Bool} {body:Sx} (F:Fun K x qual st f fd) (hm:Meth K (G.ct (c+1)).1 x f) (hc:Cls K (G.ct (c+1)).1) (hno:∀ k,(G.ct (c+1)).2 k ≠ x) (S:FnScope N ps (af st)) (hp:ps.length=np) (hn:N.length=nn)
  (hbd:∀ (kV doc pm:Value) (an:Option Addr) (cdv ct:Value) (us:Wq),us.length=ps.length->bindArgs (PySem.W.fnOf x qual (aA st) (au st) (af st) .none kV doc pm an cdv ct) ⟨us,[]⟩=pure (ps.zip us))
  (hb:∀ (a:Addr) (cdv:Value) (A:Around) (outer:List PySem.Env) (s:Shared) (H:Hp) (E:XK),Room k (A.deeper (envOfC qual (af st) s.heap.objs.size f cdv))->Q (di (G.at (some a)) (fM CX0 P w K mg base N qual (af st) f cdv A outer s H E).nox (au st) body)) :
  MtAt P w K mg base (k+1) G c x ps mv (mfn c np nn mv body):=A3 F hm hc hno S hp hn hbd fun a cdv A outer s H E hr=>(hb a cdv A outer s H E hr).h
theorem DY {c n:Nat} {x y qual:Str} {st:Stmt} {f:Addr} {fd:FuncData} {N ps:List Str} {k np nn:Nat} {body:Sx} (F:Fun K y qual st f fd) (hm:Mk K (G.ct (c+1)).1 f) (hg:mg x=some (.ref (G.ct (c+1)).1)) (S:FnScope N ps (af st)) (hp:ps.length=np) (hn:N.length=nn)
  (hbd:∀ (kV doc pm:Value) (an:Option Addr) (cdv ct:Value) (us:Wq),us.length=ps.length->bindArgs (PySem.W.fnOf y qual (aA st) (au st) (af st) .none kV doc pm an cdv ct) ⟨us,[]⟩=pure (ps.zip us))
  (hb:∀ (a:Addr) (cdv:Value) (A:Around) (outer:List PySem.Env) (s:Shared) (H:Hp) (E:XK),Room k (A.deeper (envOfC qual (af st) s.heap.objs.size f cdv))->Q (di (G.at (some a)) (fM CX0 P w K mg base N qual (af st) f cdv A outer s H E).nox (au st) body)) :
  InAt P w K mg base (k+1) G c n x ps (mfn c np nn (List.replicate n false) body):=Bb F hm hg S hp hn hbd fun a cdv A outer s H E hr=>(hb a cdv A outer s H E hr).h
theorem Cv {c n:Nat} {x y qual:Str} {st:Stmt} {f:Addr} {fd:FuncData} {N ps:List Str} {k np nn:Nat} {body:Sx} (F:FunD K y qual st f fd) (hm:Mk K (G.ct (c+1)).1 f) (hg:mg x=some (.ref (G.ct (c+1)).1)) (S:FnScope N ps (af st)) (hp:ps.length=np) (hn:N.length=nn)
  (hbd:∀ (s:Shared) (T:Addr) (kV doc pm:Value) (an:Option Addr) (cdv ct:Value) (o:Obj) (n:Nat) (us:Wq),K.In s.heap->K.lookup T=some o->o.data=.seq #[.none] n->us.length=ps.length->BindsTo s (PySem.W.fnOf y qual (aA st) (au st) (af st) (.ref T) kV doc pm an cdv ct) ⟨us,[]⟩ (ps.zip us))
  (hb:∀ (a:Addr) (cdv:Value) (A:Around) (outer:List PySem.Env) (s:Shared) (H:Hp) (E:XK),Room k (A.deeper (envOfC qual (af st) s.heap.objs.size f cdv))->Q (di (G.at (some a)) (fM CX0 P w K mg base N qual (af st) f cdv A outer s H E).nox (au st) body)) :
  InAt P w K mg base (k+1) G c n x ps (mfn c np nn (List.replicate n false) body):=xB F hm hg S hp hn hbd fun a cdv A outer s H E hr=>(hb a cdv A outer s H E hr).h
theorem ua {c:Nat} {x qual:Str} {st:Stmt} {f:Addr} {fd:FuncData} {N ps:List Str} {k np nn:Nat} {body:Sx} (F:Fun K x qual st f fd) (hm:Meth K (G.ct (c+1)).1 x f) (hc:Cls K (G.ct (c+1)).1) (hno:∀ k,(G.ct (c+1)).2 k ≠ x) (S:FnScope N ps (af st)) (hp:ps.length=np) (hn:N.length=nn)
  (hbd:∀ (kV doc pm:Value) (an:Option Addr) (cdv ct:Value) (us:Wq),us.length=ps.length->bindArgs (PySem.W.fnOf x qual (aA st) (au st) (af st) .none kV doc pm an cdv ct) ⟨us,[]⟩=pure (ps.zip us))
  (hb:∀ (cdv:Value) (A:Around) (outer:List PySem.Env) (s:Shared) (H:Hp) (E:XK),Room k (A.deeper (envOfC qual (af st) s.heap.objs.size f cdv))->Q (di G (fM CX0 P w K mg base N qual (af st) f cdv A outer s H E).nox (au st) body)) :
  MpAt P w K mg base (k+1) G c x ps (fn np nn body):=Ao F hm hc hno S hp hn hbd fun cdv A outer s H E hr=>(hb cdv A outer s H E hr).h
end
end VS
end
section
namespace T09
open VS
noncomputable def aF:Mt:=mfn 0 4 4 [false,false,true]
  (ar (sX (gv 0 [.fld 1] aD (ae (ab 1) aj)))
  (ar (sX (gv 0 [.fld 2] aD (ae (ab 2) aj)))
  (ar (jz 0 [.fld 3] 3)
  (eY (e2 jF (eN bX (ae (aV 1 (ab 0)) aj)) (eC (.int 1)))))))
noncomputable def dg:Mt:=mfn 0 1 1 (List.replicate 0 false)
  (ar (gM 0 1 (fL aj))
  (ar (gM 0 2 (fL aj))
  (ar (gM 0 3 (fL aj))
  (sXM (bc 0 [] 0 [false,false,true] aF (ae (eC (.int 0)) (ae (eC .non) (ae (iV 0 []) aj))))))))
noncomputable def bH:Sx :=
  (ar (dN 0 [.fld 3,.ix (ab 1)] (ab 2) (ab 5))
  (aC 1 (e2 ax (aV 2 (ab 0)) (ab 1))))
noncomputable def av:Mt:=mfn 0 3 6 [false,false]
  (ar (aC 3 (e2 oIx (e2 ax (aV 3 (ab 0)) (ab 1)) (ab 2)))
  (ar (aC 4 (e2 cG (e2 ax (aV 1 (ab 0)) (ab 1)) (eC (.int 1))))
  (ar (sIf (e2 oEq (e2 ax (aV 1 (ab 0)) (ab 3)) (ab 4)) (gZ 3) eR)
  (ar (gk 5 (bc 0 [] 0 [false,false,true] aF (ae (ab 4) (ae (e2 ax (aV 2 (ab 0)) (ab 3)) (ae (eN iG (ae (e2 ax (aV 3 (ab 0)) (ab 3)) aj)) aj)))))
  (ar (dN 0 [.fld 2] (ab 3) (ab 5))
  (ar (jP (gu (eW (ab 1)) (e2 oEq (e2 qq (e2 ax (aV 3 (ab 0)) (ab 1)) (ab 2)) (ab 3))) bH)
  (gZ 5)))))))
noncomputable def bI:Sx :=
  (ar (dN 0 [.fld 3,.ix (ab 4)] (ab 2) (ab 3))
  (aC 4 (e2 ax (aV 2 (ab 0)) (ab 4))))
noncomputable def bE:Mt:=mfn 0 3 5 [false,false]
  (ar (sIf (e2 kc (ab 2) (e2 ax (aV 3 (ab 0)) (ab 1))) (jZ (bc 0 [] 0 [false,false] av (ae (ab 1) (ae (ab 2) aj)))) eR)
  (ar (gk 3 (bc 0 [] 0 [false,false,true] aF (ae (e2 cG (e2 ax (aV 1 (ab 0)) (ab 1)) (eC (.int 1))) (ae (eC (.int 0)) (ae (iV 0 []) aj)))))
  (ar (aC 4 (ab 1))
  (ar (jP (gu (eW (ab 4)) (e2 cH (ab 2) (e2 ax (aV 3 (ab 0)) (ab 4)))) bI)
  (ar (sIf (eW (ab 4)) (gN 0 [.fld 2] (ab 3) (bc 0 [] 0 [false,false] av (ae (ab 4) (ae (ab 2) aj)))) eR)
  (gZ 3))))))
noncomputable def bW:Sx :=
  (gk 1 (bc 0 [] 0 [false,false] bE (ae (ab 1) (ae (ab 3) aj))))
noncomputable def aM:Mt:=mfn 0 3 4 [false,false]
  (ar (hU (bw 3) (fK (ab 2)) bW)
  (gZ 1))
noncomputable def bf:Sx :=
  (sIf (e2 cH (e2 oIx (ab 4) (ab 5)) (ab 1)) (ar (iB 1 (e2 oIx (ab 4) (ab 5)) (eN bX (ae (ab 2) aj)))
  (sX (lW 2 [] aD (ae (e2 oIx (ab 4) (ab 5)) aj)))) eR)
noncomputable def bU:Sx :=
  (ar (aC 4 (e2 ax (aV 3 (ab 0)) (e2 ax (ab 2) (ab 3))))
  (ar (hU (bw 5) (fK (eN fD (ae (ab 4) aj))) bf)
  (aC 3 (e2 cG (ab 3) (eC (.int 1))))))
noncomputable def aE:Fn:=fn 1 6
  (ar (lX 1 (iV 0 [((eC (.int 0)),(eC (.int 0)))]))
  (ar (lX 2 (fL (ae (eC (.int 0)) aj)))
  (ar (aC 3 (eC (.int 0)))
  (ar (jP (e2 oLt (ab 3) (eN bX (ae (ab 2) aj))) bU)
  (ar (qo 2)
  (gZ 1))))))
noncomputable def bS:Fn:=fn 3 6
  (ar (aC 3 (e2 ax (aV 2 (ab 0)) (ab 1)))
  (ar (aC 4 (e2 ax (aV 3 (ab 0)) (ab 1)))
  (ar (aC 5 (eN ik (ae (cM 1 (bw 0) (fK (eN fD (ae (ab 4) aj))) none (j7 (ae (ab 0) (ae (e2 lT (ab 3) (e2 oIx (ab 5) (ab 0))) aj)))) aj)))
  (ar (sIf (qi (ab 3)) (eY (j7 (ae (eC (.int 0)) (ae (eC (.int 0)) (ae (eC .non) (ae (ab 5) aj)))))) eR)
  (eY (j7 (ae (e2 cG (e2 ax (aV 1 (ab 0)) (ab 3)) (eC (.int 1))) (ae (e2 ax (aV 1 (ab 0)) (ab 1)) (ae (e2 lT (ab 2) (ab 3)) (ae (ab 5) aj))))))))))
noncomputable def dr:Fn:=fn 1 2
  (ar (lX 1 (dC 0 aE (ab 0) aj))
  (qW 1 (bw 0) (dC 0 bS (ab 1) (ae (ab 0) (ae (ab 2) aj)))))
noncomputable def bp:Mt:=mfn 1 1 1 []
  (ar (sIf (e2 oGe (eN bX (ae (aV 4 (ab 0)) aj)) (eC (.int 8))) sNo eR)
  (ar (sX (gv 0 [.fld 4] aD (ae (eC (.str [])) aj)))
  (ar (sX (gv 0 [.fld 5] aD (ae (eC (.int 0)) aj)))
  (eY (e2 jF (eN bX (ae (aV 4 (ab 0)) aj)) (eC (.int 1)))))))
noncomputable def iL:Fn:=fn 1 1
  (eY (gu (eIs .int (ab 0)) (j9 (eIs .bool (ab 0)))))
noncomputable def bx:Fn:=fn 2 2
  (sIf (eOr (j9 (bG iL (ae (ab 1) aj))) (j9 (iH oLe oLt (eC (.int 0)) (ab 1) (eN bX (ae (ab 0) aj))))) sNo eR)
noncomputable def fC:Fn:=fn 1 1
  (eY (eN oA (ae (cM 1 (bw 0) (fK (ab 0)) none (eN bX (ae (ab 0) aj))) aj)))
noncomputable def bg:Mt:=mfn 1 3 3 [false,false]
  (ar (sX (xP (bG bx (ae (aV 4 (ab 0)) (ae (ab 1) aj)))))
  (ar (sIf (e2 oGt (e2 cG (bG fC (ae (aV 4 (ab 0)) aj)) (eN bX (ae (ab 2) aj))) (eC (.int 120))) sNo eR)
  (ar (gN 0 [.fld 5] (ab 1) (bc 0 [.fld 6] 0 [false,false] aM (ae (e2 ax (aV 5 (ab 0)) (ab 1)) (ae (ab 2) aj))))
  (dN 0 [.fld 4] (ab 1) (e2 cG (e2 ax (aV 4 (ab 0)) (ab 1)) (ab 2))))))
noncomputable def br:Sx :=
  (sXM (lJ 0 1 [false,false] bg (bc 0 [] 1 [] bp aj) (ae (ab 2) aj)))
noncomputable def aN:Mt:=mfn 1 2 3 (List.replicate 1 false)
  (ar (gM 0 4 (fL aj))
  (ar (gM 0 5 (fL aj))
  (ar (gM 0 6 (eNew 0 dg aj))
  (sIf (eW (ab 1)) (hU (bw 2) (fK (ab 1)) br) eR))))
noncomputable def kZ:Fn:=fn 1 1
  (eY (eN gL (ae (aV 4 (ab 0)) aj)))
noncomputable def bD:Fn:=fn 1 1
  (eY (dC 0 dr (aV 6 (ab 0)) aj))
noncomputable def aP:Fn:=fn 2 2
  (ar (sIf (e2 oLt (ab 1) (eN bX (ae (ab 0) aj))) (eY (e2 ax (ab 0) (ab 1))) eR)
  (eY (eC (.int 0))))
noncomputable def eG:Fn:=fn 2 3
  (ar (aC 2 (e2 oMod (e2 cG (e2 cG (e2 oMod (ab 0) (eC (.int 2147483629))) (e2 gC (eC (.int 48271)) (ab 1))) (eC (.int 11))) (eC (.int 2147483629))))
  (ar (aC 2 (e2 cG (e2 oMod (e2 gC (ab 2) (ab 2)) (eC (.int 2147483629))) (e2 gC (eC (.int 7919)) (ab 1))))
  (eY (e2 oMod (e2 gC (ab 2) (ab 2)) (eC (.int 2147483587))))))
noncomputable def eu:Sx :=
  (sIf (e2 oEq (e2 oMod (bG aP (ae (ab 0) (ae (eC (.int 0)) aj))) (eC (.int 2))) (eC (.int 0))) (ar (sX (lW 6 [] aD (ae (e2 ax (ab 1) (e2 oMod (ab 4) (eN bX (ae (ab 1) aj)))) aj)))
  (aC 4 (e2 bY (ab 4) (eN bX (ae (ab 1) aj))))) (sX (lW 6 [] aD (ae (e2 ax (ab 1) (e2 oMod (e2 bY (bG eG (ae (ab 4) (ae (e2 cG (e2 gC (eC (.int 30)) (ab 3)) (ab 7)) aj))) (eC (.int 7))) (eN bX (ae (ab 1) aj)))) aj))))
noncomputable def dy:Fn:=fn 4 8
  (ar (aC 4 (bG aP (ae (ab 0) (ae (e2 cG (eC (.int 1)) (ab 3)) aj))))
  (ar (aC 5 (e2 oMod (ab 4) (e2 cG (ab 2) (eC (.int 1)))))
  (ar (aC 4 (e2 bY (ab 4) (e2 cG (ab 2) (eC (.int 1)))))
  (ar (lX 6 (fL aj))
  (ar (hU (bw 7) (ed (ab 5)) eu)
  (ar (qo 6)
  (eY (eM ia (eC (.str [])) (ae (ab 6) aj)))))))))
noncomputable def dz:Fn:=fn 1 5
  (ar (aC 1 (bG aP (ae (ab 0) (ae (eC (.int 0)) aj))))
  (ar (aC 2 (e2 ax (fL (ae (eC (.str [97,98])) (ae (eC (.str [97,98,99])) (ae (eC (.str [97,98,99,100])) (ae (eC (.str [97,122])) (ae (eC (.str [97])) (ae (eC (.str [97,98,99,100,101,102,103,104,105,106,107,108,109,110,111,112,113,114,115,116,117,118,119,120,121,122])) aj))))))) (e2 oMod (e2 bY (ab 1) (eC (.int 2))) (eC (.int 6)))))
  (ar (aC 3 (e2 ax (fL (ae (eC (.int 1)) (ae (eC (.int 2)) (ae (eC (.int 3)) (ae (eC (.int 4)) (ae (eC (.int 2)) (ae (eC (.int 1)) (ae (eC (.int 0)) (ae (eC (.int 8)) aj))))))))) (e2 oMod (e2 bY (ab 1) (eC (.int 12))) (eC (.int 8)))))
  (ar (aC 4 (e2 ax (fL (ae (eC (.int 24)) (ae (eC (.int 12)) (ae (eC (.int 8)) (ae (eC (.int 6)) aj))))) (e2 jF (eN mh (ae (ab 3) (ae (eC (.int 4)) aj))) (eC (.int 1)))))
  (ar (sIf (e2 oEq (e2 oMod (e2 bY (ab 1) (eC (.int 96))) (eC (.int 8))) (eC (.int 5))) (aC 4 (e2 bY (e2 ax (fL (ae (eC (.int 60)) (ae (eC (.int 120)) aj))) (e2 oMod (e2 bY (ab 1) (eC (.int 768))) (eC (.int 2)))) (eN mL (ae (eC (.int 1)) (ae (ab 3) aj))))) eR)
  (ar (sIf (gu (e2 oEq (ab 3) (eC (.int 8))) (e2 oNe (e2 oMod (e2 bY (ab 1) (eC (.int 96))) (eC (.int 8))) (eC (.int 5)))) (aC 4 (eC (.int 3))) eR)
  (eY (cM 1 (bw 0) (ed (ab 3)) none (bG dy (ae (ab 1) (ae (ab 3) (ae (ab 5) (ae (ab 0) aj)))))))))))))
noncomputable def cW:Sx :=
  (iB 1 (ab 4) (eC (.bl true)))
noncomputable def cY:Sx :=
  (hU (oJ [(bw 3),(bw 4)]) (fK (e2 ax (ab 2) (eC (.int 3)))) cW)
noncomputable def de:Sx :=
  (ar (aC 2 (e2 ax (ab 0) (ab 5)))
  (sIf (eOr (qi (e2 ax (ab 2) (eC (.int 2)))) (eOr (e2 oNe (e2 cG (e2 ax (e2 ax (ab 0) (e2 ax (ab 2) (eC (.int 2)))) (eC (.int 1))) (eC (.int 1))) (e2 ax (ab 2) (eC (.int 0)))) (eOr (e2 oGt (e2 ax (ab 2) (eC (.int 0))) (e2 ax (ab 2) (eC (.int 1)))) (e2 cH (ab 5) (ab 1))))) (eY (eC (.bl false))) eR))
noncomputable def cn:Fn:=fn 1 6
  (ar (lX 1 (iV 0 [((eC (.int 0)),(eC (.bl true)))]))
  (ar (hU (bw 2) (fK (ab 0)) cY)
  (ar (qo 1)
  (ar (hU (bw 5) (fe (eC (.int 1)) (eN bX (ae (ab 0) aj))) de)
  (eY (e2 oEq (v8 (e2 ax (ab 0) (eC (.int 0))) 3) (j7 (ae (eC (.int 0)) (ae (eC (.int 0)) (ae (eC .non) aj))))))))))
noncomputable def kU:Sx :=
  (iB 5 (eSl (ab 6) none (some (ab 7))) (eC (.bl true)))
noncomputable def kG:Sx :=
  (hU (bw 7) (fe (eC (.int 1)) (e2 cG (eN bX (ae (ab 6) aj)) (eC (.int 1)))) kU)
noncomputable def lb:Sx :=
  (sIf (e2 oGt (eN bX (ae (cM 1 (bw 0) (fK (ab 2)) (some (e2 oEq (e2 ax (ab 0) (eC (.int 2))) (ab 10))) (ab 0)) aj)) (eC (.int 1))) (aC 8 (e2 cG (ab 8) (eC (.int 1)))) eR)
noncomputable def qS:Fn:=fn 1 10
  (ar (aC 1 (bG dz (ae (ab 0) aj)))
  (ar (aC 2 (dC 1 bD (eNew 1 aN (ae (eN gL (ae (ab 1) aj)) aj)) aj))
  (ar (aC 3 (eN bX (ae (eM ia (eC (.str [])) (ae (ab 1) aj)) aj)))
  (ar (aC 4 (eN oA (ae (cM 1 (bw 0) (fK (ab 2)) none (eN bX (ae (e2 ax (ab 0) (eC (.int 3))) aj))) aj)))
  (ar (sIf (e2 oEq (ab 3) (eC (.int 0))) (eY (e2 oEq (ab 2) (fL (ae (j7 (ae (eC (.int 0)) (ae (eC (.int 0)) (ae (eC .non) (ae (j7 aj) aj))))) aj)))) eR)
  (ar (sIf (eOr (e2 oGt (eN bX (ae (ab 2) aj)) (e2 gC (eC (.int 2)) (ab 3))) (eOr (e2 oGe (ab 4) (e2 gC (eC (.int 3)) (ab 3))) (j9 (bG cn (ae (ab 2) aj))))) (eY (eC (.bl false))) eR)
  (ar (lX 5 (iV 0 []))
  (ar (hU (bw 6) (fK (ab 1)) kG)
  (ar (qo 5)
  (ar (aC 8 (eC (.int 0)))
  (ar (hU (bw 9) (fe (eC (.int 1)) (eN bX (ae (ab 2) aj))) lb)
  (eY (gu (e2 oLe (e2 jF (eN bX (ae (ab 2) aj)) (eC (.int 1))) (e2 cG (eN bX (ae (ab 5) aj)) (ab 8))) (e2 oLe (ab 4) (e2 cG (e2 jF (eN bX (ae (ab 2) aj)) (eC (.int 1))) (ab 3))))))))))))))))
end T09
end
section
namespace AU
structure St where
 lg:Wo
 lk:List (Option Nat)
 wy:List (List (Nat×Nat))
noncomputable def gW (w:List (Nat×Nat)) (c:Nat):Option Nat:=(w.find? fun p=>p.1 == c).map (·.2)
noncomputable def pW (w:List (Nat×Nat)) (c m:Nat):List (Nat×Nat):=if w.any (fun p=>p.1 == c) then w.map (fun p=>if p.1 == c then (p.1,m) else p) else w++[(c,m)]
structure WF (S:St):Prop where
 lk:S.lk.length=S.lg.length
 wy:S.wy.length=S.lg.length
 pos:0 < S.lg.length
 up:∀ i n,S.lk.getD i none=some n->n < S.lg.length
 on:∀ i c n,gW (S.wy.getD i []) c=some n->n < S.lg.length
 nd:∀ w∈S.wy,(w.map (·.1)).Nodup
 az:∀ w∈S.wy,∀ p∈w,97<=p.1/\p.1<=122
theorem sub_len {α:Type} [DecidableEq α]:∀ (l r:List α),l.Nodup->(∀ x∈l,x∈r)->l.length<=r.length
 | [],_,_,_=>Yk _
 | a :: l,r,nd,h=>by
  obtain ⟨h1,h2⟩:=Zh.mp nd
  have hr:a∈r:=h a Zw
  have:=sub_len l (r.erase a) h2 fun x hx=>(List.mem_erase_of_ne (show x ≠ a from fun e=>h1 (by rw [← e];exact hx))).mpr (h x (Zx _ hx))
  rw [List.length_erase_of_mem hr] at this
  have:0 < r.length:=List.length_pos_of_mem hr
  rw [Zk]
  omega
theorem WF.small {S:St} (W:WF S) (i:Nat):(S.wy.getD i []).length < 16777216:=by
 by_cases h:i < S.wy.length
 ·have hm:S.wy.getD i []∈S.wy:=by
   rw [Zr,Zm h]
   exact Yy h
  have:=sub_len ((S.wy.getD i []).map (·.1)) (List.range 123) (W.nd _ hm) fun x hx=>by
   obtain ⟨p,hp,rfl⟩:=ZG.mp hx
   have:=(W.az _ hm p hp).2
   exact Ye.mpr (by omega)
  rw [Zy,ZC] at this
  omega
 ·rw [Zr,Z0 (ZJ h)]
  decide
theorem As (w:List (Nat×Nat)) (c:Nat):(w.any fun p=>p.1 == c)=(gW w c).isSome:=by
 unfold gW
 rw [Yo,YA,YS,X4]
theorem zw (w:List (Nat×Nat)) (c m d:Nat):gW (pW w c m) d=if d=c then some m else gW w d:=by
 unfold pW
 split
 ·rename_i h
  induction w with
  | nil=>simp at h
  | cons p w ih =>
   rw [Zn]
   unfold gW
   rw [Z8,Z8]
   by_cases q:p.1=c
   ·rw [Zq (by simpa using q)]
    by_cases r:p.1=d
    ·have:(p.1 == d)=true:=by simpa using r
     simp only [this]
     rw [Zq (by rw [← r,q])]
     rfl
    ·have r':(p.1 == d)=false:=by simpa using r
     have:d ≠ c:=fun e=>r (by rw [e,q])
     simp only [r',Zo this]
     have key:∀ w:List (Nat×Nat),(w.map fun p=>if p.1 == c then (p.1,m) else p).find? (fun p=>p.1 == d)=w.find? fun p=>p.1 == d:=by
      intro w
      induction w with
      | nil=>rfl
      | cons x w ih =>
       rw [Zn,Z8,Z8,ih]
       by_cases y:x.1=c
       ·rw [Zq (by simpa using y)]
        have:(x.1 == d)=false:=by simpa using fun e=>this (by rw [← e,y])
        simp only [this]
       ·rw [Zo (by simpa using y)]
     rw [key w]
   ·rw [Zo (by simpa using q)]
    have h':(w.any fun p=>p.1 == c)=true:=by
     rw [Yg] at h
     simpa [q] using h
    have ih':=ih h'
    unfold gW at ih'
    by_cases r:p.1=d
    ·have r':(p.1 == d)=true:=by simpa using r
     simp only [r']
     rw [Zo (fun e=>q (by rw [r,e]))]
    ·have r':(p.1 == d)=false:=by simpa using r
     simp only [r']
     exact ih'
 ·rename_i h
  unfold gW
  rw [List.find?_append]
  by_cases q:d=c
  ·subst q
   have:w.find? (fun p=>p.1 == d)=none:=by
    rw [List.find?_eq_none]
    intro p hp e
    exact h (YS.mpr ⟨p,hp,e⟩)
   rw [this,Zq rfl]
   simp
  ·rw [Zo q]
   have:((c == d)=false):=by simpa using fun e=>q e.symm
   simp [this]
theorem yU (w:List (Nat×Nat)) (c m:Nat) (nd:(w.map (·.1)).Nodup):((pW w c m).map (·.1)).Nodup:=by
 unfold pW
 split
 ·rw [Z1]
  have:((fun p:Nat×Nat=>p.1) ∘ fun p=>if (p.1 == c)=true then (p.1,m) else p)=fun p=>p.1:=by
   funext p
   simp only [Function.comp]
   split <;> rfl
  rw [this]
  exact nd
 ·rename_i h
  rw [Z6,ZP]
  refine ⟨nd,by simp,fun a ha b hb e=>?_⟩
  have hb':b=c:=by simpa using hb
  subst e hb'
  obtain ⟨p,hp,e⟩:=ZG.mp ha
  exact h (YS.mpr ⟨p,hp,by simpa using e⟩)
theorem Bd {w:List (Nat×Nat)} {c m:Nat} {p:Nat×Nat} (h:p∈pW w c m):p.1=c\/p∈w:=by
 unfold pW at h
 split at h
 ·obtain ⟨q,hq,rfl⟩:=ZG.mp h
  by_cases r:(q.1 == c)=true
  ·rw [Zq r];exact .inl (by simpa using r)
  ·rw [Zo r];exact .inr hq
 ·rcases ZY.mp h with h | h
  ·exact .inr h
  ·rw [Zb.mp h];exact .inl rfl
theorem gj {α:Type} (l:List α) (i j:Nat) (x d:α):(l.set i x).getD j d=if i=j/\i < l.length then x else l.getD j d:=by
 rw [Zr,Zr,X3]
 by_cases h:i=j
 ·subst h
  by_cases h2:i < l.length
  ·rw [Zq rfl,Zq h2,Zq ⟨rfl,h2⟩];rfl
  ·rw [Zq rfl,Zo h2,Zo (fun z=>h2 z.2),Z0 (ZJ h2)]
 ·rw [Zo h,Zo (fun z=>h z.1)]
theorem bT {α:Type} (l:List α) (x d:α) (j:Nat):(l++[x]).getD j d=if j=l.length then x else l.getD j d:=by
 rw [Zr,Zr]
 by_cases h:j < l.length
 ·rw [ZE h,Zo (ZQ h)]
 ·rw [Z2 (ZJ h)]
  by_cases h2:j=l.length
  ·rw [Zq h2,h2,Nat.sub_self];rfl
  ·rw [Zo h2,Z0 (ZJ h),Z0 (by simp;omega)]
theorem WF.way {S:St} (W:WF S) {n c v:Nat} (hv:v < S.lg.length) (hc:97<=c/\c<=122):WF ⟨S.lg,S.lk,S.wy.set n (pW (S.wy.getD n []) c v)⟩:=by
 refine ⟨W.lk,by rw [Z7];exact W.wy,W.pos,W.up,fun i d m h=>?_,fun w hw=>?_,fun w hw p hp=>?_⟩
 ·show m < S.lg.length
  have h':gW ((S.wy.set n (pW (S.wy.getD n []) c v)).getD i []) d=some m:=h
  rw [gj] at h'
  split at h'
  ·rw [zw] at h'
   split at h'
   ·cases h';exact hv
   ·exact W.on n d m h'
  ·exact W.on i d m h'
 ·by_cases hn:n < S.wy.length
  ·rcases List.mem_or_eq_of_mem_set hw with h | h
   ·exact W.nd w h
   ·rw [h]
    refine yU _ c v (W.nd _ ?_)
    rw [Zr,Zm hn]
    exact Yy hn
  ·rw [List.set_eq_of_length_le (ZJ hn)] at hw
   exact W.nd w hw
 ·by_cases hn:n < S.wy.length
  ·rcases List.mem_or_eq_of_mem_set hw with h | h
   ·exact W.az w h p hp
   ·rw [h] at hp
    rcases Bd hp with e | e
    ·rw [e];exact hc
    ·refine W.az _ ?_ p e
     rw [Zr,Zm hn]
     exact Yy hn
  ·rw [List.set_eq_of_length_le (ZJ hn)] at hw
   exact W.az w hw p hp
theorem WF.link {S:St} (W:WF S) {n v:Nat} (hv:v < S.lg.length):WF ⟨S.lg,S.lk.set n (some v),S.wy⟩:=by
 refine ⟨by rw [Z7];exact W.lk,W.wy,W.pos,fun i m h=>?_,W.on,W.nd,W.az⟩
 have h':(S.lk.set n (some v)).getD i none=some m:=h
 rw [gj] at h'
 split at h'
 ·cases h';exact hv
 ·exact W.up i m h'
theorem WF.more {S:St} (W:WF S) {l:Nat} {o:Option Nat} {w:List (Nat×Nat)} (ho:∀ n,o=some n->n < S.lg.length) (hw:∀ c n,gW w c=some n->n < S.lg.length) (nd:(w.map (·.1)).Nodup) (az:∀ p∈w,97<=p.1/\p.1<=122):WF ⟨S.lg++[l],S.lk++[o],S.wy++[w]⟩:=by
 have hs:∀ {n},n < S.lg.length->n < (S.lg++[l]).length:=fun h=>by rw [Zv,ZS];omega
 refine ⟨by rw [Zv,Zv,W.lk];rfl,by rw [Zv,Zv,W.wy];rfl,by rw [Zv];exact ZU W.pos (YF _ _),fun i n h=>?_,fun i c n h=>?_,fun x hx=>?_,fun x hx=>?_⟩
 ·have h':(S.lk++[o]).getD i none=some n:=h
  rw [bT] at h'
  split at h'
  ·exact hs (ho n h')
  ·exact hs (W.up i n h')
 ·have h':gW ((S.wy++[w]).getD i []) c=some n:=h
  rw [bT] at h'
  split at h'
  ·exact hs (hw c n h')
  ·exact hs (W.on i c n h')
 ·rcases ZY.mp hx with h | h
  ·exact W.nd x h
  ·rw [Zb.mp h];exact nd
 ·rcases ZY.mp hx with h | h
  ·exact W.az x h
  ·rw [Zb.mp h];exact az
noncomputable def up1 (c v:Nat):Nat->St->Option Nat->Option (St×Option Nat)
 | _,S,none=>some (S,none)
 | 0,_,some _=>none
 | k+1,S,some n=>if (gW (S.wy.getD n []) c).isSome then some (S,some n) else up1 c v k ⟨S.lg,S.lk,S.wy.set n (pW (S.wy.getD n []) c v)⟩ (S.lk.getD n none)
noncomputable def up2 (c old v:Nat):Nat->St->Option Nat->Option St
 | _,S,none=>some S
 | 0,_,some _=>none
 | k+1,S,some n=>if gW (S.wy.getD n []) c=some old then up2 c old v k ⟨S.lg,S.lk,S.wy.set n (pW (S.wy.getD n []) c v)⟩ (S.lk.getD n none) else some S
noncomputable def njb (S:St) (n c:Nat):Option (St×Nat):=(gW (S.wy.getD n []) c).bind fun old=>if S.lg.getD old 0=S.lg.getD n 0+1 then some (S,old) else
 (up2 c old S.lg.length 1000 ⟨S.lg++[S.lg.getD n 0+1],(S.lk++[S.lk.getD old none]).set old (some S.lg.length),S.wy++[S.wy.getD old []]⟩ (some n)).map fun S'=>(S',S.lg.length)
noncomputable def hb (S:St) (h c:Nat):Option (St×Nat):=if (gW (S.wy.getD h []) c).isSome then njb S h c else
 (up1 c S.lg.length 1000 ⟨S.lg++[S.lg.getD h 0+1],S.lk++[some 0],S.wy++[[]]⟩ (some h)).bind fun z=>match z.2 with
  | none=>some (z.1,S.lg.length)
  | some n=>(njb z.1 n c).map fun y=>(⟨y.1.lg,y.1.lk.set S.lg.length (some y.2),y.1.wy⟩,S.lg.length)
noncomputable def hg (S:St) (h:Nat):Wo->Option (St×Nat)
 | []=>some (S,h)
 | c :: r=>(hb S h c).bind fun z=>hg z.1 z.2 r
noncomputable def Sm (S:St):Prop:=S.lg.length<=100001
theorem WF.wnd {S:St} (W:WF S) (i:Nat):((S.wy.getD i []).map (·.1)).Nodup/\∀ p∈S.wy.getD i [],97<=p.1/\p.1<=122:=by
 by_cases h:i < S.wy.length
 ·have hm:S.wy.getD i []∈S.wy:=by
   rw [Zr,Zm h]
   exact Yy h
  exact ⟨W.nd _ hm,W.az _ hm⟩
 ·rw [Zr,Z0 (ZJ h)]
  exact ⟨Yn,fun p hp=>nomatch hp⟩
noncomputable def S0:St:=⟨[0],[none],[[]]⟩
theorem zo:WF S0:=by
 refine ⟨rfl,rfl,by decide,fun i n h=>?_,fun i c n h=>?_,fun w hw=>?_,fun w hw p hp=>?_⟩
 ·cases i with
  | zero=>cases h
  | succ i=>cases h
 ·cases i with
  | zero=>cases h
  | succ i=>cases h
 ·rw [Zb.mp hw];exact Yn
 ·rw [Zb.mp hw] at hp;cases hp
end AU
end
section
namespace VS
theorem e2v {f:Val->Val->Wh} {a b:Ex} {η:Env} {x y z:Val} (h1:a η=some x) (h2:b η=some y) (h3:f x y=some z):e2 f a b η=some z:=by
 show (a η).bind _=_
 rw [h1,Zt,h2]
 exact h3
theorem xv {a:Ex} {r:Exs} {η:Env} {x:Val} {xs:Wi} (h1:a η=some x) (h2:r η=some xs):ae a r η=some (x :: xs):=by
 show (a η).bind _=_
 rw [h1,Zt,h2]
 rfl
theorem kf {c:Ex} {a b:Sx} {η:Env} {m:Md} (h:c η=some (m,.bl true)):sIf c a b η=a η:=by
 show (c η).bind _=_
 rw [h]
 rfl
theorem iy {c:Ex} {a b:Sx} {η:Env} {m:Md} (h:c η=some (m,.bl false)):sIf c a b η=b η:=by
 show (c η).bind _=_
 rw [h]
 rfl
theorem gR {f:Wi->Wh} {as:Exs} {η:Env} {xs:Wi} {v:Val} (h:as η=some xs) (h2:f xs=some v):eN f as η=some v:=by
 show (as η).bind f=_
 rw [h,Zt,h2]
theorem dA {e:Ex} {η:Env} {t:T} (h:e η=some (.fr,t)):eY e η=some (.rt (.fr,t) η):=by
 show (e η).bind _=_
 rw [h]
 rfl
theorem iY {a b:Sx} {η η1:Env} {v:Val} (h:a η=some (.rt v η1)):ar a b η=some (.rt v η1):=by
 show (a η).bind _=_
 rw [h]
 rfl
theorem ak {a b:Sx} {η η1:Env} (h:a η=some (.nx η1)):ar a b η=b η1:=by
 show (a η).bind _=_
 rw [h]
 rfl
theorem fF {np nn:Nat} {b:Sx} {ts:Wg} {v:Val} {η:Env} (hl:ts.length=np) (h:b (ts.map (fun t=>some (.pu t))++List.replicate (nn - np) none)=some (.rt v η)):fn np nn b ts=some v:=by
 unfold fn
 rw [Zq hl,h]
 rfl
theorem C4 {np nn:Nat} {b:Sx} {ts:Wg} {η:Env} (hl:ts.length=np) (h:b (ts.map (fun t=>some (.pu t))++List.replicate (nn - np) none)=some (.nx η)):fn np nn b ts=some (.fr,.non):=by
 unfold fn
 rw [Zq hl,h]
 rfl
theorem pT {a b:Ex} {η:Env} {m:Md} {x:Bool} {v:Val} (h1:a η=some (m,.bl x)) (h2:x=true->b η=some v) (h3:x=false->v=(.fr,.bl false)):gu a b η=some v:=by
 show (a η).bind _=_
 rw [h1,Zt]
 cases x with
 | true=>exact h2 rfl
 | false=>exact congrArg some (h3 rfl).symm
theorem zu {a b:Ex} {η:Env} {m:Md} {x:Bool} {v:Val} (h1:a η=some (m,.bl x)) (h2:x=false->b η=some v) (h3:x=true->v=(.fr,.bl true)):eOr a b η=some v:=by
 show (a η).bind _=_
 rw [h1,Zt]
 cases x with
 | false=>exact h2 rfl
 | true=>exact congrArg some (h3 rfl).symm
theorem Cm {a b:Ex} {η:Env} {m n:Md} {x y:Bool} (h1:a η=some (m,.bl x)) (h2:b η=some (.fr,.bl y)):gu a b η=some (.fr,.bl (x && y)):=pT h1 (fun e=>by rw [e];exact h2) (fun e=>by rw [e];rfl)
theorem or2 {a b:Ex} {η:Env} {m n:Md} {x y:Bool} (h1:a η=some (m,.bl x)) (h2:b η=some (.fr,.bl y)):eOr a b η=some (.fr,.bl (x || y)):=zu h1 (fun e=>by rw [e];exact h2) (fun e=>by rw [e];rfl)
theorem qf {a:Ex} {η:Env} {m:Md} {b:Bool} (h:a η=some (m,.bl b)):j9 a η=some (.fr,.bl (!b)):=by
 show (a η).bind _=_
 rw [h]
 rfl
theorem yL {f g:Val->Val->Wh} {a b c:Ex} {η:Env} {x y z v:Val} (h1:a η=some x) (h2:b η=some y) (h3:f x y=some (.fr,.bl true)) (h4:c η=some z) (h5:g y z=some v):iH f g a b c η=some v:=by
 show (a η).bind _=_
 rw [h1,Zt,h2,Zt,h3,Zt]
 show (c η).bind _=_
 rw [h4]
 exact h5
theorem zq {n:Nat} {i:Int} (h0:0<=i) (h1:i < n):ixP n i=some i.toNat:=by rw [ixP,Zq h0,Zq h1]
theorem vB {n:Nat} {i:Nat} (h1:i < n):ixP n (i:Int)=some i:=by
 rw [ixP,Zq (Int.natCast_nonneg i),Zq (Int.ofNat_lt.mpr h1)]
 rfl
theorem xk {m n:Md} (l:Wm) (i:Int) (h0:0<=i) (h1:i < l.length):ax (m,.scr l) (n,.int i)=some (.fr,.int (l.getD i.toNat 0)):=by
 have b2:i.toNat < l.length:=by lia
 show (ixP l.length i).bind _=_
 rw [zq h0 h1,Zt,Zr,Zm b2]
 rfl
theorem BG {m n:Md} (t:Tx) (i:Int) (h0:0<=i) (h1:i < t.length):ax (m,.str t) (n,.int i)=some (.fr,.str [t.getD i.toNat 0]):=by
 have b2:i.toNat < t.length:=by lia
 show (ixP t.length i).bind _=_
 rw [zq h0 h1,Zt,Zr,Zm b2]
 rfl
theorem jw {m n:Md} {a b:T} {r:Bool} (ha:eqD 60 a=true) (hb:eqD 60 b=true) (h:eqT a b=r):oEq (m,a) (n,b)=some (.fr,.bl r):=by
 show (if eqD 60 a/\eqD 60 b then some (Md.fr,T.bl (eqT a b)) else none)=_
 rw [Zq ⟨ha,hb⟩,h]
theorem zk {m n:Md} {a b:T} {r:Bool} (ha:eqD 60 a=true) (hb:eqD 60 b=true) (h:eqT a b=r):oNe (m,a) (n,b)=some (.fr,.bl (!r)):=by
 show (if eqD 60 a/\eqD 60 b then some (Md.fr,T.bl (!eqT a b)) else none)=_
 rw [Zq ⟨ha,hb⟩,h]
theorem vz {i:Nat} {e:Ex} {η:Env} {l:Wg} {v:T} (h0:η[i]?=some (some (.ow (.lst l)))) (h1:e η=some (.fr,v)) (h2:l.length < 16777216):sX (lW i [] aD (ae e aj)) η=some (.nx (η.set i (some (.ow (.lst (l++[v])))))):=by
 have h3:ae e aj η=some [(.fr,v)]:=xv h1 rfl
 unfold sX lW
 rw [h0]
 show ((some ([]:List Ky)).bind _ |>.map _)=_
 rw [Zt,h3,Zt]
 show ((aD (.lst l) [(.fr,v)]).map _ |>.map _)=_
 rw [dY h2]
 rfl
end VS
end
section
namespace T09
open VS AU
noncomputable abbrev pc (t:T):Wj:=some (.pu t)
noncomputable abbrev oc (t:T):Wj:=some (.ow t)
noncomputable def wT' (w:List (Nat×Nat)):T:=.dct 0 (w.map fun p=>(T.str [p.1],T.int (p.2:Int)))
noncomputable def lkT:Option Nat->T
 | none=>.non
 | some n=>.int (n:Int)
noncomputable def fsT (S:St):n6:=[(1,.lst (S.lg.map fun (n:Nat)=>T.int (n:Int))),(2,.lst (S.lk.map lkT)),(3,.lst (S.wy.map wT'))]
noncomputable def obT (S:St) (b:Bool):T:=.obj 1 ((0,.bl b) :: fsT S)
theorem jD (o:Option Nat):imm (lkT o)=true:=by cases o <;> rfl
theorem d6 {α:Type} (f:α->T) (h:∀ a,eZ (f a)=true):∀ l:List α,cJ (l.map f)=true
 | []=>rfl
 | a :: l=>by rw [Zn,cJ,h a,d6 f h l];rfl
theorem tF (w:List (Nat×Nat)):eZ (wT' w)=true:=by
 show mS (w.map fun p=>(T.str [p.1],T.int (p.2:Int)))=true
 induction w with
 | nil=>rfl
 | cons p w ih=>rw [Zn,mS,ih];rfl
theorem js (S:St):dH (fsT S)=true:=by
 have h1:eZ (.lst (S.lg.map fun (n:Nat)=>T.int (n:Int)))=true:=d6 _ (fun _=>rfl) _
 have h2:eZ (.lst (S.lk.map lkT))=true:=d6 _ (fun o=>lz _ (jD o)) _
 have h3:eZ (.lst (S.wy.map wT'))=true:=d6 _ tF _
 show ((eZ _ && !(1 == 0 && isT _)) && ((eZ _ && !(2 == 0 && isT _)) && ((eZ _ && !(3 == 0 && isT _)) && true)))=true
 rw [h1,h2,h3]
 rfl
theorem CH (S:St) (b:Bool):nJ 1 (obT S b)=some (.lst (S.lg.map fun (n:Nat)=>T.int (n:Int))):=rfl
theorem DH (S:St) (b:Bool):nJ 2 (obT S b)=some (.lst (S.lk.map lkT)):=rfl
theorem DA (S:St) (b:Bool):nJ 3 (obT S b)=some (.lst (S.wy.map wT')):=rfl
theorem fX {k:Nat} {a:Ex} {η:Env} {m:Md} {t u:T} (h:a η=some (m,t)) (h2:nJ k t=some u):aV k a η=some (sub m u):=by
 unfold aV
 rw [h,Zt,h2]
 rfl
theorem lF {α:Type} {m n:Md} (f:α->T) (l:List α) (i:Nat) (d:α) (h:i < l.length):ax (m,.lst (l.map f)) (n,.int (i:Int))=some (sub m (f (l.getD i d))):=by
 show (ixP (l.map f).length (i:Int)).bind _=_
 rw [Zy,vB h,Zt,ZO,Zm h,Zr,Zm h]
 rfl
section
variable {η:Env} {m n:Md} {S:St} {b:Bool} {a e:Ex} {i:Nat}
theorem pk (h:a η=some (m,obT S b)) (he:e η=some (n,.int (i:Int))) (hi:i < S.lg.length):e2 ax (aV 1 a) e η=some (.fr,.int ((S.lg.getD i 0:Nat):Int)):=e2v (fX h (CH S b)) he (lF _ _ i 0 hi)
theorem qL (h:a η=some (m,obT S b)) (he:e η=some (n,.int (i:Int))) (hi:i < S.lk.length):e2 ax (aV 2 a) e η=some (.fr,lkT (S.lk.getD i none)):=(e2v (fX h (DH S b)) he (lF _ _ i none hi)).trans (by
 show some (up _ _)=_
 unfold up
 rw [jD]
 rfl)
theorem lj (h:a η=some (m,obT S b)) (he:e η=some (n,.int (i:Int))) (hi:i < S.wy.length):e2 ax (aV 3 a) e η=some (m,wT' (S.wy.getD i [])):=e2v (fX h (DA S b)) he (lF _ _ i [] hi)
theorem Ax (h:a η=some (m,obT S b)):eN bX (ae (aV 1 a) aj) η=some (.fr,.int (S.lg.length:Nat)):=gR (xv (fX h (CH S b)) rfl) (by
 show some (Md.fr,T.int (((S.lg.map fun (n:Nat)=>T.int (n:Int)).length:Nat):Int))=_
 rw [Zy])
end
theorem Br (a c:Nat):eqT (.str [a]) (.str [c])=(a == c):=by
 simp only [eqT]
 by_cases h:a=c
 ·simp [h]
 ·simp [h]
theorem nN (w:List (Nat×Nat)) (c:Nat):dI (w.map fun p=>(T.str [p.1],T.int (p.2:Int))) (.str [c])=(gW w c).map fun (n:Nat)=>T.int (n:Int):=by
 unfold dI gW
 rw [List.find?_map]
 have:((fun p:T×T=>eqT p.1 (.str [c])) ∘ fun p:Nat×Nat=>(T.str [p.1],T.int (p.2:Int)))=fun p:Nat×Nat=>p.1 == c:=by
  funext p
  exact Br p.1 c
 rw [this]
 cases w.find? fun p=>p.1 == c with
 | none=>rfl
 | some p=>rfl
theorem Cw (w:List (Nat×Nat)) (c m:Nat):dput (w.map fun p=>(T.str [p.1],T.int (p.2:Int))) (.str [c]) (.int (m:Int))=(pW w c m).map fun p=>(T.str [p.1],T.int (p.2:Int)):=by
 have h1:(w.map fun p=>(T.str [p.1],T.int (p.2:Int))).any (fun p=>eqT p.1 (.str [c]))=w.any fun p=>p.1 == c:=by
  rw [List.any_map]
  congr 1
  funext p
  exact Br p.1 c
 unfold dput pW
 rw [h1]
 split
 ·rw [Z1,Z1]
  apply Yu
  intro p _
  simp only [Function.comp,Br]
  split <;> rfl
 ·rw [Z6]
  rfl
section
variable {η:Env} {m n k:Md} {S:St} {b:Bool} {a e ec ev:Ex} {i c v:Nat} {w:List (Nat×Nat)}
theorem D2 (h:a η=some (m,wT' w)) (he:e η=some (n,.str [c])):e2 kc e a η=some (.fr,.bl (gW w c).isSome):=e2v he h (by
 show (if true=true then some (Md.fr,T.bl (dI _ _).isSome) else none)=_
 rw [Zq rfl,nN,Yo])
theorem CP (h:a η=some (m,wT' w)) (he:e η=some (n,.str [c])):e2 cH e a η=some (.fr,.bl (!(gW w c).isSome)):=e2v he h (by
 show (match (if true=true then some (Md.fr,T.bl (dI (w.map fun p=>(T.str [p.1],T.int (p.2:Int))) (.str [c])).isSome) else none) with | some (_,.bl b)=>some (Md.fr,T.bl (!b)) | _=>none)=_
 rw [Zq rfl,nN,Yo])
theorem tQ (h:a η=some (m,wT' w)) (he:e η=some (n,.str [c])) (hv:gW w c=some v):e2 oIx a e η=some (.fr,.int (v:Int)):=e2v h he (by
 show (if true=true then (dI _ _).map (sub m) else none)=_
 rw [Zq rfl,nN,hv]
 rfl)
theorem Dg (h:a η=some (m,wT' w)) (he:e η=some (n,.str [c])):e2 qq a e η=some (.fr,lkT (gW w c)):=e2v h he (by
 show (if true=true then some (match dI (w.map fun p=>(T.str [p.1],T.int (p.2:Int))) (.str [c]) with | some t=>sub m t | none=>(.fr,.non)) else none)=_
 rw [Zq rfl,nN]
 cases gW w c with
 | none=>rfl
 | some v=>rfl)
theorem vY {r:List (Wj)} (hi:i < S.wy.length) (he:e (oc (obT S b) :: r)=some (n,.int (i:Int))) (hc:ec (oc (obT S b) :: r)=some (m,.str [c])) (hv:ev (oc (obT S b) :: r)=some (k,.int (v:Int))) (hl:(S.wy.getD i []).length < 16777216) :
  dN 0 [.fld 3,.ix e] ec ev (oc (obT S b) :: r)=some (.nx (oc (obT ⟨S.lg,S.lk,S.wy.set i (pW (S.wy.getD i []) c v)⟩ b) :: r)):=by
 unfold dN
 rw [hv,Zt]
 show ((keys [.fld 3,.ix e] (oc (obT S b) :: r)).bind _)=_
 have hk:keys [.fld 3,.ix e] (oc (obT S b) :: r)=some [.fld 3,.at (.int (i:Int))]:=by
  show ((e _).bind _).map _=_
  rw [he]
  rfl
 rw [hk,Zt,hc,Zt]
 have hp:pm (iI (m,.str [c]) (k,.int (v:Int))) [.fld 3,.at (.int (i:Int))] (obT S b)=some (obT ⟨S.lg,S.lk,S.wy.set i (pW (S.wy.getD i []) c v)⟩ b,()):=by
  show ((pm (iI (m,.str [c]) (k,.int (v:Int))) [.at (.int (i:Int))] (.lst (S.wy.map wT'))).map _)=_
  have:pm (iI (m,.str [c]) (k,.int (v:Int))) [.at (.int (i:Int))] (.lst (S.wy.map wT'))=some (.lst ((S.wy.set i (pW (S.wy.getD i []) c v)).map wT'),()):=by
   show ((ixP (S.wy.map wT').length (i:Int)).bind _)=_
   rw [Zy,vB hi,Zt,ZO,Zm hi]
   show ((iI (m,.str [c]) (k,.int (v:Int)) (wT' S.wy[i])).map _)=_
   have e1:S.wy.getD i []=S.wy[i]:=by rw [Zr,Zm hi];rfl
   rw [e1] at hl ⊢
   show ((if true=true/\true=true/\(S.wy[i].map _).length < eO then some (T.dct 0 (dput _ _ _),()) else none).map _)=_
   rw [Zq ⟨rfl,rfl,by rw [Zy];exact hl⟩,Cw,X2]
   rfl
  rw [this]
  rfl
 rw [hp]
 rfl
theorem vf {r:List (Wj)} (hi:i < S.lk.length) (he:e (oc (obT S b) :: r)=some (n,.int (i:Int))) (hv:ev (oc (obT S b) :: r)=some (.fr,.int (v:Int))) :
  dN 0 [.fld 2] e ev (oc (obT S b) :: r)=some (.nx (oc (obT ⟨S.lg,S.lk.set i (some v),S.wy⟩ b) :: r)):=by
 unfold dN
 rw [hv,Zt]
 show ((keys [.fld 2] (oc (obT S b) :: r)).bind _)=_
 have hk:keys [.fld 2] (oc (obT S b) :: r)=some [.fld 2]:=rfl
 rw [hk,Zt,he,Zt]
 have hp:pm (iI (n,.int (i:Int)) (.fr,.int (v:Int))) [.fld 2] (obT S b)=some (obT ⟨S.lg,S.lk.set i (some v),S.wy⟩ b,()):=by
  show ((iI (n,.int (i:Int)) (.fr,.int (v:Int)) (.lst (S.lk.map lkT))).map _)=_
  have:iI (n,.int (i:Int)) (.fr,.int (v:Int)) (.lst (S.lk.map lkT))=some (.lst ((S.lk.set i (some v)).map lkT),()):=by
   show ((ixP (S.lk.map lkT).length (i:Int)).map _)=_
   rw [Zy,vB hi,X2]
   rfl
  rw [this]
  rfl
 rw [hp]
 rfl
end
theorem nS {c:Ex} {body:Sx} {n:Nat} {η η':Env} {m:Md} (h1:c η=some (m,.bl true)) (h2:body η=some (.nx η')):eQ c body (n+1) η=eQ c body n η':=by
 show (c η).bind _=_
 rw [h1]
 show (if true=true then (body η).bind _ else some (.nx η))=_
 rw [Zq rfl,h2]
 rfl
theorem fW {c:Ex} {body:Sx} {n:Nat} {η:Env} {m:Md} (h1:c η=some (m,.bl false)):eQ c body (n+1) η=some (.nx η):=by
 show (c η).bind _=_
 rw [h1]
 rfl
theorem h9 {mv:List Bool} {g:Mt} {as:Exs} {xs:Wi} {S S':St} {v:T} {b:Bool} {r:List (Wj)} (ha:as (oc (obT S b) :: r)=some xs) (hao:argsOk mv xs=true) (hno:cJ (trees xs)=true) (hg:g (fsT S) (trees xs)=some (fsT S',v)) (hv:imm v=true) :
  bc 0 [] 0 mv g as (oc (obT S b) :: r)=some ((.fr,v),oc (obT S' b) :: r):=by
 show ((some ([]:List Ky)).bind fun ks=>(as (oc (obT S b) :: r)).bind fun xs=>(pm (jT 0 mv g xs) ks (obT S b)).map fun z=>(z.2,(oc (obT S b) :: r).set 0 (oc z.1)))=_
 rw [Zt,ha,Zt]
 show ((if 1=0+1/\dH (fsT S)=true/\argsOk mv xs=true/\cJ (trees xs)=true then (g (fsT S) (trees xs)).bind fun z=>if dH z.1=true/\imm z.2=true then some (T.obj 1 ((0,.bl b) :: z.1),(Md.fr,z.2)) else none else none).map _)=_
 rw [Zq ⟨rfl,js S,hao,hno⟩,hg,Zt,Zq ⟨js S',hv⟩]
 rfl
theorem Bm {e:Ex} {S:St} {b:Bool} {r:List (Wj)} {v:Nat} (h:e (oc (obT S b) :: r)=some (.fr,.int (v:Int))) (hl:S.lg.length < 16777216):sX (gv 0 [.fld 1] aD (ae e aj)) (oc (obT S b) :: r)=some (.nx (oc (obT ⟨S.lg++[v],S.lk,S.wy⟩ b) :: r)):=by
 show (((some [Ky.fld 1]).bind fun ks=>(ae e aj (oc (obT S b) :: r)).bind fun xs=>(pm (fun x=>aD x xs) ks (obT S b)).map _).map _)=_
 rw [Zt,xv (r:=aj) h rfl,Zt]
 show (((aD (.lst (S.lg.map fun (n:Nat)=>T.int (n:Int))) [(.fr,.int (v:Int))]).map _).map _ |>.map _)=_
 rw [dY (by rw [Zy];exact hl),show (S.lg.map fun (n:Nat)=>T.int (n:Int))++[.int (v:Int)]=(S.lg++[v]).map fun (n:Nat)=>T.int (n:Int) from by rw [Z6];rfl]
 rfl
theorem Aq {e:Ex} {S:St} {b:Bool} {r:List (Wj)} {v:Option Nat} (h:e (oc (obT S b) :: r)=some (.fr,lkT v)) (hl:S.lk.length < 16777216):sX (gv 0 [.fld 2] aD (ae e aj)) (oc (obT S b) :: r)=some (.nx (oc (obT ⟨S.lg,S.lk++[v],S.wy⟩ b) :: r)):=by
 show (((some [Ky.fld 2]).bind fun ks=>(ae e aj (oc (obT S b) :: r)).bind fun xs=>(pm (fun x=>aD x xs) ks (obT S b)).map _).map _)=_
 rw [Zt,xv (r:=aj) h rfl,Zt]
 show (((aD (.lst (S.lk.map lkT)) [(.fr,lkT v)]).map _).map _ |>.map _)=_
 rw [dY (by rw [Zy];exact hl),show (S.lk.map lkT)++[lkT v]=(S.lk++[v]).map lkT from by rw [Z6];rfl]
 rfl
theorem zR (o:Option Nat):up .pu (lkT o)=(.fr,lkT o):=by
 unfold up
 rw [jD]
 rfl
theorem tY (S:St) (l:Nat) (o:Option Nat) (w:List (Nat×Nat)) (h1:S.lg.length < 16777216) (h2:S.lk.length < 16777216) (h3:S.wy.length < 16777216):aF (fsT S) [.int (l:Int),lkT o,wT' w]=some (fsT ⟨S.lg++[l],S.lk++[o],S.wy++[w]⟩,.int (S.lg.length:Int)):=by
 have a1:=Bm (S:=S) (b:=true) (r:=[pc (.int (l:Int)),pc (lkT o),oc (wT' w)]) (e:=ab 1) (v:=l) rfl h1
 have a2:=Aq (S:=⟨S.lg++[l],S.lk,S.wy⟩) (b:=true) (r:=[pc (.int (l:Int)),pc (lkT o),oc (wT' w)]) (e:=ab 2) (v:=o) (congrArg some (zR o)) h2
 have a3:jz 0 [.fld 3] 3 [oc (obT ⟨S.lg++[l],S.lk++[o],S.wy⟩ true),pc (.int (l:Int)),pc (lkT o),oc (wT' w)]=some (.nx [oc (obT ⟨S.lg++[l],S.lk++[o],S.wy++[w]⟩ true),pc (.int (l:Int)),pc (lkT o),none]):=by
  show ((aD (.lst (S.wy.map wT')) [(.fr,wT' w)]).map _ |>.map _)=_
  rw [dY (by rw [Zy];exact h3),show (S.wy.map wT')++[wT' w]=(S.wy++[w]).map wT' from by rw [Z6];rfl]
  rfl
 have a4:=dA (e:=e2 jF (eN bX (ae (aV 1 (ab 0)) aj)) (eC (.int 1))) (η:=[oc (obT ⟨S.lg++[l],S.lk++[o],S.wy++[w]⟩ true),pc (.int (l:Int)),pc (lkT o),none]) (t:=.int (S.lg.length:Int)) (e2v (Ax (m:=.bo) rfl) rfl (by
  show some (Md.fr,T.int ((((S.lg++[l]).length:Nat):Int) - 1))=_
  rw [Zv,ZS,show (((S.lg.length+1:Nat)):Int) - 1=(S.lg.length:Int) by omega]))
 unfold aF mfn
 rw [Zq ⟨rfl,rfl⟩]
 have body:=(ak (b:=ar (sX (gv 0 [.fld 2] aD (ae (ab 2) aj))) (ar (jz 0 [.fld 3] 3) (eY (e2 jF (eN bX (ae (aV 1 (ab 0)) aj)) (eC (.int 1)))))) a1).trans ((ak a2).trans ((ak a3).trans a4))
 exact congrArg (fun z:Option Out=>z.bind _) body
theorem Bz {c old v:Nat} (hc:97<=c/\c<=122):∀ (k:Nat) (S S':St) (o:Option Nat),WF S->v < S.lg.length->(∀ n,o=some n->n < S.lg.length)->up2 c old v k S o=some S'->WF S'/\S'.lg=S.lg/\∃ o',∀ N,k < N->∀ z:Wj,
  eQ (gu (eW (ab 1)) (e2 oEq (e2 qq (e2 ax (aV 3 (ab 0)) (ab 1)) (ab 2)) (ab 3))) bH N [oc (obT S true),pc (lkT o),pc (.str [c]),pc (.int (old:Int)),z,pc (.int (v:Int))] =
   some (.nx [oc (obT S' true),pc (lkT o'),pc (.str [c]),pc (.int (old:Int)),z,pc (.int (v:Int))]):=by
 intro k
 induction k with
 | zero =>
  intro S S' o W hv ho e
  cases o with
  | none =>
   cases (show some S=some S' from e)
   refine ⟨W,rfl,none,fun N hN z=>?_⟩
   obtain ⟨N,rfl⟩:∃ M,N=M+1:=⟨N - 1,by omega⟩
   exact fW (m:=.fr) rfl
  | some n=>cases e
 | succ k ih =>
  intro S S' o W hv ho e
  cases o with
  | none =>
   cases (show some S=some S' from e)
   refine ⟨W,rfl,none,fun N hN z=>?_⟩
   obtain ⟨N,rfl⟩:∃ M,N=M+1:=⟨N - 1,by omega⟩
   exact fW (m:=.fr) rfl
  | some n =>
   have hn:=ho n rfl
   have hnw:n < S.wy.length:=by rw [W.wy];exact hn
   have cond:∀ z:Wj,gu (eW (ab 1)) (e2 oEq (e2 qq (e2 ax (aV 3 (ab 0)) (ab 1)) (ab 2)) (ab 3)) [oc (obT S true),pc (.int (n:Int)),pc (.str [c]),pc (.int (old:Int)),z,pc (.int (v:Int))]=some (.fr,.bl (decide (gW (S.wy.getD n []) c=some old))):=fun z=>by
    refine pT (m:=.fr) (x:=true) rfl (fun _=>?_) (fun h=>by cases h)
    refine e2v (Dg (m:=.bo) (lj (m:=.bo) (n:=.fr) rfl rfl hnw) (n:=.fr) rfl) (y:=(.fr,.int (old:Int))) rfl ?_
    cases hg:gW (S.wy.getD n []) c with
    | none=>rw [ZZ (by simp)];exact jw rfl rfl rfl
    | some q =>
     refine (jw rfl rfl (show eqT (.int (q:Int)) (.int (old:Int))=decide (some q=some old) from ?_))
     simp only [eqT]
     by_cases h:q=old
     ·subst h;simp
     ·have h1:¬ (q:Int)=(old:Int):=by omega
      have h2:¬ some q=some old:=fun z=>h (Zp z)
      rw [ZZ h2]
      exact ZV.mpr h1
   unfold up2 at e
   split at e
   ·rename_i hq
    have W':=W.way (n:=n) (c:=c) (v:=v) hv hc
    obtain ⟨w1,w2,o',w3⟩:=ih _ S' (S.lk.getD n none) W' hv (fun m hm=>W.up n m hm) e
    refine ⟨w1,w2,o',fun N hN z=>?_⟩
    obtain ⟨N,rfl⟩:∃ M,N=M+1:=⟨N - 1,by omega⟩
    refine (nS (m:=.fr) ((cond z).trans (by rw [decide_eq_true hq])) ?_).trans (w3 N (by omega) z)
    unfold bH
    refine (ak (vY (S:=S) (i:=n) (n:=.fr) (m:=.fr) (k:=.fr) (c:=c) (v:=v) hnw rfl rfl rfl (W.small n))).trans ?_
    have hlk:n < S.lk.length:=by rw [W.lk];exact hn
    exact aK (m:=.fr) (t:=lkT (S.lk.getD n none)) (qL (S:=⟨S.lg,S.lk,S.wy.set n (pW (S.wy.getD n []) c v)⟩) (m:=.bo) (n:=.fr) rfl rfl hlk) (by decide) (by decide:1 < 6)
   ·rename_i hq
    cases e
    refine ⟨W,rfl,some n,fun N hN z=>?_⟩
    obtain ⟨N,rfl⟩:∃ M,N=M+1:=⟨N - 1,by omega⟩
    exact fW (m:=.fr) ((cond z).trans (by rw [ZZ hq]))
theorem BR {c v:Nat} (hc:97<=c/\c<=122):∀ (k:Nat) (S S':St) (o o':Option Nat),WF S->v < S.lg.length->(∀ n,o=some n->n < S.lg.length)->up1 c v k S o=some (S',o')->WF S'/\S'.lg=S.lg/\(∀ n,o'=some n->n < S.lg.length)/\∀ N,k < N->∀ z:Wj,
  eQ (gu (eW (ab 4)) (e2 cH (ab 2) (e2 ax (aV 3 (ab 0)) (ab 4)))) bI N [oc (obT S true),z,pc (.str [c]),pc (.int (v:Int)),pc (lkT o)] =
   some (.nx [oc (obT S' true),z,pc (.str [c]),pc (.int (v:Int)),pc (lkT o')]):=by
 intro k
 induction k with
 | zero =>
  intro S S' o o' W hv ho e
  cases o with
  | none =>
   cases (show some (S,none)=some (S',o') from e)
   refine ⟨W,rfl,(fun n h=>nomatch h),fun N hN z=>?_⟩
   obtain ⟨N,rfl⟩:∃ M,N=M+1:=⟨N - 1,by omega⟩
   exact fW (m:=.fr) rfl
  | some n=>cases e
 | succ k ih =>
  intro S S' o o' W hv ho e
  cases o with
  | none =>
   cases (show some (S,none)=some (S',o') from e)
   refine ⟨W,rfl,(fun n h=>nomatch h),fun N hN z=>?_⟩
   obtain ⟨N,rfl⟩:∃ M,N=M+1:=⟨N - 1,by omega⟩
   exact fW (m:=.fr) rfl
  | some n =>
   have hn:=ho n rfl
   have hnw:n < S.wy.length:=by rw [W.wy];exact hn
   have cond:∀ z:Wj,gu (eW (ab 4)) (e2 cH (ab 2) (e2 ax (aV 3 (ab 0)) (ab 4))) [oc (obT S true),z,pc (.str [c]),pc (.int (v:Int)),pc (.int (n:Int))]=some (.fr,.bl (!(gW (S.wy.getD n []) c).isSome)):=fun z =>
    pT (m:=.fr) (x:=true) rfl (fun _=>CP (m:=.bo) (n:=.fr) (lj (m:=.bo) (n:=.fr) rfl rfl hnw) rfl) (fun h=>by cases h)
   unfold up1 at e
   split at e
   ·rename_i hq
    cases e
    refine ⟨W,rfl,ho,fun N hN z=>?_⟩
    obtain ⟨N,rfl⟩:∃ M,N=M+1:=⟨N - 1,by omega⟩
    exact fW (m:=.fr) ((cond z).trans (by rw [hq];rfl))
   ·rename_i hq
    have W':=W.way (n:=n) (c:=c) (v:=v) hv hc
    obtain ⟨w1,w2,w4,w3⟩:=ih _ S' (S.lk.getD n none) o' W' hv (fun m hm=>W.up n m hm) e
    refine ⟨w1,w2,w4,fun N hN z=>?_⟩
    obtain ⟨N,rfl⟩:∃ M,N=M+1:=⟨N - 1,by omega⟩
    have hq':(gW (S.wy.getD n []) c).isSome=false:=by simpa using hq
    refine (nS (m:=.fr) ((cond z).trans (by rw [hq'];rfl)) ?_).trans (w3 N (by omega) z)
    unfold bI
    refine (ak (vY (S:=S) (i:=n) (n:=.fr) (m:=.fr) (k:=.fr) (c:=c) (v:=v) hnw rfl rfl rfl (W.small n))).trans ?_
    have hlk:n < S.lk.length:=by rw [W.lk];exact hn
    exact aK (m:=.fr) (t:=lkT (S.lk.getD n none)) (qL (S:=⟨S.lg,S.lk,S.wy.set n (pW (S.wy.getD n []) c v)⟩) (m:=.bo) (n:=.fr) rfl rfl hlk) (by decide) (by decide:4 < 5)
theorem Ae (a b:Nat) {m n:Md}:oEq (m,.int (a:Int)) (n,.int (b:Int))=some (.fr,.bl (decide (a=b))):=jw rfl rfl (by
 simp only [eqT]
 by_cases h:a=b
 ·subst h;simp
 ·rw [ZZ h]
  exact ZV.mpr (by omega))
theorem uu {S S':St} {n c r:Nat} (W:WF S) (hs:Sm S) (hn:n < S.lg.length) (hc:97<=c/\c<=122) (e:njb S n c=some (S',r)):WF S'/\r < S'.lg.length/\S.lg.length<=S'.lg.length/\S'.lg.length<=S.lg.length+1/\av (fsT S) [.int (n:Int),.str [c]]=some (fsT S',.int (r:Int)):=by
 unfold njb at e
 obtain ⟨old,ho,e⟩:=Zz.mp e
 have hold:=W.on n c old ho
 have hnw:n < S.wy.length:=by rw [W.wy];exact hn
 have how:old < S.wy.length:=by rw [W.wy];exact hold
 have hok:old < S.lk.length:=by rw [W.lk];exact hold
 have hs1:S.lg.length<=100001:=hs
 unfold av mfn
 rw [Zq ⟨rfl,rfl⟩]
 have s1:=aK (i:=3) (m:=.fr) (e:=e2 oIx (e2 ax (aV 3 (ab 0)) (ab 1)) (ab 2)) (η:=[oc (obT S true),pc (.int (n:Int)),pc (.str [c]),none,none,none]) (tQ (m:=.bo) (n:=.fr) (lj (m:=.bo) (n:=.fr) rfl rfl hnw) rfl ho) (by decide) (by decide:3 < 6)
 have s2:=aK (i:=4) (m:=.fr) (e:=e2 cG (e2 ax (aV 1 (ab 0)) (ab 1)) (eC (.int 1))) (η:=[oc (obT S true),pc (.int (n:Int)),pc (.str [c]),pc (.int (old:Int)),none,none]) (t:=.int ((S.lg.getD n 0+1:Nat):Int)) (e2v (pk (m:=.bo) (n:=.fr) rfl rfl hn) rfl rfl) (by decide) (by decide:4 < 6)
 have cd:e2 oEq (e2 ax (aV 1 (ab 0)) (ab 3)) (ab 4) [oc (obT S true),pc (.int (n:Int)),pc (.str [c]),pc (.int (old:Int)),pc (.int ((S.lg.getD n 0+1:Nat):Int)),none]=some (.fr,.bl (decide (S.lg.getD old 0=S.lg.getD n 0+1))):=e2v (pk (m:=.bo) (n:=.fr) rfl rfl hold) (y:=(.fr,.int ((S.lg.getD n 0+1:Nat):Int))) rfl (Ae _ _)
 split at e
 ·rename_i hq
  obtain ⟨rfl,rfl⟩:=Xv (Zp e)
  rw [decide_eq_true hq] at cd
  refine ⟨W,hold,Zl _,Nat.le_succ _,?_⟩
  have body:∀ b:Sx,ar (aC 3 (e2 oIx (e2 ax (aV 3 (ab 0)) (ab 1)) (ab 2))) (ar (aC 4 (e2 cG (e2 ax (aV 1 (ab 0)) (ab 1)) (eC (.int 1)))) (ar (sIf (e2 oEq (e2 ax (aV 1 (ab 0)) (ab 3)) (ab 4)) (gZ 3) eR) b)) [oc (obT S true),pc (.int (n:Int)),pc (.str [c]),none,none,none]=some (.rt (.fr,.int (old:Int)) [oc (obT S true),pc (.int (n:Int)),pc (.str [c]),pc (.int (old:Int)),pc (.int ((S.lg.getD n 0+1:Nat):Int)),none]):=fun b =>
   (ak s1).trans ((ak s2).trans (iY ((kf cd).trans rfl)))
  exact congrArg (fun z:Option Out=>z.bind _) (body _)
 ·rename_i hq
  rw [ZZ hq] at cd
  obtain ⟨S2,e2',e3⟩:=Zu.mp e
  obtain ⟨rfl,rfl⟩:=Xv e3
  have wn:=W.wnd old
  have W1:=W.more (l:=S.lg.getD n 0+1) (o:=S.lk.getD old none) (w:=S.wy.getD old []) (fun m hm=>W.up old m hm) (fun d m hm=>W.on old d m hm) wn.1 wn.2
  have hlen:(S.lg++[S.lg.getD n 0+1]).length=S.lg.length+1:=by rw [Zv];rfl
  have W2:=W1.link (n:=old) (v:=S.lg.length) (by show S.lg.length < (S.lg++[S.lg.getD n 0+1]).length;omega)
  obtain ⟨w1,w2,o',w3⟩:=Bz hc 1000 _ S2 (some n) W2 (by show S.lg.length < (S.lg++[S.lg.getD n 0+1]).length;omega) (fun m hm=>by cases hm;show n < (S.lg++[S.lg.getD n 0+1]).length;omega) e2'
  have w2':S2.lg.length=S.lg.length+1:=by rw [w2];exact hlen
  refine ⟨w1,by omega,by omega,by omega,?_⟩
  have nw:=tY S (S.lg.getD n 0+1) (S.lk.getD old none) (S.wy.getD old []) (by omega) (by rw [W.lk];omega) (by rw [W.wy];omega)
  have args:ae (ab 4) (ae (e2 ax (aV 2 (ab 0)) (ab 3)) (ae (eN iG (ae (e2 ax (aV 3 (ab 0)) (ab 3)) aj)) aj)) [oc (obT S true),pc (.int (n:Int)),pc (.str [c]),pc (.int (old:Int)),pc (.int ((S.lg.getD n 0+1:Nat):Int)),none]=some [(.fr,.int ((S.lg.getD n 0+1:Nat):Int)),(.fr,lkT (S.lk.getD old none)),(.fr,wT' (S.wy.getD old []))] :=
   xv rfl (xv (qL (m:=.bo) (n:=.fr) rfl rfl hok) (xv (gR (xv (lj (m:=.bo) (n:=.fr) rfl rfl how) rfl) (by
    show (if eK (((S.wy.getD old []).map fun p=>(T.str [p.1],T.int (p.2:Int))).map (·.2))=true then some (Md.fr,wT' (S.wy.getD old [])) else none)=_
    rw [Zq (by rw [Z1];exact oo _ (fun _=>rfl) _)])) rfl))
  have ao:argsOk [false,false,true] [(.fr,.int ((S.lg.getD n 0+1:Nat):Int)),(.fr,lkT (S.lk.getD old none)),(.fr,wT' (S.wy.getD old []))]=true:=by
   show (true && (imm (lkT (S.lk.getD old none)) && true))=true
   rw [jD]
   rfl
  have an:cJ (trees [(Md.fr,T.int ((S.lg.getD n 0+1:Nat):Int)),(.fr,lkT (S.lk.getD old none)),(.fr,wT' (S.wy.getD old []))])=true:=by
   show (true && (eZ (lkT (S.lk.getD old none)) && (eZ (wT' (S.wy.getD old [])) && true)))=true
   rw [lz _ (jD _),tF]
   rfl
  have cm:=h9 (b:=true) args ao an nw rfl
  have s3:gk 5 (bc 0 [] 0 [false,false,true] aF (ae (ab 4) (ae (e2 ax (aV 2 (ab 0)) (ab 3)) (ae (eN iG (ae (e2 ax (aV 3 (ab 0)) (ab 3)) aj)) aj)))) [oc (obT S true),pc (.int (n:Int)),pc (.str [c]),pc (.int (old:Int)),pc (.int ((S.lg.getD n 0+1:Nat):Int)),none]=some (.nx [oc (obT ⟨S.lg++[S.lg.getD n 0+1],S.lk++[S.lk.getD old none],S.wy++[S.wy.getD old []]⟩ true),pc (.int (n:Int)),pc (.str [c]),pc (.int (old:Int)),pc (.int ((S.lg.getD n 0+1:Nat):Int)),pc (.int (S.lg.length:Int))]):=by
   unfold gk
   rw [cm]
   rfl
  have s4:=vf (S:=⟨S.lg++[S.lg.getD n 0+1],S.lk++[S.lk.getD old none],S.wy++[S.wy.getD old []]⟩) (b:=true) (r:=[pc (.int (n:Int)),pc (.str [c]),pc (.int (old:Int)),pc (.int ((S.lg.getD n 0+1:Nat):Int)),pc (.int (S.lg.length:Int))]) (i:=old) (v:=S.lg.length) (n:=.fr) (e:=ab 3) (ev:=ab 5) (by show old < (S.lk++[S.lk.getD old none]).length;rw [Zv];omega) rfl rfl
  have s5:=w3 uY (by decide) (pc (.int ((S.lg.getD n 0+1:Nat):Int)))
  exact congrArg (fun z:Option Out=>z.bind _) ((ak s1).trans ((ak s2).trans ((ak ((iy cd).trans rfl)).trans ((ak s3).trans ((ak s4).trans ((ak s5).trans rfl))))))
theorem CV {S S':St} {h c r:Nat} (W:WF S) (hs1:S.lg.length<=100000) (hh:h < S.lg.length) (hc:97<=c/\c<=122) (e:hb S h c=some (S',r)):WF S'/\r < S'.lg.length/\S.lg.length<=S'.lg.length/\S'.lg.length<=S.lg.length+2/\bE (fsT S) [.int (h:Int),.str [c]]=some (fsT S',.int (r:Int)):=by
 have hw:h < S.wy.length:=by rw [W.wy];exact hh
 unfold hb at e
 unfold bE mfn
 rw [Zq ⟨rfl,rfl⟩]
 have cd:e2 kc (ab 2) (e2 ax (aV 3 (ab 0)) (ab 1)) [oc (obT S true),pc (.int (h:Int)),pc (.str [c]),none,none]=some (.fr,.bl (gW (S.wy.getD h []) c).isSome):=D2 (m:=.bo) (n:=.fr) (lj (m:=.bo) (n:=.fr) rfl rfl hw) rfl
 split at e
 ·rename_i hq
  rw [hq] at cd
  obtain ⟨w1,w2,w3,w4,w5⟩:=uu W (Nat.le_succ_of_le hs1) hh hc e
  refine ⟨w1,w2,w3,by omega,?_⟩
  have cm:=h9 (mv:=[false,false]) (as:=ae (ab 1) (ae (ab 2) aj)) (xs:=[(.fr,.int (h:Int)),(.fr,.str [c])]) (b:=true) (r:=[pc (.int (h:Int)),pc (.str [c]),none,none]) rfl rfl rfl w5 rfl
  have s1:jZ (bc 0 [] 0 [false,false] av (ae (ab 1) (ae (ab 2) aj))) [oc (obT S true),pc (.int (h:Int)),pc (.str [c]),none,none]=some (.rt (.fr,.int (r:Int)) [oc (obT S' true),pc (.int (h:Int)),pc (.str [c]),none,none]):=by
   unfold jZ
   rw [cm]
   rfl
  exact congrArg (fun z:Option Out=>z.bind _) (iY ((kf cd).trans s1))
 ·rename_i hq
  have hq':(gW (S.wy.getD h []) c).isSome=false:=by simpa using hq
  rw [hq'] at cd
  obtain ⟨⟨S2,o⟩,e1,e2'⟩:=Zz.mp e
  have W1:=W.more (l:=S.lg.getD h 0+1) (o:=some 0) (w:=[]) (fun m hm=>by cases hm;exact W.pos) (fun d m hm=>by cases hm) Yn (fun p hp=>nomatch hp)
  have hlen:(S.lg++[S.lg.getD h 0+1]).length=S.lg.length+1:=by rw [Zv];rfl
  obtain ⟨w1,w2,w3,w4⟩:=BR hc 1000 _ S2 (some h) o W1 (by show S.lg.length < (S.lg++[S.lg.getD h 0+1]).length;omega) (fun m hm=>by cases hm;show h < (S.lg++[S.lg.getD h 0+1]).length;omega) e1
  have w2':S2.lg.length=S.lg.length+1:=by rw [w2];exact hlen
  have nw:=tY S (S.lg.getD h 0+1) (some 0) [] (by omega) (by rw [W.lk];omega) (by rw [W.wy];omega)
  have args:ae (e2 cG (e2 ax (aV 1 (ab 0)) (ab 1)) (eC (.int 1))) (ae (eC (.int 0)) (ae (iV 0 []) aj)) [oc (obT S true),pc (.int (h:Int)),pc (.str [c]),none,none]=some [(.fr,.int ((S.lg.getD h 0+1:Nat):Int)),(.fr,.int 0),(.fr,.dct 0 [])] :=
   xv (e2v (pk (m:=.bo) (n:=.fr) rfl rfl hh) rfl rfl) (xv rfl (xv rfl rfl))
  have cm:=h9 (mv:=[false,false,true]) (b:=true) args rfl rfl nw rfl
  have s1:gk 3 (bc 0 [] 0 [false,false,true] aF (ae (e2 cG (e2 ax (aV 1 (ab 0)) (ab 1)) (eC (.int 1))) (ae (eC (.int 0)) (ae (iV 0 []) aj)))) [oc (obT S true),pc (.int (h:Int)),pc (.str [c]),none,none]=some (.nx [oc (obT ⟨S.lg++[S.lg.getD h 0+1],S.lk++[some 0],S.wy++[[]]⟩ true),pc (.int (h:Int)),pc (.str [c]),pc (.int (S.lg.length:Int)),none]):=by
   unfold gk
   rw [cm]
   rfl
  have s2:=w4 uY (by decide) (pc (.int (h:Int)))
  have hd:∀ b:Sx,ar (sIf (e2 kc (ab 2) (e2 ax (aV 3 (ab 0)) (ab 1))) (jZ (bc 0 [] 0 [false,false] av (ae (ab 1) (ae (ab 2) aj)))) eR)
    (ar (gk 3 (bc 0 [] 0 [false,false,true] aF (ae (e2 cG (e2 ax (aV 1 (ab 0)) (ab 1)) (eC (.int 1))) (ae (eC (.int 0)) (ae (iV 0 []) aj)))))
    (ar (aC 4 (ab 1)) (ar (jP (gu (eW (ab 4)) (e2 cH (ab 2) (e2 ax (aV 3 (ab 0)) (ab 4)))) bI) b))) [oc (obT S true),pc (.int (h:Int)),pc (.str [c]),none,none] =
    b [oc (obT S2 true),pc (.int (h:Int)),pc (.str [c]),pc (.int (S.lg.length:Int)),pc (lkT o)]:=fun b =>
   (ak ((iy cd).trans rfl)).trans ((ak s1).trans ((ak rfl).trans (ak s2)))
  cases o with
  | none =>
   obtain ⟨rfl,rfl⟩:=Xv (Zp e2')
   have fin:ar (sIf (eW (ab 4)) (gN 0 [.fld 2] (ab 3) (bc 0 [] 0 [false,false] av (ae (ab 4) (ae (ab 2) aj)))) eR) (gZ 3) [oc (obT S2 true),pc (.int (h:Int)),pc (.str [c]),pc (.int (S.lg.length:Int)),pc (lkT none)] =
     some (.rt (.fr,.int (S.lg.length:Int)) [oc (obT S2 true),pc (.int (h:Int)),pc (.str [c]),pc (.int (S.lg.length:Int)),pc (lkT none)]):=(ak ((iy (m:=.fr) rfl).trans rfl)).trans rfl
   refine ⟨w1,by show S.lg.length < S2.lg.length;omega,by show S.lg.length<=S2.lg.length;omega,by show S2.lg.length<=_;omega,?_⟩
   exact congrArg (fun z:Option Out=>z.bind _) ((hd _).trans fin)
  | some n =>
   obtain ⟨⟨S3,m⟩,e3,e4⟩:=Zu.mp e2'
   obtain ⟨rfl,rfl⟩:=Xv e4
   have hn:n < S2.lg.length:=by
    have:=w3 n rfl
    rw [w2]
    exact this
   obtain ⟨v1,v2,v3,v4,v5⟩:=uu w1 (by show S2.lg.length<=100001;omega) hn hc e3
   have v6:=v1.link (n:=S.lg.length) (v:=m) v2
   have cm:=h9 (mv:=[false,false]) (as:=ae (ab 4) (ae (ab 2) aj)) (xs:=[(.fr,.int (n:Int)),(.fr,.str [c])]) (b:=true) (r:=[pc (.int (h:Int)),pc (.str [c]),pc (.int (S.lg.length:Int)),pc (.int (n:Int))]) rfl rfl rfl v5 rfl
   have pl:=vf (S:=S3) (b:=true) (r:=[pc (.int (h:Int)),pc (.str [c]),pc (.int (S.lg.length:Int)),pc (.int (n:Int))]) (i:=S.lg.length) (v:=m) (n:=.fr) (e:=ab 3) (ev:=fun _=>some (.fr,.int (m:Int))) (by rw [v1.lk];omega) rfl rfl
   have s3:gN 0 [.fld 2] (ab 3) (bc 0 [] 0 [false,false] av (ae (ab 4) (ae (ab 2) aj))) [oc (obT S2 true),pc (.int (h:Int)),pc (.str [c]),pc (.int (S.lg.length:Int)),pc (.int (n:Int))]=some (.nx [oc (obT ⟨S3.lg,S3.lk.set S.lg.length (some m),S3.wy⟩ true),pc (.int (h:Int)),pc (.str [c]),pc (.int (S.lg.length:Int)),pc (.int (n:Int))]):=by
    unfold gN
    rw [cm]
    exact pl
   have fin:ar (sIf (eW (ab 4)) (gN 0 [.fld 2] (ab 3) (bc 0 [] 0 [false,false] av (ae (ab 4) (ae (ab 2) aj)))) eR) (gZ 3) [oc (obT S2 true),pc (.int (h:Int)),pc (.str [c]),pc (.int (S.lg.length:Int)),pc (.int (n:Int))] =
     some (.rt (.fr,.int (S.lg.length:Int)) [oc (obT ⟨S3.lg,S3.lk.set S.lg.length (some m),S3.wy⟩ true),pc (.int (h:Int)),pc (.str [c]),pc (.int (S.lg.length:Int)),pc (.int (n:Int))]):=(ak ((kf (m:=.fr) rfl).trans s3)).trans rfl
   refine ⟨v6,by show S.lg.length < S3.lg.length;omega,by show S.lg.length<=S3.lg.length;omega,by show S3.lg.length<=_;omega,?_⟩
   exact congrArg (fun z:Option Out=>z.bind _) ((hd _).trans fin)
theorem vS {S S':St}:∀ {word:Wo} {h r:Nat},WF S->S.lg.length+2 * word.length<=100000->h < S.lg.length->(∀ c∈word,97<=c/\c<=122)->hg S h word=some (S',r) →
  WF S'/\r < S'.lg.length/\S'.lg.length<=S.lg.length+2 * word.length/\∀ z3:Wj,∀ z2:T,∃ z3',forL (bw 3) bW (word.map fun c=>T.str [c]) [oc (obT S true),pc (.int (h:Int)),pc z2,z3]=some (.nx [oc (obT S' true),pc (.int (r:Int)),pc z2,z3'])
 | [],h,r,W,hl,hh,hc,e=>by
  obtain ⟨rfl,rfl⟩:=Xv (Zp e)
  exact ⟨W,hh,by simp,fun z3 z2=>⟨z3,rfl⟩⟩
 | c :: word,h,r,W,hl,hh,hc,e=>by
  obtain ⟨⟨S1,h1⟩,e1,e2'⟩:=Zz.mp e
  rw [Zk] at hl
  obtain ⟨w1,w2,w3,w4,w5⟩:=CV W (by omega) hh (hc c Zw) e1
  obtain ⟨v1,v2,v3,v4⟩:=vS (S:=S1) (S':=S') (word:=word) w1 (by omega) w2 (fun d hd=>hc d (Zx _ hd)) e2'
  refine ⟨v1,v2,by rw [Zk];omega,fun z3 z2=>?_⟩
  obtain ⟨z3',q⟩:=v4 (pc (.str [c])) z2
  refine ⟨z3',?_⟩
  rw [Zn]
  refine (jc (η1:=[oc (obT S true),pc (.int (h:Int)),pc z2,pc (.str [c])]) rfl ?_).trans q
  have cm:=h9 (mv:=[false,false]) (as:=ae (ab 1) (ae (ab 3) aj)) (xs:=[(.fr,.int (h:Int)),(.fr,.str [c])]) (b:=true) (r:=[pc (.int (h:Int)),pc z2,pc (.str [c])]) rfl rfl rfl w5 rfl
  unfold bW gk
  rw [cm]
  rfl
theorem zx {S S':St} {word:Tx} {h r:Nat} (W:WF S) (hl:S.lg.length+2 * word.length<=100000) (hh:h < S.lg.length) (hc:∀ c∈word,97<=c/\c<=122) (e:hg S h word=some (S',r)) :
  WF S'/\r < S'.lg.length/\S'.lg.length<=S.lg.length+2 * word.length/\aM (fsT S) [.int (h:Int),.str word]=some (fsT S',.int (r:Int)):=by
 obtain ⟨w1,w2,w3,w4⟩:=vS W hl hh hc e
 obtain ⟨z3,q⟩:=w4 none (.str word)
 refine ⟨w1,w2,w3,?_⟩
 unfold aM mfn
 rw [Zq ⟨rfl,rfl⟩]
 have s1:=(d9 (tg:=bw 3) (it:=fK (ab 2)) (body:=bW) (η:=[oc (obT S true),pc (.int (h:Int)),pc (.str word),none]) (m:=.fr) (l:=word.map fun c=>T.str [c]) rfl rfl).trans q
 exact congrArg (fun z:Option Out=>z.bind _) ((ak s1).trans rfl)
end T09
end
section
namespace AU
noncomputable abbrev Wd:=Wo
noncomputable abbrev W (wd:List Wd) (n:Nat):Wd:=wd.getD n []
structure I (fr:Option Nat) (S:St) (nd:Wd->Option Nat) (wd:List Wd):Prop where
 wf:WF S
 len:wd.length=S.lg.length
 lg:∀ n,n < wd.length->S.lg.getD n 0=(W wd n).length
 z:nd []=some 0
 wz:W wd 0=[]
 lt:∀ {x n},nd x=some n->n < wd.length
 sf:∀ {x n},nd x=some n->x <:+ W wd n
 top:∀ {n},n < wd.length->nd (W wd n)=some n
 iv:∀ {x y n},nd x=some n->x <:+ y->y <:+ W wd n->nd y=some n
 pre:∀ {x c n},nd (x++[c])=some n->∃ m,nd x=some m
 suf:∀ {x y n},nd y=some n->x <:+ y->∃ m,nd x=some m
 lk0:S.lk.getD 0 none=none
 lk:∀ {n},0 < n->n < wd.length->some n ≠ fr->∃ m,S.lk.getD n none=some m/\(m < wd.length/\some m ≠ fr)/\W wd m <:+ W wd n/\(W wd m).length < (W wd n).length/\∀ y,y <:+ W wd n->(W wd m).length < y.length->nd y=some n
 wy:∀ {x n},nd x=some n->∀ c,gW (S.wy.getD n []) c=nd (x++[c])
theorem b7 {α:Type} {x y w:List α} (h1:x <:+ w) (h2:y <:+ w) (hl:x.length<=y.length):x <:+ y:=List.suffix_of_suffix_length_le h1 h2 hl
section
variable {fr:Option Nat} {S:St} {nd:Wd->Option Nat} {wd:List Wd}
theorem I.up (H:I fr S nd wd):∀ (k n:Nat) (x:Wd),(W wd n).length<=k->n < wd.length->some n ≠ fr->x <:+ W wd n->∃ m,nd x=some m/\W wd m <:+ W wd n:=by
 intro k
 induction k with
 | zero =>
  intro n x hk hn hf hx
  have e:W wd n=[]:=List.length_eq_zero_iff.mp (Nat.le_zero.mp hk)
  rw [e] at hx
  have:x=[]:=Ya.mp hx
  subst this
  exact ⟨0,H.z,by rw [H.wz];exact Xt⟩
 | succ k ih =>
  intro n x hk hn hf hx
  by_cases h0:n=0
  ·subst h0
   rw [H.wz] at hx
   have:x=[]:=Ya.mp hx
   subst this
   exact ⟨0,H.z,Z9 _⟩
  ·obtain ⟨m,h1,⟨h2,h2'⟩,h3,h4,h5⟩:=H.lk (Z4 h0) hn hf
   by_cases hl:(W wd m).length < x.length
   ·exact ⟨n,h5 x hx hl,Z9 _⟩
   ·obtain ⟨q,q1,q2⟩:=ih m x (by omega) h2 h2' (b7 hx h3 (by omega))
    exact ⟨q,q1,q2.trans h3⟩
theorem I.up' (H:I fr S nd wd) {n:Nat} {x:Wd} (hn:n < wd.length) (hf:some n ≠ fr) (hx:x <:+ W wd n):∃ m,nd x=some m/\W wd m <:+ W wd n:=H.up _ n x (Zl _) hn hf hx
theorem I.all (H:I fr S nd wd) {n q:Nat} {x y:Wd} (hq:q < wd.length) (hf:some q ≠ fr) (hx:nd x=some n) (hy:nd y=some n) (h:x <:+ W wd q):y <:+ W wd q:=by
 obtain ⟨m,h1,h2⟩:=H.up' hq hf h
 rw [hx] at h1
 cases h1
 exact (H.sf hy).trans h2
theorem I.inj (H:I fr S nd wd) {m n:Nat} (hm:m < wd.length) (hn:n < wd.length) (h:W wd m=W wd n):m=n:=by
 have:=H.top hm
 rw [h,H.top hn] at this
 exact (Zp this).symm
theorem I.way (H:I fr S nd wd) {n c old:Nat} (hn:n < wd.length) (h:gW (S.wy.getD n []) c=some old):nd (W wd n++[c])=some old:=by
 rw [← H.wy (H.top hn) c]
 exact h
theorem I.zero (H:I fr S nd wd) {x:Wd} (h:nd x=some 0):x=[]:=by
 have:=H.sf h
 rw [H.wz] at this
 exact Ya.mp this
theorem I.low (H:I fr S nd wd) {n m:Nat} {y:Wd} (hf:some n ≠ fr) (hl:S.lk.getD n none=some m) (hy:nd y=some n):(W wd m).length < y.length/\m < wd.length/\W wd m <:+ W wd n/\some m ≠ fr:=by
 have hn:=H.lt hy
 by_cases h0:n=0
 ·subst h0;rw [H.lk0] at hl;cases hl
 ·obtain ⟨m',h1,⟨h2,h2'⟩,h3,h4,h5⟩:=H.lk (Z4 h0) hn hf
  rw [h1] at hl
  cases hl
  refine ⟨Nat.lt_of_not_le fun hle=>?_,h2,h3,h2'⟩
  have:=H.iv hy (b7 (H.sf hy) h3 hle) h3
  rw [H.top h2] at this
  cases this
  exact Yp _ h4
theorem I.below (H:I fr S nd wd) {n q m:Nat} (hn:n < wd.length) (hf:some n ≠ fr) (hl:S.lk.getD n none=some q) (hm:m < wd.length) (hs:W wd m <:+ W wd n) (hne:m ≠ n):W wd m <:+ W wd q:=by
 by_cases h0:n=0
 ·subst h0;rw [H.lk0] at hl;cases hl
 ·obtain ⟨q',h1,⟨h2,_⟩,h3,h4,h5⟩:=H.lk (Z4 h0) hn hf
  rw [h1] at hl
  cases hl
  refine b7 hs h3 (ZJ fun hlt=>hne ?_)
  have:=h5 _ hs hlt
  rw [H.top hm] at this
  exact Zp this
theorem I.root (H:I fr S nd wd) {n m:Nat} (hn:n < wd.length) (hf:some n ≠ fr) (hl:S.lk.getD n none=none) (hm:m < wd.length) (hs:W wd m <:+ W wd n):m=n:=by
 have h0:n=0:=Nat.eq_zero_of_not_pos fun hp=>by
  obtain ⟨q,h1,_⟩:=H.lk hp hn hf
  rw [h1] at hl
  cases hl
 subst h0
 rw [H.wz] at hs
 exact H.inj hm hn (by rw [H.wz,Ya.mp hs])
theorem fG (wy:List (List (Nat×Nat))) (n m c v d:Nat) (hn:n < wy.length):gW ((wy.set n (pW (wy.getD n []) c v)).getD m []) d=if m=n/\d=c then some v else gW (wy.getD m []) d:=by
 rw [gj]
 by_cases h:n=m
 ·subst h
  rw [Zq ⟨rfl,hn⟩,zw]
  by_cases hd:d=c
  ·rw [Zq hd,Zq ⟨rfl,hd⟩]
  ·rw [Zo hd,Zo (fun z=>hd z.2)]
 ·rw [Zo (fun z=>h z.1),Zo (fun z=>h z.1.symm)]
theorem I.climb2 (H:I fr S nd wd) {c old v:Nat}:∀ (k:Nat) (T:St) (n:Nat),n < wd.length->some n ≠ fr->(W wd n).length < k->(∀ m,m < wd.length->W wd m <:+ W wd n->T.lk.getD m none=S.lk.getD m none)->wd.length<=T.wy.length →
  (∀ m m',m < wd.length->m' < wd.length->W wd m <:+ W wd m'->W wd m' <:+ W wd n->gW (T.wy.getD m []) c=some old->gW (T.wy.getD m' []) c=some old) →
  ∃ wy',up2 c old v k T (some n)=some ⟨T.lg,T.lk,wy'⟩/\wy'.length=T.wy.length/\∀ m d,gW (wy'.getD m []) d=if d=c/\m < wd.length/\W wd m <:+ W wd n/\gW (T.wy.getD m []) c=some old then some v else gW (T.wy.getD m []) d:=by
 intro k
 induction k with
 | zero=>intro T n _ _ h;omega
 | succ k ih =>
  intro T n hn hf hk hlk hw mono
  have hnw:n < T.wy.length:=ZU hn hw
  unfold up2
  by_cases hq:gW (T.wy.getD n []) c=some old
  ·rw [Zq hq,hlk n hn (Z9 _)]
   cases hl:S.lk.getD n none with
   | none =>
    refine ⟨T.wy.set n (pW (T.wy.getD n []) c v),by cases k <;> rfl,Z7,fun m d=>?_⟩
    rw [fG _ _ _ _ _ _ hnw]
    by_cases hm:m=n/\d=c
    ·rw [Zq hm,Zq ⟨hm.2,by rw [hm.1];exact hn,by rw [hm.1];exact Z9 _,by rw [hm.1];exact hq⟩]
    ·rw [Zo hm,Zo fun z=>hm ⟨H.root hn hf hl z.2.1 z.2.2.1,z.1⟩]
   | some q =>
    obtain ⟨l1,l2,l3,l4⟩:=H.low hf hl (H.top hn)
    have ne:∀ m,W wd m <:+ W wd q->m ≠ n:=fun m hm e=>by
     rw [e] at hm
     have:=hm.length_le
     omega
    obtain ⟨wy',e1,e2,e3⟩:=ih ⟨T.lg,T.lk,T.wy.set n (pW (T.wy.getD n []) c v)⟩ q l2 l4 (by omega) (fun m hm hs=>hlk m hm (hs.trans l3)) (by show _<=(T.wy.set _ _).length;rw [Z7];exact hw) (fun m m' hm hm' hs hs' h=>by
     have h':gW ((T.wy.set n (pW (T.wy.getD n []) c v)).getD m []) c=some old:=h
     show gW ((T.wy.set n (pW (T.wy.getD n []) c v)).getD m' []) c=some old
     rw [fG _ _ _ _ _ _ hnw,Zo (fun z=>ne m (hs.trans hs') z.1)] at h'
     rw [fG _ _ _ _ _ _ hnw,Zo (fun z=>ne m' hs' z.1)]
     exact mono m m' hm hm' hs (hs'.trans l3) h')
    refine ⟨wy',e1,by rw [e2];exact Z7,fun m d=>?_⟩
    rw [e3 m d]
    show (if d=c/\m < wd.length/\W wd m <:+ W wd q/\gW ((T.wy.set n (pW (T.wy.getD n []) c v)).getD m []) c=some old then some v else gW ((T.wy.set n (pW (T.wy.getD n []) c v)).getD m []) d)=_
    by_cases hm:m=n
    ·subst hm
     rw [Zo (fun z=>ne m z.2.2.1 rfl),fG _ _ _ _ _ _ hnw]
     by_cases hd:d=c
     ·rw [Zq ⟨rfl,hd⟩,Zq ⟨hd,hn,Z9 _,hq⟩]
     ·rw [Zo (fun z=>hd z.2),Zo (fun z=>hd z.1)]
    ·have g1:∀ d,gW ((T.wy.set n (pW (T.wy.getD n []) c v)).getD m []) d=gW (T.wy.getD m []) d:=fun d=>by rw [fG _ _ _ _ _ _ hnw,Zo (fun z=>hm z.1)]
     rw [g1,g1]
     by_cases hc:d=c/\m < wd.length/\W wd m <:+ W wd n/\gW (T.wy.getD m []) c=some old
     ·rw [Zq hc,Zq ⟨hc.1,hc.2.1,H.below hn hf hl hc.2.1 hc.2.2.1 hm,hc.2.2.2⟩]
     ·rw [Zo hc,Zo fun z=>hc ⟨z.1,z.2.1,z.2.2.1.trans l3,z.2.2.2⟩]
  ·rw [Zo hq]
   refine ⟨T.wy,rfl,rfl,fun m d=>?_⟩
   rw [Zo fun z=>hq (mono m n z.2.1 hn z.2.2.1 (Z9 _) z.2.2.2)]
theorem I.climb1 (H:I fr S nd wd) {c v:Nat}:∀ (k:Nat) (T:St) (n:Nat),n < wd.length->some n ≠ fr->(W wd n).length < k->(∀ m,m < wd.length->W wd m <:+ W wd n->T.lk.getD m none=S.lk.getD m none)->wd.length<=T.wy.length →
  (∀ m m',m < wd.length->m' < wd.length->W wd m <:+ W wd m'->W wd m' <:+ W wd n->(gW (T.wy.getD m' []) c).isSome->(gW (T.wy.getD m []) c).isSome) →
  ∃ wy' o',up1 c v k T (some n)=some (⟨T.lg,T.lk,wy'⟩,o')/\wy'.length=T.wy.length/\(∀ m d,gW (wy'.getD m []) d=if d=c/\m < wd.length/\W wd m <:+ W wd n/\gW (T.wy.getD m []) c=none then some v else gW (T.wy.getD m []) d) ∧
   (o'=none->∀ m,m < wd.length->W wd m <:+ W wd n->gW (T.wy.getD m []) c=none) ∧
   ∀ p,o'=some p->p < wd.length/\W wd p <:+ W wd n/\(gW (T.wy.getD p []) c).isSome/\∀ m,m < wd.length->W wd m <:+ W wd n->(W wd p).length < (W wd m).length->gW (T.wy.getD m []) c=none:=by
 intro k
 induction k with
 | zero=>intro T n _ _ h;omega
 | succ k ih =>
  intro T n hn hf hk hlk hw mono
  have hnw:n < T.wy.length:=ZU hn hw
  unfold up1
  by_cases hq:(gW (T.wy.getD n []) c).isSome=true
  ·rw [Zq hq]
   refine ⟨T.wy,some n,rfl,rfl,fun m d=>?_,(fun h=>nomatch h),fun p hp=>?_⟩
   ·rw [Zo fun z=>?_]
    have:=mono m n z.2.1 hn z.2.2.1 (Z9 _) hq
    rw [z.2.2.2] at this
    cases this
   ·cases hp
    refine ⟨hn,Z9 _,hq,fun m hm hs hl=>?_⟩
    have:=hs.length_le
    omega
  ·have hq':gW (T.wy.getD n []) c=none:=by
    cases h:gW (T.wy.getD n []) c with
    | none=>rfl
    | some x=>rw [h] at hq;exact absurd rfl hq
   rw [Zo hq,hlk n hn (Z9 _)]
   cases hl:S.lk.getD n none with
   | none =>
    refine ⟨T.wy.set n (pW (T.wy.getD n []) c v),none,by cases k <;> rfl,Z7,fun m d=>?_,fun _ m hm hs=>?_,(fun p hp=>nomatch hp)⟩
    ·rw [fG _ _ _ _ _ _ hnw]
     by_cases hm:m=n/\d=c
     ·rw [Zq hm,Zq ⟨hm.2,by rw [hm.1];exact hn,by rw [hm.1];exact Z9 _,by rw [hm.1];exact hq'⟩]
     ·rw [Zo hm,Zo fun z=>hm ⟨H.root hn hf hl z.2.1 z.2.2.1,z.1⟩]
    ·rw [H.root hn hf hl hm hs];exact hq'
   | some q =>
    obtain ⟨l1,l2,l3,l4⟩:=H.low hf hl (H.top hn)
    have ne:∀ m,W wd m <:+ W wd q->m ≠ n:=fun m hm e=>by
     rw [e] at hm
     have:=hm.length_le
     omega
    obtain ⟨wy',o',e1,e2,e3,e4,e5⟩:=ih ⟨T.lg,T.lk,T.wy.set n (pW (T.wy.getD n []) c v)⟩ q l2 l4 (by omega) (fun m hm hs=>hlk m hm (hs.trans l3)) (by show _<=(T.wy.set _ _).length;rw [Z7];exact hw) (fun m m' hm hm' hs hs' h=>by
     have h':(gW ((T.wy.set n (pW (T.wy.getD n []) c v)).getD m' []) c).isSome:=h
     show (gW ((T.wy.set n (pW (T.wy.getD n []) c v)).getD m []) c).isSome
     rw [fG _ _ _ _ _ _ hnw,Zo (fun z=>ne m' hs' z.1)] at h'
     rw [fG _ _ _ _ _ _ hnw,Zo (fun z=>ne m (hs.trans hs') z.1)]
     exact mono m m' hm hm' hs (hs'.trans l3) h')
    have old:∀ m,W wd m <:+ W wd q->gW ((T.wy.set n (pW (T.wy.getD n []) c v)).getD m []) c=gW (T.wy.getD m []) c:=fun m hm=>by rw [fG _ _ _ _ _ _ hnw,Zo (fun z=>ne m hm z.1)]
    refine ⟨wy',o',e1,by rw [e2];exact Z7,fun m d=>?_,fun ho m hm hs=>?_,fun p hp=>?_⟩
    ·rw [e3 m d]
     show (if d=c/\m < wd.length/\W wd m <:+ W wd q/\gW ((T.wy.set n (pW (T.wy.getD n []) c v)).getD m []) c=none then some v else gW ((T.wy.set n (pW (T.wy.getD n []) c v)).getD m []) d)=_
     by_cases hm:m=n
     ·subst hm
      rw [Zo (fun z=>ne m z.2.2.1 rfl),fG _ _ _ _ _ _ hnw]
      by_cases hd:d=c
      ·rw [Zq ⟨rfl,hd⟩,Zq ⟨hd,hn,Z9 _,hq'⟩]
      ·rw [Zo (fun z=>hd z.2),Zo (fun z=>hd z.1)]
     ·have g1:∀ d,gW ((T.wy.set n (pW (T.wy.getD n []) c v)).getD m []) d=gW (T.wy.getD m []) d:=fun d=>by rw [fG _ _ _ _ _ _ hnw,Zo (fun z=>hm z.1)]
      rw [g1,g1]
      by_cases hc:d=c/\m < wd.length/\W wd m <:+ W wd n/\gW (T.wy.getD m []) c=none
      ·rw [Zq hc,Zq ⟨hc.1,hc.2.1,H.below hn hf hl hc.2.1 hc.2.2.1 hm,hc.2.2.2⟩]
      ·rw [Zo hc,Zo fun z=>hc ⟨z.1,z.2.1,z.2.2.1.trans l3,z.2.2.2⟩]
    ·by_cases hmn:m=n
     ·rw [hmn];exact hq'
     ·have hb:=H.below hn hf hl hm hs hmn
      rw [← old m hb]
      exact e4 ho m hm hb
    ·obtain ⟨p1,p2,p3,p4⟩:=e5 p hp
     have p3':(gW ((T.wy.set n (pW (T.wy.getD n []) c v)).getD p []) c).isSome:=p3
     rw [old p p2] at p3'
     refine ⟨p1,p2.trans l3,p3',fun m hm hs hlt=>?_⟩
     by_cases hmn:m=n
     ·rw [hmn];exact hq'
     ·have hb:=H.below hn hf hl hm hs hmn
      rw [← old m hb]
      exact p4 m hm hb hlt
end
theorem AI {c old v:Nat} (hc:97<=c/\c<=122):∀ (k:Nat) (S S':St) (o:Option Nat),WF S->v < S.lg.length->up2 c old v k S o=some S'->WF S':=by
 intro k
 induction k with
 | zero =>
  intro S S' o H hv e
  cases o with
  | none=>cases (show some S=some S' from e);exact H
  | some n=>cases e
 | succ k ih =>
  intro S S' o H hv e
  cases o with
  | none=>cases (show some S=some S' from e);exact H
  | some n =>
   unfold up2 at e
   split at e
   ·exact ih ⟨S.lg,S.lk,S.wy.set n (pW (S.wy.getD n []) c v)⟩ S' _ (H.way (n:=n) hv hc) hv e
   ·cases e;exact H
theorem AB {c v:Nat} (hc:97<=c/\c<=122):∀ (k:Nat) (S S':St) (o o':Option Nat),WF S->v < S.lg.length->up1 c v k S o=some (S',o')->WF S':=by
 intro k
 induction k with
 | zero =>
  intro S S' o o' H hv e
  cases o with
  | none=>cases (show some (S,none)=some (S',o') from e);exact H
  | some n=>cases e
 | succ k ih =>
  intro S S' o o' H hv e
  cases o with
  | none=>cases (show some (S,none)=some (S',o') from e);exact H
  | some n =>
   unfold up1 at e
   split at e
   ·cases e;exact H
   ·exact ih ⟨S.lg,S.lk,S.wy.set n (pW (S.wy.getD n []) c v)⟩ S' _ o' (H.way (n:=n) hv hc) hv e
theorem hZ {α:Type} {x y:List α} {a b:α} (h:x++[a] <:+ y++[b]):a=b/\x <:+ y:=by
 obtain ⟨t,e⟩:=h
 rw [← Z3] at e
 obtain ⟨e1,e2⟩:=List.append_inj' e rfl
 exact ⟨by simpa using e2,⟨t,e1⟩⟩
theorem gg {α:Type} {x y:List α} (a:α) (h:x <:+ y):x++[a] <:+ y++[a]:=by
 obtain ⟨t,e⟩:=h
 exact ⟨t,by rw [← e,Z3]⟩
noncomputable def gO (nd:Wd->Option Nat) (old l h:Nat) (x:Wd):Option Nat:=if nd x=some old/\x.length<=l then some h else nd x
theorem I.split {fr:Option Nat} {S:St} {nd:Wd->Option Nat} {wd:List Wd} (H:I fr S nd wd) {n c old:Nat} (hn:n < wd.length) (hf:some n ≠ fr) (hc:97<=c/\c<=122) (ho:gW (S.wy.getD n []) c=some old) (hof:some old ≠ fr) (hfr:fr ≠ some wd.length) (hne:S.lg.getD old 0 ≠ S.lg.getD n 0+1) (hk:(W wd n).length < 1000) :
  ∃ S',njb S n c=some (S',S.lg.length)/\I fr S' (gO nd old ((W wd n).length+1) wd.length) (wd++[W wd n++[c]]):=by
 have hL:S.lg.length=wd.length:=H.len.symm
 have hw:=H.way hn ho
 have hold:=H.lt hw
 have hsf:=H.sf hw
 have lw:(W wd n++[c]).length=(W wd n).length+1:=by rw [Zv];rfl
 rw [H.lg old hold,H.lg n hn] at hne
 have hlt:(W wd n).length+1 < (W wd old).length:=by
  have:=hsf.length_le
  rw [lw] at this
  omega
 have o0:old ≠ 0:=fun e=>by
  rw [e,H.wz] at hlt
  simp at hlt
 have hLp:0 < wd.length:=by rw [H.len];exact H.wf.pos
 have l1:S.lk.length=wd.length:=by rw [H.wf.lk,hL]
 have l2:S.wy.length=wd.length:=by rw [H.wf.wy,hL]
 have lk':∀ m,((S.lk++[S.lk.getD old none]).set old (some S.lg.length)).getD m none=if m=old then some wd.length else if m=wd.length then S.lk.getD old none else S.lk.getD m none:=fun m=>by
  rw [gj,bT,l1,hL]
  by_cases h:m=old
  ·rw [Zq ⟨h.symm,by rw [Zv,l1];omega⟩,Zq h]
  ·rw [Zo (fun z=>h z.1.symm),Zo h]
 have wy':∀ m,(S.wy++[S.wy.getD old []]).getD m []=if m=wd.length then S.wy.getD old [] else S.wy.getD m []:=fun m=>by rw [bT,l2]
 have wyl:∀ m,m < wd.length->(S.wy++[S.wy.getD old []]).getD m []=S.wy.getD m []:=fun m hm=>by rw [wy',Zo (ZQ hm)]
 obtain ⟨w2,e1,e2,e3⟩:=H.climb2 (c:=c) (old:=old) (v:=S.lg.length) 1000 ⟨S.lg++[S.lg.getD n 0+1],(S.lk++[S.lk.getD old none]).set old (some S.lg.length),S.wy++[S.wy.getD old []]⟩ n hn hf hk (fun m hm hs=>by
   have:=hs.length_le
   show ((S.lk++[S.lk.getD old none]).set old (some S.lg.length)).getD m none=_
   rw [lk',Zo (fun e=>by rw [e] at this;omega),Zo (ZQ hm)])
  (by show _<=(S.wy++[S.wy.getD old []]).length;rw [Zv,l2];omega)
  (fun m m' hm hm' hs hs' h=>by
   have h':gW ((S.wy++[S.wy.getD old []]).getD m []) c=some old:=h
   show gW ((S.wy++[S.wy.getD old []]).getD m' []) c=some old
   rw [wyl m hm] at h'
   rw [wyl m' hm',H.wy (H.top hm') c]
   rw [H.wy (H.top hm) c] at h'
   exact H.iv h' (gg c hs) ((gg c hs').trans hsf))
 have wn:=H.wf.wnd old
 have W1:=H.wf.more (l:=S.lg.getD n 0+1) (o:=S.lk.getD old none) (w:=S.wy.getD old []) (fun m hm=>H.wf.up old m hm) (fun d m hm=>H.wf.on old d m hm) wn.1 wn.2
 have hlen:(S.lg++[S.lg.getD n 0+1]).length=S.lg.length+1:=by rw [Zv];rfl
 have W2:=W1.link (n:=old) (v:=S.lg.length) (by show S.lg.length < (S.lg++[S.lg.getD n 0+1]).length;omega)
 have wfS:=AI hc 1000 _ _ _ W2 (by show S.lg.length < (S.lg++[S.lg.getD n 0+1]).length;omega) e1
 refine ⟨⟨S.lg++[S.lg.getD n 0+1],(S.lk++[S.lk.getD old none]).set old (some S.lg.length),w2⟩,?_,?_⟩
 ·unfold njb
  rw [ho,Zt,Zo (by rw [H.lg old hold,H.lg n hn];exact hne),e1]
  rfl
 have Wn:∀ m,W (wd++[W wd n++[c]]) m=if m=wd.length then W wd n++[c] else W wd m:=fun m=>bT wd _ _ m
 have WL:W (wd++[W wd n++[c]]) wd.length=W wd n++[c]:=by rw [Wn,Zq rfl]
 have Wl:∀ {m},m < wd.length->W (wd++[W wd n++[c]]) m=W wd m:=fun {m} hm=>by rw [Wn,Zo (ZQ hm)]
 have fo:(wd++[W wd n++[c]]).length=wd.length+1:=by rw [Zv];rfl
 have tell:∀ {x m},gO nd old ((W wd n).length+1) wd.length x=some m->(m=wd.length/\nd x=some old/\x.length<=(W wd n).length+1)\/(m < wd.length/\nd x=some m/\¬ (m=old/\x.length<=(W wd n).length+1)):=fun {x m} h=>by
  unfold gO at h
  split at h
  ·rename_i q
   cases h
   exact .inl ⟨rfl,q.1,q.2⟩
  ·rename_i q
   exact .inr ⟨H.lt h,h,fun z=>q ⟨by rw [h,z.1],z.2⟩⟩
 have tL:∀ {x},nd x=some old->x.length<=(W wd n).length+1->gO nd old ((W wd n).length+1) wd.length x=some wd.length:=fun {x} h1 h2=>Zq ⟨h1,h2⟩
 have tO:∀ {x m},nd x=some m->¬ (m=old/\x.length<=(W wd n).length+1)->gO nd old ((W wd n).length+1) wd.length x=some m:=fun {x m} h1 h2=>by
  unfold gO
  rw [Zo (fun z=>h2 ⟨by rw [h1] at z;exact Zp z.1,z.2⟩),h1]
 have some_:∀ {x m},nd x=some m->∃ m',gO nd old ((W wd n).length+1) wd.length x=some m':=fun {x m} h=>by
  unfold gO
  split
  ·exact ⟨_,rfl⟩
  ·exact ⟨m,h⟩
 have un:∀ {x m},gO nd old ((W wd n).length+1) wd.length x=some m->∃ m',nd x=some m':=fun {x m} h=>(tell h).elim (fun z=>⟨_,z.2.1⟩) fun z=>⟨_,z.2.1⟩
 refine ⟨wfS,by rw [fo,hlen,hL],fun m hm=>?_,tO H.z (fun z=>o0 z.1.symm),by rw [Wl hLp];exact H.wz,fun {x m} h=>by rcases tell h with z | z <;> omega,fun {x m} h=>?_,fun {m} hm=>?_,fun {x y m} h hxy hy=>?_,fun {x d m} h=>?_,fun {x y m} h hxy=>?_,?_,fun {m} h0 hm hmf=>?_,fun {x m} h d=>?_⟩
 ·rw [fo] at hm
  show (S.lg++[S.lg.getD n 0+1]).getD m 0=_
  rw [bT,hL]
  by_cases e:m=wd.length
  ·rw [Zq e,e,WL,H.lg n hn,lw]
  ·rw [Zo e,Wl (by omega),H.lg m (by omega)]
 ·rcases tell h with ⟨rfl,z1,z2⟩ | ⟨z0,z1,_⟩
  ·rw [WL]
   exact b7 (H.sf z1) hsf (by rw [lw];exact z2)
  ·rw [Wl z0]
   exact H.sf z1
 ·rw [fo] at hm
  by_cases e:m=wd.length
  ·rw [e,WL]
   exact tL hw (by rw [lw];exact Zl _)
  ·rw [Wl (by omega)]
   exact tO (H.top (by omega)) (fun z=>by have:=z.2;rw [z.1] at this;omega)
 ·rcases tell h with ⟨rfl,z1,z2⟩ | ⟨z0,z1,z2⟩
  ·rw [WL] at hy
   have:=hy.length_le
   rw [lw] at this
   exact tL (H.iv z1 hxy (hy.trans hsf)) this
  ·rw [Wl z0] at hy
   exact tO (H.iv z1 hxy hy) (fun z=>z2 ⟨z.1,ZF hxy.length_le z.2⟩)
 ·obtain ⟨m',h'⟩:=un h
  obtain ⟨q,hq⟩:=H.pre h'
  exact some_ hq
 ·obtain ⟨m',h'⟩:=un h
  obtain ⟨q,hq⟩:=H.suf h' hxy
  exact some_ hq
 ·show ((S.lk++[S.lk.getD old none]).set old (some S.lg.length)).getD 0 none=none
  rw [lk',Zo (YV o0),Zo (by omega)]
  exact H.lk0
 ·rw [fo] at hm
  show ∃ q,((S.lk++[S.lk.getD old none]).set old (some S.lg.length)).getD m none=some q/\_
  rw [lk',fo]
  obtain ⟨q,q1,⟨q2,q2'⟩,q3,q4,q5⟩:=H.lk (Z4 o0) hold hof
  obtain ⟨lo,_⟩:=H.low hof q1 hw
  rw [lw] at lo
  by_cases e:m=old
  ·subst e
   rw [Zq rfl]
   refine ⟨wd.length,rfl,⟨by omega,fun z=>hfr z.symm⟩,?_,?_,fun y hy hl=>?_⟩
   ·rw [WL,Wl hold];exact hsf
   ·rw [WL,Wl hold,lw];exact hlt
   ·rw [WL,lw] at hl
    rw [Wl hold] at hy
    exact tO (H.iv hw (b7 hsf hy (by rw [lw];omega)) hy) (fun z=>by have:=z.2;omega)
  ·rw [Zo e]
   by_cases eL:m=wd.length
   ·subst eL
    rw [Zq rfl,q1]
    refine ⟨q,rfl,⟨by omega,q2'⟩,?_,?_,fun y hy hl=>?_⟩
    ·rw [WL,Wl q2];exact b7 q3 hsf (by rw [lw];omega)
    ·rw [WL,Wl q2,lw];exact lo
    ·rw [WL] at hy
     rw [Wl q2] at hl
     have:=hy.length_le
     rw [lw] at this
     exact tL (q5 y (hy.trans hsf) hl) this
   ·rw [Zo eL]
    have hm':m < wd.length:=by omega
    obtain ⟨r,r1,⟨r2,r2'⟩,r3,r4,r5⟩:=H.lk h0 hm' hmf
    rw [r1]
    refine ⟨r,rfl,⟨by omega,r2'⟩,by rw [Wl r2,Wl hm'];exact r3,by rw [Wl r2,Wl hm'];exact r4,fun y hy hl=>?_⟩
    rw [Wl hm'] at hy
    rw [Wl r2] at hl
    exact tO (r5 y hy hl) (fun z=>e z.1)
 ·show gW (w2.getD m []) d=_
  rw [e3 m d]
  show (if d=c/\m < wd.length/\W wd m <:+ W wd n/\gW ((S.wy++[S.wy.getD old []]).getD m []) c=some old then some S.lg.length else gW ((S.wy++[S.wy.getD old []]).getD m []) d)=_
  rcases tell h with ⟨rfl,z1,z2⟩ | ⟨z0,z1,z2⟩
  ·rw [Zo (fun z=>Yp _ z.2.1),wy',Zq rfl,H.wy z1 d]
   unfold gO
   rw [Zo]
   intro z
   have h1:=z.1
   rw [← H.wy z1 d,H.wy (H.top hold) d] at h1
   have:=(H.sf h1).length_le
   rw [Zv,ZS] at this
   omega
  ·rw [wyl m z0,H.wy z1 c,H.wy z1 d]
   unfold gO
   by_cases hq:nd (x++[d])=some old/\(x++[d]).length<=(W wd n).length+1
   ·have hs2:=b7 (H.sf hq.1) hsf (by rw [lw];exact hq.2)
    obtain ⟨rfl,hx⟩:=hZ hs2
    obtain ⟨m',m1,m2⟩:=H.up' hn hf hx
    rw [z1] at m1
    cases m1
    rw [Zq ⟨rfl,z0,m2,hq.1⟩,Zq hq,hL]
   ·rw [Zo hq,Zo]
    rintro ⟨rfl,_,a3,a4⟩
    refine hq ⟨a4,?_⟩
    have b1:=(H.sf z1).length_le
    have b2:=a3.length_le
    rw [Zv,ZS]
    omega
end AU
end
section
namespace AU
open Classical in
noncomputable def gK (nd:Wd->Option Nat) (w:Wd) (f:Nat) (x:Wd):Option Nat:=match nd x with
 | some m=>some m
 | none=>if x <:+ w then some f else none
theorem dn {nd:Wd->Option Nat} {w:Wd} {f m:Nat} {x:Wd} (h:nd x=some m):gK nd w f x=some m:=by
 unfold gK
 rw [h]
theorem ft {nd:Wd->Option Nat} {w:Wd} {f:Nat} {x:Wd} (h:nd x=none) (hx:x <:+ w):gK nd w f x=some f:=by
 unfold gK
 rw [h]
 exact Zq hx
theorem cK {nd:Wd->Option Nat} {w:Wd} {f m:Nat} {x:Wd} (h:gK nd w f x=some m):nd x=some m\/(m=f/\nd x=none/\x <:+ w):=by
 unfold gK at h
 split at h
 ·rename_i q e
  cases h
  exact .inl e
 ·rename_i e
  split at h
  ·rename_i hx
   cases h
   exact .inr ⟨rfl,e,hx⟩
  ·cases h
theorem tU {α:Type} {y t:List α} {c:α} (h:y <:+ t++[c]) (hy:y ≠ []):∃ y',y=y'++[c]/\y' <:+ t:=by
 rcases XW y with e | ⟨y',b,e⟩
 ·exact absurd e hy
 ·rw [XT] at e
  subst e
  obtain ⟨e1,e2⟩:=hZ h
  exact ⟨y',by rw [e1],e2⟩
section
variable {S:St} {nd:Wd->Option Nat} {wd:List Wd}
theorem I.fresh (H:I none S nd wd) {h c:Nat} (hh:h < wd.length) (hc:97<=c/\c<=122) (hn:gW (S.wy.getD h []) c=none) (hk:(W wd h).length < 1000) :
  ∃ S2 o',up1 c S.lg.length 1000 ⟨S.lg++[S.lg.getD h 0+1],S.lk++[some 0],S.wy++[[]]⟩ (some h)=some (S2,o')/\I (some wd.length) S2 (gK nd (W wd h++[c]) wd.length) (wd++[W wd h++[c]])/\S2.lk.getD wd.length none=some 0/\S2.lg.length=S.lg.length+1 ∧
   (∀ m,m < wd.length->(gW (S.wy.getD m []) c).isSome->gW (S2.wy.getD m []) c=gW (S.wy.getD m []) c) ∧
   (o'=none->∀ m,m < wd.length->W wd m <:+ W wd h->gW (S.wy.getD m []) c=none) ∧
   ∀ p,o'=some p->p < wd.length/\W wd p <:+ W wd h/\(gW (S.wy.getD p []) c).isSome/\∀ m,m < wd.length->W wd m <:+ W wd h->(W wd p).length < (W wd m).length->gW (S.wy.getD m []) c=none:=by
 have hL:S.lg.length=wd.length:=H.len.symm
 have l1:S.lk.length=wd.length:=by rw [H.wf.lk,hL]
 have l2:S.wy.length=wd.length:=by rw [H.wf.wy,hL]
 have hLp:0 < wd.length:=by rw [H.len];exact H.wf.pos
 have lk':∀ m,(S.lk++[some 0]).getD m none=if m=wd.length then some 0 else S.lk.getD m none:=fun m=>by rw [bT,l1]
 have wy':∀ m,(S.wy++[[]]).getD m []=if m=wd.length then [] else S.wy.getD m []:=fun m=>by rw [bT,l2]
 have wyl:∀ m,m < wd.length->(S.wy++[[]]).getD m []=S.wy.getD m []:=fun m hm=>by rw [wy',Zo (ZQ hm)]
 have nt:nd (W wd h++[c])=none:=by rw [← H.wy (H.top hh) c];exact hn
 obtain ⟨w2,o',e1,e2,e3,e4,e5⟩:=H.climb1 (c:=c) (v:=S.lg.length) 1000 ⟨S.lg++[S.lg.getD h 0+1],S.lk++[some 0],S.wy++[[]]⟩ h hh (fun z=>nomatch z) hk (fun m hm _=>by
   show (S.lk++[some 0]).getD m none=_
   rw [lk',Zo (ZQ hm)])
  (by show _<=(S.wy++[[]]).length;rw [Zv,l2];omega)
  (fun m m' hm hm' hs hs' q=>by
   have q':(gW ((S.wy++[[]]).getD m' []) c).isSome:=q
   show (gW ((S.wy++[[]]).getD m []) c).isSome
   rw [wyl m' hm',H.wy (H.top hm') c] at q'
   rw [wyl m hm,H.wy (H.top hm) c]
   obtain ⟨r,hr⟩:=YX.mp q'
   obtain ⟨r',hr'⟩:=H.suf hr (gg c hs)
   rw [hr']
   rfl)
 have hlen:(S.lg++[S.lg.getD h 0+1]).length=S.lg.length+1:=by rw [Zv];rfl
 have W1:=H.wf.more (l:=S.lg.getD h 0+1) (o:=some 0) (w:=[]) (fun m hm=>by cases hm;exact H.wf.pos) (fun d m hm=>by cases hm) Yn (fun p hp=>nomatch hp)
 have wfS:=AB hc 1000 _ _ _ _ W1 (by show S.lg.length < (S.lg++[S.lg.getD h 0+1]).length;omega) e1
 have lw:(W wd h++[c]).length=(W wd h).length+1:=by rw [Zv];rfl
 have Wn:∀ m,W (wd++[W wd h++[c]]) m=if m=wd.length then W wd h++[c] else W wd m:=fun m=>bT wd _ _ m
 have WL:W (wd++[W wd h++[c]]) wd.length=W wd h++[c]:=by rw [Wn,Zq rfl]
 have Wl:∀ {m},m < wd.length->W (wd++[W wd h++[c]]) m=W wd m:=fun {m} hm=>by rw [Wn,Zo (ZQ hm)]
 have fo:(wd++[W wd h++[c]]).length=wd.length+1:=by rw [Zv];rfl
 refine ⟨⟨S.lg++[S.lg.getD h 0+1],S.lk++[some 0],w2⟩,o',e1,?_,by show (S.lk++[some 0]).getD wd.length none=_;rw [lk',Zq rfl],hlen,fun m hm hs=>?_,fun ho m hm hs=>?_,fun p hp=>?_⟩
 rotate_left
 ·show gW (w2.getD m []) c=_
  rw [e3 m c]
  show (if c=c/\m < wd.length/\W wd m <:+ W wd h/\gW ((S.wy++[[]]).getD m []) c=none then some S.lg.length else gW ((S.wy++[[]]).getD m []) c)=_
  rw [wyl m hm,Zo (fun z=>by rw [z.2.2.2] at hs;cases hs)]
 ·have:=e4 ho m hm hs
  have this':gW ((S.wy++[[]]).getD m []) c=none:=this
  rw [wyl m hm] at this'
  exact this'
 ·obtain ⟨p1,p2,p3,p4⟩:=e5 p hp
  have p3':(gW ((S.wy++[[]]).getD p []) c).isSome:=p3
  rw [wyl p p1] at p3'
  refine ⟨p1,p2,p3',fun m hm hs hl=>?_⟩
  have:=p4 m hm hs hl
  have this':gW ((S.wy++[[]]).getD m []) c=none:=this
  rw [wyl m hm] at this'
  exact this'
 refine ⟨wfS,by rw [fo];show _=(S.lg++[S.lg.getD h 0+1]).length;rw [hlen,hL],fun m hm=>?_,dn H.z,by rw [Wl hLp];exact H.wz,fun {x m} q=>?_,fun {x m} q=>?_,fun {m} hm=>?_,fun {x y m} q hxy hy=>?_,fun {x d m} q=>?_,fun {x y m} q hxy=>?_,?_,fun {m} h0 hm hmf=>?_,fun {x m} q d=>?_⟩
 ·rw [fo] at hm
  show (S.lg++[S.lg.getD h 0+1]).getD m 0=_
  rw [bT,hL]
  by_cases e:m=wd.length
  ·rw [Zq e,e,WL,H.lg h hh,lw]
  ·rw [Zo e,Wl (by omega),H.lg m (by omega)]
 ·rw [fo]
  rcases cK q with z | z
  ·have:=H.lt z;omega
  ·omega
 ·rcases cK q with z | ⟨rfl,_,z⟩
  ·rw [Wl (H.lt z)];exact H.sf z
  ·rw [WL];exact z
 ·rw [fo] at hm
  by_cases e:m=wd.length
  ·rw [e,WL];exact ft nt (Z9 _)
  ·rw [Wl (by omega)];exact dn (H.top (by omega))
 ·rcases cK q with z | ⟨rfl,z1,z2⟩
  ·rw [Wl (H.lt z)] at hy
   exact dn (H.iv z hxy hy)
  ·rw [WL] at hy
   refine ft ?_ hy
   cases e:nd y with
   | none=>rfl
   | some r =>
    obtain ⟨r',hr⟩:=H.suf e hxy
    rw [z1] at hr
    cases hr
 ·rcases cK q with z | ⟨_,_,z⟩
  ·obtain ⟨r,hr⟩:=H.pre z
   exact ⟨r,dn hr⟩
  ·obtain ⟨_,hx⟩:=hZ z
   obtain ⟨r,hr⟩:=H.suf (H.top hh) hx
   exact ⟨r,dn hr⟩
 ·rcases cK q with z | ⟨_,_,z⟩
  ·obtain ⟨r,hr⟩:=H.suf z hxy
   exact ⟨r,dn hr⟩
  ·cases e:nd x with
   | none=>exact ⟨_,ft e (hxy.trans z)⟩
   | some r=>exact ⟨r,dn e⟩
 ·show (S.lk++[some 0]).getD 0 none=none
  rw [lk',Zo (by omega)]
  exact H.lk0
 ·rw [fo] at hm
  have hm':m < wd.length:=by
   have:m ≠ wd.length:=fun e=>hmf (by rw [e])
   omega
  show ∃ q,(S.lk++[some 0]).getD m none=some q/\_
  rw [lk',Zo (ZQ hm'),fo]
  obtain ⟨r,r1,⟨r2,_⟩,r3,r4,r5⟩:=H.lk h0 hm' (fun z=>nomatch z)
  refine ⟨r,r1,⟨by omega,fun z=>?_⟩,by rw [Wl r2,Wl hm'];exact r3,by rw [Wl r2,Wl hm'];exact r4,fun y hy hl=>?_⟩
  ·have:=Zp z
   omega
  ·rw [Wl hm'] at hy
   rw [Wl r2] at hl
   exact dn (r5 y hy hl)
 ·show gW (w2.getD m []) d=_
  rw [e3 m d]
  show (if d=c/\m < wd.length/\W wd m <:+ W wd h/\gW ((S.wy++[[]]).getD m []) c=none then some S.lg.length else gW ((S.wy++[[]]).getD m []) d)=_
  rcases cK q with z | ⟨rfl,z1,z2⟩
  ·have hm:=H.lt z
   rw [wyl m hm,H.wy z c,H.wy z d]
   cases e:nd (x++[d]) with
   | some r =>
    rw [dn e,Zo]
    rintro ⟨rfl,_,_,a⟩
    rw [e] at a
    cases a
   | none =>
    by_cases hs:x++[d] <:+ W wd h++[c]
    ·obtain ⟨rfl,hx⟩:=hZ hs
     obtain ⟨m',m1,m2⟩:=H.up' hh (fun z=>nomatch z) hx
     rw [z] at m1
     cases m1
     rw [ft e hs,Zq ⟨rfl,hm,m2,e⟩,hL]
    ·have:gK nd (W wd h++[c]) wd.length (x++[d])=none:=by
      unfold gK
      rw [e]
      exact Zo hs
     rw [this,Zo]
     rintro ⟨rfl,_,a,_⟩
     exact hs (gg d ((H.sf z).trans a))
  ·rw [Zo (fun a=>Yp _ a.2.1),wy',Zq rfl]
   have e:nd (x++[d])=none:=by
    cases e:nd (x++[d]) with
    | none=>rfl
    | some r =>
     obtain ⟨r',hr⟩:=H.pre e
     rw [z1] at hr
     cases hr
   have:gK nd (W wd h++[c]) wd.length (x++[d])=none:=by
    unfold gK
    rw [e]
    refine Zo fun hs=>?_
    obtain ⟨_,hx⟩:=hZ hs
    obtain ⟨r,hr⟩:=H.suf (H.top hh) hx
    rw [z1] at hr
    cases hr
   rw [this]
   rfl
theorem I.fix {f m:Nat} (H:I (some f) S nd wd) (hf:f < wd.length) (hm:m < wd.length) (hs:W wd m <:+ W wd f) (hl:(W wd m).length < (W wd f).length) (hy:∀ y,y <:+ W wd f->(W wd m).length < y.length->nd y=some f):I none ⟨S.lg,S.lk.set f (some m),S.wy⟩ nd wd:=by
 have f0:f ≠ 0:=fun e=>by
  rw [e,H.wz] at hl
  simp at hl
 have lf:f < S.lk.length:=by rw [H.wf.lk,← H.len];exact hf
 refine ⟨H.wf.link (by rw [← H.len];exact hm),H.len,H.lg,H.z,H.wz,H.lt,H.sf,H.top,H.iv,H.pre,H.suf,?_,fun {n} h0 hn _=>?_,H.wy⟩
 ·show (S.lk.set f (some m)).getD 0 none=none
  rw [gj,Zo (fun z=>f0 z.1)]
  exact H.lk0
 ·show ∃ q,(S.lk.set f (some m)).getD n none=some q/\_
  rw [gj]
  by_cases e:f=n
  ·subst e
   rw [Zq ⟨rfl,lf⟩]
   exact ⟨m,rfl,⟨hm,fun z=>nomatch z⟩,hs,hl,hy⟩
  ·rw [Zo (fun z=>e z.1)]
   obtain ⟨r,r1,⟨r2,_⟩,r3⟩:=H.lk h0 hn (fun z=>e (Zp z).symm)
   exact ⟨r,r1,⟨r2,fun z=>nomatch z⟩,r3⟩
end
end AU
end
section
namespace AU
structure Fine (nd nd':Wd->Option Nat) (w:Wd):Prop where
 eq:∀ {x y m n},nd' x=some m->nd' y=some n->(m=n ↔ nd x=nd y/\(x <:+ w ↔ y <:+ w))
section
variable {fr:Option Nat} {S:St} {nd:Wd->Option Nat} {wd:List Wd}
theorem I.just (H:I fr S nd wd) {n c old:Nat} (hn:n < wd.length) (hf:some n ≠ fr) (hc:97<=c/\c<=122) (ho:gW (S.wy.getD n []) c=some old) (hof:some old ≠ fr) (hfr:fr ≠ some wd.length) (hk:(W wd n).length < 1000) :
  ∃ S' r nd' wd',njb S n c=some (S',r)/\I fr S' nd' wd'/\r < wd'.length/\some r ≠ fr/\W wd' r=W wd n++[c]/\(∀ m,m < wd.length->W wd' m=W wd m)/\wd.length<=wd'.length/\wd'.length<=wd.length+1 ∧
   (∀ x,(∃ m,nd' x=some m) ↔ ∃ m,nd x=some m)/\Fine nd nd' (W wd n++[c])/\∀ x f,f ≠ old->nd x=some f->nd' x=some f:=by
 have hw:=H.way hn ho
 have hold:=H.lt hw
 have hsf:=H.sf hw
 have lw:(W wd n++[c]).length=(W wd n).length+1:=by rw [Zv];rfl
 by_cases hne:S.lg.getD old 0=S.lg.getD n 0+1
 ·have hWo:W wd old=W wd n++[c]:=by
   have:=hne
   rw [H.lg old hold,H.lg n hn] at this
   exact (hsf.eq_of_length (by rw [lw,this])).symm
  refine ⟨S,old,nd,wd,?_,H,hold,hof,hWo,fun m _=>rfl,Zl _,Nat.le_succ _,fun x=>Iff.rfl,⟨fun {x y m k} h1 h2=>?_⟩,fun x f _ h=>h⟩
  ·unfold njb
   rw [ho,Zt,Zq hne]
  ·constructor
   ·rintro rfl
    exact ⟨by rw [h1,h2],fun h=>by rw [← hWo] at h ⊢;exact H.all hold hof h1 h2 h,fun h=>by rw [← hWo] at h ⊢;exact H.all hold hof h2 h1 h⟩
   ·rintro ⟨h,_⟩
    rw [h1,h2] at h
    exact Zp h
 ·obtain ⟨S',e1,H'⟩:=H.split hn hf hc ho hof hfr hne hk
  have WL:W (wd++[W wd n++[c]]) wd.length=W wd n++[c]:=(bT wd _ _ _).trans (Zq rfl)
  have Wl:∀ m,m < wd.length->W (wd++[W wd n++[c]]) m=W wd m:=fun m hm=>(bT wd _ _ m).trans (Zo (ZQ hm))
  have fo:(wd++[W wd n++[c]]).length=wd.length+1:=by rw [Zv];rfl
  have inv:∀ {x m},gO nd old ((W wd n).length+1) wd.length x=some m->(m=wd.length/\nd x=some old/\x.length<=(W wd n).length+1)\/nd x=some m:=fun {x m} h=>by
   unfold gO at h
   split at h
   ·rename_i q;cases h;exact .inl ⟨rfl,q.1,q.2⟩
   ·exact .inr h
  have sfx:∀ {x},nd x=some old->(x.length<=(W wd n).length+1 ↔ x <:+ W wd n++[c]):=fun {x} h=>⟨fun hl=>b7 (H.sf h) hsf (by rw [lw];exact hl),fun hs=>by have:=hs.length_le;rw [lw] at this;exact this⟩
  refine ⟨S',S.lg.length,_,_,e1,H',by rw [fo,← H.len];exact Yl _,by rw [← H.len];exact fun z=>hfr z.symm,by rw [← H.len];exact WL,Wl,by omega,by omega,fun x=>⟨fun ⟨m,h⟩=>(inv h).elim (fun z=>⟨_,z.2.1⟩) fun z=>⟨_,z⟩,fun ⟨m,h⟩=>?_⟩,⟨fun {x y m k} h1 h2=>?_⟩,fun x f hfo h=>?_⟩
  ·unfold gO
   split
   ·exact ⟨_,rfl⟩
   ·exact ⟨m,h⟩
  ·constructor
   ·rintro rfl
    have hq:wd.length < (wd++[W wd n++[c]]).length:=by omega
    have a1:=fun h=>H'.all hq (fun z=>hfr z.symm) h1 h2 h
    have a2:=fun h=>H'.all hq (fun z=>hfr z.symm) h2 h1 h
    rw [WL] at a1 a2
    refine ⟨?_,a1,a2⟩
    rcases inv h1 with ⟨z1,z2,_⟩ | z
    ·rcases inv h2 with ⟨_,y2,_⟩ | y
     ·rw [z2,y2]
     ·have:=H.lt y;omega
    ·rcases inv h2 with ⟨y1,_,_⟩ | y
     ·have:=H.lt z;omega
     ·rw [z,y]
   ·rintro ⟨h,hs⟩
    have:gO nd old ((W wd n).length+1) wd.length x=gO nd old ((W wd n).length+1) wd.length y:=by
     unfold gO
     rw [h]
     by_cases q:nd y=some old
     ·have e1:=sfx (show nd x=some old by rw [h,q])
      have e2:=sfx q
      by_cases l:y.length<=(W wd n).length+1
      ·rw [Zq ⟨q,e1.mpr (hs.mpr (e2.mp l))⟩,Zq ⟨q,l⟩]
      ·rw [Zo (fun z=>l (e2.mpr (hs.mp (e1.mp z.2)))),Zo (fun z=>l z.2)]
     ·rw [Zo (fun z=>q z.1),Zo (fun z=>q z.1)]
    rw [h1,h2] at this
    exact Zp this
  ·unfold gO
   rw [Zo (fun z=>hfo (by rw [h] at z;exact Zp z.1))]
   exact h
end
section
variable {S:St} {nd:Wd->Option Nat} {wd:List Wd}
theorem I.step (H:I none S nd wd) {h c:Nat} (hh:h < wd.length) (hc:97<=c/\c<=122) (hk:(W wd h).length+1 < 1000) :
  ∃ S' r nd' wd',hb S h c=some (S',r)/\I none S' nd' wd'/\r < wd'.length/\W wd' r=W wd h++[c]/\(∀ m,m < wd.length->W wd' m=W wd m)/\wd.length<=wd'.length/\wd'.length<=wd.length+2 ∧
   (∀ x,(∃ m,nd' x=some m) ↔ (∃ m,nd x=some m)\/x <:+ W wd h++[c])/\Fine nd nd' (W wd h++[c]):=by
 cases hg:gW (S.wy.getD h []) c with
 | some old =>
  obtain ⟨S',r,nd',wd',e,H',h1,_,h2,h3,h4,h5,h6,h7,_⟩:=H.just hh (fun z=>nomatch z) hc hg (fun z=>nomatch z) (fun z=>nomatch z) (by omega)
  refine ⟨S',r,nd',wd',?_,H',h1,h2,h3,h4,by omega,fun x=>(h6 x).trans ⟨.inl,fun z=>z.elim id fun z=>H.suf (H.way hh hg) z⟩,h7⟩
  unfold hb
  rw [hg]
  exact e
 | none =>
  have hL:S.lg.length=wd.length:=H.len.symm
  obtain ⟨S2,o',e1,H2,k0,k1,k2,k3,k4⟩:=H.fresh hh hc hg (by omega)
  have WL:W (wd++[W wd h++[c]]) wd.length=W wd h++[c]:=(bT wd _ _ _).trans (Zq rfl)
  have Wl:∀ m,m < wd.length->W (wd++[W wd h++[c]]) m=W wd m:=fun m hm=>(bT wd _ _ m).trans (Zo (ZQ hm))
  have fo:(wd++[W wd h++[c]]).length=wd.length+1:=by rw [Zv];rfl
  have lw:(W wd h++[c]).length=(W wd h).length+1:=by rw [Zv];rfl
  have nt:nd (W wd h++[c])=none:=by rw [← H.wy (H.top hh) c];exact hg
  have ex:∀ x,(∃ m,gK nd (W wd h++[c]) wd.length x=some m) ↔ (∃ m,nd x=some m)\/x <:+ W wd h++[c]:=fun x=>⟨fun ⟨m,q⟩=>(cK q).elim (fun z=>.inl ⟨_,z⟩) fun z=>.inr z.2.2,fun q=>by
   cases e:nd x with
   | some m=>exact ⟨m,dn e⟩
   | none=>exact q.elim (fun ⟨m,z⟩=>by rw [e] at z;cases z) fun z=>⟨_,ft e z⟩⟩
  have same:∀ {x y m n},gK nd (W wd h++[c]) wd.length x=some m->gK nd (W wd h++[c]) wd.length y=some n->(m=n ↔ nd x=nd y):=fun {x y m n} q1 q2=>by
   rcases cK q1 with z | ⟨z1,z2,_⟩
   ·rcases cK q2 with y' | ⟨y1,y2,_⟩
    ·rw [z,y'];exact ⟨fun e=>by rw [e],fun e=>Zp e⟩
    ·have:=H.lt z
     refine ⟨fun e=>by omega,fun e=>?_⟩
     rw [z,y2] at e;cases e
   ·rcases cK q2 with y' | ⟨y1,y2,_⟩
    ·have:=H.lt y'
     refine ⟨fun e=>by omega,fun e=>?_⟩
     rw [z2,y'] at e;cases e
    ·exact ⟨fun _=>by rw [z2,y2],fun _=>by rw [z1,y1]⟩
  have tails:∀ {y},y <:+ W wd h++[c]->y ≠ []->∀ {q},nd y=some q->∃ y' m,y=y'++[c]/\y' <:+ W wd h/\nd y'=some m/\m < wd.length/\W wd m <:+ W wd h/\(gW (S.wy.getD m []) c).isSome:=fun {y} hy hne {q} hq=>by
   obtain ⟨y',rfl,hy'⟩:=tU hy hne
   obtain ⟨m,m1,m2⟩:=H.up' hh (fun z=>nomatch z) hy'
   exact ⟨y',m,rfl,hy',m1,H.lt m1,m2,by rw [H.wy m1 c,hq];rfl⟩
  unfold hb
  rw [hg,Zo (by simp),e1]
  cases o' with
  | none =>
   have kn:=k3 rfl
   have none_:∀ {y},y <:+ W wd h++[c]->y ≠ []->nd y=none:=fun {y} hy hne=>by
    cases e:nd y with
    | none=>rfl
    | some q =>
     obtain ⟨y',m,_,_,_,m3,m4,m5⟩:=tails hy hne e
     rw [kn m m3 m4] at m5
     cases m5
   have H3:=H2.fix (f:=wd.length) (m:=0) (by omega) (by omega) (by rw [H2.wz];exact Xt) (by rw [H2.wz,WL,lw];exact Nat.succ_pos _) (fun y hy hl=>by
    rw [WL] at hy
    rw [H2.wz] at hl
    exact ft (none_ hy (fun e=>by rw [e] at hl;cases hl)) hy)
   have eS:(⟨S2.lg,S2.lk.set wd.length (some 0),S2.wy⟩:St)=S2:=by
    have hl:wd.length < S2.lk.length:=by rw [H2.wf.lk,← H2.len,fo];exact Yl _
    have:S2.lk.set wd.length (some 0)=S2.lk:=by
     rw [Zr,Zm hl,Yf] at k0
     rw [← k0]
     exact XY hl
    rw [this]
   rw [eS] at H3
   refine ⟨S2,S.lg.length,_,_,rfl,H3,by rw [fo,hL];exact Yl _,by rw [hL];exact WL,Wl,by omega,by omega,ex,⟨fun {x y m n} q1 q2=>?_⟩⟩
   rw [same q1 q2]
   refine ⟨fun e=>⟨e,?_⟩,fun e=>e.1⟩
   have key:∀ {x y m n},gK nd (W wd h++[c]) wd.length x=some m->gK nd (W wd h++[c]) wd.length y=some n->nd x=nd y->x <:+ W wd h++[c]->y <:+ W wd h++[c]:=fun {x y m n} q1 q2 e hx=>by
    rcases cK q2 with z | z
    ·rw [z] at e
     by_cases hx0:x=[]
     ·subst hx0
      rw [H.z] at e
      cases e
      rw [H.zero z]
      exact Xt
     ·rw [none_ hx hx0] at e
      cases e
    ·exact z.2.2
   exact ⟨key q1 q2 e,key q2 q1 e.symm⟩
  | some p =>
   obtain ⟨p1,p2,p3,p4⟩:=k4 p rfl
   obtain ⟨old,ho⟩:=YX.mp p3
   have ho2:gW (S2.wy.getD p []) c=some old:=by rw [k2 p p1 p3];exact ho
   have ndw:=H.way p1 ho
   have hold:=H.lt ndw
   have ph:(W wd p).length < (W wd h).length:=by
    rcases Nat.lt_or_eq_of_le p2.length_le with l | l
    ·exact l
    ·have:=H.inj p1 hh (p2.eq_of_length l)
     rw [this,hg] at ho
     cases ho
   obtain ⟨S3,r,nd',wd',f1,H3,f2,f2',f3,f4,f5,f6,f7,f8,f9⟩:=H2.just (n:=p) (c:=c) (old:=old) (by omega) (fun z=>by have:=Zp z;omega) hc ho2 (fun z=>by have:=Zp z;omega) (fun z=>by have:=Zp z;omega) (by rw [Wl p p1];omega)
   rw [Wl p p1] at f3 f8
   have lwp:(W wd p++[c]).length=(W wd p).length+1:=by rw [Zv];rfl
   have WL':W wd' wd.length=W wd h++[c]:=by rw [f4 _ (by omega),WL]
   have none_:∀ {y},y <:+ W wd h++[c]->(W wd p).length+1 < y.length->nd y=none:=fun {y} hy hl=>by
    cases e:nd y with
    | none=>rfl
    | some q =>
     obtain ⟨y',m,rfl,m1,m2,m3,m4,m5⟩:=tails hy (fun e=>by rw [e] at hl;cases hl) e
     have l1:=(H.sf m2).length_le
     rw [Zv,ZS] at hl
     rw [p4 m m3 m4 (by omega)] at m5
     cases m5
   have H4:=H3.fix (f:=wd.length) (m:=r) (by omega) f2 (by rw [f3,WL'];exact gg c p2) (by rw [f3,WL',lwp,lw];omega) (fun y hy hl=>by
    rw [WL'] at hy
    rw [f3,lwp] at hl
    exact f9 y wd.length (by omega) (ft (none_ hy hl) hy))
   refine ⟨⟨S3.lg,S3.lk.set S.lg.length (some r),S3.wy⟩,S.lg.length,nd',wd',?_,by rw [hL];exact H4,by rw [hL];omega,by rw [hL];exact WL',fun m hm=>by rw [f4 m (by omega),Wl m hm],by omega,by omega,fun x=>(f7 x).trans (ex x),⟨fun {x y m n} q1 q2=>?_⟩⟩
   ·show (njb S2 p c).map _=_
    rw [f1]
    rfl
   ·rw [f8.eq q1 q2]
    obtain ⟨m1,g1⟩:=(f7 x).mp ⟨m,q1⟩
    obtain ⟨n1,g2⟩:=(f7 y).mp ⟨n,q2⟩
    have e1:gK nd (W wd h++[c]) wd.length x=gK nd (W wd h++[c]) wd.length y ↔ nd x=nd y:=by
     rw [g1,g2]
     exact ⟨fun e=>(same g1 g2).mp (Zp e),fun e=>by rw [(same g1 g2).mpr e]⟩
    rw [e1]
    have sw:W wd p++[c] <:+ W wd h++[c]:=gg c p2
    have kn:∀ {z q},nd z=some q->(z <:+ W wd h++[c] ↔ z <:+ W wd p++[c]):=fun {z q} hz=>⟨fun a=>b7 a sw (by
     rw [lwp]
     refine ZJ fun b=>?_
     rw [none_ a b] at hz
     cases hz),fun a=>a.trans sw⟩
    have un:∀ {z q},nd z=none->gK nd (W wd h++[c]) wd.length z=some q->z <:+ W wd h++[c]/\¬ z <:+ W wd p++[c]:=fun {z q} hz a=>by
     rcases cK a with b | b
     ·rw [hz] at b;cases b
     ·refine ⟨b.2.2,fun a=>?_⟩
      obtain ⟨q',hq⟩:=H.suf ndw a
      rw [hz] at hq
      cases hq
    refine ⟨fun ⟨a,b⟩=>⟨a,?_⟩,fun ⟨a,b⟩=>⟨a,?_⟩⟩
    ·cases ez:nd x with
     | some q=>rw [kn ez,kn (show nd y=some q by rw [← a,ez])];exact b
     | none =>
      have u1:=un ez g1
      have u2:=un (show nd y=none by rw [← a,ez]) g2
      exact ⟨fun _=>u2.1,fun _=>u1.1⟩
    ·cases ez:nd x with
     | some q=>rw [← kn ez,← kn (show nd y=some q by rw [← a,ez])];exact b
     | none =>
      have u1:=un ez g1
      have u2:=un (show nd y=none by rw [← a,ez]) g2
      exact ⟨fun z=>absurd z u1.2,fun z=>absurd z u2.2⟩
end
structure K (P:Wd->Prop) (S:St) (nd:Wd->Option Nat) (wd:List Wd):Prop where
 i:I none S nd wd
 nil:P []
 some:∀ x,(∃ m,nd x=some m) ↔ ∃ p,P p/\x <:+ p
 eq:∀ {x y m n},nd x=.some m->nd y=.some n->(m=n ↔ ∀ p,P p->(x <:+ p ↔ y <:+ p))
theorem K.congr {P Q:Wd->Prop} {S:St} {nd:Wd->Option Nat} {wd:List Wd} (H:K P S nd wd) (h:∀ p,P p ↔ Q p):K Q S nd wd:=by
 have:P=Q:=funext fun p=>propext (h p)
 rw [← this]
 exact H
noncomputable def nd0 (x:Wd):Option Nat:=if x=[] then some 0 else none
theorem eX {x:Wd} {n:Nat} (h:nd0 x=some n):x=[]/\n=0:=by
 unfold nd0 at h
 split at h
 ·exact ⟨by assumption,(Zp h).symm⟩
 ·cases h
theorem K0:K (fun p=>p=[]) S0 nd0 [[]]:=by
 refine ⟨⟨zo,rfl,fun n hn=>?_,rfl,rfl,fun {x n} h=>?_,fun {x n} h=>?_,fun {n} hn=>?_,fun {x y n} h h1 h2=>?_,fun {x c n} h=>?_,fun {x y n} h h1=>?_,rfl,fun {n} h1 h2=>?_,fun {x n} h c=>?_⟩,rfl,fun x=>?_,fun {x y m n} h1 h2=>?_⟩
 ·have:n=0:=Nat.lt_one_iff.mp hn
  subst this;rfl
 ·rw [(eX h).2];exact Nat.one_pos
 ·rw [(eX h).1];exact Xt
 ·have:n=0:=Nat.lt_one_iff.mp hn
  subst this;rfl
 ·have e:=(eX h).2
  subst e
  have:y=[]:=Ya.mp h2
  subst this;rfl
 ·have:=(eX h).1
  exact absurd this (by simp)
 ·have e:=(eX h).1
  subst e
  have:x=[]:=Ya.mp h1
  subst this
  exact ⟨0,rfl⟩
 ·have:n < 1:=h2
  omega
 ·have e:=eX h
  obtain ⟨rfl,rfl⟩:=e
  rfl
 ·constructor
  ·rintro ⟨m,h⟩
   exact ⟨[],rfl,by rw [(eX h).1];exact Xt⟩
  ·rintro ⟨p,rfl,h⟩
   have:x=[]:=Ya.mp h
   subst this
   exact ⟨0,rfl⟩
 ·obtain ⟨rfl,rfl⟩:=eX h1
  obtain ⟨rfl,rfl⟩:=eX h2
  exact ⟨fun _ _ _=>Iff.rfl,fun _=>rfl⟩
section
variable {P:Wd->Prop} {S:St} {nd:Wd->Option Nat} {wd:List Wd}
theorem K.step (H:K P S nd wd) {h c:Nat} (hh:h < wd.length) (hc:97<=c/\c<=122) (hk:(W wd h).length+1 < 1000) :
  ∃ S' r nd' wd',hb S h c=.some (S',r)/\K (fun p=>P p\/p=W wd h++[c]) S' nd' wd'/\r < wd'.length/\W wd' r=W wd h++[c]/\(∀ m,m < wd.length->W wd' m=W wd m)/\wd.length<=wd'.length/\wd'.length<=wd.length+2:=by
 obtain ⟨S',r,nd',wd',e,H',h1,h2,h3,h4,h5,h6,h7⟩:=H.i.step hh hc hk
 refine ⟨S',r,nd',wd',e,⟨H',.inl H.nil,fun x=>?_,fun {x y m n} g1 g2=>?_⟩,h1,h2,h3,h4,h5⟩
 ·rw [h6,H.some]
  constructor
  ·rintro (⟨p,a,b⟩ | a)
   ·exact ⟨p,.inl a,b⟩
   ·exact ⟨_,.inr rfl,a⟩
  ·rintro ⟨p,a | rfl,b⟩
   ·exact .inl ⟨p,a,b⟩
   ·exact .inr b
 ·rw [h7.eq g1 g2]
  have un:∀ {z q},nd' z=.some q->nd z=none->z <:+ W wd h++[c]/\∀ p,P p->¬ z <:+ p:=fun {z q} a b=>⟨((h6 z).mp ⟨q,a⟩).elim (fun ⟨m,x⟩=>by rw [b] at x;cases x) id,fun p hp hz=>by
   obtain ⟨m,x⟩:=(H.some z).mpr ⟨p,hp,hz⟩
   rw [b] at x
   cases x⟩
  have old:nd x=nd y ↔ ∀ p,P p->(x <:+ p ↔ y <:+ p):=by
   cases ex:nd x with
   | some a =>
    cases ey:nd y with
    | some b=>exact ⟨fun e=>(H.eq ex ey).mp (Zp e),fun e=>by rw [(H.eq ex ey).mpr e]⟩
    | none =>
     refine ⟨fun e=>(nomatch e),fun e=>?_⟩
     obtain ⟨p,hp,hx⟩:=(H.some x).mp ⟨a,ex⟩
     exact absurd ((e p hp).mp hx) ((un g2 ey).2 p hp)
   | none =>
    cases ey:nd y with
    | some b =>
     refine ⟨fun e=>(nomatch e),fun e=>?_⟩
     obtain ⟨p,hp,hx⟩:=(H.some y).mp ⟨b,ey⟩
     exact absurd ((e p hp).mpr hx) ((un g1 ex).2 p hp)
    | none=>exact ⟨fun _ p hp=>⟨fun z=>absurd z ((un g1 ex).2 p hp),fun z=>absurd z ((un g2 ey).2 p hp)⟩,fun _=>rfl⟩
  rw [old]
  constructor
  ·rintro ⟨a,b⟩ p (hp | rfl)
   ·exact a p hp
   ·exact b
  ·intro a
   exact ⟨fun p hp=>a p (.inl hp),a _ (.inr rfl)⟩
end
theorem K.grow:∀ (w:Wo) {P:Wd->Prop} {S:St} {nd:Wd->Option Nat} {wd:List Wd} (H:K P S nd wd) {h:Nat},h < wd.length->P (W wd h)->(∀ c∈w,97<=c/\c<=122)->(W wd h).length+w.length < 1000 →
  ∃ S' r nd' wd',hg S h w=.some (S',r)/\K (fun p=>P p\/∃ v,v <+: w/\p=W wd h++v) S' nd' wd'/\r < wd'.length/\W wd' r=W wd h++w/\(∀ m,m < wd.length->W wd' m=W wd m)/\wd.length<=wd'.length/\wd'.length<=wd.length+2 * w.length:=by
 intro w
 induction w with
 | nil =>
  intro P S nd wd H h hh hp hw hk
  refine ⟨S,h,nd,wd,rfl,H.congr fun p=>⟨.inl,?_⟩,hh,(ZK _).symm,fun _ _=>rfl,Zl _,Zl _⟩
  rintro (a | ⟨v,a,rfl⟩)
  ·exact a
  ·rw [List.prefix_nil.mp a,ZK]
   exact hp
 | cons c w ih =>
  intro P S nd wd H h hh hp hw hk
  rw [Zk] at hk
  obtain ⟨S1,r1,nd1,wd1,e1,H1,a1,a2,a3,a4,a5⟩:=H.step hh (hw c Zw) (by omega)
  obtain ⟨S2,r2,nd2,wd2,e2,H2,b1,b2,b3,b4,b5⟩:=ih H1 a1 (.inr a2) (fun d hd=>hw d (Zx _ hd)) (by rw [a2,Zv,ZS];omega)
  refine ⟨S2,r2,nd2,wd2,?_,H2.congr fun p=>?_,b1,?_,fun m hm=>by rw [b3 m (by omega),a3 m hm],by omega,by rw [Zk];omega⟩
  ·show (hb S h c).bind _=_
   rw [e1]
   exact e2
  ·rw [a2]
   constructor
   ·rintro ((a | rfl) | ⟨v,a,rfl⟩)
    ·exact .inl a
    ·exact .inr ⟨[c],XU.mpr ⟨rfl,List.nil_prefix⟩,rfl⟩
    ·exact .inr ⟨c :: v,XU.mpr ⟨rfl,a⟩,by rw [Z3];rfl⟩
   ·rintro (a | ⟨v,a,rfl⟩)
    ·exact .inl (.inl a)
    ·cases v with
     | nil=>rw [ZK];exact .inl (.inl hp)
     | cons d v =>
      obtain ⟨rfl,a'⟩:=XU.mp a
      exact .inr ⟨v,a',by rw [Z3];rfl⟩
  ·rw [b2,a2,Z3];rfl
noncomputable def mB (S:St):List Wd->Option St
 | []=>some S
 | t :: b=>(hg S 0 t).bind fun z=>mB z.1 b
theorem K.book:∀ (b:List Wd) {P:Wd->Prop} {S:St} {nd:Wd->Option Nat} {wd:List Wd} (H:K P S nd wd),(∀ t∈b,∀ c∈t,97<=c/\c<=122)->(∀ t∈b,t.length < 1000) →
  ∃ S' nd' wd',mB S b=.some S'/\K (fun p=>P p\/∃ t∈b,p <+: t) S' nd' wd'/\wd.length<=wd'.length/\wd'.length<=wd.length+2 * (b.map List.length).sum:=by
 intro b
 induction b with
 | nil =>
  intro P S nd wd H _ _
  refine ⟨S,nd,wd,rfl,H.congr fun p=>⟨.inl,?_⟩,Zl _,YF _ _⟩
  rintro (a | ⟨t,ht,_⟩)
  ·exact a
  ·cases ht
 | cons t b ih =>
  intro P S nd wd H ha hl
  have hz:0 < wd.length:=H.i.lt H.i.z
  obtain ⟨S1,r1,nd1,wd1,e1,H1,a1,a2,a3,a4,a5⟩:=H.grow t hz (by rw [H.i.wz];exact H.nil) (ha t Zw) (by rw [H.i.wz];have:=hl t Zw;simpa using this)
  obtain ⟨S2,nd2,wd2,e2,H2,b1,b2⟩:=ih H1 (fun t ht=>ha t (Zx _ ht)) (fun t ht=>hl t (Zx _ ht))
  refine ⟨S2,nd2,wd2,?_,H2.congr fun p=>?_,by omega,by rw [Zn,YW];omega⟩
  ·show (hg S 0 t).bind _=_
   rw [e1]
   exact e2
  ·rw [H.i.wz]
   constructor
   ·rintro ((a | ⟨v,a,rfl⟩) | ⟨u,hu,a⟩)
    ·exact .inl a
    ·exact .inr ⟨t,Zw,a⟩
    ·exact .inr ⟨u,Zx _ hu,a⟩
   ·rintro (a | ⟨u,hu,a⟩)
    ·exact .inl (.inl a)
    ·rcases Zg.mp hu with rfl | hu
     ·exact .inl (.inr ⟨p,a,rfl⟩)
     ·exact .inr ⟨u,hu,a⟩
noncomputable def Hd (b:List Wd) (p:Wd):Prop:=p=[]\/∃ t∈b,p <+: t
theorem K.of (b:List Wd) (ha:∀ t∈b,∀ c∈t,97<=c/\c<=122) (hl:∀ t∈b,t.length < 1000):∃ S nd wd,mB S0 b=.some S/\K (Hd b) S nd wd/\wd.length<=1+2 * (b.map List.length).sum:=by
 obtain ⟨S,nd,wd,e,H,_,l⟩:=K0.book b ha hl
 exact ⟨S,nd,wd,e,H,l⟩
noncomputable def sk (w:List (Nat×Nat)):Wo:=(List.range' 97 26).filter fun c=>(gW w c).isSome
noncomputable def visit (w:List (Nat×Nat)):Wo->Wo->Wo
 | [],met=>met
 | c :: r,met=>visit w r (if (gW w c).getD 0∈met then met else met++[(gW w c).getD 0])
noncomputable def bfs (S:St):Nat->Wo->Nat->Option (Wo)
 | k,met,d=>if d < met.length then (match k with
  | 0=>none
  | k+1=>bfs S k (visit (S.wy.getD (met.getD d 0) []) (sk (S.wy.getD (met.getD d 0) [])) met) (d+1)) else some met
noncomputable def steps (S:St) (met:Wo) (n:Nat):List (Nat×Nat):=(sk (S.wy.getD n [])).map fun c=>(c,met.idxOf ((gW (S.wy.getD n []) c).getD 0))
noncomputable abbrev Row:=Nat×Nat×Option Nat×List (Nat×Nat)
noncomputable def row (S:St) (met:Wo) (n:Nat):Row:=match S.lk.getD n none with
 | none=>(0,0,none,steps S met n)
 | some l=>(S.lg.getD l 0+1,S.lg.getD n 0,some (met.idxOf l),steps S met n)
noncomputable def tab (S:St) (met:Wo):List Row:=met.map (row S met)
structure Iso (S T:St) (f:Nat->Nat):Prop where
 lt:∀ {n},n < S.lg.length->f n < T.lg.length
 z:f 0=0
 inj:∀ {m n},m < S.lg.length->n < S.lg.length->f m=f n->m=n
 lg:∀ {n},n < S.lg.length->T.lg.getD (f n) 0=S.lg.getD n 0
 lk:∀ {n},n < S.lg.length->T.lk.getD (f n) none=(S.lk.getD n none).map f
 wy:∀ {n},n < S.lg.length->∀ c,gW (T.wy.getD (f n) []) c=(gW (S.wy.getD n []) c).map f
section
variable {S T:St} {f:Nat->Nat}
theorem Iso.mem (F:Iso S T f) {m:Nat} {l:Wo} (hm:m < S.lg.length) (hl:∀ x∈l,x < S.lg.length):f m∈l.map f ↔ m∈l:=by
 rw [ZG]
 exact ⟨fun ⟨x,hx,e⟩=>by rw [← F.inj (hl x hx) hm e];exact hx,fun h=>⟨m,h,rfl⟩⟩
theorem Iso.idx (F:Iso S T f) {m:Nat} (hm:m < S.lg.length):∀ {l:Wo},(∀ x∈l,x < S.lg.length)->(l.map f).idxOf (f m)=l.idxOf m
 | [],_=>rfl
 | x :: l,hl=>by
  rw [Zn,Xa,Xa,F.idx hm fun y hy=>hl y (Zx _ hy)]
  by_cases e:x=m
  ·subst e
   simp
  ·have:(x == m)=false:=by simpa using e
   have h2:(f x == f m)=false:=by
    have:=fun z=>e (F.inj (hl x Zw) hm z)
    simpa using this
   rw [this,h2]
theorem Iso.sk (F:Iso S T f) {n:Nat} (hn:n < S.lg.length):sk (T.wy.getD (f n) [])=sk (S.wy.getD n []):=by
 unfold AU.sk
 refine congrArg (fun p=>List.filter p (List.range' 97 26)) ?_
 funext c
 rw [F.wy hn,Yo]
theorem gE {w:List (Nat×Nat)} {c:Nat} (h:c∈sk w):∃ m,gW w c=some m:=YX.mp (YZ.mp h).2
theorem hJ {w:List (Nat×Nat)} {N:Nat} (hw:∀ c m,gW w c=some m->m < N):∀ (r met:Wo),(∀ c∈r,∃ m,gW w c=some m)->(∀ x∈met,x < N)->∀ x∈visit w r met,x < N
 | [],met,_,hm=>hm
 | c :: r,met,hr,hm=>by
  refine hJ hw r _ (fun d hd=>hr d (Zx _ hd)) ?_
  obtain ⟨m,e⟩:=hr c Zw
  rw [e,Yf]
  split
  ·exact hm
  ·intro x hx
   rcases ZY.mp hx with h | h
   ·exact hm x h
   ·rw [Zb.mp h];exact hw c m e
theorem Iso.visit (F:Iso S T f) (WS:WF S) {n:Nat} (hn:n < S.lg.length):∀ (r met:Wo),(∀ c∈r,∃ m,gW (S.wy.getD n []) c=some m)->(∀ x∈met,x < S.lg.length)->AU.visit (T.wy.getD (f n) []) r (met.map f)=(AU.visit (S.wy.getD n []) r met).map f
 | [],_,_,_=>rfl
 | c :: r,met,hr,hm=>by
  obtain ⟨m,e⟩:=hr c Zw
  have hlt:=WS.on n c m e
  show AU.visit _ r (if (gW (T.wy.getD (f n) []) c).getD 0∈met.map f then met.map f else met.map f++[(gW (T.wy.getD (f n) []) c).getD 0])=(AU.visit _ r (if (gW (S.wy.getD n []) c).getD 0∈met then met else met++[(gW (S.wy.getD n []) c).getD 0])).map f
  rw [F.wy hn,e]
  show AU.visit _ r (if f m∈met.map f then met.map f else met.map f++[f m])=(AU.visit _ r (if m∈met then met else met++[m])).map f
  by_cases q:m∈met
  ·rw [Zq q,Zq ((F.mem hlt hm).mpr q)]
   exact F.visit WS hn r met (fun d hd=>hr d (Zx _ hd)) hm
  ·rw [Zo q,Zo (fun z=>q ((F.mem hlt hm).mp z))]
   have:=F.visit WS hn r (met++[m]) (fun d hd=>hr d (Zx _ hd)) (fun x hx=>by
    rcases ZY.mp hx with h | h
    ·exact hm x h
    ·rw [Zb.mp h];exact hlt)
   rw [Z6] at this
   exact this
theorem getD_mem {l:Wo} {d:Nat} (h:d < l.length):l.getD d 0∈l:=by
 rw [Zr,Zm h]
 exact Yy h
theorem getD_map {l:Wo} {d:Nat} (f:Nat->Nat) (h:d < l.length):(l.map f).getD d 0=f (l.getD d 0):=by
 rw [Zr,Zr,ZO,Zm h]
 rfl
theorem Iso.bfs (F:Iso S T f) (WS:WF S):∀ (k:Nat) (met:Wo) (d:Nat),(∀ x∈met,x < S.lg.length)->AU.bfs T k (met.map f) d=(AU.bfs S k met d).map (·.map f):=by
 intro k
 induction k with
 | zero =>
  intro met d hm
  unfold AU.bfs
  rw [Zy]
  split <;> rfl
 | succ k ih =>
  intro met d hm
  unfold AU.bfs
  rw [Zy]
  by_cases h:d < met.length
  ·rw [Zq h,Zq h]
   have hn:=hm _ (getD_mem h)
   show AU.bfs T k (AU.visit (T.wy.getD ((met.map f).getD d 0) []) (AU.sk (T.wy.getD ((met.map f).getD d 0) [])) (met.map f)) (d+1)=(AU.bfs S k _ (d+1)).map _
   rw [getD_map f h,F.sk hn,F.visit WS hn _ met (fun c hc=>gE hc) hm]
   exact ih _ _ (hJ (fun c m e=>WS.on _ c m e) _ _ (fun c hc=>gE hc) hm)
  ·rw [Zo h,Zo h]
   rfl
theorem Iso.row (F:Iso S T f) (WS:WF S) {met:Wo} (hm:∀ x∈met,x < S.lg.length) {n:Nat} (hn:n < S.lg.length):AU.row T (met.map f) (f n)=AU.row S met n:=by
 have st:AU.steps T (met.map f) (f n)=AU.steps S met n:=by
  unfold AU.steps
  rw [F.sk hn]
  refine Yu fun c hc=>?_
  obtain ⟨m,e⟩:=gE hc
  rw [F.wy hn,e]
  show (c,(met.map f).idxOf (f m))=(c,met.idxOf m)
  rw [F.idx (WS.on _ c m e) hm]
 unfold AU.row
 rw [F.lk hn,st]
 cases e:S.lk.getD n none with
 | none=>rfl
 | some l =>
  have hl:=WS.up n l e
  show (T.lg.getD (f l) 0+1,T.lg.getD (f n) 0,some ((met.map f).idxOf (f l)),_)=_
  rw [F.lg hl,F.lg hn,F.idx hl hm]
theorem Iso.tab (F:Iso S T f) (WS:WF S) {met:Wo} (hm:∀ x∈met,x < S.lg.length):AU.tab T (met.map f)=AU.tab S met:=by
 unfold AU.tab
 rw [Z1]
 exact Yu fun n hn=>F.row WS hm (hm n hn)
end
theorem K.iso {P:Wd->Prop} {S T:St} {nd nd':Wd->Option Nat} {wd wd':List Wd} (H:K P S nd wd) (G:K P T nd' wd'):Iso S T fun n=>(nd' (W wd n)).getD 0:=by
 have sm:∀ {x n},nd x=.some n->nd' x=.some ((nd' (W wd n)).getD 0):=fun {x n} h=>by
  obtain ⟨a,ha⟩:=(G.some x).mpr ((H.some x).mp ⟨n,h⟩)
  have ht:=H.i.top (H.i.lt h)
  obtain ⟨b,hb⟩:=(G.some (W wd n)).mpr ((H.some _).mp ⟨n,ht⟩)
  rw [hb,Yf,ha,(G.eq ha hb).mpr ((H.eq h ht).mp rfl)]
 have no:∀ {x},nd x=none->nd' x=none:=fun {x} h=>by
  cases e:nd' x with
  | none=>rfl
  | some m =>
   obtain ⟨a,ha⟩:=(H.some x).mpr ((G.some x).mp ⟨m,e⟩)
   rw [h] at ha
   cases ha
 have inj:∀ {x y m n},nd x=.some m->nd y=.some n->(nd' (W wd m)).getD 0=(nd' (W wd n)).getD 0->m=n:=fun {x y m n} h1 h2 e=>(H.eq h1 h2).mpr ((G.eq (sm h1) (sm h2)).mp e)
 have L:S.lg.length=wd.length:=H.i.len.symm
 have L':T.lg.length=wd'.length:=G.i.len.symm
 have wq:∀ {n},n < wd.length->W wd' ((nd' (W wd n)).getD 0)=W wd n:=fun {n} hn=>by
  have ht:=H.i.top hn
  have s1:=sm ht
  have l1:=G.i.lt s1
  have s2:=G.i.top l1
  obtain ⟨a,ha⟩:=(H.some (W wd' ((nd' (W wd n)).getD 0))).mpr ((G.some _).mp ⟨_,s2⟩)
  have:=(H.eq ha ht).mpr ((G.eq s2 s1).mp rfl)
  subst this
  exact ((H.i.sf ha).eq_of_length_le ((G.i.sf s1).length_le))
 refine ⟨fun {n} hn=>?_,?_,fun {m n} hm hn e=>?_,fun {n} hn=>?_,fun {n} hn=>?_,fun {n} hn c=>?_⟩
 ·rw [L] at hn
  rw [L']
  exact G.i.lt (sm (H.i.top hn))
 ·show (nd' (W wd 0)).getD 0=0
  rw [H.i.wz,G.i.z];rfl
 ·rw [L] at hm hn
  exact inj (H.i.top hm) (H.i.top hn) e
 ·rw [L] at hn
  show T.lg.getD ((nd' (W wd n)).getD 0) 0=_
  rw [G.i.lg _ (G.i.lt (sm (H.i.top hn))),wq hn,H.i.lg n hn]
 ·rw [L] at hn
  show T.lk.getD ((nd' (W wd n)).getD 0) none=_
  have s1:=sm (H.i.top hn)
  have l1:=G.i.lt s1
  by_cases h0:n=0
  ·subst h0
   rw [H.i.lk0,H.i.wz,G.i.z]
   exact G.i.lk0
  ·have hn':(nd' (W wd n)).getD 0 ≠ 0:=fun z=>by
    have:=inj (H.i.top hn) H.i.z (by rw [z,H.i.wz,G.i.z];rfl)
    exact h0 this
   obtain ⟨m,a1,⟨a2,_⟩,a3,a4,a5⟩:=H.i.lk (Z4 h0) hn (fun z=>nomatch z)
   obtain ⟨m',b1,⟨b2,_⟩,b3,b4,b5⟩:=G.i.lk (Z4 hn') l1 (fun z=>nomatch z)
   rw [wq hn] at b3 b4 b5
   rw [a1,b1]
   show Option.some m'=Option.some ((nd' (W wd m)).getD 0)
   have sM:=sm (H.i.top a2)
   have le1:(W wd m).length<=(W wd' m').length:=ZJ fun z=>by
    have q:=b5 (W wd m) a3 z
    rw [sM] at q
    have:=inj (H.i.top a2) (H.i.top hn) (Zp q)
    rw [this] at a4
    omega
   have le2:(W wd' m').length<=(W wd m).length:=ZJ fun z=>by
    have q:=sm (a5 (W wd' m') b3 z)
    rw [G.i.top b2] at q
    have e:=Zp q
    rw [e,wq hn] at b4
    omega
   have e:W wd' m'=W wd m:=(b7 b3 a3 le2).eq_of_length (Nat.le_antisymm le2 le1)
   rw [← e,G.i.top b2]
   rfl
 ·rw [L] at hn
  have ht:=H.i.top hn
  show gW (T.wy.getD ((nd' (W wd n)).getD 0) []) c=_
  rw [G.i.wy (sm ht) c,H.i.wy ht c]
  cases e:nd (W wd n++[c]) with
  | none=>rw [no e];rfl
  | some k=>rw [sm e];rfl
theorem K.same {P:Wd->Prop} {S T:St} {nd nd':Wd->Option Nat} {wd wd':List Wd} (H:K P S nd wd) (G:K P T nd' wd') (k:Nat):(bfs T k [0] 0).map (tab T)=(bfs S k [0] 0).map (tab S):=by
 have F:=H.iso G
 have h0:∀ x∈[0],x < S.lg.length:=fun x hx=>by rw [Zb.mp hx];exact H.i.wf.pos
 have e:=F.bfs H.i.wf k [0] 0 h0
 rw [List.map_singleton,F.z] at e
 rw [e]
 have key:∀ (k:Nat) (met:Wo) (d:Nat),(∀ x∈met,x < S.lg.length)->∀ m,bfs S k met d=Option.some m->∀ x∈m,x < S.lg.length:=by
  intro k
  induction k with
  | zero =>
   intro met d hm m e
   unfold bfs at e
   split at e
   ·cases e
   ·cases e;exact hm
  | succ k ih =>
   intro met d hm m e
   unfold bfs at e
   split at e
   ·exact ih _ _ (hJ (fun c m e=>H.i.wf.on _ c m e) _ _ (fun c hc=>gE hc) hm) m e
   ·cases e;exact hm
 cases e2:bfs S k [0] 0 with
 | none=>rfl
 | some m=>exact congrArg Option.some (F.tab H.i.wf (key k [0] 0 h0 m e2))
theorem jI {w:List (Nat×Nat)}:∀ (r met:Wo),∃ l,visit w r met=met++l
 | [],met=>⟨[],(ZK _).symm⟩
 | c :: r,met=>by
  obtain ⟨l,e⟩:=jI (w:=w) r (if (gW w c).getD 0∈met then met else met++[(gW w c).getD 0])
  show ∃ l,visit w r _=_
  rw [e]
  split
  ·exact ⟨l,rfl⟩
  ·exact ⟨_,Z3 _ _ _⟩
theorem ly {w:List (Nat×Nat)}:∀ (r met:Wo),met.Nodup->(visit w r met).Nodup
 | [],met,h=>h
 | c :: r,met,h=>by
  refine ly (w:=w) r _ ?_
  split
  ·exact h
  ·rename_i q
   rw [ZP]
   refine ⟨h,by simp,fun a ha b hb e=>q ?_⟩
   rw [Zb.mp hb] at e
   rw [← e]
   exact ha
theorem mE {w:List (Nat×Nat)}:∀ (r met:Wo),∀ c∈r,(gW w c).getD 0∈visit w r met
 | d :: r,met,c,hc=>by
  rcases Zg.mp hc with rfl | hc
  ·obtain ⟨l,e⟩:=jI (w:=w) r (if (gW w c).getD 0∈met then met else met++[(gW w c).getD 0])
   show _∈visit w r _
   rw [e]
   refine ZD _ ?_
   split
   ·assumption
   ·exact ZX _ Zw
  ·exact mE r _ c hc
theorem pP {w:List (Nat×Nat)} (az:∀ p∈w,97<=p.1/\p.1<=122) {c m:Nat} (h:gW w c=some m):c∈sk w:=by
 refine YZ.mpr ⟨?_,by rw [h];rfl⟩
 unfold gW at h
 obtain ⟨p,hp,_⟩:=Zu.mp h
 have e:=List.find?_some hp
 have:=az p (List.mem_of_find?_eq_some hp)
 have e':p.1=c:=by simpa using e
 rw [e'] at this
 rw [YM]
 omega
theorem zX {S:St} (WS:WF S):∀ (k:Nat) (met:Wo) (d:Nat),met.Nodup->(∀ x∈met,x < S.lg.length)->d<=met.length->S.lg.length<=k+d->(∀ i,i < d->∀ c m,gW (S.wy.getD (met.getD i 0) []) c=some m->m∈met) →
  ∃ l,bfs S k met d=some (met++l)/\(met++l).Nodup/\(∀ x∈met++l,x < S.lg.length)/\∀ n∈met++l,∀ c m,gW (S.wy.getD n []) c=some m->m∈met++l:=by
 intro k
 have fin:∀ (met:Wo) (d:Nat),¬ d < met.length->d<=met.length->(∀ i,i < d->∀ c m,gW (S.wy.getD (met.getD i 0) []) c=some m->m∈met)->∀ n∈met,∀ c m,gW (S.wy.getD n []) c=some m->m∈met:=by
  intro met d h1 h2 h n hn c m e
  obtain ⟨i,hi,q⟩:=List.mem_iff_getElem.mp hn
  refine h i (by omega) c m ?_
  have:met.getD i 0=n:=by rw [Zr,Zm hi,q];rfl
  rw [this]
  exact e
 induction k with
 | zero =>
  intro met d nd lt hd hk h
  have hl:met.length<=S.lg.length:=by
   have:=sub_len met (List.range S.lg.length) nd fun x hx=>Ye.mpr (lt x hx)
   rwa [ZC] at this
  have hlt:¬ d < met.length:=by omega
  refine ⟨[],?_,?_⟩
  ·unfold bfs
   rw [Zo hlt,ZK]
  ·rw [ZK]
   exact ⟨nd,lt,fin met d hlt hd h⟩
 | succ k ih =>
  intro met d nd lt hd hk h
  by_cases hlt:d < met.length
  ·obtain ⟨l1,e1⟩:=jI (w:=S.wy.getD (met.getD d 0) []) (sk (S.wy.getD (met.getD d 0) [])) met
   obtain ⟨l,e,h1,h2,h3⟩:=ih (visit (S.wy.getD (met.getD d 0) []) (sk (S.wy.getD (met.getD d 0) [])) met) (d+1) (ly _ _ nd) (hJ (fun c m e=>WS.on _ c m e) _ _ (fun c hc=>gE hc) lt) (by rw [e1,Zv];omega) (by omega) (fun i hi c m e=>by
    have gi:(visit (S.wy.getD (met.getD d 0) []) (sk (S.wy.getD (met.getD d 0) [])) met).getD i 0=met.getD i 0:=by
     rw [e1,Zr,Zr,ZE (by omega)]
    rw [gi] at e
    by_cases q:i=d
    ·subst q
     have:=mE (w:=S.wy.getD (met.getD i 0) []) (sk (S.wy.getD (met.getD i 0) [])) met c (pP (WS.wnd _).2 e)
     rw [e] at this
     exact this
    ·rw [e1]
     exact ZD _ (h i (by omega) c m e))
   rw [e1,Z3] at h1 h2 h3
   refine ⟨l1++l,?_,h1,h2,h3⟩
   unfold bfs
   rw [Zq hlt]
   show bfs S k _ (d+1)=_
   rw [e,e1,Z3]
  ·refine ⟨[],?_,?_⟩
   ·unfold bfs
    rw [Zo hlt,ZK]
   ·rw [ZK]
    exact ⟨nd,lt,fin met d hlt hd h⟩
theorem yi {α:Type} {p:List α->Prop} (h0:p []) (h1:∀ l a,p l->p (l++[a])) (l:List α):p l:=by
 have:∀ l:List α,p l.reverse:=by
  intro l
  induction l with
  | nil=>exact h0
  | cons a l ih=>rw [List.reverse_cons];exact h1 _ a ih
 rw [← List.reverse_reverse l]
 exact this _
theorem K.met {P:Wd->Prop} {S:St} {nd:Wd->Option Nat} {wd:List Wd} (H:K P S nd wd) {k:Nat} (hk:wd.length<=k):∃ l,bfs S k [0] 0=Option.some (0 :: l)/\(0 :: l).Nodup/\(∀ x,x∈0 :: l ↔ x < wd.length)/\(0 :: l).length=wd.length:=by
 have L:S.lg.length=wd.length:=H.i.len.symm
 obtain ⟨l,e,h1,h2,h3⟩:=zX H.i.wf k [0] 0 (by simp) (fun x hx=>by rw [Zb.mp hx];exact H.i.wf.pos) (Yk _) (by omega) (fun i hi=>absurd hi (Nat.not_lt_zero _))
 have h0:∀ (x:Wd) n,nd x=Option.some n->n∈0 :: l:=by
  intro x
  induction x using yi with
  | h0=>intro n e;rw [H.i.z] at e;cases e;exact Zw
  | h1 x c ih =>
   intro n e
   obtain ⟨m,hm⟩:=H.i.pre e
   exact h3 m (ih m hm) c n (by rw [H.i.wy hm];exact e)
 have hx:∀ x,x∈0 :: l ↔ x < wd.length:=fun x=>⟨fun z=>by rw [← L];exact h2 x z,fun z=>h0 _ x (H.i.top z)⟩
 refine ⟨l,e,h1,hx,Nat.le_antisymm ?_ ?_⟩
 ·have:=sub_len (0 :: l) (List.range wd.length) h1 fun x z=>Ye.mpr ((hx x).mp z)
  rwa [ZC] at this
 ·have:=sub_len (List.range wd.length) (0 :: l) List.nodup_range fun x z=>(hx x).mpr (Ye.mp z)
  rwa [ZC] at this
end AU
end
section
namespace T09
open VS AU
theorem xb (w:List (Nat×Nat)) (c:Nat):c∈w.map (·.1) ↔ (gW w c).isSome=true:=by
 rw [← As,YS,ZG]
 exact ⟨fun ⟨p,h1,h2⟩=>⟨p,h1,by rw [h2];exact beq_self_eq_true c⟩,fun ⟨p,h1,h2⟩=>⟨p,h1,by simpa using h2⟩⟩
theorem q9 {w:List (Nat×Nat)} (nd:(w.map (·.1)).Nodup) (az:∀ p∈w,97<=p.1/\p.1<=122):(sk w).Perm (w.map (·.1)):=by
 refine (List.perm_ext_iff_of_nodup ?_ nd).mpr fun c=>?_
 ·exact List.Nodup.sublist List.filter_sublist X1
 ·rw [xb]
  constructor
  ·intro h
   exact (YZ.mp h).2
  ·intro h
   obtain ⟨m,e⟩:=YX.mp h
   exact pP az e
theorem uN {m:Md} {w:List (Nat×Nat)} (nd:(w.map (·.1)).Nodup) (az:∀ p∈w,97<=p.1/\p.1<=122):fD [(m,wT' w)]=some (.fr,.lst ((sk w).map fun c=>T.str [c])):=by
 show ((strs? ((w.map fun p=>(T.str [p.1],T.int (p.2:Int))).map (·.1))).bind _)=_
 have e1:(w.map fun p=>(T.str [p.1],T.int (p.2:Int))).map (·.1)=(w.map (·.1)).map fun c=>T.str [c]:=by
  rw [Z1,Z1]
  rfl
 rw [e1,strs_map (fun c=>[c]),Zt,Zq]
 ·have:(sk w).map (fun c=>[c])=d5 ((w.map (·.1)).map fun c=>[c]):=by
   refine mJ ((q9 nd az).map _) ?_
   rw [Xn]
   refine List.Pairwise.imp ?_ (List.Pairwise.filter _ (List.pairwise_lt_range' (s:=97) (n:=26)))
   intro a b hab h
   rcases Xz.mp h with h | ⟨_,h⟩
   ·omega
   ·exact absurd h (List.not_lt_nil _)
  rw [← this,Z1]
  rfl
 ·refine ⟨?_,Yq.mpr ?_⟩
  ·rw [Zy,← (q9 nd az).length_eq]
   have:(sk w).length<=(List.range' 97 26).length:=XX _ _
   rw [Y1] at this
   omega
  intro s hs
  obtain ⟨c,hc,rfl⟩:=ZG.mp hs
  obtain ⟨p,hp,rfl⟩:=ZG.mp hc
  have:=az p hp
  show (decide (1<=eO) && (decide (p.1 < 1114112) && true))=true
  rw [decide_eq_true (show p.1 < 1114112 by omega)]
  rfl
noncomputable def nE:Nat->Wo->List (T×T)
 | _,[]=>[]
 | k,n :: r=>(T.int (n:Int),T.int (k:Int)) :: nE (k+1) r
theorem t6:∀ (met:Wo) (k:Nat),(nE k met).length=met.length
 | [],_=>rfl
 | _ :: r,k=>by rw [nE,Zk,Zk,t6 r]
theorem ny:∀ (met:Wo) (k:Nat),(nE k met).map (·.1)=met.map fun (n:Nat)=>T.int (n:Int)
 | [],_=>rfl
 | _ :: r,k=>by rw [nE,Zn,Zn,ny r]
theorem tV:∀ (met:Wo) (k n:Nat),nE k (met++[n])=nE k met++[(T.int (n:Int),T.int ((k+met.length:Nat):Int))]
 | [],k,n=>rfl
 | m :: r,k,n=>by
  rw [Xg,nE,nE,tV r (k+1) n,Zk,Xg]
  rw [show k+1+r.length=k+(r.length+1) by omega]
theorem Da (a b:Nat):eqT (.int (a:Int)) (.int (b:Int))=(a == b):=by
 simp only [eqT]
 by_cases h:a=b
 ·simp [h]
 ·have h1:¬ (a:Int)=(b:Int):=by omega
  rw [ZV.mpr h,ZV.mpr h1]
theorem nR:∀ (met:Wo) (k n:Nat),dI (nE k met) (.int (n:Int))=if n∈met then some (T.int ((k+met.idxOf n:Nat):Int)) else none
 | [],_,_=>rfl
 | m :: r,k,n=>by
  show ((((T.int (m:Int),T.int (k:Int)) :: nE (k+1) r).find? fun p=>eqT p.1 (.int (n:Int))).map (·.2))=_
  rw [Z8]
  simp only [Da]
  by_cases h:m=n
  ·subst h
   simp [Xa]
  ·have hb:(m == n)=false:=ZV.mpr h
   have ih:=nR r (k+1) n
   unfold dI at ih
   simp only [hb]
   rw [ih,Xa,hb]
   by_cases q:n∈r
   ·rw [Zq q,Zq (Zx _ q)]
    show some (T.int ((k+1+r.idxOf n:Nat):Int))=some (T.int ((k+(r.idxOf n+1):Nat):Int))
    rw [show k+1+r.idxOf n=k+(r.idxOf n+1) by omega]
   ·rw [Zo q,Zo (fun z=>(Zg.mp z).elim (fun e=>h e.symm) q)]
theorem AD (met:Wo) (n:Nat) (h:n ∉ met):dput (nE 0 met) (.int (n:Int)) (.int (met.length:Int))=nE 0 (met++[n]):=by
 unfold dput
 rw [Zo,tV]
 ·rw [Xr]
 ·intro z
  obtain ⟨p,hp,e⟩:=YS.mp z
  have:(dI (nE 0 met) (.int (n:Int))).isSome=true:=by
   unfold dI
   rw [Yo,X4]
   exact ⟨p,hp,e⟩
  rw [nR,Zo h] at this
  cases this
noncomputable def nT (met:Wo):T:=.dct 0 (nE 0 met)
noncomputable def mT (met:Wo):T:=.lst (met.map fun (n:Nat)=>T.int (n:Int))
theorem zj {η:Env} {m k:Md} {met:Wo} {n:Nat} {a e:Ex} (h:a η=some (m,nT met)) (he:e η=some (k,.int (n:Int))):e2 cH e a η=some (.fr,.bl (decide (n ∉ met))):=e2v he h (by
 show (match (if true=true then some (Md.fr,T.bl (dI (nE 0 met) (.int (n:Int))).isSome) else none) with | some (_,.bl b)=>some (Md.fr,T.bl (!b)) | _=>none)=_
 rw [Zq rfl,nR]
 by_cases q:n∈met
 ·rw [Zq q,ZZ (fun z=>z q)];rfl
 ·rw [Zo q,decide_eq_true q];rfl)
section
variable {S:St} {w:List (Nat×Nat)}
theorem wt {d:Nat} {ob:Wj}:∀ (r met:Wo) (z:Wj),(∀ c∈r,∃ m,gW w c=some m)->met.length+r.length < 16777216->∃ z',forL (bw 5) bf (r.map fun c=>T.str [c]) [ob,oc (nT met),oc (mT met),pc (.int (d:Int)),pc (wT' w),z]=some (.nx [ob,oc (nT (visit w r met)),oc (mT (visit w r met)),pc (.int (d:Int)),pc (wT' w),z'])
 | [],met,z,_,_=>⟨z,rfl⟩
 | c :: r,met,z,hr,hl=>by
  obtain ⟨m,e⟩:=hr c Zw
  rw [Zk] at hl
  have hlen:(nE 0 met).length=met.length:=t6 met 0
  by_cases q:m∈met
  ·obtain ⟨z',ih⟩:=wt r met (pc (.str [c])) (fun d hd=>hr d (Zx _ hd)) (by omega)
   refine ⟨z',?_⟩
   have ev:visit w (c :: r) met=visit w r met:=by
    show visit w r (if (gW w c).getD 0∈met then met else met++[(gW w c).getD 0])=_
    rw [e,Yf,Zq q]
   rw [ev,Zn]
   refine (jc (η1:=[ob,oc (nT met),oc (mT met),pc (.int (d:Int)),pc (wT' w),pc (.str [c])]) rfl ?_).trans ih
   unfold bf
   refine (iy (m:=.fr) ?_).trans rfl
   refine (zj (m:=.bo) (k:=.fr) (met:=met) (n:=m) rfl (tQ (m:=.pu) (n:=.fr) (c:=c) (w:=w) rfl rfl e)).trans ?_
   rw [ZZ (fun z=>z q)]
  ·obtain ⟨z',ih⟩:=wt r (met++[m]) (pc (.str [c])) (fun d hd=>hr d (Zx _ hd)) (by rw [Zv,ZS];omega)
   refine ⟨z',?_⟩
   have ev:visit w (c :: r) met=visit w r (met++[m]):=by
    show visit w r (if (gW w c).getD 0∈met then met else met++[(gW w c).getD 0])=_
    rw [e,Yf,Zo q]
   rw [ev,Zn]
   refine (jc (η1:=[ob,oc (nT met),oc (mT met),pc (.int (d:Int)),pc (wT' w),pc (.str [c])]) rfl ?_).trans ih
   unfold bf
   refine (kf (m:=.fr) ?_).trans ?_
   ·refine (zj (m:=.bo) (k:=.fr) (met:=met) (n:=m) rfl (tQ (m:=.pu) (n:=.fr) (c:=c) (w:=w) rfl rfl e)).trans ?_
    rw [decide_eq_true q]
   ·have ix1:∀ nn mm:Wj,e2 oIx (ab 4) (ab 5) [ob,nn,mm,pc (.int (d:Int)),pc (wT' w),pc (.str [c])]=some (.fr,.int (m:Int)):=fun nn mm=>tQ (m:=.pu) (n:=.fr) (c:=c) (w:=w) rfl rfl e
    have p1:iB 1 (e2 oIx (ab 4) (ab 5)) (eN bX (ae (ab 2) aj)) [ob,oc (nT met),oc (mT met),pc (.int (d:Int)),pc (wT' w),pc (.str [c])]=some (.nx [ob,oc (nT (met++[m])),oc (mT met),pc (.int (d:Int)),pc (wT' w),pc (.str [c])]):=by
     have l1:eN bX (ae (ab 2) aj) [ob,oc (nT met),oc (mT met),pc (.int (d:Int)),pc (wT' w),pc (.str [c])]=some (.fr,.int (met.length:Int)):=gR (xv (x:=(.bo,mT met)) rfl rfl) (by
      show some (Md.fr,T.int (((met.map fun (n:Nat)=>T.int (n:Int)).length:Nat):Int))=_
      rw [Zy])
     unfold iB
     rw [l1,Zt]
     show ((e2 oIx (ab 4) (ab 5) [ob,oc (nT met),oc (mT met),pc (.int (d:Int)),pc (wT' w),pc (.str [c])]).bind _)=_
     rw [ix1,Zt]
     show (if true=true/\true=true/\(nE 0 met).length < eO then some (Out.nx [ob,oc (.dct 0 (dput (nE 0 met) (.int (m:Int)) (.int (met.length:Int)))),oc (mT met),pc (.int (d:Int)),pc (wT' w),pc (.str [c])]) else none)=_
     rw [Zq ⟨rfl,rfl,by rw [hlen];show met.length < 16777216;omega⟩,AD met m q]
     rfl
    refine (ak p1).trans ?_
    refine (vz (i:=2) (l:=met.map fun (n:Nat)=>T.int (n:Int)) (v:=.int (m:Int)) rfl (ix1 _ _) (by rw [Zy];omega)).trans ?_
    rw [show (met.map fun (n:Nat)=>T.int (n:Int))++[.int (m:Int)]=(met++[m]).map fun (n:Nat)=>T.int (n:Int) from by rw [Z6];rfl]
    rfl
end
theorem nL (w:List (Nat×Nat)):(sk w).length<=26:=by
 refine ZF (XX _ _) ?_
 rw [Y1]
 exact Zl _
theorem x9 {S:St} {met:Wo} (nd:met.Nodup) (lt:∀ x∈met,x < S.lg.length):met.length<=S.lg.length:=by
 have:=sub_len met (List.range S.lg.length) nd fun x hx=>Ye.mpr (lt x hx)
 rwa [ZC] at this
theorem Dq {S:St} (WS:WF S) (hs:S.lg.length<=100001):∀ (k:Nat) (met:Wo) (d:Nat) (M:Wo),met.Nodup->(∀ x∈met,x < S.lg.length)->bfs S k met d=some M->∀ N,k < N->∀ z4 z5:Wj,∃ d' z4' z5',
  eQ (e2 oLt (ab 3) (eN bX (ae (ab 2) aj))) bU N [pc (obT S false),oc (nT met),oc (mT met),pc (.int ((d:Nat):Int)),z4,z5] =
   some (.nx [pc (obT S false),oc (nT M),oc (mT M),pc d',z4',z5']):=by
 have cond:∀ (met:Wo) (d:Nat) (z4 z5:Wj),e2 oLt (ab 3) (eN bX (ae (ab 2) aj)) [pc (obT S false),oc (nT met),oc (mT met),pc (.int ((d:Nat):Int)),z4,z5]=some (.fr,.bl (decide (d < met.length))):=fun met d z4 z5 =>
  e2v (x:=(.fr,.int (d:Int))) rfl (gR (v:=(.fr,.int (met.length:Int))) (xv (x:=(.bo,mT met)) rfl rfl) (by
   show some (Md.fr,T.int (((met.map fun (n:Nat)=>T.int (n:Int)).length:Nat):Int))=_
   rw [Zy])) (by
   show some (Md.fr,T.bl (decide ((d:Int) < (met.length:Int))))=_
   rw [show decide ((d:Int) < (met.length:Int))=decide (d < met.length) from decide_eq_decide.mpr (by omega)])
 intro k
 induction k with
 | zero =>
  intro met d M nd lt e N hN z4 z5
  obtain ⟨N,rfl⟩:∃ M,N=M+1:=⟨N - 1,by omega⟩
  unfold bfs at e
  split at e
  ·cases e
  ·rename_i h
   cases e
   exact ⟨_,z4,z5,fW (m:=.fr) ((cond _ _ _ _).trans (by rw [ZZ h]))⟩
 | succ k ih =>
  intro met d M nd lt e N hN z4 z5
  obtain ⟨N,rfl⟩:∃ M,N=M+1:=⟨N - 1,by omega⟩
  unfold bfs at e
  split at e
  ·rename_i h
   have hn:=lt _ (getD_mem h)
   have hnw:met.getD d 0 < S.wy.length:=by rw [WS.wy];exact hn
   have ml:=x9 nd lt
   have sl:=nL (S.wy.getD (met.getD d 0) [])
   obtain ⟨z',l1⟩:=wt (w:=S.wy.getD (met.getD d 0) []) (d:=d) (ob:=pc (obT S false)) (sk (S.wy.getD (met.getD d 0) [])) met z5 (fun c hc=>gE hc) (by omega)
   obtain ⟨d',y4,y5,q⟩:=ih _ (d+1) M (ly _ _ nd) (hJ (fun c m e=>WS.on _ c m e) _ _ (fun c hc=>gE hc) lt) e N (by omega) (pc (wT' (S.wy.getD (met.getD d 0) []))) z'
   refine ⟨d',y4,y5,(nS (m:=.fr) ((cond _ _ _ _).trans (by rw [decide_eq_true h])) ?_).trans q⟩
   unfold bU
   have ix:e2 ax (ab 2) (ab 3) [pc (obT S false),oc (nT met),oc (mT met),pc (.int ((d:Nat):Int)),z4,z5]=some (.fr,.int ((met.getD d 0:Nat):Int)):=e2v (x:=(.bo,mT met)) (y:=(.fr,.int (d:Int))) rfl rfl (lF _ met d 0 h)
   have s1:aC 4 (e2 ax (aV 3 (ab 0)) (e2 ax (ab 2) (ab 3))) [pc (obT S false),oc (nT met),oc (mT met),pc (.int ((d:Nat):Int)),z4,z5]=some (.nx [pc (obT S false),oc (nT met),oc (mT met),pc (.int ((d:Nat):Int)),pc (wT' (S.wy.getD (met.getD d 0) [])),z5]) :=
    aK (m:=.pu) (lj (S:=S) (b:=false) (m:=.pu) (n:=.fr) rfl ix hnw) (by decide) (by decide:4 < 6)
   refine (ak s1).trans ?_
   have nw:=WS.wnd (met.getD d 0)
   refine (ak ((d9 (m:=.fr) (l:=(sk (S.wy.getD (met.getD d 0) [])).map fun c=>T.str [c]) ?_ rfl).trans l1)).trans ?_
   ·show (eN fD (ae (ab 4) aj) _).bind xr=_
    rw [gR (xv (x:=(.pu,wT' (S.wy.getD (met.getD d 0) []))) rfl rfl) (uN nw.1 nw.2)]
    rfl
   ·exact aK (m:=.fr) (t:=.int (((d+1:Nat)):Int)) rfl (by decide) (by decide:3 < 6)
  ·rename_i h
   cases e
   exact ⟨_,z4,z5,fW (m:=.fr) ((cond _ _ _ _).trans (by rw [ZZ h]))⟩
theorem BE {S:St} (WS:WF S) (hs:S.lg.length<=100001) {M:Wo} {k:Nat} (hk:k < 1000000) (e:bfs S k [0] 0=some M):aE [obT S false]=some (.fr,nT M):=by
 obtain ⟨d',z4,z5,q⟩:=Dq WS hs k [0] 0 M (by simp) (fun x hx=>by rw [Zb.mp hx];exact WS.pos) e uY (by show k < 1000000;exact hk) none none
 refine fF (η:=[pc (obT S false),none,pc (mT M),pc d',z4,z5]) rfl ?_
 exact (ak rfl).trans ((ak rfl).trans ((ak rfl).trans ((ak q).trans ((ak rfl).trans rfl))))
noncomputable def stT (l:List (Nat×Nat)):T:=.tup (l.map fun p=>T.tup [.str [p.1],.int (p.2:Int)])
noncomputable def bO (r:Row):T:=.tup [.int (r.1:Int),.int (r.2.1:Int),lkT r.2.2.1,stT r.2.2.2]
theorem qG:∀ l:List (Nat×Nat),eK (l.map fun p=>T.tup [.str [p.1],.int (p.2:Int)])=true
 | []=>rfl
 | p :: l=>by
  rw [Zn]
  show (true && eK _)=true
  rw [qG l]
  rfl
theorem nO (l:List (Nat×Nat)):imm (stT l)=true:=qG l
theorem wZ (r:Row):imm (bO r)=true:=by
 show (true && (true && (imm (lkT r.2.2.1) && (imm (stT r.2.2.2) && true))))=true
 rw [jD,nO]
 rfl
theorem C6 {a b c d:Ex} {η:Env} {x y z w:T} (h1:a η=some (.fr,x)) (h2:b η=some (.fr,y)) (h3:c η=some (.fr,z)) (h4:d η=some (.fr,w)):j7 (ae a (ae b (ae c (ae d aj)))) η=some (.fr,.tup [x,y,z,w]):=by
 show (ae a (ae b (ae c (ae d aj))) η).bind rA=_
 rw [xv h1 (xv h2 (xv h3 (xv (r:=aj) h4 rfl))),Zt]
 show some (up .fr _)=_
 unfold up
 split <;> rfl
theorem BU {S:St} (WS:WF S) {met:Wo} (all:∀ x,x < S.lg.length->x∈met) {n:Nat} (hn:n < S.lg.length):bS [obT S false,.int (n:Int),.dct 3 (nE 0 met)]=some (.fr,bO (row S met n)):=by
 have hw:n < S.wy.length:=by rw [WS.wy];exact hn
 have hk:n < S.lk.length:=by rw [WS.lk];exact hn
 have nw:=WS.wnd n
 have get:∀ v,v < S.lg.length->dI (nE 0 met) (.int (v:Int))=some (T.int ((met.idxOf v:Nat):Int)):=fun v hv=>by rw [nR,Zq (all v hv),Xr]
 have s1:aC 3 (e2 ax (aV 2 (ab 0)) (ab 1)) [pc (obT S false),pc (.int (n:Int)),pc (.dct 3 (nE 0 met)),none,none,none]=some (.nx [pc (obT S false),pc (.int (n:Int)),pc (.dct 3 (nE 0 met)),pc (lkT (S.lk.getD n none)),none,none]):=aK (m:=.fr) (qL (S:=S) (b:=false) (m:=.pu) (n:=.fr) rfl rfl hk) (by decide) (by decide:3 < 6)
 have s2:aC 4 (e2 ax (aV 3 (ab 0)) (ab 1)) [pc (obT S false),pc (.int (n:Int)),pc (.dct 3 (nE 0 met)),pc (lkT (S.lk.getD n none)),none,none]=some (.nx [pc (obT S false),pc (.int (n:Int)),pc (.dct 3 (nE 0 met)),pc (lkT (S.lk.getD n none)),pc (wT' (S.wy.getD n [])),none]):=aK (m:=.pu) (lj (S:=S) (b:=false) (m:=.pu) (n:=.fr) rfl rfl hw) (by decide) (by decide:4 < 6)
 have c5:eN ik (ae (cM 1 (bw 0) (fK (eN fD (ae (ab 4) aj))) none (j7 (ae (ab 0) (ae (e2 lT (ab 3) (e2 oIx (ab 5) (ab 0))) aj)))) aj) [pc (obT S false),pc (.int (n:Int)),pc (.dct 3 (nE 0 met)),pc (lkT (S.lk.getD n none)),pc (wT' (S.wy.getD n [])),none]=some (.fr,stT (steps S met n)):=by
  have c1:=gw (k:=1) (tg:=bw 0) (it:=fK (eN fD (ae (ab 4) aj))) (elt:=j7 (ae (ab 0) (ae (e2 lT (ab 3) (e2 oIx (ab 5) (ab 0))) aj))) (m:=.fr) (η:=[pc (obT S false),pc (.int (n:Int)),pc (.dct 3 (nE 0 met)),pc (lkT (S.lk.getD n none)),pc (wT' (S.wy.getD n [])),none]) (fun c=>T.str [c]) (fun c=>T.tup [.str [c],.int ((met.idxOf ((gW (S.wy.getD n []) c).getD 0):Nat):Int)]) (sk (S.wy.getD n [])) (by
   show (eN fD (ae (ab 4) aj) _).bind xr=_
   rw [gR (xv (x:=(.pu,wT' (S.wy.getD n []))) rfl rfl) (uN nw.1 nw.2)]
   rfl) rfl (ZF (nL _) (by decide)) (fun c hc=>by
   obtain ⟨v,ev⟩:=gE hc
   refine ⟨[pc (.str [c]),pc (obT S false),pc (.int (n:Int)),pc (.dct 3 (nE 0 met)),pc (lkT (S.lk.getD n none)),pc (wT' (S.wy.getD n [])),none],rfl,?_⟩
   have i1:e2 lT (ab 3) (e2 oIx (ab 5) (ab 0)) [pc (.str [c]),pc (obT S false),pc (.int (n:Int)),pc (.dct 3 (nE 0 met)),pc (lkT (S.lk.getD n none)),pc (wT' (S.wy.getD n [])),none]=some (.fr,.int ((met.idxOf v:Nat):Int)) :=
    e2v (x:=(.pu,.dct 3 (nE 0 met))) rfl (tQ (m:=.pu) (n:=.fr) (c:=c) (w:=S.wy.getD n []) rfl rfl ev) (by
     show (if true=true then (dI (nE 0 met) (.int (v:Int))).map (sub .pu) else none)=_
     rw [Zq rfl,get v (WS.on n c v ev)]
     rfl)
   rw [ev,Yf]
   show (ae (ab 0) (ae (e2 lT (ab 3) (e2 oIx (ab 5) (ab 0))) aj) _).bind rA=_
   rw [xv (x:=(.fr,.str [c])) rfl (xv (r:=aj) i1 rfl)]
   rfl)
  refine gR (xv (r:=aj) c1 rfl) ?_
  show (if _<=eO then some (up .fr (.tup _)) else none)=_
  rw [Zq (by rw [Zy];exact ZF (nL _) (by decide))]
  have:T.tup ((sk (S.wy.getD n [])).map fun c=>T.tup [.str [c],.int ((met.idxOf ((gW (S.wy.getD n []) c).getD 0):Nat):Int)])=stT (steps S met n):=by
   unfold stT steps
   rw [Z1]
   rfl
  rw [this]
  unfold up
  rw [nO]
  rfl
 have s3:=aK (i:=5) c5 (by decide) (by decide:5 < 6)
 have v5:∀ η:Env,η[5]?=some (pc (stT (steps S met n)))->ab 5 η=some (.fr,stT (steps S met n)):=fun η h=>by
  show (match η[5]? with | some (some (.pu t))=>some (up .pu t) | some (some (.ow t))=>some (.bo,t) | _=>none)=_
  rw [h]
  show some (up .pu _)=_
  unfold up
  rw [nO]
  rfl
 unfold row
 cases el:S.lk.getD n none with
 | none =>
  rw [el] at s1 s2 s3
  refine fF (v:=(.fr,bO (0,0,none,steps S met n))) (η:=[pc (obT S false),pc (.int (n:Int)),pc (.dct 3 (nE 0 met)),pc (lkT none),pc (wT' (S.wy.getD n [])),pc (stT (steps S met n))]) rfl ?_
  refine (ak s1).trans ((ak s2).trans ((ak s3).trans (iY ((kf (m:=.fr) rfl).trans (dA (C6 rfl rfl rfl (v5 _ rfl)))))))
 | some l =>
  rw [el] at s1 s2 s3
  have hl:=WS.up n l el
  refine fF (v:=(.fr,bO (S.lg.getD l 0+1,S.lg.getD n 0,some (met.idxOf l),steps S met n))) (η:=[pc (obT S false),pc (.int (n:Int)),pc (.dct 3 (nE 0 met)),pc (lkT (some l)),pc (wT' (S.wy.getD n [])),pc (stT (steps S met n))]) rfl ?_
  refine (ak s1).trans ((ak s2).trans ((ak s3).trans ((ak ((iy (m:=.fr) rfl).trans rfl)).trans (dA (C6 ?_ ?_ ?_ (v5 _ rfl))))))
  ·exact e2v (pk (S:=S) (b:=false) (m:=.pu) (n:=.fr) (i:=l) rfl rfl hl) rfl rfl
  ·exact pk (S:=S) (b:=false) (m:=.pu) (n:=.fr) (i:=n) rfl rfl hn
  ·exact e2v (x:=(.pu,.dct 3 (nE 0 met))) (y:=(.fr,.int (l:Int))) rfl rfl (by
    show (if true=true then (dI (nE 0 met) (.int (l:Int))).map (sub .pu) else none)=_
    rw [Zq rfl,get l hl]
    rfl)
noncomputable def tbT (t:List Row):T:=.lst (t.map bO)
theorem Ab {S:St} (WS:WF S) (hs:S.lg.length<=100001) {M:Wo} {k:Nat} (hk:k < 1000000) (e:bfs S k [0] 0=some M) (all:∀ x,x∈M ↔ x < S.lg.length) (hl:M.length<=16777216):dr [obT S false]=some (.fr,tbT (tab S M)):=by
 have n1:=BE WS hs hk e
 refine fF (η:=[pc (obT S false),none]) rfl ?_
 have s1:lX 1 (dC 0 aE (ab 0) aj) [pc (obT S false),none]=some (.nx [pc (obT S false),oc (nT M)]):=by
  show (dC 0 aE (ab 0) aj [pc (obT S false),none]).bind _=_
  have:dC 0 aE (ab 0) aj [pc (obT S false),none]=some (.fr,nT M):=by
   show ((aE [obT S false]).bind _)=_
   rw [n1]
   rfl
  rw [this]
  rfl
 refine (ak s1).trans ?_
 have c1:=gw (k:=1) (tg:=bw 0) (it:=oU 1) (elt:=dC 0 bS (ab 1) (ae (ab 0) (ae (ab 2) aj))) (m:=.fr) (η:=[pc (obT S false),pc (.dct 3 (nE 0 M))]) (fun (n:Nat)=>T.int (n:Int)) (fun n=>bO (row S M n)) M (by
  show (if ((nE 0 M).all fun p=>isInt p.1)=true then some (Md.fr,(nE 0 M).map (·.1)) else none)=_
  rw [Zq,ny]
  rw [Yq]
  intro p hp
  have:p.1∈(nE 0 M).map (·.1):=List.mem_map_of_mem hp
  rw [ny] at this
  obtain ⟨n,_,e⟩:=ZG.mp this
  rw [← e]
  rfl) rfl hl (fun n hn=>by
  refine ⟨[pc (.int (n:Int)),pc (obT S false),pc (.dct 3 (nE 0 M))],rfl,?_⟩
  show ((bS [obT S false,.int (n:Int),.dct 3 (nE 0 M)]).bind _)=_
  rw [BU WS (fun x hx=>(all x).mpr hx) ((all n).mp hn)]
  rfl)
 show ((cM 1 (bw 0) (oU 1) none (dC 0 bS (ab 1) (ae (ab 0) (ae (ab 2) aj))) [pc (obT S false),pc (.dct 3 (nE 0 M))]).bind _)=_
 rw [c1]
 unfold tbT tab
 rw [Z1]
 rfl
noncomputable def fsM (tx:List Tx) (hd:Wo) (S:St):n6:=[(4,.lst (tx.map .str)),(5,.lst (hd.map fun (n:Nat)=>T.int (n:Int))),(6,obT S false)]
noncomputable def maT (tx:List Tx) (hd:Wo) (S:St) (b:Bool):T:=.obj 2 ((0,.bl b) :: fsM tx hd S)
theorem wL (S:St):eZ (obT S false)=true:=by
 show ((true && !(0 == 0 && false)) && dH (fsT S))=true
 rw [js]
 rfl
theorem iX (tx:List Tx) (hd:Wo) (S:St):dH (fsM tx hd S)=true:=by
 have h1:eZ (.lst (tx.map T.str))=true:=d6 _ (fun _=>rfl) _
 have h2:eZ (.lst (hd.map fun (n:Nat)=>T.int (n:Int)))=true:=d6 _ (fun _=>rfl) _
 show ((eZ _ && !(4 == 0 && isT _)) && ((eZ _ && !(5 == 0 && isT _)) && ((eZ _ && !(6 == 0 && isT _)) && true)))=true
 rw [h1,h2,wL]
 rfl
theorem yk (tx:List Tx) (hd:Wo) (S:St) (b:Bool):nJ 4 (maT tx hd S b)=some (.lst (tx.map .str)):=rfl
theorem D5 (tx:List Tx) (hd:Wo) (S:St) (b:Bool):nJ 5 (maT tx hd S b)=some (.lst (hd.map fun (n:Nat)=>T.int (n:Int))):=rfl
theorem DJ (tx:List Tx) (hd:Wo) (S:St) (b:Bool):nJ 6 (maT tx hd S b)=some (obT S false):=rfl
section
variable {tx:List Tx} {hd:Wo} {S S':St} {b:Bool} {r:List (Wj)}
theorem vV {a:Ex} {η:Env} {m:Md} (h:a η=some (m,maT tx hd S b)):eN bX (ae (aV 4 a) aj) η=some (.fr,.int (tx.length:Nat)):=gR (xv (fX h (yk tx hd S b)) rfl) (by
 show some (Md.fr,T.int (((tx.map T.str).length:Nat):Int))=_
 rw [Zy])
theorem A9 {e:Ex} {v:Tx} (h:e (oc (maT tx hd S b) :: r)=some (.fr,.str v)) (hl:tx.length < 16777216):sX (gv 0 [.fld 4] aD (ae e aj)) (oc (maT tx hd S b) :: r)=some (.nx (oc (maT (tx++[v]) hd S b) :: r)):=by
 show (((some [Ky.fld 4]).bind fun ks=>(ae e aj (oc (maT tx hd S b) :: r)).bind fun xs=>(pm (fun x=>aD x xs) ks (maT tx hd S b)).map _).map _)=_
 rw [Zt,xv (r:=aj) h rfl,Zt]
 show (((aD (.lst (tx.map T.str)) [(.fr,.str v)]).map _).map _ |>.map _)=_
 rw [dY (by rw [Zy];exact hl),show (tx.map T.str)++[.str v]=(tx++[v]).map T.str from by rw [Z6];rfl]
 rfl
theorem zy {e:Ex} {v:Nat} (h:e (oc (maT tx hd S b) :: r)=some (.fr,.int (v:Int))) (hl:hd.length < 16777216):sX (gv 0 [.fld 5] aD (ae e aj)) (oc (maT tx hd S b) :: r)=some (.nx (oc (maT tx (hd++[v]) S b) :: r)):=by
 show (((some [Ky.fld 5]).bind fun ks=>(ae e aj (oc (maT tx hd S b) :: r)).bind fun xs=>(pm (fun x=>aD x xs) ks (maT tx hd S b)).map _).map _)=_
 rw [Zt,xv (r:=aj) h rfl,Zt]
 show (((aD (.lst (hd.map fun (n:Nat)=>T.int (n:Int))) [(.fr,.int (v:Int))]).map _).map _ |>.map _)=_
 rw [dY (by rw [Zy];exact hl),show (hd.map fun (n:Nat)=>T.int (n:Int))++[.int (v:Int)]=(hd++[v]).map fun (n:Nat)=>T.int (n:Int) from by rw [Z6];rfl]
 rfl
theorem uC (hl:tx.length < 8) (hh:hd.length=tx.length):bp (fsM tx hd S) []=some (fsM (tx++[[]]) (hd++[0]) S,.int (tx.length:Int)):=by
 unfold bp mfn
 rw [Zq ⟨rfl,rfl⟩]
 have c1:e2 oGe (eN bX (ae (aV 4 (ab 0)) aj)) (eC (.int 8)) [oc (maT tx hd S true)]=some (.fr,.bl false):=e2v (vV (m:=.bo) rfl) rfl (by
  show some (Md.fr,T.bl (decide ((8:Int)<=(tx.length:Int))))=_
  rw [ZZ (by omega)])
 have a1:=A9 (tx:=tx) (hd:=hd) (S:=S) (b:=true) (r:=[]) (e:=eC (.str [])) (v:=[]) rfl (by omega)
 have a2:=zy (tx:=tx++[[]]) (hd:=hd) (S:=S) (b:=true) (r:=[]) (e:=eC (.int 0)) (v:=0) rfl (by omega)
 have a4:=dA (e:=e2 jF (eN bX (ae (aV 4 (ab 0)) aj)) (eC (.int 1))) (η:=[oc (maT (tx++[[]]) (hd++[0]) S true)]) (t:=.int (tx.length:Int)) (e2v (vV (m:=.bo) rfl) rfl (by
  show some (Md.fr,T.int ((((tx++[[]]).length:Nat):Int) - 1))=_
  rw [Zv,ZS,show (((tx.length+1:Nat)):Int) - 1=(tx.length:Int) by omega]))
 exact congrArg (fun z:Option Out=>z.bind _) ((ak ((iy c1).trans rfl)).trans ((ak a1).trans ((ak a2).trans a4)))
theorem rS {i:Nat} (hi:i < tx.length):bx [.lst (tx.map .str),.int (i:Int)]=some (.fr,.non):=by
 refine C4 (η:=[pc (.lst (tx.map .str)),pc (.int (i:Int))]) rfl ?_
 refine (iy (m:=.fr) (zu (m:=.fr) (x:=false) ?_ (fun _=>?_) (fun h=>by cases h))).trans rfl
 ·exact qf (m:=.fr) (b:=true) rfl
 ·refine qf (m:=.fr) (b:=true) (yL (x:=(.fr,.int 0)) (y:=(.fr,.int (i:Int))) (z:=(.fr,.int (tx.length:Int))) rfl rfl ?_ ?_ ?_)
  ·show some (Md.fr,T.bl (decide ((0:Int)<=(i:Int))))=_
   rw [decide_eq_true (by omega)]
  ·exact gR (xv (x:=(.pu,.lst (tx.map T.str))) (by
    show some (up .pu (.lst (tx.map T.str)))=_
    rfl) rfl) (by
    show some (Md.fr,T.int (((tx.map T.str).length:Nat):Int))=_
    rw [Zy])
  ·show some (Md.fr,T.bl (decide ((i:Int) < (tx.length:Int))))=_
   rw [decide_eq_true (by omega)]
end
noncomputable def bK (tx:List Tx):Nat:=(tx.map List.length).sum
theorem qV:∀ tx:List Tx,(tx.map fun t=>(t.length:Int)).sum=(bK tx:Int)
 | []=>rfl
 | t :: tx=>by
  rw [Zn,YW,qV tx]
  unfold bK
  rw [Zn,YW]
  omega
theorem vX (tx:List Tx) (hl:tx.length<=16777216):fC [.lst (tx.map .str)]=some (.fr,.int (bK tx:Int)):=by
 refine fF (η:=[pc (.lst (tx.map .str))]) rfl ?_
 refine dA (gR (xv (r:=aj) (gw (m:=.pu) T.str (fun (t:Tx)=>T.int (t.length:Int)) tx rfl rfl hl (fun t ht=>⟨[pc (.str t),pc (.lst (tx.map .str))],rfl,rfl⟩)) rfl) ?_)
 show (jX (tx.map fun (t:Tx)=>T.int (t.length:Int))).bind _=_
 rw [ints_map (fun (t:Tx)=>(t.length:Int)),Zt,qV]
section
variable {tx:List Tx} {hd:Wo} {S S':St} {b:Bool}
theorem BA {i v:Nat} {e ev:Ex} {n:Md} {r:List (Wj)} (hi:i < hd.length) (he:e (oc (maT tx hd S b) :: r)=some (n,.int (i:Int))) (hv:ev (oc (maT tx hd S b) :: r)=some (.fr,.int (v:Int))) :
  dN 0 [.fld 5] e ev (oc (maT tx hd S b) :: r)=some (.nx (oc (maT tx (hd.set i v) S b) :: r)):=by
 unfold dN
 rw [hv,Zt]
 show ((keys [.fld 5] (oc (maT tx hd S b) :: r)).bind _)=_
 have hk:keys [.fld 5] (oc (maT tx hd S b) :: r)=some [.fld 5]:=rfl
 rw [hk,Zt,he,Zt]
 have hp:pm (iI (n,.int (i:Int)) (.fr,.int (v:Int))) [.fld 5] (maT tx hd S b)=some (maT tx (hd.set i v) S b,()):=by
  show ((iI (n,.int (i:Int)) (.fr,.int (v:Int)) (.lst (hd.map fun (n:Nat)=>T.int (n:Int)))).map _)=_
  have:iI (n,.int (i:Int)) (.fr,.int (v:Int)) (.lst (hd.map fun (n:Nat)=>T.int (n:Int)))=some (.lst ((hd.set i v).map fun (n:Nat)=>T.int (n:Int)),()):=by
   show ((ixP (hd.map fun (n:Nat)=>T.int (n:Int)).length (i:Int)).map _)=_
   rw [Zy,vB hi,X2]
   rfl
  rw [this]
  rfl
 rw [hp]
 rfl
theorem Bi {i:Nat} {v:Tx} {e ev:Ex} {n:Md} {r:List (Wj)} (hi:i < tx.length) (he:e (oc (maT tx hd S b) :: r)=some (n,.int (i:Int))) (hv:ev (oc (maT tx hd S b) :: r)=some (.fr,.str v)) :
  dN 0 [.fld 4] e ev (oc (maT tx hd S b) :: r)=some (.nx (oc (maT (tx.set i v) hd S b) :: r)):=by
 unfold dN
 rw [hv,Zt]
 show ((keys [.fld 4] (oc (maT tx hd S b) :: r)).bind _)=_
 have hk:keys [.fld 4] (oc (maT tx hd S b) :: r)=some [.fld 4]:=rfl
 rw [hk,Zt,he,Zt]
 have hp:pm (iI (n,.int (i:Int)) (.fr,.str v)) [.fld 4] (maT tx hd S b)=some (maT (tx.set i v) hd S b,()):=by
  show ((iI (n,.int (i:Int)) (.fr,.str v) (.lst (tx.map T.str))).map _)=_
  have:iI (n,.int (i:Int)) (.fr,.str v) (.lst (tx.map T.str))=some (.lst ((tx.set i v).map T.str),()):=by
   show ((ixP (tx.map T.str).length (i:Int)).map _)=_
   rw [Zy,vB hi,X2]
   rfl
  rw [this]
  rfl
 rw [hp]
 rfl
theorem xa {i r:Nat} {w:Tx} (W:WF S) (hh:hd.length=tx.length) (hi:i < tx.length) (h8:tx.length<=8) (hs:bK tx+w.length<=120) (hl:S.lg.length+2 * w.length<=100000) (hn:hd.getD i 0 < S.lg.length) (hc:∀ c∈w,97<=c/\c<=122) (ht:(tx.getD i []).length<=120) (e:hg S (hd.getD i 0) w=some (S',r)) :
  bg (fsM tx hd S) [.int (i:Int),.str w]=some (fsM (tx.set i (tx.getD i []++w)) (hd.set i r) S',.non):=by
 obtain ⟨w1,w2,w3,w4⟩:=zx W hl hn hc e
 unfold bg mfn
 rw [Zq ⟨rfl,rfl⟩]
 have s1:sX (xP (bG bx (ae (aV 4 (ab 0)) (ae (ab 1) aj)))) [oc (maT tx hd S true),pc (.int (i:Int)),pc (.str w)]=some (.nx [oc (maT tx hd S true),pc (.int (i:Int)),pc (.str w)]):=by
  have:bG bx (ae (aV 4 (ab 0)) (ae (ab 1) aj)) [oc (maT tx hd S true),pc (.int (i:Int)),pc (.str w)]=some (.fr,.non):=fB (xv (fX (m:=.bo) (t:=maT tx hd S true) rfl (yk tx hd S true)) (xv (x:=(.fr,.int (i:Int))) rfl rfl)) (rS hi)
  show (((bG bx _ _).map _).map _)=_
  rw [this]
  rfl
 have c2:e2 oGt (e2 cG (bG fC (ae (aV 4 (ab 0)) aj)) (eN bX (ae (ab 2) aj))) (eC (.int 120)) [oc (maT tx hd S true),pc (.int (i:Int)),pc (.str w)]=some (.fr,.bl false) :=
  e2v (x:=(.fr,.int ((bK tx:Int)+(w.length:Int)))) (e2v (fB (xv (r:=aj) (fX (m:=.bo) (t:=maT tx hd S true) rfl (yk tx hd S true)) rfl) (vX tx (by omega))) (y:=(.fr,.int (w.length:Int))) rfl rfl) rfl (by
   show some (Md.fr,T.bl (decide ((120:Int) < (bK tx:Int)+(w.length:Int))))=_
   rw [ZZ (by omega)])
 have x3:bc 0 [.fld 6] 0 [false,false] aM (ae (e2 ax (aV 5 (ab 0)) (ab 1)) (ae (ab 2) aj)) [oc (maT tx hd S true),pc (.int (i:Int)),pc (.str w)]=some ((.fr,.int (r:Int)),[oc (maT tx hd S' true),pc (.int (i:Int)),pc (.str w)]):=by
  show ((some [Ky.fld 6]).bind fun ks=>(ae (e2 ax (aV 5 (ab 0)) (ab 1)) (ae (ab 2) aj) [oc (maT tx hd S true),pc (.int (i:Int)),pc (.str w)]).bind fun xs=>(pm (jT 0 [false,false] aM xs) ks (maT tx hd S true)).map fun z=>(z.2,[oc z.1,pc (.int (i:Int)),pc (.str w)]))=_
  rw [Zt,xv (x:=(.fr,.int ((hd.getD i 0:Nat):Int))) (e2v (fX (m:=.bo) (t:=maT tx hd S true) rfl (D5 tx hd S true)) (y:=(.fr,.int (i:Int))) rfl (lF _ hd i 0 (by omega))) (xv (r:=aj) (x:=(.fr,.str w)) rfl rfl),Zt]
  show (((if 1=0+1/\dH (fsT S)=true/\argsOk [false,false] [(Md.fr,T.int ((hd.getD i 0:Nat):Int)),(Md.fr,T.str w)]=true/\cJ (trees [(Md.fr,T.int ((hd.getD i 0:Nat):Int)),(Md.fr,T.str w)])=true then (aM (fsT S) [.int ((hd.getD i 0:Nat):Int),.str w]).bind fun z=>if dH z.1=true/\imm z.2=true then some (T.obj 1 ((0,.bl false) :: z.1),(Md.fr,z.2)) else none else none).map _).map _)=_
  rw [Zq ⟨rfl,js S,rfl,rfl⟩,w4,Zt,Zq ⟨js S',rfl⟩]
  rfl
 have s3:gN 0 [.fld 5] (ab 1) (bc 0 [.fld 6] 0 [false,false] aM (ae (e2 ax (aV 5 (ab 0)) (ab 1)) (ae (ab 2) aj))) [oc (maT tx hd S true),pc (.int (i:Int)),pc (.str w)]=some (.nx [oc (maT tx (hd.set i r) S' true),pc (.int (i:Int)),pc (.str w)]):=by
  unfold gN
  rw [x3]
  exact BA (tx:=tx) (hd:=hd) (S:=S') (b:=true) (r:=[pc (.int (i:Int)),pc (.str w)]) (e:=ab 1) (ev:=fun _=>some (.fr,.int (r:Int))) (i:=i) (v:=r) (n:=.fr) (by omega) rfl rfl
 have s4:dN 0 [.fld 4] (ab 1) (e2 cG (e2 ax (aV 4 (ab 0)) (ab 1)) (ab 2)) [oc (maT tx (hd.set i r) S' true),pc (.int (i:Int)),pc (.str w)]=some (.nx [oc (maT (tx.set i (tx.getD i []++w)) (hd.set i r) S' true),pc (.int (i:Int)),pc (.str w)]) :=
  Bi (n:=.fr) hi rfl (e2v (fX (m:=.bo) (t:=maT tx (hd.set i r) S' true) rfl (yk tx (hd.set i r) S' true) |> fun h=>e2v h (y:=(.fr,.int (i:Int))) rfl (lF T.str tx i [] hi)) (y:=(.fr,.str w)) rfl (uL (by omega)))
 exact congrArg (fun z:Option Out=>z.bind _) ((ak s1).trans ((ak ((iy c2).trans rfl)).trans ((ak s3).trans s4)))
end
theorem iZ {α:Type} (l:List α) (x d:α):(l++[x]).getD l.length d=x:=(bT l x d l.length).trans (Zq rfl)
theorem qF {α:Type} (l:List α) (x y:α):(l++[x]).set l.length y=l++[y]:=by
 rw [List.set_append_right _ _ (Zl _),Nat.sub_self]
 rfl
theorem oZ (a b:List Tx):bK (a++b)=bK a+bK b:=by
 unfold bK
 rw [Z6,List.sum_append]
theorem BX:∀ (rest:List Tx) {tx:List Tx} {hd:Wo} {S S':St} {B:T} {z:Wj},WF S->hd.length=tx.length->tx.length+rest.length<=8->bK tx+bK rest<=120->S.lg.length+2 * bK rest<=100000->(∀ t∈rest,∀ c∈t,97<=c/\c<=122)->mB S rest=some S' →
  ∃ hd' z',forL (bw 2) br (rest.map .str) [oc (maT tx hd S true),pc B,z]=some (.nx [oc (maT (tx++rest) hd' S' true),pc B,z']):=by
 intro rest
 induction rest with
 | nil =>
  intro tx hd S S' B z W hh h8 hs hl hc e
  cases (show some S=some S' from e)
  exact ⟨hd,z,by rw [ZK];rfl⟩
 | cons t rest ih =>
  intro tx hd S S' B z W hh h8 hs hl hc e
  obtain ⟨⟨S1,r⟩,e1,e2'⟩:=Zz.mp (show (hg S 0 t).bind _=some S' from e)
  rw [Zk] at h8
  have hsum:bK (t :: rest)=t.length+bK rest:=by unfold bK;rw [Zn,YW]
  rw [hsum] at hs hl
  have e1':hg S ((hd++[0]).getD tx.length 0) t=some (S1,r):=by rw [← hh,iZ];exact e1
  have hgo:=zx W (by omega) W.pos (hc t Zw) e1
  have g:=xa (tx:=tx++[[]]) (hd:=hd++[0]) (S:=S) (S':=S1) (i:=tx.length) (r:=r) (w:=t) W (by rw [Zv,Zv,hh];rfl) (by rw [Zv];exact Yl _) (by rw [Zv];show tx.length+1<=8;omega) (by rw [oZ];show bK tx+0+t.length<=120;omega) (by omega) (by rw [← hh,iZ];exact W.pos) (hc t Zw) (by rw [iZ];exact Yk _) e1'
  rw [iZ,qF,Xc] at g
  have g2:(hd++[0]).set tx.length r=hd++[r]:=by rw [← hh];exact qF hd 0 r
  rw [g2] at g
  have b:=uC (tx:=tx) (hd:=hd) (S:=S) (by omega) hh
  obtain ⟨hd',z',q⟩:=ih (tx:=tx++[t]) (hd:=hd++[r]) (S:=S1) (S':=S') (B:=B) (z:=pc (.str t)) hgo.1 (by rw [Zv,Zv,hh];rfl) (by rw [Zv,ZS];omega) (by rw [oZ];show bK tx+(t.length+0)+bK rest<=120;omega) (by have:=hgo.2.2.1;omega) (fun u hu=>hc u (Zx _ hu)) e2'
  refine ⟨hd',z',?_⟩
  rw [Zn]
  refine (jc (η1:=[oc (maT tx hd S true),pc B,pc (.str t)]) rfl ?_).trans (q.trans (by rw [Z3];rfl))
  have x1:bc 0 [] 1 [] bp aj [oc (maT tx hd S true),pc B,pc (.str t)]=some ((.fr,.int (tx.length:Int)),[oc (maT (tx++[[]]) (hd++[0]) S true),pc B,pc (.str t)]):=by
   show (((if 2=1+1/\dH (fsM tx hd S)=true/\argsOk [] []=true/\cJ (trees [])=true then (bp (fsM tx hd S) (trees [])).bind fun z=>if dH z.1=true/\imm z.2=true then some (T.obj 2 ((0,.bl true) :: z.1),(Md.fr,z.2)) else none else none).map _))=_
   rw [Zq ⟨rfl,iX tx hd S,rfl,rfl⟩,show trees []=[] from rfl,b,Zt,Zq ⟨iX _ _ _,rfl⟩]
   rfl
  have x2:lJ 0 1 [false,false] bg (bc 0 [] 1 [] bp aj) (ae (ab 2) aj) [oc (maT tx hd S true),pc B,pc (.str t)]=some ((.fr,.non),[oc (maT (tx++[t]) (hd++[r]) S1 true),pc B,pc (.str t)]):=by
   unfold lJ
   rw [Zq (show AV 1 [oc (maT tx hd S true),pc B,pc (T.str t)][0]?=true from rfl),x1,Zt,Zq (show imm (T.int (tx.length:Int))=true from rfl)]
   have ct:jT 1 [false,false] bg [(Md.fr,T.int (tx.length:Int)),(Md.fr,T.str t)] (maT (tx++[[]]) (hd++[0]) S true)=some (maT (tx++[t]) (hd++[r]) S1 true,(Md.fr,T.non)):=by
    show (if 2=1+1/\dH (fsM (tx++[[]]) (hd++[0]) S)=true/\argsOk [false,false] [(Md.fr,T.int (tx.length:Int)),(Md.fr,T.str t)]=true/\cJ (trees [(Md.fr,T.int (tx.length:Int)),(Md.fr,T.str t)])=true then (bg (fsM (tx++[[]]) (hd++[0]) S) (trees [(Md.fr,T.int (tx.length:Int)),(Md.fr,T.str t)])).bind fun z=>if dH z.1=true/\imm z.2=true then some (T.obj 2 ((0,.bl true) :: z.1),(Md.fr,z.2)) else none else none)=_
    rw [Zq ⟨rfl,iX _ _ _,rfl,rfl⟩,show trees [(Md.fr,T.int (tx.length:Int)),(Md.fr,T.str t)]=[T.int (tx.length:Int),T.str t] from rfl,g,Zt,Zq ⟨iX _ _ _,rfl⟩]
    rfl
   show ((jT 1 [false,false] bg [(Md.fr,T.int (tx.length:Int)),(Md.fr,T.str t)] (maT (tx++[[]]) (hd++[0]) S true)).map _)=_
   rw [ct]
   rfl
  unfold br sXM
  rw [x2]
  rfl
structure Bok (bk:List Tx):Prop where
 few:bk.length<=8
 sum:bK bk<=120
 az:∀ t∈bk,∀ c∈t,97<=c/\c<=122
theorem Bok.len {bk:List Tx} (h:Bok bk):∀ t∈bk,t.length < 1000:=fun t ht=>by
 have:∀ (l:List Tx),t∈l->t.length<=bK l:=by
  intro l
  induction l with
  | nil=>intro h;cases h
  | cons a l ih =>
   intro h
   have e:bK (a :: l)=a.length+bK l:=by unfold bK;rw [Zn,YW]
   rw [e]
   rcases Zg.mp h with rfl | h
   ·omega
   ·have:=ih h;omega
 have:=this bk ht
 have:=h.sum
 omega
noncomputable def cZ (bk:List Tx):St:=(mB S0 bk).getD S0
noncomputable def kP (bk:List Tx):Wo:=(bfs (cZ bk) 1000 [0] 0).getD []
noncomputable def tabOf (bk:List Tx):List Row:=tab (cZ bk) (kP bk)
theorem Bok.k {bk:List Tx} (h:Bok bk):mB S0 bk=some (cZ bk)/\∃ nd wd,K (Hd bk) (cZ bk) nd wd/\wd.length<=241/\bfs (cZ bk) 1000 [0] 0=some (kP bk)/\(∀ x,x∈kP bk ↔ x < (cZ bk).lg.length)/\(kP bk).length=wd.length:=by
 obtain ⟨S,nd,wd,e,H,l⟩:=K.of bk h.az h.len
 have eS:cZ bk=S:=by unfold cZ;rw [e];rfl
 rw [eS]
 have l':wd.length<=241:=by
  have:=h.sum
  unfold bK at this
  omega
 obtain ⟨m,e2,_,e3,e4⟩:=H.met (k:=1000) (by omega)
 have eM:kP bk=0 :: m:=by unfold kP;rw [eS,e2];rfl
 rw [eM]
 exact ⟨e,nd,wd,H,l',e2,fun x=>by rw [e3,H.i.len],e4⟩
theorem Aj {bk:List Tx} (h:Bok bk):∃ hd,aN [] [.lst (bk.map .str)]=some (fsM bk hd (cZ bk),.non):=by
 obtain ⟨e,_⟩:=h.k
 have hsm:=h.sum
 obtain ⟨hd,z,q⟩:=BX bk (tx:=[]) (hd:=[]) (S:=S0) (S':=cZ bk) (B:=.lst (bk.map .str)) (z:=none) zo rfl (by have:=h.few;simpa using this) (by show 0+bK bk<=120;omega) (by show 1+2 * bK bk<=100000;omega) h.az e
 rw [Xc] at q
 refine ⟨hd,?_⟩
 unfold aN mfn
 rw [Zq ⟨rfl,rfl⟩]
 have f:=(d9 (tg:=bw 2) (it:=fK (ab 1)) (body:=br) (η:=[oc (maT [] [] S0 true),pc (.lst (bk.map .str)),none]) (m:=.pu) (l:=bk.map .str) rfl rfl).trans q
 have body:=(ak (a:=gM 0 4 (fL aj)) (b:=ar (gM 0 5 (fL aj)) (ar (gM 0 6 (eNew 0 dg aj)) (sIf (eW (ab 1)) (hU (bw 2) (fK (ab 1)) br) eR))) (η:=[oc (.obj 2 [(0,.bl true)]),pc (.lst (bk.map .str)),none]) (η1:=[oc (.obj 2 [(0,.bl true),(4,.lst [])]),pc (.lst (bk.map .str)),none]) rfl).trans
  ((ak (η1:=[oc (.obj 2 [(0,.bl true),(4,.lst []),(5,.lst [])]),pc (.lst (bk.map .str)),none]) rfl).trans ((ak (η1:=[oc (maT [] [] S0 true),pc (.lst (bk.map .str)),none]) rfl).trans ((kf (m:=.fr) rfl).trans f)))
 exact congrArg (fun z:Option Out=>z.bind _) body
theorem xy {bk:List Tx} (h:Bok bk) {arg:Ex} {η:Env} {m:Md} (ha:arg η=some (m,.lst (bk.map .str))):dC 1 bD (eNew 1 aN (ae arg aj)) aj η=some (.fr,tbT (tabOf bk)):=by
 obtain ⟨hd,e⟩:=Aj h
 obtain ⟨_,nd,wd,H,l,e2,e3,e4⟩:=h.k
 have hlen:(cZ bk).lg.length<=100001:=by rw [← H.i.len];omega
 have t1:=Ab H.i.wf hlen (k:=1000) (by decide) e2 e3 (by omega)
 have n1:eNew 1 aN (ae arg aj) η=some (.fr,maT bk hd (cZ bk) false):=by
  unfold eNew
  rw [xv (r:=aj) ha rfl,Zt]
  have hno:cJ (trees [(m,T.lst (bk.map .str))])=true:=by
   show (cJ (bk.map T.str) && true)=true
   rw [d6 _ (fun _=>rfl)]
   rfl
  rw [Zq hno,show trees [(m,T.lst (bk.map .str))]=[T.lst (bk.map .str)] from rfl,e,Zt,Zq ⟨iX _ _ _,rfl⟩]
  rfl
 have t2:bD [maT bk hd (cZ bk) false]=some (.fr,tbT (tabOf bk)):=by
  refine fF (η:=[pc (maT bk hd (cZ bk) false)]) rfl (dA ?_)
  have f6:aV 6 (ab 0) [pc (maT bk hd (cZ bk) false)]=some (.pu,obT (cZ bk) false):=fX (m:=.pu) (t:=maT bk hd (cZ bk) false) rfl (DJ bk hd (cZ bk) false)
  unfold dC
  show ((aV 6 (ab 0) [pc (maT bk hd (cZ bk) false)]).bind _)=_
  rw [f6]
  show ((dr [obT (cZ bk) false]).bind _)=_
  rw [t1]
  rfl
 show ((eNew 1 aN (ae arg aj) η).bind _)=_
 rw [n1]
 show ((bD [maT bk hd (cZ bk) false]).bind _)=_
 rw [t2]
 rfl
theorem ux {a b:List Tx} (ha:Bok a) (hb:Bok b) (h:∀ p,Hd a p ↔ Hd b p):tabOf b=tabOf a:=by
 obtain ⟨_,nd,wd,H,_,e,_,_⟩:=ha.k
 obtain ⟨_,nd',wd',G,_,e',_,_⟩:=hb.k
 have:=(H.congr h).same G 1000
 rw [e,e'] at this
 exact Zp this
end T09
end
section
namespace T09
open VS
theorem eJ {β:Type} {tg:Tg} {body:Sx} (g:β->T) (Inv:List β->Env->Prop) (h:∀ t r η,Inv (t :: r) η->∃ η1 η2,tg (g t) η=some η1/\body η1=some (.nx η2)/\Inv r η2):∀ (l:List β) (η:Env),Inv l η->∃ η',forL tg body (l.map g) η=some (.nx η')/\Inv [] η'
 | [],η,hi=>⟨η,rfl,hi⟩
 | t :: l,η,hi=>by
  obtain ⟨η1,η2,e1,e2,hi2⟩:=h t l η hi
  obtain ⟨η',e3,hi3⟩:=eJ g Inv h l η2 hi2
  exact ⟨η',(jc e1 e2).trans e3,hi3⟩
noncomputable def cellAt (ns:Wm) (k:Nat):Int:=ns.getD k 0
theorem si (ns:Wm) (k:Nat):aP [.scr ns,.int k]=some (.fr,.int (cellAt ns k)):=by
 by_cases h:k < ns.length
 ·refine fF (η:=[pc (.scr ns),pc (.int k)]) rfl (iY ((kf (m:=.fr) ?_).trans (dA (e2v (x:=(.fr,.scr ns)) (y:=(.fr,.int k)) rfl rfl ?_))))
  ·refine e2v (x:=(.fr,.int k)) (y:=(.fr,.int (ns.length:Int))) rfl rfl ?_
   show some (Md.fr,T.bl (decide ((k:Int) < (ns.length:Int))))=_
   rw [decide_eq_true (by omega)]
  ·rw [xk ns k (by omega) (by omega),Xm]
   rfl
 ·refine fF (η:=[pc (.scr ns),pc (.int k)]) rfl ((ak ((iy (m:=.fr) ?_).trans rfl)).trans (dA ?_))
  ·refine e2v (x:=(.fr,.int k)) (y:=(.fr,.int (ns.length:Int))) rfl rfl ?_
   show some (Md.fr,T.bl (decide ((k:Int) < (ns.length:Int))))=_
   rw [ZZ (by omega)]
  ·unfold cellAt
   rw [Zr,Z0 (by omega)]
   rfl
theorem mW {ns:Wm} {k:Nat} {e:Ex} {η:Env} {m:Md} (h0:ab 0 η=some (m,.scr ns)) (h:e η=some (.fr,.int (k:Int))):bG aP (ae (ab 0) (ae e aj)) η=some (.fr,.int (cellAt ns k)):=fB (xv h0 (xv (r:=aj) h rfl)) (si ns k)
theorem yu (c k:Int) (h0:0<=k) (h1:k < 1000000):∃ v,eG [.int c,.int k]=some (.fr,.int v):=by
 have e0:=YO (c % 2147483629+48271 * k+11) (b:=2147483629) (by decide)
 have e1:=Yd (c % 2147483629+48271 * k+11) (b:=2147483629) (by decide)
 generalize hn:(c % 2147483629+48271 * k+11) % 2147483629=n at e0 e1
 have g2:=YO (n * n) (b:=2147483629) (by decide)
 have g3:=Yd (n * n) (b:=2147483629) (by decide)
 have s1:aC 2 (e2 oMod (e2 cG (e2 cG (e2 oMod (ab 0) (eC (.int 2147483629))) (e2 gC (eC (.int 48271)) (ab 1))) (eC (.int 11))) (eC (.int 2147483629))) [pc (.int c),pc (.int k),none]=some (.nx [pc (.int c),pc (.int k),pc (.int n)]):=by
  refine aK (m:=.fr) (e2v (e2v (e2v (e2v (x:=(.fr,.int c)) (y:=(.fr,.int 2147483629)) rfl rfl (fR (by decide))) (e2v (x:=(.fr,.int 48271)) (y:=(.fr,.int k)) rfl rfl (kx (by decide))) rfl) (y:=(.fr,.int 11)) rfl rfl) (y:=(.fr,.int 2147483629)) rfl ?_) (by decide) (by show 2 < 3;decide)
  rw [fR (by decide),hn]
 have s2:aC 2 (e2 cG (e2 oMod (e2 gC (ab 2) (ab 2)) (eC (.int 2147483629))) (e2 gC (eC (.int 7919)) (ab 1))) [pc (.int c),pc (.int k),pc (.int n)]=some (.nx [pc (.int c),pc (.int k),pc (.int (n * n % 2147483629+7919 * k))]) :=
  aK (m:=.fr) (e2v (e2v (e2v (x:=(.fr,.int n)) (y:=(.fr,.int n)) rfl rfl (kx (by omega))) (y:=(.fr,.int 2147483629)) rfl (fR (by decide))) (e2v (x:=(.fr,.int 7919)) (y:=(.fr,.int k)) rfl rfl (kx (by decide))) rfl) (by decide) (by show 2 < 3;decide)
 exact ⟨_,fF (η:=[pc (.int c),pc (.int k),pc (.int (n * n % 2147483629+7919 * k))]) rfl ((ak s1).trans ((ak s2).trans (dA (e2v (e2v (x:=(.fr,.int (n * n % 2147483629+7919 * k))) (y:=(.fr,.int (n * n % 2147483629+7919 * k))) rfl rfl (kx (by omega))) (y:=(.fr,.int 2147483587)) rfl (fR (by decide))))))⟩
noncomputable abbrev ET (ns:Wm) (L:Tx) (most j c size:Int) (s:Wo) (z:Wj):Env:=[pc (.scr ns),pc (.str L),pc (.int most),pc (.int j),pc (.int c),pc (.int size),oc (.lst (s.map fun x=>T.str [x])),z]
theorem uP {η:Env} {L:Tx} {e:Ex} {m:Md} {y:Int} (hl:0 < L.length) (h1:ab 1 η=some (m,.str L)) (he:e η=some (.fr,.int y)):∃ x∈L,e2 ax (ab 1) (e2 oMod e (eN bX (ae (ab 1) aj))) η=some (.fr,.str [x]):=by
 have b0:=YO y (b:=(L.length:Int)) (by omega)
 have b1:=Yd y (b:=(L.length:Int)) (by omega)
 have b2:(y % (L.length:Int)).toNat < L.length:=by omega
 refine ⟨L.getD (y % (L.length:Int)).toNat 0,?_,e2v h1 (e2v he (gR (v:=(.fr,.int (L.length:Int))) (xv (r:=aj) h1 rfl) rfl) (fR (by omega))) (BG L _ b0 b1)⟩
 rw [Zr,Zm b2]
 exact Yy b2
theorem zb {ns:Wm} {L:Tx} {most j c size:Int} {s:Wo} {z:Wj} {e:Ex} {x:Nat} (h:e (ET ns L most j c size s z)=some (.fr,.str [x])) (hs:s.length < 1000):sX (lW 6 [] aD (ae e aj)) (ET ns L most j c size s z)=some (.nx (ET ns L most j c size (s++[x]) z)):=by
 rw [vz (i:=6) (l:=s.map fun x=>T.str [x]) rfl h (by rw [Zy];omega)]
 show some (Out.nx [pc (.scr ns),pc (.str L),pc (.int most),pc (.int j),pc (.int c),pc (.int size),oc (.lst (s.map (fun x=>T.str [x])++[T.str [x]])),z])=some (Out.nx [pc (.scr ns),pc (.str L),pc (.int most),pc (.int j),pc (.int c),pc (.int size),oc (.lst ((s++[x]).map fun x=>T.str [x])),z])
 rw [Z6]
 rfl
theorem wc (ns:Wm) (L:Tx) (most size:Int) (j:Nat) (hj:j<=1000) (hl:0 < L.length) (hl2:L.length < 1000) (n:Nat) (hn:n < 1000) (c:Int):∃ c' s z,forL (bw 7) eu ((List.range n).map fun (k:Nat)=>T.int (k:Int)) (ET ns L most j c size [] none)=some (.nx (ET ns L most j c' size s z))/\s.length<=n/\∀ x∈s,x∈L:=by
 obtain ⟨η',e,c',s,z,rfl,h1,h2,_⟩:=eJ (tg:=bw 7) (body:=eu) (fun (k:Nat)=>T.int (k:Int)) (fun r η=>∃ c s z,η=ET ns L most j c size s z/\s.length+r.length<=n/\(∀ x∈s,x∈L)/\∀ k∈r,k < n) (by
  rintro k r _ ⟨c,s,z,rfl,h1,h2,h3⟩
  rw [Zk] at h1
  have hk:=h3 k Zw
  have l0:∀ η,ab 0 η=some (Md.fr,T.scr ns)->e2 oMod (bG aP (ae (ab 0) (ae (eC (.int 0)) aj))) (eC (.int 2)) η=some (.fr,.int (cellAt ns 0 % 2)):=fun η h=>e2v (mW (k:=0) h rfl) (y:=(.fr,.int 2)) rfl (fR (by decide))
  have cc:e2 oEq (e2 oMod (bG aP (ae (ab 0) (ae (eC (.int 0)) aj))) (eC (.int 2))) (eC (.int 0)) (ET ns L most j c size s (pc (.int k)))=some (.fr,.bl (cellAt ns 0 % 2 == 0)):=by
   refine e2v (l0 _ rfl) (y:=(.fr,.int 0)) rfl (jw rfl rfl ?_)
   simp only [eqT]
  have fin:∀ (c':Int) (x:Nat),x∈L->∃ c s_1 z,ET ns L most j c' size (s++[x]) (pc (.int k))=ET ns L most j c size s_1 z/\s_1.length+r.length<=n/\(∀ x∈s_1,x∈L)/\∀ k∈r,k < n:=fun c' x hx=>⟨_,_,_,rfl,by rw [Zv,ZS];omega,fun y hy=>(ZY.mp hy).elim (h2 y) (fun h=>Zb.mp h ▸ hx),fun k hk=>h3 k (Zx _ hk)⟩
  by_cases p:cellAt ns 0 % 2=0
  ·obtain ⟨x,hx,ex⟩:=uP (η:=ET ns L most j c size s (pc (.int k))) (e:=ab 4) (m:=.fr) (y:=c) hl rfl rfl
   refine ⟨ET ns L most j c size s (pc (.int k)),ET ns L most j (c / (L.length:Int)) size (s++[x]) (pc (.int k)),rfl,(kf (cc.trans (by rw [beq_iff_eq.mpr p]))).trans ((ak (zb ex (by omega))).trans ?_),fin _ x hx⟩
   exact aK (m:=.fr) (t:=.int (c / (L.length:Int))) (e2v (x:=(.fr,.int c)) (y:=(.fr,.int (L.length:Int))) rfl rfl (gU (by omega))) (by decide) (by show 4 < 8;decide)
  ·obtain ⟨v,hv⟩:=yu c (30 * (j:Int)+k) (by omega) (by omega)
   obtain ⟨x,hx,ex⟩:=uP (η:=ET ns L most j c size s (pc (.int k))) (e:=e2 bY (bG eG (ae (ab 4) (ae (e2 cG (e2 gC (eC (.int 30)) (ab 3)) (ab 7)) aj))) (eC (.int 7))) (m:=.fr) (y:=v / 7) hl rfl (e2v (fB (xv (x:=(.fr,.int c)) rfl (xv (r:=aj) (e2v (e2v (x:=(.fr,.int 30)) (y:=(.fr,.int (j:Int))) rfl rfl (kx (by decide))) (y:=(.fr,.int (k:Int))) rfl rfl) rfl)) hv) (y:=(.fr,.int 7)) rfl (gU (by decide)))
   exact ⟨ET ns L most j c size s (pc (.int k)),ET ns L most j c size (s++[x]) (pc (.int k)),rfl,(iy (cc.trans (by rw [ZV.mpr p]))).trans (zb ex (by omega)),fin _ x hx⟩) (List.range n) (ET ns L most j c size [] none) ⟨c,[],none,rfl,by rw [ZC];exact Xq (Xr _),(fun _ h=>nomatch h),fun k hk=>Ye.mp hk⟩
 exact ⟨c',s,z,e,h1,h2⟩
theorem Bu (ns:Wm) (L:Tx) (most:Int) (j:Nat) (hj:j<=1000) (hl:0 < L.length) (hl2:L.length < 1000) (h0:0<=most) (h1:most < 1000):∃ t:Tx,dy [.scr ns,.str L,.int most,.int j]=some (.fr,.str t)/\t.length<=most.toNat/\∀ x∈t,x∈L:=by
 generalize hc:cellAt ns (1+j)=c
 have b0:=YO c (b:=most+1) (by omega)
 have b1:=Yd c (b:=most+1) (by omega)
 obtain ⟨c',s,z,e,g1,g2⟩:=wc ns L most (c % (most+1)) j hj hl hl2 (c % (most+1)).toNat (by omega) (c / (most+1))
 refine ⟨s,?_,by omega,g2⟩
 have s1:aC 4 (bG aP (ae (ab 0) (ae (e2 cG (eC (.int 1)) (ab 3)) aj))) [pc (.scr ns),pc (.str L),pc (.int most),pc (.int j),none,none,none,none]=some (.nx [pc (.scr ns),pc (.str L),pc (.int most),pc (.int j),pc (.int c),none,none,none]):=by
  rw [← hc]
  refine aK (m:=.fr) (mW (k:=1+j) rfl (e2v (x:=(.fr,.int 1)) (y:=(.fr,.int (j:Int))) rfl rfl ?_)) (by decide) (by show 4 < 8;decide)
  show some (Md.fr,T.int (1+(j:Int)))=_
  rw [show (1+(j:Int))=((1+j:Nat):Int) by omega]
 have s2:aC 5 (e2 oMod (ab 4) (e2 cG (ab 2) (eC (.int 1)))) [pc (.scr ns),pc (.str L),pc (.int most),pc (.int j),pc (.int c),none,none,none]=some (.nx [pc (.scr ns),pc (.str L),pc (.int most),pc (.int j),pc (.int c),pc (.int (c % (most+1))),none,none]):=aK (m:=.fr) (e2v (x:=(.fr,.int c)) (y:=(.fr,.int (most+1))) rfl rfl (fR (by omega))) (by decide) (by show 5 < 8;decide)
 have s3:aC 4 (e2 bY (ab 4) (e2 cG (ab 2) (eC (.int 1)))) [pc (.scr ns),pc (.str L),pc (.int most),pc (.int j),pc (.int c),pc (.int (c % (most+1))),none,none]=some (.nx [pc (.scr ns),pc (.str L),pc (.int most),pc (.int j),pc (.int (c / (most+1))),pc (.int (c % (most+1))),none,none]):=aK (m:=.fr) (e2v (x:=(.fr,.int c)) (y:=(.fr,.int (most+1))) rfl rfl (gU (by omega))) (by decide) (by show 4 < 8;decide)
 have s5:hU (bw 7) (ed (ab 5)) eu (ET ns L most j (c / (most+1)) (c % (most+1)) [] none)=some (.nx (ET ns L most j c' (c % (most+1)) s z)):=by
  refine (d9 (m:=.fr) ?_ rfl).trans e
  rw [kQ (m:=.fr) (j:=c % (most+1)) rfl (by omega),n4]
 refine fF (η:=[pc (.scr ns),pc (.str L),pc (.int most),pc (.int j),pc (.int c'),pc (.int (c % (most+1))),pc (.lst (s.map fun x=>T.str [x])),z]) rfl ((ak s1).trans ((ak s2).trans ((ak s3).trans ((ak (η1:=ET ns L most j (c / (most+1)) (c % (most+1)) [] none) rfl).trans ((ak s5).trans ((ak (η1:=[pc (.scr ns),pc (.str L),pc (.int most),pc (.int j),pc (.int c'),pc (.int (c % (most+1))),pc (.lst (s.map fun x=>T.str [x])),z]) rfl).trans (dA ?_)))))))
 have:=md (m:=.fr) (n:=(up Md.pu (.lst (s.map fun x=>T.str [x]))).1) (strs_map (fun x=>[x]) s) (by rw [iS];omega)
 rw [iS] at this
 exact this
noncomputable abbrev EB (ns:Wm) (cell:Int) (L:Tx) (count most:Int):Env:=[pc (.scr ns),pc (.int cell),pc (.str L),pc (.int count),pc (.int most)]
theorem mq (ns:Wm) (L:Tx) (most count cell:Int) (h0:0<=most) (h1:most < 1000) (c0:0<=count) (c1:count<=8) (hl:0 < L.length) (hl2:L.length < 1000) (az:∀ c∈L,97<=c/\c<=122) :
  ∃ bk:List Tx,cM 1 (bw 0) (ed (ab 3)) none (bG dy (ae (ab 1) (ae (ab 3) (ae (ab 5) (ae (ab 0) aj))))) (EB ns cell L count most)=some (.fr,.lst (bk.map .str))/\bk.length<=8/\bk.flatten.length<=count.toNat * most.toNat/\∀ t∈bk,∀ c∈t,97<=c/\c<=122:=by
 have ex:∀ j:Nat,∃ t:Tx,j<=1000->dy [.scr ns,.str L,.int most,.int j]=some (.fr,.str t)/\t.length<=most.toNat/\∀ x∈t,x∈L:=fun j=>by
  by_cases hj:j<=1000
  ·obtain ⟨t,h⟩:=Bu ns L most j hj hl hl2 h0 h1
   exact ⟨t,fun _=>h⟩
  ·exact ⟨[],fun h=>absurd h hj⟩
 obtain ⟨f,hf⟩:=Classical.axiomOfChoice ex
 have hf':∀ j∈List.range count.toNat,j<=1000:=fun j hj=>by
  have:=Ye.mp hj
  omega
 refine ⟨(List.range count.toNat).map f,?_,by rw [Zy,ZC];omega,?_,fun t ht c hc=>?_⟩
 ·rw [Z1]
  refine gw (m:=.fr) (fun (j:Nat)=>T.int (j:Int)) (fun j=>T.str (f j)) (List.range count.toNat) ?_ rfl (by rw [ZC];omega) fun j hj=>⟨_,rfl,fB (xv (x:=(.fr,.scr ns)) rfl (xv (x:=(.fr,.str L)) rfl (xv (x:=(.fr,.int most)) rfl (xv (x:=(.fr,.int (j:Int))) (r:=aj) rfl rfl)))) (hf j (hf' j hj)).1⟩
  rw [kQ (m:=.fr) (j:=count) rfl (by omega),n4]
 ·generalize count.toNat=n at hf' ⊢
  have:∀ l:Wo,(∀ j∈l,j<=1000)->(l.map f).flatten.length<=l.length * most.toNat:=by
   intro l
   induction l with
   | nil=>intro _;exact Yk _
   | cons a l ih =>
    intro h
    have g1:=ih fun j hj=>h j (Zx _ hj)
    have g2:=(hf a (h a Zw)).2.1
    rw [Zn,ZW,Zv,Zk,Nat.succ_mul]
    omega
  have:=this (List.range n) hf'
  rw [ZC] at this
  exact this
 ·obtain ⟨j,hj,rfl⟩:=ZG.mp ht
  exact az c ((hf j (hf' j hj)).2.2 c hc)
noncomputable def d7:List Tx:=[[97,98],[97,98,99],[97,98,99,100],[97,122],[97],[97,98,99,100,101,102,103,104,105,106,107,108,109,110,111,112,113,114,115,116,117,118,119,120,121,122]]
noncomputable def counts:Wm:=[1,2,3,4,2,1,0,8]
theorem pf:(∀ k,k < 6->0 < (d7.getD k []).length/\(d7.getD k []).length < 1000/\∀ c∈d7.getD k [],97<=c/\c<=122)/\∀ k,k < 8->0<=counts.getD k 0/\counts.getD k 0<=8:=by decide
theorem yP {m n:Md} (c:Int) (h0:0<=c) (h1:c<=8):∃ most:Int,ax (m,.lst [.int 24,.int 12,.int 8,.int 6]) (n,.int ((if 4 < c then 4 else c) - 1))=some (.fr,.int most)/\0<=most/\most<=24/\c.toNat * most.toNat<=60:=by
 have:c=0\/c=1\/c=2\/c=3\/c=4\/4 < c:=by omega
 rcases this with rfl | rfl | rfl | rfl | rfl | h
 ·exact ⟨6,rfl,by decide,by decide,by decide⟩
 ·exact ⟨24,rfl,by decide,by decide,by decide⟩
 ·exact ⟨12,rfl,by decide,by decide,by decide⟩
 ·exact ⟨8,rfl,by decide,by decide,by decide⟩
 ·exact ⟨6,rfl,by decide,by decide,by decide⟩
 ·rw [Zq h]
  refine ⟨6,rfl,by decide,by decide,?_⟩
  show c.toNat * 6<=60
  omega
theorem Bs (ns:Wm):∃ bk:List Tx,dz [.scr ns]=some (.fr,.lst (bk.map .str))/\bk.length<=8/\bk.flatten.length<=120/\∀ t∈bk,∀ c∈t,97<=c/\c<=122:=by
 generalize hc:cellAt ns 0=cell
 have a0:=YO (cell / 2) (b:=6) (by decide)
 have a1:=Yd (cell / 2) (b:=6) (by decide)
 have b0:=YO (cell / 12) (b:=8) (by decide)
 have b1:=Yd (cell / 12) (b:=8) (by decide)
 have d0:=YO (cell / 768) (b:=2) (by decide)
 have d1:=Yd (cell / 768) (b:=2) (by decide)
 obtain ⟨k1,k2,k3⟩:=pf.1 (cell / 2 % 6).toNat (by omega)
 obtain ⟨c0,c1⟩:=pf.2 (cell / 12 % 8).toNat (by omega)
 have li:=uI (m:=.fr) (n:=.fr) T.str d7 (cell / 2 % 6) [] a0 (by show cell / 2 % 6 < 6;exact a1) rfl
 have ci:=uI (m:=.fr) (n:=.fr) T.int counts (cell / 12 % 8) 0 b0 (by show cell / 12 % 8 < 8;exact b1) rfl
 have fd:∀ (η:Env) (q:Int),0 < q/\q < 1073741824->ab 1 η=some (Md.fr,T.int cell)->e2 bY (ab 1) (eC (.int q)) η=some (.fr,.int (cell / q)):=fun η q hq h=>e2v h (y:=(.fr,.int q)) rfl (gU hq)
 have fm:∀ (η:Env) (q r:Int),0 < q/\q < 1073741824->0 < r->ab 1 η=some (Md.fr,T.int cell)->e2 oMod (e2 bY (ab 1) (eC (.int q))) (eC (.int r)) η=some (.fr,.int (cell / q % r)):=fun η q r hq hr h=>e2v (fd η q hq h) (y:=(.fr,.int r)) rfl (fR hr)
 generalize d7.getD (cell / 2 % 6).toNat []=L at k1 k2 k3 li
 generalize counts.getD (cell / 12 % 8).toNat 0=count at c0 c1 ci
 obtain ⟨most,mi,m0,m1,m2⟩:=yP (m:=.fr) (n:=.fr) count c0 c1
 have s1:aC 1 (bG aP (ae (ab 0) (ae (eC (.int 0)) aj))) [pc (.scr ns),none,none,none,none]=some (.nx [pc (.scr ns),pc (.int cell),none,none,none]):=by
  rw [← hc]
  exact aK (m:=.fr) (mW (k:=0) rfl rfl) (by decide) (by show 1 < 5;decide)
 have q1:e2 oMod (e2 bY (ab 1) (eC (.int 2))) (eC (.int 6)) [pc (.scr ns),pc (.int cell),none,none,none]=some (.fr,.int (cell / 2 % 6)):=fm _ 2 6 (by decide) (by decide) rfl
 have q2:e2 oMod (e2 bY (ab 1) (eC (.int 12))) (eC (.int 8)) [pc (.scr ns),pc (.int cell),pc (.str L),none,none]=some (.fr,.int (cell / 12 % 8)):=fm _ 12 8 (by decide) (by decide) rfl
 have five:∀ x,e2 oMod (e2 bY (ab 1) (eC (.int 96))) (eC (.int 8)) (EB ns cell L count x)=some (.fr,.int (cell / 96 % 8)):=fun x=>fm _ 96 8 (by decide) (by decide) rfl
 have fin:∀ (x:Int),0<=x->x < 1000->count.toNat * x.toNat<=120->∃ bk:List Tx,(ar (sIf (gu (e2 oEq (ab 3) (eC (.int 8))) (e2 oNe (e2 oMod (e2 bY (ab 1) (eC (.int 96))) (eC (.int 8))) (eC (.int 5)))) (aC 4 (eC (.int 3))) eR) (eY (cM 1 (bw 0) (ed (ab 3)) none (bG dy (ae (ab 1) (ae (ab 3) (ae (ab 5) (ae (ab 0) aj)))))))) (EB ns cell L count x)=some (.rt (.fr,.lst (bk.map .str)) (EB ns cell L count (if (count == 8 && !(cell / 96 % 8 == 5))=true then 3 else x)))/\bk.length<=8/\bk.flatten.length<=120/\∀ t∈bk,∀ c∈t,97<=c/\c<=122:=by
  intro x x0 x1 x2
  have cc:gu (e2 oEq (ab 3) (eC (.int 8))) (e2 oNe (e2 oMod (e2 bY (ab 1) (eC (.int 96))) (eC (.int 8))) (eC (.int 5))) (EB ns cell L count x)=some (.fr,.bl (count == 8 && !(cell / 96 % 8 == 5))):=by
   refine Cm (m:=.fr) (n:=.fr) (e2v (x:=(.fr,.int count)) (y:=(.fr,.int 8)) rfl rfl (jw rfl rfl ?_)) (e2v (five x) (y:=(.fr,.int 5)) rfl (zk rfl rfl ?_))
   ·simp only [eqT]
   ·simp only [eqT]
  cases hb:(count == 8 && !(cell / 96 % 8 == 5)) with
  | true =>
   rw [hb] at cc
   have c8:count=8:=beq_iff_eq.mp (XO.mp hb).1
   obtain ⟨bk,e,g1,g2,g3⟩:=mq ns L 3 count cell (by decide) (by decide) c0 c1 k1 k2 k3
   exact ⟨bk,(ak ((kf cc).trans (show aC 4 (eC (.int 3)) (EB ns cell L count x)=some (.nx (EB ns cell L count 3)) from rfl))).trans (dA e),g1,ZF g2 (by rw [c8];decide),g3⟩
  | false =>
   rw [hb] at cc
   obtain ⟨bk,e,g1,g2,g3⟩:=mq ns L x count cell x0 x1 c0 c1 k1 k2 k3
   exact ⟨bk,(ak ((iy cc).trans rfl)).trans (dA e),g1,by omega,g3⟩
 have pre:∀ rest:Sx,ar (aC 1 (bG aP (ae (ab 0) (ae (eC (.int 0)) aj)))) (ar (aC 2 (e2 ax (fL (ae (eC (.str [97,98])) (ae (eC (.str [97,98,99])) (ae (eC (.str [97,98,99,100])) (ae (eC (.str [97,122])) (ae (eC (.str [97])) (ae (eC (.str [97,98,99,100,101,102,103,104,105,106,107,108,109,110,111,112,113,114,115,116,117,118,119,120,121,122])) aj))))))) (e2 oMod (e2 bY (ab 1) (eC (.int 2))) (eC (.int 6))))) (ar (aC 3 (e2 ax (fL (ae (eC (.int 1)) (ae (eC (.int 2)) (ae (eC (.int 3)) (ae (eC (.int 4)) (ae (eC (.int 2)) (ae (eC (.int 1)) (ae (eC (.int 0)) (ae (eC (.int 8)) aj))))))))) (e2 oMod (e2 bY (ab 1) (eC (.int 12))) (eC (.int 8))))) (ar (aC 4 (e2 ax (fL (ae (eC (.int 24)) (ae (eC (.int 12)) (ae (eC (.int 8)) (ae (eC (.int 6)) aj))))) (e2 jF (eN mh (ae (ab 3) (ae (eC (.int 4)) aj))) (eC (.int 1))))) rest))) [pc (.scr ns),none,none,none,none]=rest (EB ns cell L count most):=fun rest =>
  (ak s1).trans ((ak (aK (m:=.fr) (e2v (x:=(.fr,.lst (d7.map T.str))) rfl q1 li) (by decide) (by show 2 < 5;decide))).trans ((ak (aK (m:=.fr) (e2v (x:=(.fr,.lst (counts.map T.int))) rfl q2 ci) (by decide) (by show 3 < 5;decide))).trans (ak (aK (m:=.fr) (e2v (x:=(.fr,.lst [.int 24,.int 12,.int 8,.int 6])) rfl (y:=(.fr,.int ((if 4 < count then 4 else count) - 1))) rfl mi) (by decide) (by show 4 < 5;decide)))))
 have c5:e2 oEq (e2 oMod (e2 bY (ab 1) (eC (.int 96))) (eC (.int 8))) (eC (.int 5)) (EB ns cell L count most)=some (.fr,.bl (cell / 96 % 8 == 5)):=by
  refine e2v (five most) (y:=(.fr,.int 5)) rfl (jw rfl rfl ?_)
  simp only [eqT]
 cases hb:(cell / 96 % 8 == 5) with
 | true =>
  rw [hb] at c5
  have hQ:∃ Q:Int,(Q=60\/Q=120)/\e2 ax (fL (ae (eC (.int 60)) (ae (eC (.int 120)) aj))) (e2 oMod (e2 bY (ab 1) (eC (.int 768))) (eC (.int 2))) (EB ns cell L count most)=some (.fr,.int Q):=by
   have q3:e2 oMod (e2 bY (ab 1) (eC (.int 768))) (eC (.int 2)) (EB ns cell L count most)=some (.fr,.int (cell / 768 % 2)):=fm _ 768 2 (by decide) (by decide) rfl
   have:cell / 768 % 2=0\/cell / 768 % 2=1:=by omega
   rcases this with h | h
   ·rw [h] at q3
    exact ⟨60,.inl rfl,e2v (x:=(.fr,.lst [.int 60,.int 120])) rfl q3 rfl⟩
   ·rw [h] at q3
    exact ⟨120,.inr rfl,e2v (x:=(.fr,.lst [.int 60,.int 120])) rfl q3 rfl⟩
  obtain ⟨Q,hq,eq⟩:=hQ
  have mx:(1:Int)<=(if count > 1 then count else 1)/\(if count > 1 then count else 1)<=8/\count<=(if count > 1 then count else 1):=by split <;> omega
  generalize hM:(if count > 1 then count else 1)=M at mx
  have s5:aC 4 (e2 bY (e2 ax (fL (ae (eC (.int 60)) (ae (eC (.int 120)) aj))) (e2 oMod (e2 bY (ab 1) (eC (.int 768))) (eC (.int 2)))) (eN mL (ae (eC (.int 1)) (ae (ab 3) aj)))) (EB ns cell L count most)=some (.nx (EB ns cell L count (Q / M))):=by
   refine aK (m:=.fr) (e2v eq (y:=(.fr,.int M)) ?_ (gU (by omega))) (by decide) (by show 4 < 5;decide)
   rw [← hM]
   rfl
  have x0:0<=Q / M:=Int.ediv_nonneg (by omega) (by omega)
  have x1:M * (Q / M)<=Q:=Int.mul_ediv_self_le (by omega)
  have x2:count * (Q / M)<=M * (Q / M):=Wx mx.2.2 x0
  have x3:1 * (Q / M)<=M * (Q / M):=Wx mx.1 x0
  have x4:count.toNat * (Q / M).toNat<=120:=by
   have:((count.toNat * (Q / M).toNat:Nat):Int)=count * (Q / M):=by rw [Int.natCast_mul,Int.toNat_of_nonneg c0,Int.toNat_of_nonneg x0]
   omega
  obtain ⟨bk,e,g⟩:=fin (Q / M) x0 (by omega) x4
  exact ⟨bk,fF rfl ((pre _).trans ((ak ((kf c5).trans s5)).trans e)),g⟩
 | false =>
  rw [hb] at c5
  obtain ⟨bk,e,g⟩:=fin most m0 (by omega) (by omega)
  exact ⟨bk,fF rfl ((pre _).trans ((ak ((iy c5).trans rfl)).trans e)),g⟩
end T09
end
section
namespace AU
theorem qC {α β:Type} [DecidableEq β] {Rel:α->β->Prop}:∀ (l:List α) (r:List β),l.Nodup->(∀ x∈l,∀ x'∈l,∀ y,Rel x y->Rel x' y->x=x')->(∀ x∈l,∃ y∈r,Rel x y)->l.length<=r.length:=by
 intro l
 induction l with
 | nil=>intro r _ _ _;exact Yk _
 | cons a l ih =>
  intro r nd u h
  obtain ⟨na,nl⟩:=Zh.mp nd
  obtain ⟨y,hy,ry⟩:=h a Zw
  have:=ih (r.erase y) nl (fun x hx x' hx'=>u x (Zx _ hx) x' (Zx _ hx')) fun x hx=>by
   obtain ⟨z,hz,rz⟩:=h x (Zx _ hx)
   refine ⟨z,(List.mem_erase_of_ne fun e=>?_).mpr hz,rz⟩
   subst e
   exact na (u x (Zx _ hx) a Zw _ rz ry ▸ hx)
  rw [List.length_erase_of_mem hy] at this
  have:=List.length_pos_of_mem hy
  rw [Zk]
  omega
section
variable {S:St} {nd:Wd->Option Nat} {wd:List Wd} {P:Wd->Prop}
theorem I.pre' (H:I none S nd wd):∀ (z u:Wd) {n:Nat},nd (u++z)=some n->∃ m,nd u=some m:=by
 intro z
 induction z with
 | nil=>intro u n h;rw [ZK] at h;exact ⟨n,h⟩
 | cons c z ih =>
  intro u n h
  rw [Wy] at h
  obtain ⟨m,hm⟩:=ih _ h
  exact H.pre hm
theorem I.ext (H:I none S nd wd):∀ (z x y:Wd) {n:Nat},nd x=some n->nd y=some n->nd (x++z)=nd (y++z):=by
 intro z
 induction z with
 | nil=>intro x y n hx hy;rw [ZK,ZK,hx,hy]
 | cons c z ih =>
  intro x y n hx hy
  rw [Wy x,Wy y]
  have e:nd (x++[c])=nd (y++[c]):=(H.wy hx c).symm.trans (H.wy hy c)
  cases hc:nd (x++[c]) with
  | some m=>exact ih _ _ hc (e ▸ hc)
  | none =>
   have n1:∀ u,nd u=none->nd (u++z)=none:=fun u hu=>by
    cases hz:nd (u++z) with
    | none=>rfl
    | some k =>
     obtain ⟨m,hm⟩:=H.pre' z u hz
     rw [hu] at hm
     cases hm
   rw [n1 _ hc,n1 _ (e ▸ hc)]
theorem I.head (H:I none S nd wd) {n:Nat} (hn:n < wd.length) {x y:Wd} (e:W wd n=x++y):∃ m,m < wd.length/\W wd m=x:=by
 have ht:=H.top hn
 have hy:=ht
 rw [e] at hy
 obtain ⟨m,hm⟩:=H.pre' y x hy
 have hl:=H.lt hm
 refine ⟨m,hl,?_⟩
 have:=H.ext y _ _ hm (H.top hl)
 rw [hy] at this
 have s:=(H.sf this.symm).length_le
 rw [e,Zv,Zv] at s
 exact ((H.sf hm).eq_of_length_le (by omega)).symm
noncomputable def kB (S:St) (met:Wo):List (Nat×Nat):=met.flatMap fun n=>(sk (S.wy.getD n [])).map fun c=>(n,c)
theorem Dm (w:List (Nat×Nat)):(sk w).Nodup:=List.Pairwise.filter _ X1
theorem iq {met:Wo} {p:Nat×Nat}:p∈kB S met ↔ p.1∈met/\p.2∈sk (S.wy.getD p.1 []):=by
 unfold kB
 rw [List.mem_flatMap]
 constructor
 ·rintro ⟨n,hn,h⟩
  obtain ⟨c,hc,rfl⟩:=ZG.mp h
  exact ⟨hn,hc⟩
 ·rintro ⟨h1,h2⟩
  exact ⟨p.1,h1,ZG.mpr ⟨p.2,h2,rfl⟩⟩
theorem we:∀ {met:Wo},met.Nodup->(kB S met).Nodup:=by
 intro met
 induction met with
 | nil=>intro _;exact Yn
 | cons a met ih =>
  intro nd
  obtain ⟨na,nm⟩:=Zh.mp nd
  show ((sk (S.wy.getD a [])).map (fun c=>(a,c))++kB S met).Nodup
  refine ZP.mpr ⟨?_,ih nm,?_⟩
  ·refine Xn.mpr ((Dm _).imp fun h e=>h (Xv e).2)
  ·intro p hp q hq e
   obtain ⟨c,_,rfl⟩:=ZG.mp hp
   subst e
   exact na (iq.mp hq).1
theorem sC {met:Wo}:(kB S met).length=(met.map fun n=>(sk (S.wy.getD n [])).length).sum:=by
 unfold kB
 rw [List.length_flatMap]
 exact congrArg (fun l=>l.sum) (Yu fun n _=>Zy ..)
noncomputable def ends (b:List Wd):List Wd:=b.flatMap fun t=>(List.range t.length).map fun k=>t.drop k
theorem uT (b:List Wd):(ends b).length=(b.map List.length).sum:=by
 unfold ends
 rw [List.length_flatMap]
 have:(fun t:Wd=>((List.range t.length).map fun k=>t.drop k).length)=List.length:=funext fun t=>by rw [Zy,ZC]
 rw [this]
theorem I.inj2 (H:I none S nd wd) {n n' c c':Nat} (hn:n < wd.length) (hn':n' < wd.length) (e:W wd n++[c]=W wd n'++[c']):(n,c)=(n',c'):=by
 obtain ⟨e1,e2⟩:=List.append_inj' e rfl
 rw [H.inj hn hn' e1,List.singleton_inj.mp e2]
theorem K.ways {b:List Wd} (H:K (Hd b) S nd wd) {met:Wo} (hm:met.Nodup) (hl:∀ x∈met,x < wd.length):(met.map fun n=>(sk (S.wy.getD n [])).length).sum<=wd.length - 1+(b.map List.length).sum:=by
 rw [← sC,← uT]
 have key:=qC (Rel:=fun (p:Nat×Nat) (y:Nat ⊕ Wd)=>match y with
   | .inl q=>W wd q=W wd p.1++[p.2]
   | .inr s=>(¬ ∃ q,q < wd.length/\W wd q=W wd p.1++[p.2])/\W wd p.1++[p.2] <+: s) (kB S met) ((List.range' 1 (wd.length - 1)).map .inl++(ends b).map .inr) (we hm) ?_ ?_
 ·rw [Zv,Zy,Zy,Y1] at key
  exact key
 ·rintro ⟨n,c⟩ hp ⟨n',c'⟩ hp' y r r'
  have ln:=hl _ (iq.mp hp).1
  have ln':=hl _ (iq.mp hp').1
  cases y with
  | inl q=>exact H.i.inj2 ln ln' (r.symm.trans r')
  | inr s =>
   have go:∀ {m d m' d':Nat},m' < wd.length->(¬ ∃ q,q < wd.length/\W wd q=W wd m++[d])->W wd m++[d] <+: s->W wd m'++[d'] <+: s->¬ (W wd m).length < (W wd m').length:=by
    intro m d m' d' lm' h1 h2 h3 hlt
    have p1:W wd m' <+: s:=(List.prefix_append _ _).trans h3
    obtain ⟨y,hy⟩:=X6 h2 p1 (by rw [Zv,ZS];omega)
    exact h1 (H.i.head lm' hy.symm)
   have g1:¬ (W wd n).length < (W wd n').length:=go ln' r.1 r.2 r'.2
   have g2:¬ (W wd n').length < (W wd n).length:=go ln r'.1 r'.2 r.2
   refine H.i.inj2 ln ln' ?_
   have le:(W wd n++[c]).length=(W wd n'++[c']).length:=by
    rw [Zv,Zv,ZS,ZS]
    show (W wd n).length+1=(W wd n').length+1
    omega
   exact (X6 r.2 r'.2 (Xq le)).eq_of_length le
 ·rintro ⟨n,c⟩ hp
  obtain ⟨h1,h2⟩:=iq.mp hp
  have ln:=hl _ h1
  obtain ⟨m,hgm⟩:=gE h2
  have hw:=H.i.way ln hgm
  by_cases hq:∃ q,q < wd.length/\W wd q=W wd n++[c]
  ·obtain ⟨q,lq,eq⟩:=hq
   refine ⟨.inl q,ZD _ (ZG.mpr ⟨q,YM.mpr ⟨?_,by omega⟩,rfl⟩),eq⟩
   refine Z4 fun z=>?_
   rw [z,H.i.wz] at eq
   exact absurd eq.symm (XC _ (List.cons_ne_nil _ _))
  ·obtain ⟨p,hp,hs⟩:=(H.some _).mp ⟨m,hw⟩
   rcases hp with rfl | ⟨t,ht,z,rfl⟩
   ·exact absurd (Ya.mp hs) (XC _ (List.cons_ne_nil _ _))
   ·obtain ⟨u,rfl⟩:=hs
    refine ⟨.inr (W wd n++[c]++z),ZX _ (ZG.mpr ⟨_,List.mem_flatMap.mpr ⟨_,ht,ZG.mpr ⟨u.length,Ye.mpr ?_,?_⟩⟩,rfl⟩),hq,List.prefix_append _ _⟩
    ·rw [Zv,Zv,Zv,ZS]
     omega
    ·rw [Z3 u,List.drop_left]
theorem I.lkOf (H:I none S nd wd) {n m a:Nat} (hn:n < wd.length) (hm:nd (a :: W wd n)=some m):S.lk.getD m none=some n:=by
 have lm:=H.lt hm
 have sm:=H.sf hm
 have m0:0 < m:=Z4 fun z=>by
  subst z
  have:=H.zero hm
  cases this
 obtain ⟨k,a1,⟨a2,_⟩,a3,a4,a5⟩:=H.lk m0 lm (fun z=>nomatch z)
 have sn:W wd n <:+ W wd m:=(List.suffix_cons _ _).trans sm
 have l1:(W wd n).length<=(W wd k).length:=ZJ fun z=>by
  have q:=a5 _ sn z
  rw [H.top hn] at q
  cases Zp q
  have:=sm.length_le
  rw [Zk] at this
  omega
 have l2:=(H.low (fun z=>nomatch z) a1 hm).1
 rw [Zk] at l2
 have e:W wd k=W wd n:=(b7 a3 sn (by omega)).eq_of_length (by omega)
 rw [a1,H.inj a2 hn e]
theorem K.fork (H:K P S nd wd) {n:Nat} (hn:n < wd.length) (hp:¬ P (W wd n)):∃ m m',m ≠ m'/\m < wd.length/\m' < wd.length/\S.lk.getD m none=.some n/\S.lk.getD m' none=.some n:=by
 have ht:=H.i.top hn
 have cut:∀ {p},P p->W wd n <:+ p->∃ a,a :: W wd n <:+ p:=by
  intro p hpp hs
  obtain ⟨u,rfl⟩:=hs
  rcases XW u with rfl | ⟨v,a,rfl⟩
  ·exact absurd hpp hp
  ·exact ⟨a,v,by rw [XT,Z3];rfl⟩
 obtain ⟨p,hpp,hs⟩:=(H.some _).mp ⟨n,ht⟩
 obtain ⟨a,ha⟩:=cut hpp hs
 obtain ⟨m,hm⟩:=(H.some (a :: W wd n)).mpr ⟨p,hpp,ha⟩
 have ne:m ≠ n:=fun e=>by
  have:=(H.i.sf hm).length_le
  rw [e,Zk] at this
  omega
 by_cases hb:∃ b q,b ≠ a/\P q/\b :: W wd n <:+ q
 ·obtain ⟨b,q,hba,hq,hsq⟩:=hb
  obtain ⟨m',hm'⟩:=(H.some (b :: W wd n)).mpr ⟨q,hq,hsq⟩
  refine ⟨m,m',fun e=>?_,H.i.lt hm,H.i.lt hm',H.i.lkOf hn hm,H.i.lkOf hn hm'⟩
  subst e
  have:=(b7 (H.i.sf hm') (H.i.sf hm) (Zl _)).eq_of_length rfl
  exact hba (List.cons.inj this).1
 ·refine absurd ((H.eq hm ht).mpr fun q hq=>⟨fun h=>(List.suffix_cons _ _).trans h,fun h=>?_⟩) ne
  obtain ⟨b,hb'⟩:=cut hq h
  by_cases e:b=a
  ·exact e ▸ hb'
  ·exact absurd ⟨b,q,e,hq,hb'⟩ hb
theorem gd {l:Wo} {k:Nat} (h:k < l.length):l.getD k 0=l[k]:=by
 rw [Zr,Zm h]
 rfl
theorem y8 {l:Wo} (hm:l.Nodup) {k:Nat} (h:k < l.length):l.idxOf l[k]=k:=by
 have h2:=List.idxOf_lt_length_iff.mpr (Yy h)
 exact (YD hm).mp (List.getElem_idxOf h2)
noncomputable def forked (S:St) (met:Wo) (k:Nat):Bool:=decide (1 < (met.filter fun m=>decide ((row S met m).2.2.1=some k)).length)
theorem K.forks {b ks:List Wd} (H:K (Hd b) S nd wd) {l:Wo} (hm:(0 :: l).Nodup) (hl:∀ x,x∈0 :: l ↔ x < wd.length) (hN:(0 :: l).length=wd.length) (hk:∀ x,x ≠ []->Hd b x->x∈ks) :
  wd.length - 1<=ks.length+((List.range' 1 (wd.length - 1)).filter (forked S (0 :: l))).length:=by
 have key:=qC (Rel:=fun (k:Nat) (y:Wd ⊕ Nat)=>match y with
   | .inl x=>W wd ((0 :: l).getD k 0)=x
   | .inr j=>k=j) (List.range' 1 (wd.length - 1)) (ks.map .inl++((List.range' 1 (wd.length - 1)).filter (forked S (0 :: l))).map .inr) X1 ?_ ?_
 ·rw [Zv,Zy,Zy,Y1] at key
  exact key
 ·intro k hk' k' hk2 y r r'
  cases y with
  | inr j=>exact r.trans r'.symm
  | inl x =>
   rw [YM] at hk' hk2
   have l1:k < (0 :: l).length:=by omega
   have l2:k' < (0 :: l).length:=by omega
   have:=H.i.inj ((hl _).mp (getD_mem l1)) ((hl _).mp (getD_mem l2)) (r.trans r'.symm)
   rw [gd l1,gd l2] at this
   exact (YD hm).mp this
 ·intro k hk'
  have hk2:=YM.mp hk'
  have l1:k < (0 :: l).length:=by omega
  have hn:=(hl _).mp (getD_mem l1)
  by_cases hp:Hd b (W wd ((0 :: l).getD k 0))
  ·refine ⟨.inl _,ZD _ (ZG.mpr ⟨_,hk _ (fun e=>?_) hp,rfl⟩),rfl⟩
   have:=H.i.inj hn (H.i.lt H.i.z) (e.trans H.i.wz.symm)
   rw [gd l1] at this
   have h0:(0 :: l)[k]=(0 :: l)[0]'(by rw [Zk];omega):=this
   have:=(YD hm).mp h0
   omega
  ·refine ⟨.inr k,ZX _ (ZG.mpr ⟨k,YZ.mpr ⟨hk',?_⟩,rfl⟩),rfl⟩
   obtain ⟨m,m',ne,hm1,hm2,e1,e2⟩:=H.fork hn hp
   have ix:(0 :: l).idxOf ((0 :: l).getD k 0)=k:=by
    rw [gd l1]
    exact y8 hm l1
   have rr:∀ {x},S.lk.getD x none=.some ((0 :: l).getD k 0)->(row S (0 :: l) x).2.2.1=.some k:=fun {x} e=>by
    unfold row
    rw [e]
    exact congrArg Option.some ix
   refine decide_eq_true ?_
   refine sub_len [m,m'] _ (Zh.mpr ⟨fun h=>ne (Zb.mp h),Zh.mpr ⟨(fun h=>nomatch h),Yn⟩⟩) fun x hx=>?_
   rcases Zg.mp hx with rfl | hx
   ·exact YZ.mpr ⟨(hl _).mpr hm1,decide_eq_true (rr e1)⟩
   ·rw [Zb.mp hx]
    exact YZ.mpr ⟨(hl _).mpr hm2,decide_eq_true (rr e2)⟩
end
theorem uJ (c:Nat):∃ r,hb S0 0 c=some (⟨[0,1],[none,some 0],[[(c,1)],[]]⟩,r):=⟨_,rfl⟩
theorem tf:∀ (b:List Wd) {S:St},(∀ t∈b,∀ c∈t,97<=c/\c<=122)->(∀ t∈b,t.length < 1000)->mB S0 b=some S->0 < (b.map List.length).sum->S.lg.length<=2 * (b.map List.length).sum:=by
 intro b
 induction b with
 | nil=>intro S _ _ _ h;exact absurd h (Yp 0)
 | cons t b ih =>
  intro S ha hl e hp
  have hb':=fun t ht=>ha t (Zx _ ht)
  have hl':=fun t ht=>hl t (Zx _ ht)
  rw [Zn,YW] at hp ⊢
  cases t with
  | nil =>
   rw [Xb,Xr] at hp ⊢
   exact ih hb' hl' e hp
  | cons c w =>
   have hw:=ha _ Zw
   have hk:(c :: w).length < 1000:=hl _ Zw
   rw [Zk] at hk
   obtain ⟨S1,r1,nd1,wd1,e1,H1,a1,a2,a3,a4,a5⟩:=K0.step (h:=0) (c:=c) (by decide) (hw c Zw) (by decide)
   obtain ⟨r,er⟩:=uJ c
   have l1:wd1.length=2:=by
    rw [H1.i.len]
    rw [er] at e1
    cases e1
    rfl
   have a2':W wd1 r1=[c]:=a2
   obtain ⟨S2,r2,nd2,wd2,e2,H2,b1,b2,b3,b4,b5⟩:=H1.grow w a1 (.inr a2) (fun d hd=>hw d (Zx _ hd)) (by rw [a2',ZS];omega)
   obtain ⟨S3,nd3,wd3,e3,H3,c1,c2⟩:=H2.book b hb' hl'
   have:mB S0 ((c :: w) :: b)=some S3:=by
    show ((hb S0 0 c).bind _).bind _=_
    rw [e1]
    show (hg S1 r1 w).bind _=_
    rw [e2]
    exact e3
   rw [this] at e
   cases e
   rw [← H3.i.len,Zk]
   omega
section
variable {S:St} {nd:Wd->Option Nat} {wd:List Wd} {P:Wd->Prop}
theorem I.led (H:I none S nd wd) {n:Nat} (h0:n ≠ 0) (hn:n < wd.length):∃ m c,m < wd.length/\gW (S.wy.getD m []) c=some n:=by
 have ht:=H.top hn
 rcases XW (W wd n) with e | ⟨x,c,e⟩
 ·exact absurd (H.inj hn (H.lt H.z) (e.trans H.wz.symm)) h0
 ·rw [XT] at e
  rw [e] at ht
  obtain ⟨m,hm⟩:=H.pre ht
  exact ⟨m,c,H.lt hm,(H.wy hm c).trans ht⟩
end
end AU
end
section
namespace T09
open VS AU
theorem rg:∀ l:List Tx,eK (l.map T.str)=true
 | []=>rfl
 | _ :: l=>by
  rw [Zn]
  show (true && eK _)=true
  rw [rg l]
  rfl
theorem jM (bk:List Tx):bK bk=bk.flatten.length:=by
 unfold bK
 rw [List.length_flatten]
theorem wK (r:Row):eqD 59 (bO r)=true:=by
 have h1:eqD 58 (lkT r.2.2.1)=true:=by cases r.2.2.1 <;> rfl
 have h2:eqD 58 (stT r.2.2.2)=true:=by
  show (r.2.2.2.map fun p=>T.tup [.str [p.1],.int (p.2:Int)]).all (eqD 57)=true
  rw [Yq]
  intro x hx
  obtain ⟨p,_,rfl⟩:=ZG.mp hx
  rfl
 show (true && (true && (eqD 58 (lkT r.2.2.1) && (eqD 58 (stT r.2.2.2) && true))))=true
 rw [h1,h2]
 rfl
theorem qh (t:List Row):eqD 60 (tbT t)=true:=by
 show (t.map bO).all (eqD 59)=true
 rw [Yq]
 intro x hx
 obtain ⟨r,_,rfl⟩:=ZG.mp hx
 exact wK r
theorem Cd {m n:Md} {s t:List Row} (h:s=t):oEq (m,tbT s) (n,tbT t)=some (.fr,.bl true):=by
 subst h
 exact jw (qh s) (qh s) (px 60 _ (qh s))
theorem Dc {a:Ex} {η:Env} {m:Md} {l:List Tx} (h:a η=some (m,.lst (l.map .str))) (hl:l.length<=8):eN gL (ae a aj) η=some (.fr,.lst (l.map .str)):=gR (xv (r:=aj) h rfl) (by
 show mkL m (l.map T.str)=_
 unfold mkL
 rw [Zq (by rw [Zy];show l.length<=16777216;omega),rg]
 rfl)
section
variable {α:Type} [DecidableEq α] (f:α->T)
noncomputable def trE (ks:List α):List (T×T):=ks.map fun a=>(f a,T.bl true)
noncomputable def pj (ks:List α) (x:α):List α:=if x∈ks then ks else ks++[x]
theorem gn {ks:List α} {x y:α}:y∈pj ks x ↔ y∈ks\/y=x:=by
 unfold pj
 split
 ·rename_i h
  exact ⟨.inl,fun z=>z.elim id fun e=>e ▸ h⟩
 ·rw [ZY,Zb]
theorem pz (ks:List α) (x:α):(pj ks x).length<=ks.length+1:=by
 unfold pj
 split
 ·omega
 ·rw [Zv,ZS];exact Zl _
variable {f} (hf:∀ a b,eqT (f a) (f b)=decide (a=b))
include hf
theorem wm (ks:List α) (x:α):((trE f ks).any fun p=>eqT p.1 (f x))=decide (x∈ks):=by
 unfold trE
 rw [List.any_map]
 apply YA.mpr
 rw [YS,decide_eq_true_iff]
 constructor
 ·rintro ⟨a,ha,e⟩
  have e':eqT (f a) (f x)=true:=e
  rw [hf] at e'
  exact of_decide_eq_true e' ▸ ha
 ·intro h
  exact ⟨x,h,(hf x x).trans (decide_eq_true rfl)⟩
theorem uz (ks:List α) (x:α):dput (trE f ks) (f x) (.bl true)=trE f (pj ks x):=by
 unfold dput pj
 rw [wm hf]
 by_cases h:x∈ks
 ·rw [Zq (decide_eq_true h),Zq h]
  unfold trE
  rw [Z1]
  refine Yu fun a _=>?_
  show (if eqT (f a) (f x)=true then (f a,T.bl true) else (f a,T.bl true))=_
  split <;> rfl
 ·rw [Zo (fun z=>h (of_decide_eq_true z)),Zo h]
  unfold trE
  rw [Z6]
  rfl
theorem zH (ks:List α) (x:α):(dI (trE f ks) (f x)).isSome=decide (x∈ks):=by
 rw [← wm hf]
 unfold dI
 rw [Yo]
 apply YA.mpr
 rw [X4,YS]
end
theorem fI (a b:Nat):eqT (.int (a:Int)) (.int (b:Int))=decide (a=b):=(Da a b).trans (by
 by_cases h:a=b
 ·rw [decide_eq_true h];exact beq_iff_eq.mpr h
 ·rw [ZZ h];exact ZV.mpr h)
theorem fS (a b:Tx):eqT (.str a) (.str b)=decide (a=b):=by
 simp only [eqT]
 by_cases h:a=b
 ·rw [decide_eq_true h];exact beq_iff_eq.mpr h
 ·rw [ZZ h];exact ZV.mpr h
theorem qx {i:Nat} {k e:Ex} {η:Env} {l:List (T×T)} {kv v:T} {m n:Md} (h:η[i]?=some (some (.ow (.dct 0 l)))) (he:e η=some (m,v)) (hk:k η=some (n,kv)) (h1:hV kv=true) (h2:imm v=true) (h3:l.length < 16777216):iB i k e η=some (.nx (η.set i (some (.ow (.dct 0 (dput l kv v)))))):=by
 unfold iB
 rw [he,Zt,h,hk]
 exact Zq ⟨h1,h2,h3⟩
theorem p5 {α:Type} (f:α->T) (ks:List α):(trE f ks).length=ks.length:=Zy ..
noncomputable abbrev d0:Row:=(0,0,none,[])
structure Tbk (t:List Row):Prop where
 z:∃ st r,t=(0,0,none,st) :: r
 lk:∀ k,0 < k->k < t.length->∃ p,(t.getD k d0).2.2.1=some p/\p < t.length/\(t.getD p d0).2.1+1=(t.getD k d0).1/\(t.getD k d0).1<=(t.getD k d0).2.1
 led:∀ k,0 < k->k < t.length->∃ r∈t,∃ c,(c,k)∈r.2.2.2
 few:∀ r∈t,r.2.2.2.length<=26
 short:t.length<=1000
theorem tj {S:St} {met:Wo} {k:Nat} (h:k < met.length):(tab S met).getD k d0=row S met (met.getD k 0):=by
 unfold tab
 rw [Zr,ZO,Zm h,Zr,Zm h]
 rfl
theorem pL (S:St) (met:Wo) (n:Nat):(row S met n).2.2.2=steps S met n:=by
 unfold row
 split <;> rfl
theorem uH {bk:List Tx} (h:Bok bk):∃ nd wd l,K (Hd bk) (cZ bk) nd wd/\kP bk=0 :: l/\(0 :: l).Nodup/\(∀ x,x∈0 :: l ↔ x < wd.length)/\(0 :: l).length=wd.length/\wd.length<=241/\mB S0 bk=some (cZ bk):=by
 obtain ⟨e,nd,wd,H,l,e2,_,_⟩:=h.k
 obtain ⟨m,e3,h1,h2,h3⟩:=H.met (k:=1000) (by omega)
 rw [e2] at e3
 exact ⟨nd,wd,m,H,Zp e3,h1,h2,h3,l,e⟩
theorem tok {bk:List Tx} (h:Bok bk):Tbk (tabOf bk):=by
 obtain ⟨nd,wd,l,H,eM,hn,hm,hl,l2,_⟩:=uH h
 have tl:(tabOf bk).length=wd.length:=by
  unfold tabOf tab
  rw [Zy,eM,hl]
 have gr:∀ {k},k < wd.length->(tabOf bk).getD k d0=row (cZ bk) (0 :: l) ((0 :: l).getD k 0):=fun {k} hk=>by
  unfold tabOf
  rw [eM,tj (by rw [hl];exact hk)]
 have ge:∀ {k},0 < k->k < wd.length->(0 :: l).getD k 0 ≠ 0/\(0 :: l).getD k 0 < wd.length/\(0 :: l).idxOf ((0 :: l).getD k 0)=k:=fun {k} h0 hk=>by
  have hk':k < (0 :: l).length:=by rw [hl];exact hk
  refine ⟨fun e=>?_,(hm _).mp (getD_mem hk'),?_⟩
  ·rw [gd hk'] at e
   have h0':(0 :: l)[k]=(0 :: l)[0]'(by rw [Zk];omega):=e
   have:=(YD hn).mp h0'
   omega
  ·rw [gd hk']
   exact y8 hn hk'
 refine ⟨?_,fun k h0 hk=>?_,fun k h0 hk=>?_,fun r hr=>?_,by omega⟩
 ·refine ⟨steps (cZ bk) (0 :: l) 0,l.map (row (cZ bk) (0 :: l)),?_⟩
  unfold tabOf tab
  rw [eM,Zn]
  refine congrArg (· :: _) ?_
  unfold row
  rw [H.i.lk0]
 ·rw [tl] at hk
  obtain ⟨g1,g2,g3⟩:=ge h0 hk
  obtain ⟨m,a1,⟨a2,_⟩,a3,a4,_⟩:=H.i.lk (Z4 g1) g2 (fun z=>nomatch z)
  have mi:=(hm m).mpr a2
  have il:(0 :: l).idxOf m < wd.length:=by rw [← hl];exact List.idxOf_lt_length_iff.mpr mi
  have er:(tabOf bk).getD k d0=((cZ bk).lg.getD m 0+1,(cZ bk).lg.getD ((0 :: l).getD k 0) 0,some ((0 :: l).idxOf m),steps (cZ bk) (0 :: l) ((0 :: l).getD k 0)):=by
   rw [gr hk]
   unfold row
   rw [a1]
  rw [er]
  refine ⟨_,rfl,by rw [tl];exact il,?_,?_⟩
  ·have gm:(0 :: l).getD ((0 :: l).idxOf m) 0=m:=by
    rw [gd (by rw [hl];exact il)]
    exact List.getElem_idxOf _
   rw [gr il,gm]
   show (row _ _ m).2.1+1=_
   unfold row
   cases hmk:(cZ bk).lk.getD m none with
   | some q=>rfl
   | none =>
    by_cases hm0:m=0
    ·subst hm0
     show 0+1=(cZ bk).lg.getD 0 0+1
     rw [H.i.lg 0 a2,H.i.wz]
     rfl
    ·obtain ⟨q,q1,_⟩:=H.i.lk (Z4 hm0) a2 (fun z=>nomatch z)
     rw [hmk] at q1
     cases q1
  ·show (cZ bk).lg.getD m 0+1<=(cZ bk).lg.getD ((0 :: l).getD k 0) 0
   rw [H.i.lg m a2,H.i.lg _ g2]
   omega
 ·rw [tl] at hk
  obtain ⟨g1,g2,g3⟩:=ge h0 hk
  obtain ⟨m,c,hml,hg⟩:=H.i.led g1 g2
  refine ⟨row (cZ bk) (0 :: l) m,?_,c,?_⟩
  ·unfold tabOf tab
   rw [eM]
   exact ZG.mpr ⟨m,(hm m).mpr hml,rfl⟩
  ·rw [pL]
   have hs:c∈sk ((cZ bk).wy.getD m []):=pP (H.i.wf.wnd m).2 hg
   refine ZG.mpr ⟨c,hs,?_⟩
   rw [hg,Yf,g3]
 ·unfold tabOf tab at hr
  obtain ⟨n,_,rfl⟩:=ZG.mp hr
  rw [pL]
  unfold steps
  rw [Zy]
  exact nL _
noncomputable abbrev fi (n:Nat):T:=.int (n:Int)
noncomputable abbrev gp (p:Nat×Nat):T:=.tup [.str [p.1],.int (p.2:Int)]
noncomputable abbrev E1 (tb:T) (ks:Wo) (z2 z3 z4 z5:Wj):Env:=[pc tb,oc (.dct 0 (trE fi ks)),z2,z3,z4,z5]
theorem y0 {m:Md} (l:List (Nat×Nat)):sub m (stT l)=(.fr,stT l):=by
 show up m (stT l)=_
 unfold up
 rw [nO]
 rfl
theorem nA {m:Md} (r:Row):sub m (bO r)=(.fr,bO r):=by
 show up m (bO r)=_
 unfold up
 rw [wZ]
 rfl
theorem lr1 {tb row:T} {z5:Wj} (ks:Wo) (st:List (Nat×Nat)) (z3 z4:Wj) (hl:ks.length+st.length < 16777216):∃ ks' z3' z4',forL (oJ [bw 3,bw 4]) cW (st.map gp) (E1 tb ks (pc row) z3 z4 z5)=some (.nx (E1 tb ks' (pc row) z3' z4' z5))/\(∀ x∈ks,x∈ks')/\(∀ p∈st,p.2∈ks')/\ks'.length<=ks.length+st.length:=by
 obtain ⟨η',e,ks',z3',z4',rfl,h1,h2,h3⟩:=eJ (tg:=oJ [bw 3,bw 4]) (body:=cW) gp (fun r η=>∃ ks' z3 z4,η=E1 tb ks' (pc row) z3 z4 z5/\(∀ x∈ks,x∈ks')/\(∀ p∈st,p∈r\/p.2∈ks')/\ks'.length+r.length<=ks.length+st.length) (by
  rintro p r _ ⟨k1,z3,z4,rfl,h1,h2,h3⟩
  rw [Zk] at h3
  refine ⟨E1 tb k1 (pc row) (pc (.str [p.1])) (pc (fi p.2)) z5,E1 tb (pj k1 p.2) (pc row) (pc (.str [p.1])) (pc (fi p.2)) z5,rfl,?_,_,_,_,rfl,fun x hx=>gn.mpr (.inl (h1 x hx)),fun q hq=>?_,?_⟩
  ·refine (qx (l:=trE fi k1) (kv:=fi p.2) (v:=.bl true) (m:=.fr) (n:=.fr) rfl rfl rfl rfl rfl (by rw [p5];omega)).trans ?_
   rw [uz fI]
   rfl
  ·rcases h2 q hq with h | h
   ·rcases Zg.mp h with rfl | h
    ·exact .inr (gn.mpr (.inr rfl))
    ·exact .inl h
   ·exact .inr (gn.mpr (.inl h))
  ·have:=pz k1 p.2
   omega) st _ ⟨ks,z3,z4,rfl,fun _ h=>h,fun p hp=>.inl hp,Zl _⟩
 exact ⟨ks',z3',z4',e,h1,fun p hp=>(h2 p hp).elim (fun h=>nomatch h) id,h3⟩
theorem lr2 {tb:T} {z5:Wj} (t:List Row) (few:∀ r∈t,r.2.2.2.length<=26) (ks:Wo) (z2 z3 z4:Wj) (hl:ks.length+26 * t.length < 16777216):∃ ks' z2' z3' z4',forL (bw 2) cY (t.map bO) (E1 tb ks z2 z3 z4 z5)=some (.nx (E1 tb ks' z2' z3' z4' z5))/\(∀ x∈ks,x∈ks')/\(∀ r∈t,∀ p∈r.2.2.2,p.2∈ks'):=by
 obtain ⟨η',e,ks',z2',z3',z4',rfl,h1,h2,h3,_⟩:=eJ (tg:=bw 2) (body:=cY) bO (fun r η=>∃ ks' z2 z3 z4,η=E1 tb ks' z2 z3 z4 z5/\(∀ x∈ks,x∈ks')/\(∀ q∈t,q∈r\/∀ p∈q.2.2.2,p.2∈ks')/\ks'.length+26 * r.length<=ks.length+26 * t.length/\∀ q∈r,q∈t) (by
  rintro q r _ ⟨k1,z2,z3,z4,rfl,h1,h2,h3,h4⟩
  rw [Zk] at h3
  have fq:=few q (h4 q Zw)
  obtain ⟨k2,z3',z4',e,g1,g2,g3⟩:=lr1 (tb:=tb) (row:=bO q) (z5:=z5) k1 q.2.2.2 z3 z4 (by omega)
  refine ⟨E1 tb k1 (pc (bO q)) z3 z4 z5,E1 tb k2 (pc (bO q)) z3' z4' z5,rfl,?_,k2,_,_,_,rfl,fun x hx=>g1 x (h1 x hx),fun p hp=>?_,by omega,fun p hp=>h4 p (Zx _ hp)⟩
  ·refine (d9 (m:=.fr) (l:=q.2.2.2.map gp) ?_ rfl).trans e
   have:e2 ax (ab 2) (eC (.int 3)) (E1 tb k1 (pc (bO q)) z3 z4 z5)=some (.fr,stT q.2.2.2):=e2v (x:=up .pu (bO q)) (y:=(.fr,.int 3)) rfl rfl (congrArg some (y0 q.2.2.2))
   show ((e2 ax (ab 2) (eC (.int 3)) (E1 tb k1 (pc (bO q)) z3 z4 z5)).bind xr)=_
   rw [this]
   rfl
  ·rcases h2 p hp with h | h
   ·rcases Zg.mp h with rfl | h
    ·exact .inr g2
    ·exact .inl h
   ·exact .inr fun x hx=>g1 _ (h x hx)) t _ ⟨ks,z2,z3,z4,rfl,fun _ h=>h,fun p hp=>.inl hp,Zl _,fun _ h=>h⟩
 exact ⟨ks',z2',z3',z4',e,h1,fun p hp=>(h2 p hp).elim (fun h=>nomatch h) id⟩
noncomputable abbrev E2 (t:List Row) (ks:Wo) (z2 z3 z4 z5:Wj):Env:=[pc (tbT t),pc (.dct 0 (trE fi ks)),z2,z3,z4,z5]
theorem uA {η:Env} {a e:Ex} {m n:Md} {t:List Row} {k:Nat} (ha:a η=some (m,tbT t)) (he:e η=some (n,.int (k:Int))) (hk:k < t.length):e2 ax a e η=some (.fr,bO (t.getD k d0)):=e2v ha he ((lF bO t k d0 hk).trans (congrArg some (nA _)))
theorem lr3 {t:List Row} (h:Tbk t) {ks:Wo} (hk:∀ k,0 < k->k < t.length->k∈ks) (z2 z3 z4 z5:Wj):∃ z2' z5',forL (bw 5) de ((List.range' 1 (t.length - 1)).map fi) (E2 t ks z2 z3 z4 z5)=some (.nx (E2 t ks z2' z3 z4 z5')):=by
 obtain ⟨η',e,z2',z5',rfl,_⟩:=eJ (tg:=bw 5) (body:=de) fi (fun r η=>∃ z2 z5,η=E2 t ks z2 z3 z4 z5/\∀ k∈r,0 < k/\k < t.length) (by
  rintro k r _ ⟨z2,z5,rfl,hr⟩
  obtain ⟨k0,kl⟩:=hr k Zw
  obtain ⟨p,a1,a2,a3,a4⟩:=h.lk k k0 kl
  refine ⟨E2 t ks z2 z3 z4 (pc (fi k)),E2 t ks (pc (bO (t.getD k d0))) z3 z4 (pc (fi k)),rfl,?_,_,_,rfl,fun k hk=>hr k (Zx _ hk)⟩
  have s1:aC 2 (e2 ax (ab 0) (ab 5)) (E2 t ks z2 z3 z4 (pc (fi k)))=some (.nx (E2 t ks (pc (bO (t.getD k d0))) z3 z4 (pc (fi k)))):=aK (m:=.fr) (uA (m:=.pu) (n:=.fr) rfl rfl kl) (by decide) (by show 2 < 6;decide)
  refine (ak s1).trans ((iy (m:=.fr) ?_).trans rfl)
  rcases hrow:t.getD k d0 with ⟨lo,hi,o,st⟩
  rw [hrow] at a1 a3 a4
  cases (show o=some p from a1)
  have v2:ab 2 (E2 t ks (pc (bO (lo,hi,some p,st))) z3 z4 (pc (fi k)))=some (.fr,bO (lo,hi,some p,st)):=congrArg some (nA _)
  have i2:e2 ax (ab 2) (eC (.int 2)) (E2 t ks (pc (bO (lo,hi,some p,st))) z3 z4 (pc (fi k)))=some (.fr,.int (p:Int)):=e2v v2 (y:=(.fr,.int 2)) rfl rfl
  have i0:e2 ax (ab 2) (eC (.int 0)) (E2 t ks (pc (bO (lo,hi,some p,st))) z3 z4 (pc (fi k)))=some (.fr,.int (lo:Int)):=e2v v2 (y:=(.fr,.int 0)) rfl rfl
  have i1:e2 ax (ab 2) (eC (.int 1)) (E2 t ks (pc (bO (lo,hi,some p,st))) z3 z4 (pc (fi k)))=some (.fr,.int (hi:Int)):=e2v v2 (y:=(.fr,.int 1)) rfl rfl
  have c1:qi (e2 ax (ab 2) (eC (.int 2))) (E2 t ks (pc (bO (lo,hi,some p,st))) z3 z4 (pc (fi k)))=some (.fr,.bl false):=by
   show ((e2 ax (ab 2) (eC (.int 2)) (E2 t ks (pc (bO (lo,hi,some p,st))) z3 z4 (pc (fi k)))).bind _)=_
   rw [i2]
   rfl
  have pt:e2 ax (e2 ax (ab 0) (e2 ax (ab 2) (eC (.int 2)))) (eC (.int 1)) (E2 t ks (pc (bO (lo,hi,some p,st))) z3 z4 (pc (fi k)))=some (.fr,.int ((t.getD p d0).2.1:Int)):=e2v (uA (m:=.pu) rfl i2 a2) (y:=(.fr,.int 1)) rfl rfl
  have c2:e2 oNe (e2 cG (e2 ax (e2 ax (ab 0) (e2 ax (ab 2) (eC (.int 2)))) (eC (.int 1))) (eC (.int 1))) (e2 ax (ab 2) (eC (.int 0))) (E2 t ks (pc (bO (lo,hi,some p,st))) z3 z4 (pc (fi k)))=some (.fr,.bl false):=by
   have ad:e2 cG (e2 ax (e2 ax (ab 0) (e2 ax (ab 2) (eC (.int 2)))) (eC (.int 1))) (eC (.int 1)) (E2 t ks (pc (bO (lo,hi,some p,st))) z3 z4 (pc (fi k)))=some (.fr,.int (lo:Int)):=by
    refine e2v pt (y:=(.fr,.int 1)) rfl ?_
    show some (Md.fr,T.int (((t.getD p d0).2.1:Int)+1))=_
    rw [show (((t.getD p d0).2.1:Int)+1)=((lo:Nat):Int) by omega]
   refine e2v ad i0 (zk (r:=true) rfl rfl ?_)
   rw [fI]
   exact decide_eq_true rfl
  have c3:e2 oGt (e2 ax (ab 2) (eC (.int 0))) (e2 ax (ab 2) (eC (.int 1))) (E2 t ks (pc (bO (lo,hi,some p,st))) z3 z4 (pc (fi k)))=some (.fr,.bl false):=by
   have a4':lo<=hi:=a4
   refine e2v i0 i1 ?_
   show some (Md.fr,T.bl (decide ((lo:Int) > (hi:Int))))=_
   rw [ZZ (by omega)]
  have c4:e2 cH (ab 5) (ab 1) (E2 t ks (pc (bO (lo,hi,some p,st))) z3 z4 (pc (fi k)))=some (.fr,.bl false):=by
   refine e2v (x:=(.fr,fi k)) (y:=(.pu,.dct 0 (trE fi ks))) rfl rfl ?_
   show (match (if true=true then some (Md.fr,T.bl (dI (trE fi ks) (fi k)).isSome) else none) with | some (_,.bl b)=>some (Md.fr,T.bl (!b)) | _=>none)=_
   rw [Zq rfl,zH fI,decide_eq_true (hk k k0 kl)]
   rfl
  exact or2 (m:=.fr) (n:=.fr) c1 (or2 (m:=.fr) (n:=.fr) c2 (or2 (m:=.fr) (n:=.fr) c3 c4))) (List.range' 1 (t.length - 1)) _ ⟨z2,z5,rfl,fun k hk=>by
   have:=YM.mp hk
   omega⟩
 exact ⟨z2',z5',e⟩
theorem pU {a b:Ex} {η:Env} {m n:Md} {i j:Int} (h1:a η=some (m,.int i)) (h2:b η=some (n,.int j)) (h:(-4611686018427387904<=i/\i < 4611686018427387904)/\-4611686018427387904<=j/\j < 4611686018427387904):fe a b η=some (.fr,rng i (j - i).toNat):=by
 simp only [fe,h1,h2,Zt,int?]
 exact Zq h
theorem rg2 {a b:Ex} {η:Env} {m n:Md} {k:Nat} (ha:a η=some (m,.int 1)) (hb:b η=some (n,.int (k:Int))) (h:k < 16777216):fe a b η=some (.fr,(List.range' 1 (k - 1)).map fi):=by
 have e:=pU ha hb (by omega)
 rw [e,show ((k:Int) - 1).toNat=k - 1 by omega]
 unfold rng
 rw [List.range'_eq_map_range,Z1]
 have:∀ i∈List.range (k - 1),T.int (1+(i:Int))=(fi ∘ fun x=>1+x) i:=fun i _=>by
  show _=T.int ((1+i:Nat):Int)
  rw [show ((1+i:Nat):Int)=1+(i:Int) by omega]
 rw [Yu this]
theorem vb {η:Env} {a:Ex} {m:Md} {t:List Row} (h:a η=some (m,tbT t)):eN bX (ae a aj) η=some (.fr,.int (t.length:Int)):=gR (xv (r:=aj) h rfl) (by
 show some (Md.fr,T.int (((t.map bO).length:Nat):Int))=_
 rw [Zy])
theorem yM {t:List Row} (h:Tbk t):cn [tbT t]=some (.fr,.bl true):=by
 have sh:=h.short
 obtain ⟨ks,z2,z3,z4,e1,h1,h2⟩:=lr2 (tb:=tbT t) (z5:=none) t h.few [0] none none none (by show 1+26 * t.length < 16777216;omega)
 obtain ⟨z2',z5',e2⟩:=lr3 h (ks:=ks) (fun k k0 kl=>by
  obtain ⟨r,hr,c,hc⟩:=h.led k k0 kl
  exact h2 r hr _ hc) z2 z3 z4 none
 obtain ⟨st,r,et⟩:=h.z
 have i0:VS.e2 ax (ab 0) (eC (.int 0)) (E2 t ks z2' z3 z4 z5')=some (.fr,bO (0,0,none,st)):=by
  have:=uA (η:=E2 t ks z2' z3 z4 z5') (a:=ab 0) (e:=eC (.int 0)) (m:=.pu) (n:=.fr) (t:=t) (k:=0) rfl rfl (by rw [et];exact Nat.zero_lt_succ _)
  rw [this,et]
  rfl
 have i3:v8 (VS.e2 ax (ab 0) (eC (.int 0))) 3 (E2 t ks z2' z3 z4 z5')=some (.fr,.tup [.int 0,.int 0,.non]):=by
  show ((VS.e2 ax (ab 0) (eC (.int 0)) (E2 t ks z2' z3 z4 z5')).bind _)=_
  rw [i0]
  rfl
 refine fF (η:=E2 t ks z2' z3 z4 z5') rfl ?_
 exact (ak (η1:=E1 (tbT t) [0] none none none none) rfl).trans ((ak ((d9 (m:=.pu) (l:=t.map bO) rfl rfl).trans e1)).trans ((ak (η1:=E2 t ks z2 z3 z4 none) rfl).trans ((ak ((d9 (m:=.fr) (rg2 (m:=.fr) (n:=.fr) (k:=t.length) rfl (vb (m:=.pu) rfl) (by omega)) rfl).trans e2)).trans (dA (e2v i3 (y:=(.fr,.tup [.int 0,.int 0,.non])) rfl rfl)))))
theorem sum_nat {α:Type} (f:α->Nat):∀ l:List α,(l.map fun x=>(f x:Int)).sum=(((l.map f).sum:Nat):Int)
 | []=>rfl
 | a :: l=>by
  rw [Zn,YW,Zn,YW,sum_nat f l]
  omega
noncomputable def cnt (t:List Row):Nat:=(t.map fun r=>r.2.2.2.length).sum
theorem xH (S:St) (met:Wo):cnt (tab S met)=(met.map fun n=>(sk (S.wy.getD n [])).length).sum:=by
 unfold cnt tab
 rw [Z1]
 refine congrArg List.sum (Yu fun n _=>?_)
 show (row S met n).2.2.2.length=_
 rw [pL]
 exact Zy ..
noncomputable def fk (t:List Row) (k:Nat):Bool:=decide (1 < (t.filter fun r=>decide (r.2.2.1=some k)).length)
theorem BK (S:St) (met:Wo):fk (tab S met)=forked S met:=by
 funext k
 unfold fk forked tab
 rw [List.filter_map,Zy]
 rfl
structure Bnd (bk:List Tx) (t:List Row):Prop where
 ways:cnt t<=t.length - 1+bK bk
 two:0 < bK bk->t.length<=2 * bK bk
 forks:∀ ks:List Tx,(∀ u∈bk,∀ e,0 < e->e<=u.length->u.take e∈ks)->t.length - 1<=ks.length+((List.range' 1 (t.length - 1)).filter (fk t)).length
theorem bnd {bk:List Tx} (h:Bok bk):Bnd bk (tabOf bk):=by
 obtain ⟨nd,wd,l,H,eM,hn,hm,hl,l2,e⟩:=uH h
 have tl:(tabOf bk).length=wd.length:=by
  unfold tabOf tab
  rw [Zy,eM,hl]
 refine ⟨?_,fun hp=>?_,fun ks hk=>?_⟩
 ·rw [tl]
  unfold tabOf
  rw [xH,eM]
  exact H.ways hn fun x hx=>(hm x).mp hx
 ·rw [tl,H.i.len]
  exact tf bk h.az h.len e hp
 ·have:=H.forks (ks:=ks) hn hm hl (fun x hx hh=>by
   rcases hh with hh | ⟨u,hu,hp⟩
   ·exact absurd hh hx
   ·rw [List.prefix_iff_eq_take.mp hp]
    exact hk u hu _ (List.length_pos_iff.mpr hx) hp.length_le)
  rw [tl]
  unfold tabOf
  rw [BK,eM]
  exact this
noncomputable abbrev A0 (ns:Wm) (bk:List Tx) (t:List Row) (r:Env):Env:=pc (.scr ns) :: pc (.lst (bk.map .str)) :: pc (tbT t) :: pc (.int (bK bk:Int)) :: pc (.int (cnt t:Int)) :: r
section
variable {ns:Wm} {bk:List Tx} {t:List Row}
theorem ah1 (u:Tx) (ks:List Tx) (z7:Wj) (hl:ks.length+u.length < 16777216):∃ ks' z7',forL (bw 7) kU ((List.range' 1 u.length).map fi) (A0 ns bk t [oc (.dct 0 (trE T.str ks)),pc (.str u),z7,none,none])=some (.nx (A0 ns bk t [oc (.dct 0 (trE T.str ks')),pc (.str u),z7',none,none]))/\(∀ x∈ks,x∈ks')/\(∀ e,0 < e->e<=u.length->u.take e∈ks')/\ks'.length<=ks.length+u.length:=by
 obtain ⟨η',e,ks',z7',rfl,h1,h2,h3⟩:=eJ (tg:=bw 7) (body:=kU) fi (fun r η=>∃ ks' z7,η=A0 ns bk t [oc (.dct 0 (trE T.str ks')),pc (.str u),z7,none,none]/\(∀ x∈ks,x∈ks')/\(∀ e∈List.range' 1 u.length,e∈r\/u.take e∈ks')/\ks'.length+r.length<=ks.length+u.length) (by
  rintro p r _ ⟨k1,z7,rfl,h1,h2,h3⟩
  rw [Zk] at h3
  refine ⟨A0 ns bk t [oc (.dct 0 (trE T.str k1)),pc (.str u),pc (fi p),none,none],A0 ns bk t [oc (.dct 0 (trE T.str (pj k1 (u.take p)))),pc (.str u),pc (fi p),none,none],rfl,?_,_,_,rfl,fun x hx=>gn.mpr (.inl (h1 x hx)),fun q hq=>?_,?_⟩
  ·refine (qx (l:=trE T.str k1) (kv:=.str (u.take p)) (v:=.bl true) (m:=.fr) (n:=.fr) rfl rfl ?_ rfl rfl (by rw [p5];omega)).trans ?_
   ·show some (Md.fr,T.str (cut u none (some (p:Int))))=_
    rw [A4]
   ·rw [uz fS]
    rfl
  ·rcases h2 q hq with h | h
   ·rcases Zg.mp h with rfl | h
    ·exact .inr (gn.mpr (.inr rfl))
    ·exact .inl h
   ·exact .inr (gn.mpr (.inl h))
  ·have:=pz k1 (u.take p)
   omega) (List.range' 1 u.length) _ ⟨ks,z7,rfl,fun _ h=>h,fun p hp=>.inl hp,by rw [Y1];exact Zl _⟩
 exact ⟨ks',z7',e,h1,fun p p0 p1=>(h2 p (YM.mpr ⟨p0,by omega⟩)).elim (fun h=>nomatch h) id,h3⟩
theorem ah2 (hs:∀ u∈bk,u.length < 1000) (h8:bk.length<=8):∃ ks z6 z7,forL (bw 6) kG (bk.map .str) (A0 ns bk t [oc (.dct 0 (trE T.str [])),none,none,none,none])=some (.nx (A0 ns bk t [oc (.dct 0 (trE T.str ks)),z6,z7,none,none]))/\∀ u∈bk,∀ e,0 < e->e<=u.length->u.take e∈ks:=by
 obtain ⟨η',e,ks',z6',z7',rfl,h1,_⟩:=eJ (tg:=bw 6) (body:=kG) T.str (fun r η=>∃ ks z6 z7,η=A0 ns bk t [oc (.dct 0 (trE T.str ks)),z6,z7,none,none]/\(∀ u∈bk,u∈r\/∀ e,0 < e->e<=u.length->u.take e∈ks)/\ks.length+1000 * r.length<=1000 * bk.length/\∀ u∈r,u∈bk) (by
  rintro u r _ ⟨k1,z6,z7,rfl,h1,h2,h3⟩
  rw [Zk] at h2
  have ul:=hs u (h3 u Zw)
  obtain ⟨k2,z7',e,g1,g2,g3⟩:=ah1 (ns:=ns) (bk:=bk) (t:=t) u k1 z7 (by omega)
  refine ⟨A0 ns bk t [oc (.dct 0 (trE T.str k1)),pc (.str u),z7,none,none],A0 ns bk t [oc (.dct 0 (trE T.str k2)),pc (.str u),z7',none,none],rfl,?_,k2,_,_,rfl,fun q hq=>?_,by omega,fun q hq=>h3 q (Zx _ hq)⟩
  ·refine (d9 (m:=.fr) (l:=(List.range' 1 u.length).map fi) ?_ rfl).trans e
   exact rg2 (m:=.fr) (n:=.fr) (k:=u.length+1) rfl rfl (by omega)
  ·rcases h1 q hq with h | h
   ·rcases Zg.mp h with rfl | h
    ·exact .inr g2
    ·exact .inl h
   ·exact .inr fun e e0 e1=>g1 _ (h e e0 e1)) bk _ ⟨[],none,none,rfl,fun u hu=>.inl hu,by rw [Xb,Xr];exact Zl _,fun _ h=>h⟩
 exact ⟨ks',z6',z7',e,fun u hu=>(h1 u hu).elim (fun h=>nomatch h) id⟩
theorem xX (sh:t.length<=1000) {D:T} {z6 z7:Wj}:∃ z9,forL (bw 9) lb ((List.range' 1 (t.length - 1)).map fi) (A0 ns bk t [pc D,z6,z7,pc (.int 0),none])=some (.nx (A0 ns bk t [pc D,z6,z7,pc (.int (((List.range' 1 (t.length - 1)).filter (fk t)).length:Int)),z9])):=by
 obtain ⟨η',e,f,z9,rfl,h1⟩:=eJ (tg:=bw 9) (body:=lb) fi (fun r η=>∃ f z9,η=A0 ns bk t [pc D,z6,z7,pc (fi f),z9]/\f+(r.filter (fk t)).length=((List.range' 1 (t.length - 1)).filter (fk t)).length) (by
  rintro k r _ ⟨f,z9,rfl,h1⟩
  have cm:cM 1 (bw 0) (fK (ab 2)) (some (e2 oEq (e2 ax (ab 0) (eC (.int 2))) (ab 10))) (ab 0) (A0 ns bk t [pc D,z6,z7,pc (fi f),pc (fi k)])=some (.fr,.lst ((t.filter fun r=>decide (r.2.2.1=some k)).map bO)):=by
   refine nQ (m:=.pu) bO (fun r=>decide (r.2.2.1=some k)) bO t rfl rfl (by omega) fun r _=>?_
   have v0:ab 0 (pc (bO r) :: A0 ns bk t [pc D,z6,z7,pc (fi f),pc (fi k)])=some (.fr,bO r):=congrArg some (nA (m:=.pu) r)
   have i2:e2 ax (ab 0) (eC (.int 2)) (pc (bO r) :: A0 ns bk t [pc D,z6,z7,pc (fi f),pc (fi k)])=some (.fr,lkT r.2.2.1):=by
    refine e2v v0 (y:=(.fr,.int 2)) rfl ?_
    cases hr:r.2.2.1 with
    | none=>show some (sub .fr (lkT r.2.2.1))=_;rw [hr];rfl
    | some p=>show some (sub .fr (lkT r.2.2.1))=_;rw [hr];rfl
   refine ⟨pc (bO r) :: A0 ns bk t [pc D,z6,z7,pc (fi f),pc (fi k)],(.fr,.bl (decide (r.2.2.1=some k))),rfl,e2v i2 (y:=(.fr,fi k)) rfl (jw ?_ rfl ?_),rfl,fun _=>v0⟩
   ·cases r.2.2.1 <;> rfl
   ·cases r.2.2.1 with
    | none=>rfl
    | some p =>
     show eqT (fi p) (fi k)=_
     rw [fI]
     exact decide_eq_decide.mpr ⟨fun h=>congrArg some h,fun h=>Zp h⟩
  have cc:e2 oGt (eN bX (ae (cM 1 (bw 0) (fK (ab 2)) (some (e2 oEq (e2 ax (ab 0) (eC (.int 2))) (ab 10))) (ab 0)) aj)) (eC (.int 1)) (A0 ns bk t [pc D,z6,z7,pc (fi f),pc (fi k)])=some (.fr,.bl (fk t k)):=by
   refine e2v (gR (v:=(.fr,.int ((t.filter fun r=>decide (r.2.2.1=some k)).length:Int))) (xv (r:=aj) cm rfl) ?_) (y:=(.fr,.int 1)) rfl ?_
   ·show some (Md.fr,T.int ((((t.filter fun r=>decide (r.2.2.1=some k)).map bO).length:Nat):Int))=_
    rw [Zy]
   ·show some (Md.fr,T.bl (decide ((1:Int) < ((t.filter fun r=>decide (r.2.2.1=some k)).length:Int))))=some (Md.fr,T.bl (decide (1 < (t.filter fun r=>decide (r.2.2.1=some k)).length)))
    exact congrArg (fun b=>some (Md.fr,T.bl b)) (decide_eq_decide.mpr ⟨fun h=>by omega,fun h=>by omega⟩)
  cases hf:fk t k with
  | true =>
   rw [hf] at cc
   refine ⟨A0 ns bk t [pc D,z6,z7,pc (fi f),pc (fi k)],A0 ns bk t [pc D,z6,z7,pc (fi (f+1)),pc (fi k)],rfl,(kf cc).trans ?_,f+1,_,rfl,?_⟩
   ·exact aK (m:=.fr) (t:=fi (f+1)) rfl (by decide) (by show 8 < 10;decide)
   ·rw [List.filter_cons_of_pos hf,Zk] at h1
    omega
  | false =>
   rw [hf] at cc
   refine ⟨A0 ns bk t [pc D,z6,z7,pc (fi f),pc (fi k)],A0 ns bk t [pc D,z6,z7,pc (fi f),pc (fi k)],rfl,(iy cc).trans rfl,f,_,rfl,?_⟩
   rw [List.filter_cons_of_neg (by rw [hf];decide)] at h1
   exact h1) (List.range' 1 (t.length - 1)) (A0 ns bk t [pc D,z6,z7,pc (.int 0),none]) ⟨0,none,rfl,Xr _⟩
 have:f=((List.range' 1 (t.length - 1)).filter (fk t)).length:=h1
 rw [← this]
 exact ⟨z9,e⟩
end
noncomputable abbrev xM (a:Ex):Ex:=dC 1 bD (eNew 1 aN (ae a aj)) aj
theorem Am (ns:Wm) {bk:List Tx} (eb:dz [.scr ns]=some (.fr,.lst (bk.map .str))) (h8:bk.length<=8) (h120:bk.flatten.length<=120) (haz:∀ t∈bk,∀ c∈t,97<=c/\c<=122):qS [.scr ns]=some (.fr,.bl true):=by
 have BB:Bok bk:=⟨h8,by rw [jM];exact h120,haz⟩
 have TT:=tok BB
 obtain ⟨b1,b2,b3⟩:=bnd BB
 have sh:=TT.short
 have s120:=BB.sum
 obtain ⟨t,ht⟩:∃ t,t=tabOf bk:=⟨_,rfl⟩
 rw [← ht] at TT b1 b2 b3 sh
 have tp:0 < t.length:=by
  obtain ⟨st,r,e⟩:=TT.z
  rw [e]
  exact Nat.zero_lt_succ _
 have s1:aC 1 (bG dz (ae (ab 0) aj)) [pc (.scr ns),none,none,none,none,none,none,none,none,none]=some (.nx [pc (.scr ns),pc (.lst (bk.map .str)),none,none,none,none,none,none,none,none]):=aK (m:=.fr) (fB (xv (x:=(.fr,.scr ns)) (r:=aj) rfl rfl) eb) (by decide) (by show 1 < 10;decide)
 have s2:aC 2 (xM (eN gL (ae (ab 1) aj))) [pc (.scr ns),pc (.lst (bk.map .str)),none,none,none,none,none,none,none,none]=some (.nx [pc (.scr ns),pc (.lst (bk.map .str)),pc (tbT t),none,none,none,none,none,none,none]):=by
  rw [ht]
  exact aK (m:=.fr) (xy BB (Dc (m:=.pu) rfl h8)) (by decide) (by show 2 < 10;decide)
 have s3:aC 3 (eN bX (ae (eM ia (eC (.str [])) (ae (ab 1) aj)) aj)) [pc (.scr ns),pc (.lst (bk.map .str)),pc (tbT t),none,none,none,none,none,none,none]=some (.nx [pc (.scr ns),pc (.lst (bk.map .str)),pc (tbT t),pc (.int (bK bk:Int)),none,none,none,none,none,none]):=by
  refine aK (m:=.fr) (gR (xv (x:=(.fr,.str bk.flatten)) (r:=aj) ?_ rfl) ?_) (by decide) (by show 3 < 10;decide)
  ·have:=md (m:=.fr) (n:=.pu) (strs_map id bk) (by rw [XQ];omega)
   rw [XQ] at this
   exact this
  ·rw [jM]
   rfl
 have s4:aC 4 (eN oA (ae (cM 1 (bw 0) (fK (ab 2)) none (eN bX (ae (e2 ax (ab 0) (eC (.int 3))) aj))) aj)) [pc (.scr ns),pc (.lst (bk.map .str)),pc (tbT t),pc (.int (bK bk:Int)),none,none,none,none,none,none]=some (.nx (A0 ns bk t [none,none,none,none,none])):=by
  refine aK (m:=.fr) (gR (xv (r:=aj) (gw (m:=.pu) bO (fun r=>T.int (r.2.2.2.length:Int)) t rfl rfl (by omega) (fun r _=>⟨_,rfl,?_⟩)) rfl) ?_) (by decide) (by show 4 < 10;decide)
  ·refine gR (xv (x:=(.fr,stT r.2.2.2)) (r:=aj) ?_ rfl) ?_
   ·refine e2v (x:=(.fr,bO r)) (y:=(.fr,.int 3)) ?_ rfl ?_
    ·exact congrArg some (nA (m:=.pu) r)
    ·exact congrArg some (y0 r.2.2.2)
   ·show some (Md.fr,T.int (((r.2.2.2.map gp).length:Nat):Int))=_
    rw [Zy]
  ·show (jX (t.map fun r=>T.int (r.2.2.2.length:Int))).bind _=_
   rw [ints_map (fun r:Row=>(r.2.2.2.length:Int)),Zt,sum_nat (fun r:Row=>r.2.2.2.length)]
   rfl
 have pre:∀ rest:Sx,ar (aC 1 (bG dz (ae (ab 0) aj))) (ar (aC 2 (xM (eN gL (ae (ab 1) aj)))) (ar (aC 3 (eN bX (ae (eM ia (eC (.str [])) (ae (ab 1) aj)) aj))) (ar (aC 4 (eN oA (ae (cM 1 (bw 0) (fK (ab 2)) none (eN bX (ae (e2 ax (ab 0) (eC (.int 3))) aj))) aj))) rest))) [pc (.scr ns),none,none,none,none,none,none,none,none,none]=rest (A0 ns bk t [none,none,none,none,none]):=fun rest =>
  (ak s1).trans ((ak s2).trans ((ak s3).trans (ak s4)))
 by_cases h0:bK bk=0
 ·refine fF (η:=A0 ns bk t [none,none,none,none,none]) rfl ((pre _).trans (iY ((kf (m:=.fr) ?_).trans (dA ?_))))
  ·refine e2v (x:=(.fr,.int (bK bk:Int))) (y:=(.fr,.int 0)) rfl rfl ?_
   rw [h0]
   rfl
  ·have B0:Bok ([]:List Tx):=⟨by decide,by decide,by decide⟩
   have e0:tabOf bk=tabOf []:=ux B0 BB fun p=>⟨fun h=>h.elim .inl (fun ⟨_,z,_⟩=>nomatch z),fun h=>by
    rcases h with h | ⟨u,hu,hp⟩
    ·exact .inl h
    ·have:u.length<=bK bk:=by
      rw [jM]
      exact List.Sublist.length_le (List.sublist_flatten_of_mem hu)
     have hu0:u=[]:=List.length_eq_zero_iff.mp (by omega)
     rw [hu0] at hp
     exact .inl (List.prefix_nil.mp hp)⟩
   refine e2v (x:=(.pu,tbT t)) (y:=(.fr,tbT (tabOf []))) rfl rfl (Cd (ht.trans e0))
 ·have hp:=Z4 h0
  have two:=b2 hp
  obtain ⟨ks,z6,z7,e7,h7⟩:=ah2 (ns:=ns) (bk:=bk) (t:=t) BB.len h8
  have f:=b3 ks h7
  obtain ⟨z9,e9⟩:=xX (ns:=ns) (bk:=bk) (t:=t) sh (D:=.dct 0 (trE T.str ks)) (z6:=z6) (z7:=z7)
  have v2:∀ r,eN bX (ae (ab 2) aj) (A0 ns bk t r)=some (.fr,.int (t.length:Int)):=fun r=>vb (m:=.pu) rfl
  have ml:∀ (c:Nat) (r:Env),c<=3->e2 gC (eC (.int (c:Int))) (ab 3) (A0 ns bk t r)=some (.fr,.int ((c * bK bk:Nat):Int)):=fun c r hc=>by
   refine e2v (x:=(.fr,.int (c:Int))) (y:=(.fr,.int (bK bk:Int))) rfl rfl ?_
   show (if (-B64 < (c:Int)/\(c:Int) < B64)\/(-B64 < (bK bk:Int)/\(bK bk:Int) < B64) then some (Md.fr,T.int ((c:Int) * (bK bk:Int))) else none)=_
   rw [Zq (.inl ⟨by unfold B64;omega,by unfold B64;omega⟩),Int.natCast_mul]
  refine fF (η:=A0 ns bk t [pc (.dct 0 (trE T.str ks)),z6,z7,pc (.int (((List.range' 1 (t.length - 1)).filter (fk t)).length:Int)),z9]) rfl ((pre _).trans ?_)
  have c5:e2 oEq (ab 3) (eC (.int 0)) (A0 ns bk t [none,none,none,none,none])=some (.fr,.bl false):=by
   refine e2v (x:=(.fr,fi (bK bk))) (y:=(.fr,fi 0)) rfl rfl (jw rfl rfl ?_)
   rw [fI]
   exact ZZ h0
  have c6:eOr (e2 oGt (eN bX (ae (ab 2) aj)) (e2 gC (eC (.int 2)) (ab 3))) (eOr (e2 oGe (ab 4) (e2 gC (eC (.int 3)) (ab 3))) (j9 (bG cn (ae (ab 2) aj)))) (A0 ns bk t [none,none,none,none,none])=some (.fr,.bl false):=by
   refine or2 (m:=.fr) (n:=.fr) (x:=false) (y:=false) ?_ (or2 (m:=.fr) (n:=.fr) (x:=false) (y:=false) ?_ (qf (m:=.fr) (b:=true) ?_))
   ·refine e2v (v2 _) (ml 2 _ (by decide)) ?_
    show some (Md.fr,T.bl (decide (((2 * bK bk:Nat):Int) < (t.length:Int))))=_
    rw [ZZ (by omega)]
   ·refine e2v (x:=(.fr,.int (cnt t:Int))) rfl (ml 3 _ (by decide)) ?_
    show some (Md.fr,T.bl (decide (((3 * bK bk:Nat):Int)<=(cnt t:Int))))=_
    rw [ZZ (by omega)]
   ·exact fB (xv (x:=(.pu,tbT t)) (r:=aj) rfl rfl) (yM TT)
  refine (ak ((iy c5).trans rfl)).trans ((ak ((iy c6).trans rfl)).trans ((ak (η1:=A0 ns bk t [oc (.dct 0 (trE T.str [])),none,none,none,none]) rfl).trans ((ak ((d9 (m:=.pu) (l:=bk.map .str) rfl rfl).trans e7)).trans ((ak (η1:=A0 ns bk t [pc (.dct 0 (trE T.str ks)),z6,z7,none,none]) rfl).trans ((ak (η1:=A0 ns bk t [pc (.dct 0 (trE T.str ks)),z6,z7,pc (.int 0),none]) rfl).trans ((ak ((d9 (m:=.fr) (rg2 (m:=.fr) (n:=.fr) (k:=t.length) rfl (v2 _) (by omega)) rfl).trans e9)).trans (dA (Cm (m:=.fr) (n:=.fr) (x:=true) (y:=true) ?_ ?_))))))))
  ·refine e2v (e2v (v2 _) (y:=(.fr,.int 1)) rfl rfl) (e2v (gR (v:=(.fr,.int (ks.length:Int))) (xv (x:=(.pu,.dct 0 (trE T.str ks))) (r:=aj) rfl rfl) ?_) (y:=(.fr,.int (((List.range' 1 (t.length - 1)).filter (fk t)).length:Int))) rfl rfl) ?_
   ·show some (Md.fr,T.int (((trE T.str ks).length:Nat):Int))=_
    rw [p5]
   ·show some (Md.fr,T.bl (decide ((t.length:Int) - 1<=(ks.length:Int)+(((List.range' 1 (t.length - 1)).filter (fk t)).length:Int))))=_
    rw [decide_eq_true (by omega)]
  ·refine e2v (x:=(.fr,.int (cnt t:Int))) rfl (e2v (e2v (v2 _) (y:=(.fr,.int 1)) rfl rfl) (y:=(.fr,.int (bK bk:Int))) rfl rfl) ?_
   show some (Md.fr,T.bl (decide ((cnt t:Int)<=(t.length:Int) - 1+(bK bk:Int))))=_
   rw [decide_eq_true (by omega)]
theorem uS (ns:Wm):qS [.scr ns]=some (.fr,.bl true):=by
 obtain ⟨bk,e,h8,h120,haz⟩:=Bs ns
 exact Am ns e h8 h120 haz
end T09
end
section
namespace T09
open PySem PySem.Spec PyProof.Rows L2 VS
theorem qv {G:Gx} {X:Cx} {x:Str} {p:Pos} (i:Nat) (a:X.N[i]?=some x) (b:Vis X.env.scope x:=by exact Or.inl rfl) (c:(x == ("__debug__" : Str))=false:=by rfl) (d:(x == ("__classdict__" : Str))=false:=by rfl):Q (PV G X (.Name x p) (ab i)):=cA i a b c d
noncomputable def top (i:Nat):Stmt:=PySem.Challenge.pw_allparts_k09_whole_how_many_stands.main.body.getD i (.Pass ⟨0,0,0,0⟩)
structure Blt (mg:Ws):Prop where
 b_bool:mg "bool" = none
 b_dict:mg "dict" = none
 b_int:mg "int" = none
 b_isinstance:mg "isinstance" = none
 b_len:mg "len" = none
 b_list:mg "list" = none
 b_max:mg "max" = none
 b_min:mg "min" = none
 b_range:mg "range" = none
 b_sorted:mg "sorted" = none
 b_sum:mg "sum" = none
 b_tuple:mg "tuple" = none
 c_MOST_SIGNS:∃ t,mg "MOST_SIGNS" = some (.int 120 t)
 c_MOST_TEXTS:∃ t,mg "MOST_TEXTS" = some (.int 8 t)
noncomputable abbrev nsL:List Str:=["  ", "longs", "links", "ways", "texts", "heads", "nodes"]
theorem gJ {K:Wt} {C D:Addr} {m:Option Addr}:eT ((gxO nsL K C D).at m):=yf (by decide +kernel) (by decide +kernel)
structure ObF (K:Wt) (mg:Ws) (C D:Addr):Prop where
 cl_Nodes:Cls K C
 mg_Nodes:mg "Nodes" = some (.ref C)
 n_longs_Nodes:b6 K C "longs"
 n_links_Nodes:b6 K C "links"
 n_ways_Nodes:b6 K C "ways"
 n_texts_Nodes:b6 K C "texts"
 n_heads_Nodes:b6 K C "heads"
 n_nodes_Nodes:b6 K C "nodes"
 cl_Machine:Cls K D
 mg_Machine:mg "Machine" = some (.ref D)
 n_longs_Machine:b6 K D "longs"
 n_links_Machine:b6 K D "links"
 n_ways_Machine:b6 K D "ways"
 n_texts_Machine:b6 K D "texts"
 n_heads_Machine:b6 K D "heads"
 n_nodes_Machine:b6 K D "nodes"
theorem eD {K:Wt} {mg:Ws} {C D:Addr} {m:Option Addr} (O:ObF K mg C D):FldOk ((gxO nsL K C D).at m) K 1 "longs" := sE rfl O.cl_Nodes O.cl_Machine O.n_longs_Nodes O.n_longs_Machine
theorem eI {K:Wt} {mg:Ws} {C D:Addr} {m:Option Addr} (O:ObF K mg C D):FldOk ((gxO nsL K C D).at m) K 2 "links" := sE rfl O.cl_Nodes O.cl_Machine O.n_links_Nodes O.n_links_Machine
theorem dQ {K:Wt} {mg:Ws} {C D:Addr} {m:Option Addr} (O:ObF K mg C D):FldOk ((gxO nsL K C D).at m) K 3 "ways" := sE rfl O.cl_Nodes O.cl_Machine O.n_ways_Nodes O.n_ways_Machine
theorem dF {K:Wt} {mg:Ws} {C D:Addr} {m:Option Addr} (O:ObF K mg C D):FldOk ((gxO nsL K C D).at m) K 4 "texts" := sE rfl O.cl_Nodes O.cl_Machine O.n_texts_Nodes O.n_texts_Machine
theorem iW {K:Wt} {mg:Ws} {C D:Addr} {m:Option Addr} (O:ObF K mg C D):FldOk ((gxO nsL K C D).at m) K 5 "heads" := sE rfl O.cl_Nodes O.cl_Machine O.n_heads_Nodes O.n_heads_Machine
theorem lu {K:Wt} {mg:Ws} {C D:Addr} {m:Option Addr} (O:ObF K mg C D):FldOk ((gxO nsL K C D).at m) K 6 "nodes" := sE rfl O.cl_Nodes O.cl_Machine O.n_nodes_Nodes O.n_nodes_Machine
section
variable {P:Program} {w:World} {K:Wt} {mg:Ws} {base:Heap} {C D:Addr}
noncomputable abbrev bL:Stmt:=inClass (top 11) 1
theorem ji:FnScope ["self", "long", "link", "ways"] ["self", "long", "link", "ways"] (af bL):=⟨rfl,rfl,rfl,by decide +kernel,rfl,by decide +kernel,by decide +kernel⟩
theorem aI {f:Addr} {fd:FuncData} (F:Fun K "new_node" "Nodes.new_node" bL f fd) (hm:Meth K C "new_node" f) (B:Blt mg) (O:ObF K mg C D) :
  MtAt P w K mg base 1 (gxO nsL K C D) 0 "new_node" ["self", "long", "link", "ways"] [false,false,true] aF:=sW F hm O.cl_Nodes (fA (by decide +kernel) (by decide +kernel)) ji rfl rfl (fun _ _ _ _ _ _ us hl=>by obtain ⟨_,_,_,_,rfl⟩:=L2.Cp hl;rfl) fun a cdv A outer s H E hr =>
  (ag (i9 gJ (cf 1 (eD O) (aL 0 rfl (Or.inl rfl) rfl rfl) rfl) (aa (qv 1 rfl) ah rfl) rfl rfl rfl rfl rfl rfl rfl)
  (ag (i9 gJ (cf 2 (eI O) (aL 0 rfl (Or.inl rfl) rfl rfl) rfl) (aa (qv 2 rfl) ah rfl) rfl rfl rfl rfl rfl rfl rfl)
  (ag (sD gJ (cf 3 (dQ O) (aL 0 rfl (Or.inl rfl) rfl rfl) rfl) rfl rfl (Or.inl rfl) rfl rfl rfl rfl rfl rfl rfl rfl)
  (aq (aX (jt (bq B.b_len (aa (aY gJ (eD O) (qv 0 rfl) rfl) ah rfl) rfl rfl rfl) ai))))))
noncomputable abbrev bN:Stmt:=inClass (top 11) 0
theorem jm:FnScope ["self"] ["self"] (af bN):=⟨rfl,rfl,rfl,by decide +kernel,rfl,by decide +kernel,by decide +kernel⟩
theorem cx {f:Addr} {fd:FuncData} (F:Fun K "__init__" "Nodes.__init__" bN f fd) (hm:Mk K C f) (B:Blt mg) (O:ObF K mg C D) (aI:MtAt P w K mg base 1 (gxO nsL K C D) 0 "new_node" ["self", "long", "link", "ways"] [false,false,true] aF) :
  InAt P w K mg base 2 (gxO nsL K C D) 0 0 "Nodes" ["self"] dg:=DY F hm O.mg_Nodes jm rfl rfl (fun _ _ _ _ _ _ us hl=>by obtain ⟨_,rfl⟩:=L2.kR hl;rfl) fun a cdv A outer s H E hr =>
  (ag (gq 0 1 gJ (eD O) (cO ah) rfl (Or.inl rfl) rfl rfl rfl)
  (ag (gq 0 2 gJ (eI O) (cO ah) rfl (Or.inl rfl) rfl rfl rfl)
  (ag (gq 0 3 gJ (dQ O) (cO ah) rfl (Or.inl rfl) rfl rfl rfl)
  (aq (rH (dU gJ aI.at hr (by decide) (aL 0 rfl (Or.inl rfl) rfl rfl) (aa ai (aa iO (aa lI ah rfl) rfl) rfl) rfl rfl rfl) rfl)))))
noncomputable abbrev aR:Stmt:=inClass (top 11) 4
theorem aW:FnScope ["self", "node", "sign", "old", "long", "half"] ["self", "node", "sign"] (af aR):=⟨rfl,rfl,rfl,by decide +kernel,rfl,by decide +kernel,by decide +kernel⟩
theorem aQ {f:Addr} {fd:FuncData} (F:Fun K "node_just_behind" "Nodes.node_just_behind" aR f fd) (hm:Meth K C "node_just_behind" f) (B:Blt mg) (O:ObF K mg C D) (aI:MtAt P w K mg base 1 (gxO nsL K C D) 0 "new_node" ["self", "long", "link", "ways"] [false,false,true] aF) :
  MtAt P w K mg base 2 (gxO nsL K C D) 0 "node_just_behind" ["self", "node", "sign"] [false,false] av:=sW F hm O.cl_Nodes (fA (by decide +kernel) (by decide +kernel)) aW rfl rfl (fun _ _ _ _ _ _ us hl=>by obtain ⟨_,_,_,rfl⟩:=L2.sg hl;rfl) fun a cdv A outer s H E hr =>
  (ag (aw (ky hr (aB (aY gJ (dQ O) (qv 0 rfl) rfl) (qv 1 rfl) (fun _ _=>rfl) rfl) (qv 2 rfl) (fun _ _=>rfl) rfl) aW.nd rfl (Or.inl rfl) rfl (Or.inl rfl))
  (ag (aw (bV (aB (aY gJ (eD O) (qv 0 rfl) rfl) (qv 1 rfl) (fun _ _=>rfl) rfl) ai) aW.nd rfl (Or.inl rfl) rfl (Or.inl rfl))
  (ag (bA (gy hr (aB (aY gJ (eD O) (qv 0 rfl) rfl) (qv 3 rfl) (fun _ _=>rfl) rfl) (qv 4 rfl)) (aq (fh 3 rfl (Or.inl rfl) rfl rfl)) bh)
  (ag (lr (dU gJ aI.at hr (by decide) (aL 0 rfl (Or.inl rfl) rfl rfl) (aa (qv 4 rfl) (aa (aB (aY gJ (eI O) (qv 0 rfl) rfl) (qv 3 rfl) (fun _ _=>rfl) rfl) (aa (sJ B.b_dict (aa (aB (aY gJ (dQ O) (qv 0 rfl) rfl) (qv 3 rfl) (fun _ _=>rfl) rfl) ah rfl) rfl rfl) ah rfl) rfl) rfl) rfl rfl rfl) aW.nd rfl (Or.inl rfl) rfl (Or.inl rfl))
  (ag (iU gJ hr (cf 2 (eI O) (aL 0 rfl (Or.inl rfl) rfl rfl) rfl) (qv 3 rfl) (qv 5 rfl) (fun _=>rfl) rfl rfl rfl)
  (ag (gT Yx (fg (jG (iw (qv 1 rfl)) (iJ (gy hr (yE hr (aB (aY gJ (dQ O) (qv 0 rfl) rfl) (qv 1 rfl) (fun _ _=>rfl) rfl) (qv 2 rfl) rfl rfl rfl rfl) (qv 3 rfl)))))
  (ag (iU gJ hr (o5 hr (cf 3 (dQ O) (aL 0 rfl (Or.inl rfl) rfl rfl) rfl) (qv 1 rfl) (fun _ _=>rfl) rfl) (qv 2 rfl) (qv 5 rfl) (fun _=>rfl) rfl rfl rfl)
  (aq (aw (aB (aY gJ (eI O) (qv 0 rfl) rfl) (qv 1 rfl) (fun _ _=>rfl) rfl) aW.nd rfl (Or.inl rfl) rfl (Or.inl rfl)))))
  (aq (fh 5 rfl (Or.inl rfl) rfl rfl))))))))
noncomputable abbrev bj:Stmt:=inClass (top 11) 3
theorem cj:FnScope ["self", "head", "sign", "fresh", "node"] ["self", "head", "sign"] (af bj):=⟨rfl,rfl,rfl,by decide +kernel,rfl,by decide +kernel,by decide +kernel⟩
theorem bF {f:Addr} {fd:FuncData} (F:Fun K "head_behind" "Nodes.head_behind" bj f fd) (hm:Meth K C "head_behind" f) (B:Blt mg) (O:ObF K mg C D) (aI:MtAt P w K mg base 1 (gxO nsL K C D) 0 "new_node" ["self", "long", "link", "ways"] [false,false,true] aF) (aQ:MtAt P w K mg base 2 (gxO nsL K C D) 0 "node_just_behind" ["self", "node", "sign"] [false,false] av) :
  MtAt P w K mg base 3 (gxO nsL K C D) 0 "head_behind" ["self", "head", "sign"] [false,false] bE:=sW F hm O.cl_Nodes (fA (by decide +kernel) (by decide +kernel)) cj rfl rfl (fun _ _ _ _ _ _ us hl=>by obtain ⟨_,_,_,rfl⟩:=L2.sg hl;rfl) fun a cdv A outer s H E hr =>
  (ag (bA (wU hr (qv 2 rfl) (aB (aY gJ (dQ O) (qv 0 rfl) rfl) (qv 1 rfl) (fun _ _=>rfl) rfl) (by with_unfolding_all rfl) rfl) (aq (uV (dU gJ aQ.at hr (by decide) (aL 0 rfl (Or.inl rfl) rfl rfl) (aa (qv 1 rfl) (aa (qv 2 rfl) ah rfl) rfl) rfl rfl rfl))) bh)
  (ag (lr (dU gJ aI.at hr (by decide) (aL 0 rfl (Or.inl rfl) rfl rfl) (aa (bV (aB (aY gJ (eD O) (qv 0 rfl) rfl) (qv 1 rfl) (fun _ _=>rfl) rfl) ai) (aa ai (aa lI ah rfl) rfl) rfl) rfl rfl rfl) cj.nd rfl (Or.inl rfl) rfl (Or.inl rfl))
  (ag (aw (qv 1 rfl) cj.nd rfl (Or.inl rfl) rfl (Or.inl rfl))
  (ag (gT Yx (fg (jG (iw (qv 4 rfl)) (iJ (kE hr (qv 2 rfl) (aB (aY gJ (dQ O) (qv 0 rfl) rfl) (qv 4 rfl) (fun _ _=>rfl) rfl) (by with_unfolding_all rfl) rfl))))
  (ag (iU gJ hr (o5 hr (cf 3 (dQ O) (aL 0 rfl (Or.inl rfl) rfl rfl) rfl) (qv 4 rfl) (fun _ _=>rfl) rfl) (qv 2 rfl) (qv 3 rfl) (fun _=>rfl) rfl rfl rfl)
  (aq (aw (aB (aY gJ (eI O) (qv 0 rfl) rfl) (qv 4 rfl) (fun _ _=>rfl) rfl) cj.nd rfl (Or.inl rfl) rfl (Or.inl rfl)))))
  (ag (bA (iw (qv 4 rfl)) (aq (oW gJ hr (cf 2 (eI O) (aL 0 rfl (Or.inl rfl) rfl rfl) rfl) (qv 3 rfl) (dU gJ aQ.at hr (by decide) (aL 0 rfl (Or.inl rfl) rfl rfl) (aa (qv 4 rfl) (aa (qv 2 rfl) ah rfl) rfl) rfl rfl rfl) (fun _=>rfl) rfl rfl rfl)) bh)
  (aq (fh 3 rfl (Or.inl rfl) rfl rfl)))))))
noncomputable abbrev bt:Stmt:=inClass (top 11) 2
theorem dj:FnScope ["self", "head", "word", "sign"] ["self", "head", "word"] (af bt):=⟨rfl,rfl,rfl,by decide +kernel,rfl,by decide +kernel,by decide +kernel⟩
theorem bP {f:Addr} {fd:FuncData} (F:Fun K "head_grown" "Nodes.head_grown" bt f fd) (hm:Meth K C "head_grown" f) (B:Blt mg) (O:ObF K mg C D) (bF:MtAt P w K mg base 3 (gxO nsL K C D) 0 "head_behind" ["self", "head", "sign"] [false,false] bE) :
  MtAt P w K mg base 4 (gxO nsL K C D) 0 "head_grown" ["self", "head", "word"] [false,false] aM:=sW F hm O.cl_Nodes (fA (by decide +kernel) (by decide +kernel)) dj rfl rfl (fun _ _ _ _ _ _ us hl=>by obtain ⟨_,_,_,rfl⟩:=L2.sg hl;rfl) fun a cdv A outer s H E hr =>
  (ag (cQ Yx rfl (cR (qv 2 rfl) rfl) (aU 3 dj.nd rfl (Or.inl rfl) (Or.inl rfl))
  (aq (lr (dU gJ bF.at hr (by decide) (aL 0 rfl (Or.inl rfl) rfl rfl) (aa (qv 1 rfl) (aa (qv 3 rfl) ah rfl) rfl) rfl rfl rfl) dj.nd rfl (Or.inl rfl) rfl (Or.inl rfl))) (fun _=>rfl))
  (aq (fh 1 rfl (Or.inl rfl) rfl rfl)))
noncomputable abbrev aS:Stmt:=inClass (top 11) 6
theorem aH:FnScope ["self", "numbers", "met", "done", "ways", "sign"] ["self"] (af aS):=⟨rfl,rfl,rfl,by decide +kernel,rfl,by decide +kernel,by decide +kernel⟩
theorem ba {m:Option Addr} {f:Addr} {fd:FuncData} (F:Fun K "numbers_by_node" "Nodes.numbers_by_node" aS f fd) (hm:Meth K C "numbers_by_node" f) (B:Blt mg) (O:ObF K mg C D) :
  MpAt P w K mg base 1 ((gxO nsL K C D).at m) 0 "numbers_by_node" ["self"] aE:=ua F hm O.cl_Nodes (fA (by decide +kernel) (by decide +kernel)) aH rfl rfl (fun _ _ _ _ _ _ us hl=>by obtain ⟨_,rfl⟩:=L2.kR hl;rfl) fun cdv A outer s H E hr =>
  (ag (ff vA aH.nd rfl (Or.inl rfl) rfl (Or.inl rfl))
  (ag (ff (cO (aa ai ah rfl)) aH.nd rfl (Or.inl rfl) rfl (Or.inl rfl))
  (ag (aw ai aH.nd rfl (Or.inl rfl) rfl (Or.inl rfl))
  (ag (gT Yx (qH (qv 3 rfl) (bq B.b_len (aa (qv 2 rfl) ah rfl) rfl rfl rfl))
  (ag (aw (aB (aY gJ (dQ O) (qv 0 rfl) rfl) (aB (qv 2 rfl) (qv 3 rfl) (fun _ _=>rfl) rfl) (fun _ _=>rfl) rfl) aH.nd rfl (Or.inl rfl) rfl (Or.inl rfl))
  (ag (cQ Yx rfl (cR (mK B.b_sorted (aa (qv 4 rfl) ah rfl) rfl rfl rfl rfl) rfl) (aU 5 aH.nd rfl (Or.inl rfl) (Or.inl rfl))
  (aq (bA (kE hr (ky hr (qv 4 rfl) (qv 5 rfl) (fun _ _=>rfl) rfl) (qv 1 rfl) (by with_unfolding_all rfl) rfl) (ag (lh 1 hr (ky hr (qv 4 rfl) (qv 5 rfl) (fun _ _=>rfl) rfl) (bq B.b_len (aa (qv 2 rfl) ah rfl) rfl rfl rfl) rfl (Or.inl rfl) rfl rfl (fun _=>rfl) rfl rfl rfl)
  (aq (iK 2 (aa (ky hr (qv 4 rfl) (qv 5 rfl) (fun _ _=>rfl) rfl) ah rfl) rfl rfl (Or.inl rfl) rfl rfl rfl rfl rfl))) bh)) (fun _=>rfl))
  (aq (aw (bV (qv 3 rfl) ai) aH.nd rfl (Or.inl rfl) rfl (Or.inl rfl))))))
  (ic 2 (aq (fh 1 rfl (Or.inl rfl) rfl rfl)))))))
noncomputable abbrev cB:Stmt:=inClass (top 11) 7
theorem dw:FnScope ["self", "node", "numbers", "link", "ways", "steps"] ["self", "node", "numbers"] (af cB):=⟨rfl,rfl,rfl,by decide +kernel,rfl,by decide +kernel,by decide +kernel⟩
theorem cX {m:Option Addr} {f:Addr} {fd:FuncData} (F:Fun K "row_of" "Nodes.row_of" cB f fd) (hm:Meth K C "row_of" f) (B:Blt mg) (O:ObF K mg C D) :
  MpAt P w K mg base 1 ((gxO nsL K C D).at m) 0 "row_of" ["self", "node", "numbers"] bS:=ua F hm O.cl_Nodes (fA (by decide +kernel) (by decide +kernel)) dw rfl rfl (fun _ _ _ _ _ _ us hl=>by obtain ⟨_,_,_,rfl⟩:=L2.sg hl;rfl) fun cdv A outer s H E hr =>
  (ag (aw (aB (aY gJ (eI O) (qv 0 rfl) rfl) (qv 1 rfl) (fun _ _=>rfl) rfl) dw.nd rfl (Or.inl rfl) rfl (Or.inl rfl))
  (ag (aw (aB (aY gJ (dQ O) (qv 0 rfl) rfl) (qv 1 rfl) (fun _ _=>rfl) rfl) dw.nd rfl (Or.inr rfl) rfl (Or.inl rfl))
  (ag (aw (rW B.b_tuple (aa (ig 1 ["sign", "self", "node", "numbers", "link", "ways", "steps"] rfl (cR (mK B.b_sorted (aa (cA 4 rfl (Or.inr (Or.inl rfl)) rfl rfl) ah rfl) rfl rfl rfl rfl) rfl) (ij (by decide)) (fun _ _ _ _ _=>(aU 0 (show List.Nodup (["sign", "self", "node", "numbers", "link", "ways", "steps"]:List Str) from by decide +kernel) rfl (Or.inl rfl) (Or.inr rfl))) (fun _ _ _ _ _=>(gx (aa (qv 0 rfl) (aa (qU hr (cA 3 rfl (Or.inr (Or.inl rfl)) rfl rfl) (ky hr (cA 5 rfl (Or.inr (Or.inl rfl)) rfl rfl) (qv 0 rfl) (fun _ _=>rfl) rfl) (fun _ _=>rfl) rfl) ah rfl) rfl))) rfl rfl (by decide) (fun _=>rfl)) ah rfl) rfl rfl rfl) dw.nd rfl (Or.inl rfl) rfl (Or.inl rfl))
  (ag (bA (nZ (qv 3 rfl)) (aq (aX (gx (aa ai (aa ai (aa iO (aa (qv 5 rfl) ah rfl) rfl) rfl) rfl)))) bh)
  (aq (aX (gx (aa (bV (aB (aY gJ (eD O) (qv 0 rfl) rfl) (qv 3 rfl) (fun _ _=>rfl) rfl) ai) (aa (aB (aY gJ (eD O) (qv 0 rfl) rfl) (qv 1 rfl) (fun _ _=>rfl) rfl) (aa (qU hr (cA 2 rfl (Or.inr (Or.inl rfl)) rfl rfl) (qv 3 rfl) (fun _ _=>rfl) rfl) (aa (qv 5 rfl) ah rfl) rfl) rfl) rfl))))))))
noncomputable abbrev cT:Stmt:=inClass (top 11) 5
theorem g9:FnScope ["self", "numbers"] ["self"] (af cT):=⟨rfl,rfl,rfl,by decide +kernel,rfl,by decide +kernel,by decide +kernel⟩
theorem du {m:Option Addr} {f:Addr} {fd:FuncData} (F:Fun K "table" "Nodes.table" cT f fd) (hm:Meth K C "table" f) (B:Blt mg) (O:ObF K mg C D) (ba:∀ m,MpAt P w K mg base 1 ((gxO nsL K C D).at m) 0 "numbers_by_node" ["self"] aE) (cX:∀ m,MpAt P w K mg base 1 ((gxO nsL K C D).at m) 0 "row_of" ["self", "node", "numbers"] bS) :
  MpAt P w K mg base 2 ((gxO nsL K C D).at m) 0 "table" ["self"] dr:=ua F hm O.cl_Nodes (fA (by decide +kernel) (by decide +kernel)) g9 rfl rfl (fun _ _ _ _ _ _ us hl=>by obtain ⟨_,rfl⟩:=L2.kR hl;rfl) fun cdv A outer s H E hr =>
  (ag (ff (iM (ba _) hr (by decide) (cA 0 rfl (Or.inr (Or.inl rfl)) rfl rfl) rfl) g9.nd rfl (Or.inr rfl) rfl (Or.inl rfl))
  (aq (tM 1 ["node", "self", "numbers"] rfl rfl (Or.inr (Or.inl rfl)) rfl rfl (ij (by decide)) (fun _ _ _ _ _=>(aU 0 (show List.Nodup (["node", "self", "numbers"]:List Str) from by decide +kernel) rfl (Or.inl rfl) (Or.inr rfl))) (fun _ _ _ _ _=>(sR (cX _) hr (by decide) (cA 1 rfl (Or.inr (Or.inl rfl)) rfl rfl) (aa (qv 0 rfl) (aa (cA 2 rfl (Or.inr (Or.inl rfl)) rfl rfl) ah rfl) rfl) rfl rfl rfl)) rfl rfl (by decide) (fun _=>rfl))))
noncomputable abbrev b9:Stmt:=inClass (top 13) 1
theorem jy:FnScope ["self"] ["self"] (af b9):=⟨rfl,rfl,rfl,by decide +kernel,rfl,by decide +kernel,by decide +kernel⟩
theorem cN {f:Addr} {fd:FuncData} (F:Fun K "begin" "Machine.begin" b9 f fd) (hm:Meth K D "begin" f) (B:Blt mg) (O:ObF K mg C D) :
  MtAt P w K mg base 1 (gxO nsL K C D) 1 "begin" ["self"] [] bp:=sW F hm O.cl_Machine (fA (by decide +kernel) (by decide +kernel)) jy rfl rfl (fun _ _ _ _ _ _ us hl=>by obtain ⟨_,rfl⟩:=L2.kR hl;rfl) fun a cdv A outer s H E hr =>
  (ag (bA (rj (bq B.b_len (aa (aY gJ (dF O) (qv 0 rfl) rfl) ah rfl) rfl rfl rfl) (mI B.c_MOST_TEXTS rfl rfl)) (aq kT) bh)
  (ag (i9 gJ (cf 4 (dF O) (aL 0 rfl (Or.inl rfl) rfl rfl) rfl) (aa (dM (by decide +kernel) (by decide)) ah rfl) rfl rfl rfl rfl rfl rfl rfl)
  (ag (i9 gJ (cf 5 (iW O) (aL 0 rfl (Or.inl rfl) rfl rfl) rfl) (aa ai ah rfl) rfl rfl rfl rfl rfl rfl rfl)
  (aq (aX (jt (bq B.b_len (aa (aY gJ (dF O) (qv 0 rfl) rfl) ah rfl) rfl rfl rfl) ai))))))
noncomputable abbrev dW:Stmt:=top 7
theorem oO:FnScope ["thing"] ["thing"] (af dW):=⟨rfl,rfl,rfl,by decide +kernel,rfl,by decide +kernel,by decide +kernel⟩
theorem fH {m:Option Addr} {f:Addr} {fd:FuncData} (F:Fun K "is_whole" "is_whole" dW f fd) (hm:mg "is_whole" = some (.ref f)) (B:Blt mg) (O:ObF K mg C D) :
  FnAt P w K mg base 1 "is_whole" ["thing"] ((gxO nsL K C D).at m) iL:=j0 F hm oO rfl rfl (fun _ _ _ _ _ _ us hl=>by obtain ⟨_,rfl⟩:=L2.kR hl;rfl) fun cdv A outer s H E hr =>
  (aq (aX (oq (uX .int B.b_isinstance B.b_int (qv 0 rfl) rfl rfl rfl rfl) (oI (wb (uX .bool B.b_isinstance B.b_bool (qv 0 rfl) rfl rfl rfl rfl))))))
noncomputable abbrev bM:Stmt:=top 8
theorem iP:FnScope ["book", "number"] ["book", "number"] (af bM):=⟨rfl,rfl,rfl,by decide +kernel,rfl,by decide +kernel,by decide +kernel⟩
theorem cy {m:Option Addr} {f:Addr} {fd:FuncData} (F:Fun K "refuse_no_text" "refuse_no_text" bM f fd) (hm:mg "refuse_no_text" = some (.ref f)) (B:Blt mg) (O:ObF K mg C D) (fH:∀ m,FnAt P w K mg base 1 "is_whole" ["thing"] ((gxO nsL K C D).at m) iL) :
  FnAt P w K mg base 2 "refuse_no_text" ["book", "number"] ((gxO nsL K C D).at m) bx:=j0 F hm iP rfl rfl (fun _ _ _ _ _ _ us hl=>by obtain ⟨_,_,rfl⟩:=L2.fo hl;rfl) fun cdv A outer s H E hr =>
  (aq (bA (fg (fZ (jL (mN (dq (fH _) hr (aa (qv 1 rfl) ah rfl) (by decide) rfl rfl rfl rfl) rfl (fun _=>rfl))) (jA (jL (jB ai (qv 1 rfl) (bq B.b_len (aa (qv 0 rfl) ah rfl) rfl rfl rfl) (by with_unfolding_all rfl)))))) (aq kT) bh))
noncomputable abbrev d3:Stmt:=top 9
theorem oP:FnScope ["book"] ["book"] (af d3):=⟨rfl,rfl,rfl,by decide +kernel,rfl,by decide +kernel,by decide +kernel⟩
theorem fJ {m:Option Addr} {f:Addr} {fd:FuncData} (F:Fun K "signs_in" "signs_in" d3 f fd) (hm:mg "signs_in" = some (.ref f)) (B:Blt mg) (O:ObF K mg C D) :
  FnAt P w K mg base 1 "signs_in" ["book"] ((gxO nsL K C D).at m) fC:=j0 F hm oP rfl rfl (fun _ _ _ _ _ _ us hl=>by obtain ⟨_,rfl⟩:=L2.kR hl;rfl) fun cdv A outer s H E hr =>
  (aq (aX (qX B.b_sum (aa (ig 1 ["text", "book"] rfl (cR (qv 0 rfl) rfl) (ij (by decide)) (fun _ _ _ _ _=>(aU 0 (show List.Nodup (["text", "book"]:List Str) from by decide +kernel) rfl (Or.inl rfl) (Or.inr rfl))) (fun _ _ _ _ _=>(bq B.b_len (aa (qv 0 rfl) ah rfl) rfl rfl rfl)) rfl rfl (by decide) (fun _=>rfl)) ah rfl) rfl rfl rfl rfl)))
noncomputable abbrev cE:Stmt:=inClass (top 13) 2
theorem kb:FnScope ["self", "text", "word"] ["self", "text", "word"] (af cE):=⟨rfl,rfl,rfl,by decide +kernel,rfl,by decide +kernel,by decide +kernel⟩
theorem cU {f:Addr} {fd:FuncData} (F:Fun K "grow" "Machine.grow" cE f fd) (hm:Meth K D "grow" f) (B:Blt mg) (O:ObF K mg C D) (bP:MtAt P w K mg base 4 (gxO nsL K C D) 0 "head_grown" ["self", "head", "word"] [false,false] aM) (cy:∀ m,FnAt P w K mg base 2 "refuse_no_text" ["book", "number"] ((gxO nsL K C D).at m) bx) (fJ:∀ m,FnAt P w K mg base 1 "signs_in" ["book"] ((gxO nsL K C D).at m) fC) :
  MtAt P w K mg base 5 (gxO nsL K C D) 1 "grow" ["self", "text", "word"] [false,false] bg:=sW F hm O.cl_Machine (fA (by decide +kernel) (by decide +kernel)) kb rfl rfl (fun _ _ _ _ _ _ us hl=>by obtain ⟨_,_,_,rfl⟩:=L2.sg hl;rfl) fun a cdv A outer s H E hr =>
  (ag (wa (dq (cy _) hr (aa (aY gJ (dF O) (qv 0 rfl) rfl) (aa (qv 1 rfl) ah rfl) rfl) (by decide) rfl rfl rfl rfl) rfl)
  (ag (bA (km (bV (dq (fJ _) hr (aa (aY gJ (dF O) (qv 0 rfl) rfl) ah rfl) (by decide) rfl rfl rfl rfl) (bq B.b_len (aa (qv 2 rfl) ah rfl) rfl rfl rfl)) (mI B.c_MOST_SIGNS rfl rfl)) (aq kT) bh)
  (ag (oW gJ hr (cf 5 (iW O) (aL 0 rfl (Or.inl rfl) rfl rfl) rfl) (qv 1 rfl) (dU gJ bP.at hr (by decide) (cf 6 (lu O) (aL 0 rfl (Or.inl rfl) rfl rfl) rfl) (aa (aB (aY gJ (iW O) (qv 0 rfl) rfl) (qv 1 rfl) (fun _ _=>rfl) rfl) (aa (qv 2 rfl) ah rfl) rfl) rfl rfl rfl) (fun _=>rfl) rfl rfl rfl)
  (aq (iU gJ hr (cf 4 (dF O) (aL 0 rfl (Or.inl rfl) rfl rfl) rfl) (qv 1 rfl) (bV (aB (aY gJ (dF O) (qv 0 rfl) rfl) (qv 1 rfl) (fun _ _=>rfl) rfl) (qv 2 rfl)) (fun _=>rfl) rfl rfl rfl)))))
noncomputable abbrev bQ:Stmt:=inClass (top 13) 0
theorem eV:FnScope ["self", "book", "text"] ["self", "book"] (af bQ):=⟨rfl,rfl,rfl,by decide +kernel,rfl,by decide +kernel,by decide +kernel⟩
theorem bR {f:Addr} {fd:FuncData} (F:FunD K "__init__" "Machine.__init__" bQ f fd) (hm:Mk K D f) (B:Blt mg) (O:ObF K mg C D) (cN:MtAt P w K mg base 1 (gxO nsL K C D) 1 "begin" ["self"] [] bp) (cU:MtAt P w K mg base 5 (gxO nsL K C D) 1 "grow" ["self", "text", "word"] [false,false] bg) (cx:InAt P w K mg base 2 (gxO nsL K C D) 0 0 "Nodes" ["self"] dg) :
  InAt P w K mg base 6 (gxO nsL K C D) 1 1 "Machine" ["self", "book"] aN:=Cv F hm O.mg_Machine eV rfl rfl (fun _ _ _ _ _ _ _ _ _ _ us X ho hs hl=>by obtain ⟨_,_,rfl⟩:=L2.fo hl;exact PySem.W.binds_K X rfl ho hs rfl rfl) fun a cdv A outer s H E hr =>
  (ag (gq 0 4 gJ (dF O) (cO ah) rfl (Or.inl rfl) rfl rfl rfl)
  (ag (gq 0 5 gJ (iW O) (cO ah) rfl (Or.inl rfl) rfl rfl rfl)
  (ag (gq 0 6 gJ (lu O) (sL cx.at hr (by decide) rfl rfl) rfl (Or.inl rfl) rfl rfl rfl)
  (aq (bA (iw (qv 1 rfl)) (aq (cQ Yx rfl (cR (qv 1 rfl) rfl) (aU 2 eV.nd rfl (Or.inl rfl) (Or.inl rfl))
  (aq (rH (ui cU.at hr (by decide) rfl (Or.inl rfl) rfl rfl (qj gJ cN.at hr (by decide) (aL 0 rfl (Or.inl rfl) rfl rfl) rfl) (aa (qv 2 rfl) ah rfl) rfl rfl rfl) rfl)) (fun _=>rfl))) bh)))))
noncomputable abbrev cF:Stmt:=inClass (top 13) 3
theorem ka:FnScope ["self"] ["self"] (af cF):=⟨rfl,rfl,rfl,by decide +kernel,rfl,by decide +kernel,by decide +kernel⟩
theorem g7 {m:Option Addr} {f:Addr} {fd:FuncData} (F:Fun K "book" "Machine.book" cF f fd) (hm:Meth K D "book" f) (B:Blt mg) (O:ObF K mg C D) :
  MpAt P w K mg base 1 ((gxO nsL K C D).at m) 1 "book" ["self"] kZ:=ua F hm O.cl_Machine (fA (by decide +kernel) (by decide +kernel)) ka rfl rfl (fun _ _ _ _ _ _ us hl=>by obtain ⟨_,rfl⟩:=L2.kR hl;rfl) fun cdv A outer s H E hr =>
  (aq (aX (mf B.b_list (aa (aY gJ (dF O) (qv 0 rfl) rfl) ah rfl) rfl rfl rfl rfl)))
noncomputable abbrev b8:Stmt:=inClass (top 13) 4
theorem jQ:FnScope ["self"] ["self"] (af b8):=⟨rfl,rfl,rfl,by decide +kernel,rfl,by decide +kernel,by decide +kernel⟩
theorem cP {m:Option Addr} {f:Addr} {fd:FuncData} (F:Fun K "table" "Machine.table" b8 f fd) (hm:Meth K D "table" f) (B:Blt mg) (O:ObF K mg C D) (du:∀ m,MpAt P w K mg base 2 ((gxO nsL K C D).at m) 0 "table" ["self"] dr) :
  MpAt P w K mg base 3 ((gxO nsL K C D).at m) 1 "table" ["self"] bD:=ua F hm O.cl_Machine (fA (by decide +kernel) (by decide +kernel)) jQ rfl rfl (fun _ _ _ _ _ _ us hl=>by obtain ⟨_,rfl⟩:=L2.kR hl;rfl) fun cdv A outer s H E hr =>
  (aq (aX (iM (du _) hr (by decide) (aY gJ (lu O) (qv 0 rfl) rfl) rfl)))
noncomputable abbrev cS:Stmt:=top 15
theorem lM:FnScope ["_law_script", "_law_k"] ["_law_script", "_law_k"] (af cS):=⟨rfl,rfl,rfl,by decide +kernel,rfl,by decide +kernel,by decide +kernel⟩
theorem bz {m:Option Addr} {f:Addr} {fd:FuncData} (F:Fun K "_law_cell_at" "_law_cell_at" cS f fd) (hm:mg "_law_cell_at" = some (.ref f)) (B:Blt mg) (O:ObF K mg C D) :
  FnAt P w K mg base 1 "_law_cell_at" ["_law_script", "_law_k"] ((gxO nsL K C D).at m) aP:=j0 F hm lM rfl rfl (fun _ _ _ _ _ _ us hl=>by obtain ⟨_,_,rfl⟩:=L2.fo hl;rfl) fun cdv A outer s H E hr =>
  (ag (bA (qH (qv 1 rfl) (bq B.b_len (aa (qv 0 rfl) ah rfl) rfl rfl rfl)) (aq (aX (aB (qv 0 rfl) (qv 1 rfl) (fun _ _=>rfl) rfl))) bh)
  (aq (aX ai)))
noncomputable abbrev dB:Stmt:=top 16
theorem gD:FnScope ["_law_cell", "_law_k", "_law_number"] ["_law_cell", "_law_k"] (af dB):=⟨rfl,rfl,rfl,by decide +kernel,rfl,by decide +kernel,by decide +kernel⟩
theorem eE {m:Option Addr} {f:Addr} {fd:FuncData} (F:Fun K "_law_mixed" "_law_mixed" dB f fd) (hm:mg "_law_mixed" = some (.ref f)) (B:Blt mg) (O:ObF K mg C D) :
  FnAt P w K mg base 1 "_law_mixed" ["_law_cell", "_law_k"] ((gxO nsL K C D).at m) eG:=j0 F hm gD rfl rfl (fun _ _ _ _ _ _ us hl=>by obtain ⟨_,_,rfl⟩:=L2.fo hl;rfl) fun cdv A outer s H E hr =>
  (ag (aw (dh (bV (bV (dh (qv 0 rfl) ai) (gI ai (qv 1 rfl))) ai) ai) gD.nd rfl (Or.inl rfl) rfl (Or.inl rfl))
  (ag (aw (bV (dh (gI (qv 2 rfl) (qv 2 rfl)) ai) (gI ai (qv 1 rfl))) gD.nd rfl (Or.inl rfl) rfl (Or.inl rfl))
  (aq (aX (dh (gI (qv 2 rfl) (qv 2 rfl)) ai)))))
noncomputable abbrev dZ:Stmt:=top 17
theorem cV:FnScope ["_law_script", "_law_letters", "_law_most", "_law_j", "_law_cell", "_law_size", "_law_signs", "_law_k"] ["_law_script", "_law_letters", "_law_most", "_law_j"] (af dZ):=⟨rfl,rfl,rfl,by decide +kernel,rfl,by decide +kernel,by decide +kernel⟩
theorem fu {m:Option Addr} {f:Addr} {fd:FuncData} (F:Fun K "_law_text" "_law_text" dZ f fd) (hm:mg "_law_text" = some (.ref f)) (B:Blt mg) (O:ObF K mg C D) (bz:∀ m,FnAt P w K mg base 1 "_law_cell_at" ["_law_script", "_law_k"] ((gxO nsL K C D).at m) aP) (eE:∀ m,FnAt P w K mg base 1 "_law_mixed" ["_law_cell", "_law_k"] ((gxO nsL K C D).at m) eG) :
  FnAt P w K mg base 2 "_law_text" ["_law_script", "_law_letters", "_law_most", "_law_j"] ((gxO nsL K C D).at m) dy:=j0 F hm cV rfl rfl (fun _ _ _ _ _ _ us hl=>by obtain ⟨_,_,_,_,rfl⟩:=L2.Cp hl;rfl) fun cdv A outer s H E hr =>
  (ag (aw (dq (bz _) hr (aa (qv 0 rfl) (aa (bV ai (qv 3 rfl)) ah rfl) rfl) (by decide) rfl rfl rfl rfl) cV.nd rfl (Or.inl rfl) rfl (Or.inl rfl))
  (ag (aw (dh (qv 4 rfl) (bV (qv 2 rfl) ai)) cV.nd rfl (Or.inl rfl) rfl (Or.inl rfl))
  (ag (aw (dP (qv 4 rfl) (bV (qv 2 rfl) ai)) cV.nd rfl (Or.inl rfl) rfl (Or.inl rfl))
  (ag (ff (cO ah) cV.nd rfl (Or.inl rfl) rfl (Or.inl rfl))
  (ag (cQ Yx rfl (ja (qv 5 rfl) rfl B.b_range rfl rfl) (aU 7 cV.nd rfl (Or.inl rfl) (Or.inl rfl))
  (aq (bA (gy hr (dh (dq (bz _) hr (aa (qv 0 rfl) (aa ai ah rfl) rfl) (by decide) rfl rfl rfl rfl) ai) ai) (ag (iK 6 (aa (aB (qv 1 rfl) (dh (qv 4 rfl) (bq B.b_len (aa (qv 1 rfl) ah rfl) rfl rfl rfl)) (fun _ _=>rfl) rfl) ah rfl) rfl rfl (Or.inl rfl) rfl rfl rfl rfl rfl)
  (aq (aw (dP (qv 4 rfl) (bq B.b_len (aa (qv 1 rfl) ah rfl) rfl rfl rfl)) cV.nd rfl (Or.inl rfl) rfl (Or.inl rfl)))) (aq (iK 6 (aa (aB (qv 1 rfl) (dh (dP (dq (eE _) hr (aa (qv 4 rfl) (aa (bV (gI ai (qv 3 rfl)) (qv 7 rfl)) ah rfl) rfl) (by decide) rfl rfl rfl rfl) ai) (bq B.b_len (aa (qv 1 rfl) ah rfl) rfl rfl rfl)) (fun _ _=>rfl) rfl) ah rfl) rfl rfl (Or.inl rfl) rfl rfl rfl rfl rfl)))) (fun _=>rfl))
  (ic 6 (aq (aX (mO (dM (by decide +kernel) (by decide)) (aa (qv 6 rfl) ah rfl) rfl rfl rfl rfl rfl rfl)))))))))
noncomputable abbrev d4:Stmt:=top 18
theorem dc:FnScope ["_law_script", "_law_cell", "_law_letters", "_law_count", "_law_most"] ["_law_script"] (af d4):=⟨rfl,rfl,rfl,by decide +kernel,rfl,by decide +kernel,by decide +kernel⟩
theorem fE {m:Option Addr} {f:Addr} {fd:FuncData} (F:Fun K "_law_book" "_law_book" d4 f fd) (hm:mg "_law_book" = some (.ref f)) (B:Blt mg) (O:ObF K mg C D) (bz:∀ m,FnAt P w K mg base 1 "_law_cell_at" ["_law_script", "_law_k"] ((gxO nsL K C D).at m) aP) (fu:∀ m,FnAt P w K mg base 2 "_law_text" ["_law_script", "_law_letters", "_law_most", "_law_j"] ((gxO nsL K C D).at m) dy) :
  FnAt P w K mg base 3 "_law_book" ["_law_script"] ((gxO nsL K C D).at m) dz:=j0 F hm dc rfl rfl (fun _ _ _ _ _ _ us hl=>by obtain ⟨_,rfl⟩:=L2.kR hl;rfl) fun cdv A outer s H E hr =>
  (ag (aw (dq (bz _) hr (aa (cA 0 rfl (Or.inr (Or.inl rfl)) rfl rfl) (aa ai ah rfl) rfl) (by decide) rfl rfl rfl rfl) dc.nd rfl (Or.inl rfl) rfl (Or.inl rfl))
  (ag (aw (aB (cO (aa (dM (by decide +kernel) (by decide)) (aa (dM (by decide +kernel) (by decide)) (aa (dM (by decide +kernel) (by decide)) (aa (dM (by decide +kernel) (by decide)) (aa (dM (by decide +kernel) (by decide)) (aa (dM (by decide +kernel) (by decide)) ah rfl) rfl) rfl) rfl) rfl) rfl)) (dh (dP (qv 1 rfl) ai) ai) (fun _ _=>rfl) rfl) dc.nd rfl (Or.inr rfl) rfl (Or.inl rfl))
  (ag (aw (aB (cO (aa ai (aa ai (aa ai (aa ai (aa ai (aa ai (aa ai (aa ai ah rfl) rfl) rfl) rfl) rfl) rfl) rfl) rfl)) (dh (dP (qv 1 rfl) ai) ai) (fun _ _=>rfl) rfl) dc.nd rfl (Or.inl rfl) rfl (Or.inl rfl))
  (ag (aw (aB (cO (aa ai (aa ai (aa ai (aa ai ah rfl) rfl) rfl) rfl)) (jt (tq B.b_min (aa (qv 3 rfl) (aa ai ah rfl) rfl) rfl rfl rfl rfl) ai) (fun _ _=>rfl) rfl) dc.nd rfl (Or.inr rfl) rfl (Or.inl rfl))
  (ag (bA (gy hr (dh (dP (qv 1 rfl) ai) ai) ai) (aq (aw (dP (aB (cO (aa ai (aa ai ah rfl) rfl)) (dh (dP (qv 1 rfl) ai) ai) (fun _ _=>rfl) rfl) (tD B.b_max (aa ai (aa (qv 3 rfl) ah rfl) rfl) rfl rfl rfl rfl)) dc.nd rfl (Or.inr rfl) rfl (Or.inl rfl))) bh)
  (ag (bA (fg (jG (gy hr (qv 3 rfl) ai) (iJ (qP hr (dh (dP (qv 1 rfl) ai) ai) ai)))) (aq (aw ai dc.nd rfl (Or.inr rfl) rfl (Or.inl rfl))) bh)
  (aq (aX (ig 1 ["_law_j", "_law_script", "_law_cell", "_law_letters", "_law_count", "_law_most"] rfl (ja (qv 3 rfl) rfl B.b_range rfl rfl) (ij (by decide)) (fun _ _ _ _ _=>(aU 0 (show List.Nodup (["_law_j", "_law_script", "_law_cell", "_law_letters", "_law_count", "_law_most"]:List Str) from by decide +kernel) rfl (Or.inl rfl) (Or.inr rfl))) (fun _ _ _ _ _=>(dq (fu _) hr (aa (cA 1 rfl (Or.inr (Or.inl rfl)) rfl rfl) (aa (cA 3 rfl (Or.inr (Or.inl rfl)) rfl rfl) (aa (cA 5 rfl (Or.inr (Or.inl rfl)) rfl rfl) (aa (qv 0 rfl) ah rfl) rfl) rfl) rfl) (by decide) rfl rfl rfl rfl)) rfl rfl (by decide) (fun _=>rfl))))))))))
noncomputable abbrev bC:Stmt:=top 19
theorem aZ:FnScope ["_law_table", "_law_met", "_law_row", "_law_sign", "_law_number", "_law_k"] ["_law_table"] (af bC):=⟨rfl,rfl,rfl,by decide +kernel,rfl,by decide +kernel,by decide +kernel⟩
theorem cp {m:Option Addr} {f:Addr} {fd:FuncData} (F:Fun K "_law_links_right" "_law_links_right" bC f fd) (hm:mg "_law_links_right" = some (.ref f)) (B:Blt mg) (O:ObF K mg C D) :
  FnAt P w K mg base 1 "_law_links_right" ["_law_table"] ((gxO nsL K C D).at m) cn:=j0 F hm aZ rfl rfl (fun _ _ _ _ _ _ us hl=>by obtain ⟨_,rfl⟩:=L2.kR hl;rfl) fun cdv A outer s H E hr =>
  (ag (ff ue aZ.nd rfl (Or.inl rfl) rfl (Or.inl rfl))
  (ag (cQ Yx rfl (cR (qv 0 rfl) rfl) (aU 2 aZ.nd rfl (Or.inl rfl) (Or.inl rfl))
  (aq (cQ Yx rfl (cR (aB (qv 2 rfl) ai (fun _ _=>rfl) rfl) rfl) (rY rfl (j3 (aU 3 aZ.nd rfl (Or.inl rfl) (Or.inl rfl)) (j3 (aU 4 aZ.nd rfl (Or.inl rfl) (Or.inl rfl)) pM rfl) rfl) rfl rfl rfl)
  (aq (lh 1 hr (qv 4 rfl) kh rfl (Or.inl rfl) rfl rfl (fun _=>rfl) rfl rfl rfl)) (fun _=>rfl))) (fun _=>rfl))
  (ic 1 (ag (cQ Yx rfl (gz ai (bq B.b_len (aa (qv 0 rfl) ah rfl) rfl rfl rfl) rfl B.b_range rfl rfl rfl rfl) (aU 5 aZ.nd rfl (Or.inl rfl) (Or.inl rfl))
  (ag (aw (aB (qv 0 rfl) (qv 5 rfl) (fun _ _=>rfl) rfl) aZ.nd rfl (Or.inl rfl) rfl (Or.inl rfl))
  (aq (bA (fg (fZ (nZ (aB (qv 2 rfl) ai (fun _ _=>rfl) rfl)) (fZ (qP hr (bV (aB (aB (qv 0 rfl) (aB (qv 2 rfl) ai (fun _ _=>rfl) rfl) (fun _ _=>rfl) rfl) ai (fun _ _=>rfl) rfl) ai) (aB (qv 2 rfl) ai (fun _ _=>rfl) rfl)) (fZ (km (aB (qv 2 rfl) ai (fun _ _=>rfl) rfl) (aB (qv 2 rfl) ai (fun _ _=>rfl) rfl)) (jA (kE hr (qv 5 rfl) (qv 1 rfl) (by with_unfolding_all rfl) rfl)))))) (aq (aX kh)) bh))) (fun _=>rfl))
  (aq (aX (wx hr (yw (aB (qv 0 rfl) ai (fun _ _=>rfl) rfl) rfl) (gx (aa ai (aa ai (aa iO ah rfl) rfl) rfl)))))))))
noncomputable abbrev iQ:Stmt:=top 20
theorem fz:FnScope ["_law_script", "_law_book_here", "_law_table", "_law_signs", "_law_count", "_law_ahead", "_law_text_here", "_law_end", "_law_forked", "_law_k"] ["_law_script"] (af iQ):=⟨rfl,rfl,rfl,by decide +kernel,rfl,by decide +kernel,by decide +kernel⟩
theorem AC {m:Option Addr} {f:Addr} {fd:FuncData} (F:Fun K "law" "law" iQ f fd) (B:Blt mg) (O:ObF K mg C D) (bR:InAt P w K mg base 6 (gxO nsL K C D) 1 1 "Machine" ["self", "book"] aN) (cP:∀ m,MpAt P w K mg base 3 ((gxO nsL K C D).at m) 1 "table" ["self"] bD) (fE:∀ m,FnAt P w K mg base 3 "_law_book" ["_law_script"] ((gxO nsL K C D).at m) dz) (cp:∀ m,FnAt P w K mg base 1 "_law_links_right" ["_law_table"] ((gxO nsL K C D).at m) cn) :
  FnOk P w K mg base CX0 8 f fd ["_law_script"] (spF ((gxO nsL K C D).at m) qS):=DU F fz rfl rfl fun cdv A outer s H E hr =>
  (ag (aw (dq (fE _) hr (aa (qv 0 rfl) ah rfl) (by decide) rfl rfl rfl rfl) fz.nd rfl (Or.inl rfl) rfl (Or.inl rfl))
  (ag (aw (iM (cP _) hr (by decide) (t7 bR.at hr (by decide) (aa (mf B.b_list (aa (qv 1 rfl) ah rfl) rfl rfl rfl rfl) ah rfl) B2 rfl rfl rfl rfl) rfl) fz.nd rfl (Or.inl rfl) rfl (Or.inl rfl))
  (ag (aw (bq B.b_len (aa (mO (dM (by decide +kernel) (by decide)) (aa (qv 1 rfl) ah rfl) rfl rfl rfl rfl rfl rfl) ah rfl) rfl rfl rfl) fz.nd rfl (Or.inl rfl) rfl (Or.inl rfl))
  (ag (aw (qX B.b_sum (aa (ig 1 ["_law_row", "_law_script", "_law_book_here", "_law_table", "_law_signs", "_law_count", "_law_ahead", "_law_text_here", "_law_end", "_law_forked", "_law_k"] rfl (cR (qv 2 rfl) rfl) (ij (by decide)) (fun _ _ _ _ _=>(aU 0 (show List.Nodup (["_law_row", "_law_script", "_law_book_here", "_law_table", "_law_signs", "_law_count", "_law_ahead", "_law_text_here", "_law_end", "_law_forked", "_law_k"]:List Str) from by decide +kernel) rfl (Or.inl rfl) (Or.inr rfl))) (fun _ _ _ _ _=>(bq B.b_len (aa (aB (qv 0 rfl) ai (fun _ _=>rfl) rfl) ah rfl) rfl rfl rfl)) rfl rfl (by decide) (fun _=>rfl)) ah rfl) rfl rfl rfl rfl) fz.nd rfl (Or.inl rfl) rfl (Or.inl rfl))
  (ag (bA (gy hr (qv 3 rfl) ai) (aq (aX (wx hr (qv 2 rfl) (cO (aa (gx (aa ai (aa ai (aa iO (aa (gx ah) ah rfl) rfl) rfl) rfl)) ah rfl))))) bh)
  (ag (bA (fg (fZ (km (bq B.b_len (aa (qv 2 rfl) ah rfl) rfl rfl rfl) (gI ai (qv 3 rfl))) (fZ (rj (qv 4 rfl) (gI ai (qv 3 rfl))) (jA (jL (mN (dq (cp _) hr (aa (qv 2 rfl) ah rfl) (by decide) rfl rfl rfl rfl) rfl (fun _=>rfl))))))) (aq (aX kh)) bh)
  (ag (ff lI fz.nd rfl (Or.inl rfl) rfl (Or.inl rfl))
  (ag (cQ Yx rfl (cR (qv 1 rfl) rfl) (aU 6 fz.nd rfl (Or.inl rfl) (Or.inl rfl))
  (aq (cQ Yx rfl (gz ai (bV (bq B.b_len (aa (qv 6 rfl) ah rfl) rfl rfl rfl) ai) rfl B.b_range rfl rfl rfl rfl) (aU 7 fz.nd rfl (Or.inl rfl) (Or.inl rfl))
  (aq (lh 5 hr (qr (qv 6 rfl) pF (pE (qv 7 rfl)) rfl) kh rfl (Or.inl rfl) rfl rfl (fun _=>rfl) rfl rfl rfl)) (fun _=>rfl))) (fun _=>rfl))
  (ic 5 (ag (aw ai fz.nd rfl (Or.inl rfl) rfl (Or.inl rfl))
  (ag (cQ Yx rfl (gz ai (bq B.b_len (aa (qv 2 rfl) ah rfl) rfl rfl rfl) rfl B.b_range rfl rfl rfl rfl) (aU 9 fz.nd rfl (Or.inr rfl) (Or.inl rfl))
  (aq (bA (km (bq B.b_len (aa (oE 1 ["_law_row", "_law_script", "_law_book_here", "_law_table", "_law_signs", "_law_count", "_law_ahead", "_law_text_here", "_law_end", "_law_forked", "_law_k"] rfl (cR (qv 2 rfl) rfl) (ij (by decide)) (fun _ _ _ _ _=>(aU 0 (show List.Nodup (["_law_row", "_law_script", "_law_book_here", "_law_table", "_law_signs", "_law_count", "_law_ahead", "_law_text_here", "_law_end", "_law_forked", "_law_k"]:List Str) from by decide +kernel) rfl (Or.inl rfl) (Or.inr rfl))) (fun _ _ _ _ _=>(gy hr (aB (qv 0 rfl) ai (fun _ _=>rfl) rfl) (cA 10 rfl (Or.inr (Or.inl rfl)) rfl rfl))) (fun _ _ _ _ _=>(qv 0 rfl)) rfl rfl (by decide) (fun _=>rfl)) ah rfl) rfl rfl rfl) ai) (aq (aw (bV (qv 8 rfl) ai) fz.nd rfl (Or.inl rfl) rfl (Or.inl rfl))) bh)) (fun _=>rfl))
  (aq (aX (oq (vQ (jt (bq B.b_len (aa (qv 2 rfl) ah rfl) rfl rfl rfl) ai) (bV (bq B.b_len (aa (qv 5 rfl) ah rfl) rfl rfl rfl) (qv 8 rfl))) (oI (vQ (qv 4 rfl) (bV (jt (bq B.b_len (aa (qv 2 rfl) ah rfl) rfl rfl rfl) ai) (qv 3 rfl))))))))))))))))))
end
theorem all_mk {l:PySem.W.OpenLaw} {w:World} {K:Wt} {h:Heap} {mg:Ws} {fa C D f0 f1 f2 f3 f4 f5 f6 f7 f8 f9 f10 f11 f12 f13 f14 f15 f16 f17 f18 f19 f20 f21:Addr} (X:K.In h) (G:h.Ns mainGlobals mg) (hfa:mg "law" = some (.ref fa))
  {od0 an0 od1 an1 od2 an2 od3 an3 od4 an4 od5 an5 od6 an6 od7 an7 od8 an8 od9 an9 od10 an10 od11 an11 od12 an12 od13 an13 od14 an14 od15 an15 od16 an16 od17 an17 od18 an18 od19 an19 od20 an20 od21 an21:Option Addr} {sl0 sl1 sl2 sl3 sl4 sl5 sl6 sl7 sl8 sl9 sl10 sl11 sl12 sl13 sl14 sl15 sl16 sl17 sl18 sl19 sl20 sl21:Array (Wp)} {oc0 kV0 dc0 pm0 cd0 ct0 oc1 kV1 dc1 pm1 cd1 ct1 oc2 kV2 dc2 pm2 cd2 ct2 oc3 kV3 dc3 pm3 cd3 ct3 oc4 kV4 dc4 pm4 cd4 ct4 oc5 kV5 dc5 pm5 cd5 ct5 oc6 kV6 dc6 pm6 cd6 ct6 oc7 kV7 dc7 pm7 cd7 ct7 oc8 kV8 dc8 pm8 cd8 ct8 oc9 kV9 dc9 pm9 cd9 ct9 oc10 kV10 dc10 pm10 cd10 ct10 oc11 kV11 dc11 pm11 cd11 ct11 oc12 kV12 dc12 pm12 cd12 ct12 oc13 kV13 dc13 pm13 cd13 ct13 oc14 kV14 dc14 pm14 cd14 ct14 oc15 kV15 dc15 pm15 cd15 ct15 oc16 kV16 dc16 pm16 cd16 ct16 oc17 kV17 dc17 pm17 cd17 ct17 oc18 kV18 dc18 pm18 cd18 ct18 oc19 kV19 dc19 pm19 cd19 ct19 oc20 kV20 dc20 pm20 cd20 ct20 oc21 kV21 dc21 pm21 cd21 ct21:Value}
  (hlaw:∀ ns:Wm,qS [.scr ns]=some (.fr,.bl true))
  (a0:PySem.W.findIn K (.ref C) "new_node" = some (some (.ref f0))) (i0:PySem.W.isFn K (.ref f0)=true) (l0:K.lookup f0=some ⟨oc0,od0,.func (PySem.W.fnOf "new_node" "Nodes.new_node" (aA bL) (au bL) (af bL) .none kV0 dc0 pm0 an0 cd0 ct0),sl0⟩) (c0:PySem.W.codeIn K cd0 "Nodes.new_node" = true) (k0:PySem.W.keepIn K (.ref f0)=true)
  (a1:PySem.W.findIn K (.ref C) "__init__" = some (some (.ref f1))) (i1:PySem.W.isFn K (.ref f1)=true) (l1:K.lookup f1=some ⟨oc1,od1,.func (PySem.W.fnOf "__init__" "Nodes.__init__" (aA bN) (au bN) (af bN) .none kV1 dc1 pm1 an1 cd1 ct1),sl1⟩) (c1:PySem.W.codeIn K cd1 "Nodes.__init__" = true) (k1:PySem.W.keepIn K (.ref f1)=true)
  (a2:PySem.W.findIn K (.ref C) "node_just_behind" = some (some (.ref f2))) (i2:PySem.W.isFn K (.ref f2)=true) (l2:K.lookup f2=some ⟨oc2,od2,.func (PySem.W.fnOf "node_just_behind" "Nodes.node_just_behind" (aA aR) (au aR) (af aR) .none kV2 dc2 pm2 an2 cd2 ct2),sl2⟩) (c2:PySem.W.codeIn K cd2 "Nodes.node_just_behind" = true) (k2:PySem.W.keepIn K (.ref f2)=true)
  (a3:PySem.W.findIn K (.ref C) "head_behind" = some (some (.ref f3))) (i3:PySem.W.isFn K (.ref f3)=true) (l3:K.lookup f3=some ⟨oc3,od3,.func (PySem.W.fnOf "head_behind" "Nodes.head_behind" (aA bj) (au bj) (af bj) .none kV3 dc3 pm3 an3 cd3 ct3),sl3⟩) (c3:PySem.W.codeIn K cd3 "Nodes.head_behind" = true) (k3:PySem.W.keepIn K (.ref f3)=true)
  (a4:PySem.W.findIn K (.ref C) "head_grown" = some (some (.ref f4))) (i4:PySem.W.isFn K (.ref f4)=true) (l4:K.lookup f4=some ⟨oc4,od4,.func (PySem.W.fnOf "head_grown" "Nodes.head_grown" (aA bt) (au bt) (af bt) .none kV4 dc4 pm4 an4 cd4 ct4),sl4⟩) (c4:PySem.W.codeIn K cd4 "Nodes.head_grown" = true) (k4:PySem.W.keepIn K (.ref f4)=true)
  (a5:PySem.W.findIn K (.ref C) "numbers_by_node" = some (some (.ref f5))) (i5:PySem.W.isFn K (.ref f5)=true) (l5:K.lookup f5=some ⟨oc5,od5,.func (PySem.W.fnOf "numbers_by_node" "Nodes.numbers_by_node" (aA aS) (au aS) (af aS) .none kV5 dc5 pm5 an5 cd5 ct5),sl5⟩) (c5:PySem.W.codeIn K cd5 "Nodes.numbers_by_node" = true) (k5:PySem.W.keepIn K (.ref f5)=true)
  (a6:PySem.W.findIn K (.ref C) "row_of" = some (some (.ref f6))) (i6:PySem.W.isFn K (.ref f6)=true) (l6:K.lookup f6=some ⟨oc6,od6,.func (PySem.W.fnOf "row_of" "Nodes.row_of" (aA cB) (au cB) (af cB) .none kV6 dc6 pm6 an6 cd6 ct6),sl6⟩) (c6:PySem.W.codeIn K cd6 "Nodes.row_of" = true) (k6:PySem.W.keepIn K (.ref f6)=true)
  (a7:PySem.W.findIn K (.ref C) "table" = some (some (.ref f7))) (i7:PySem.W.isFn K (.ref f7)=true) (l7:K.lookup f7=some ⟨oc7,od7,.func (PySem.W.fnOf "table" "Nodes.table" (aA cT) (au cT) (af cT) .none kV7 dc7 pm7 an7 cd7 ct7),sl7⟩) (c7:PySem.W.codeIn K cd7 "Nodes.table" = true) (k7:PySem.W.keepIn K (.ref f7)=true)
  (a8:PySem.W.findIn K (.ref D) "begin" = some (some (.ref f8))) (i8:PySem.W.isFn K (.ref f8)=true) (l8:K.lookup f8=some ⟨oc8,od8,.func (PySem.W.fnOf "begin" "Machine.begin" (aA b9) (au b9) (af b9) .none kV8 dc8 pm8 an8 cd8 ct8),sl8⟩) (c8:PySem.W.codeIn K cd8 "Machine.begin" = true) (k8:PySem.W.keepIn K (.ref f8)=true)
  (a9:PySem.W.nsIn K mainGlobals "is_whole" = some (some (.ref f9))) (l9:K.lookup f9=some ⟨oc9,od9,.func (PySem.W.fnOf "is_whole" "is_whole" (aA dW) (au dW) (af dW) .none kV9 dc9 pm9 an9 cd9 ct9),sl9⟩) (c9:PySem.W.codeIn K cd9 "is_whole" = true) (k9:PySem.W.keepIn K (.ref f9)=true)
  (a10:PySem.W.nsIn K mainGlobals "refuse_no_text" = some (some (.ref f10))) (l10:K.lookup f10=some ⟨oc10,od10,.func (PySem.W.fnOf "refuse_no_text" "refuse_no_text" (aA bM) (au bM) (af bM) .none kV10 dc10 pm10 an10 cd10 ct10),sl10⟩) (c10:PySem.W.codeIn K cd10 "refuse_no_text" = true) (k10:PySem.W.keepIn K (.ref f10)=true)
  (a11:PySem.W.nsIn K mainGlobals "signs_in" = some (some (.ref f11))) (l11:K.lookup f11=some ⟨oc11,od11,.func (PySem.W.fnOf "signs_in" "signs_in" (aA d3) (au d3) (af d3) .none kV11 dc11 pm11 an11 cd11 ct11),sl11⟩) (c11:PySem.W.codeIn K cd11 "signs_in" = true) (k11:PySem.W.keepIn K (.ref f11)=true)
  (a12:PySem.W.findIn K (.ref D) "grow" = some (some (.ref f12))) (i12:PySem.W.isFn K (.ref f12)=true) (l12:K.lookup f12=some ⟨oc12,od12,.func (PySem.W.fnOf "grow" "Machine.grow" (aA cE) (au cE) (af cE) .none kV12 dc12 pm12 an12 cd12 ct12),sl12⟩) (c12:PySem.W.codeIn K cd12 "Machine.grow" = true) (k12:PySem.W.keepIn K (.ref f12)=true)
  {T13:Addr} {ob13:Obj} {nn13:Nat}
  (a13:PySem.W.findIn K (.ref D) "__init__" = some (some (.ref f13))) (i13:PySem.W.isFn K (.ref f13)=true) (l13:K.lookup f13=some ⟨oc13,od13,.func (PySem.W.fnOf "__init__" "Machine.__init__" (aA bQ) (au bQ) (af bQ) (.ref T13) kV13 dc13 pm13 an13 cd13 ct13),sl13⟩) (c13:PySem.W.codeIn K cd13 "Machine.__init__" = true) (k13:PySem.W.keepIn K (.ref f13)=true) (t13:K.lookup T13=some ob13) (u13:ob13.data=.seq #[.none] nn13)
  (a14:PySem.W.findIn K (.ref D) "book" = some (some (.ref f14))) (i14:PySem.W.isFn K (.ref f14)=true) (l14:K.lookup f14=some ⟨oc14,od14,.func (PySem.W.fnOf "book" "Machine.book" (aA cF) (au cF) (af cF) .none kV14 dc14 pm14 an14 cd14 ct14),sl14⟩) (c14:PySem.W.codeIn K cd14 "Machine.book" = true) (k14:PySem.W.keepIn K (.ref f14)=true)
  (a15:PySem.W.findIn K (.ref D) "table" = some (some (.ref f15))) (i15:PySem.W.isFn K (.ref f15)=true) (l15:K.lookup f15=some ⟨oc15,od15,.func (PySem.W.fnOf "table" "Machine.table" (aA b8) (au b8) (af b8) .none kV15 dc15 pm15 an15 cd15 ct15),sl15⟩) (c15:PySem.W.codeIn K cd15 "Machine.table" = true) (k15:PySem.W.keepIn K (.ref f15)=true)
  (a16:PySem.W.nsIn K mainGlobals "_law_cell_at" = some (some (.ref f16))) (l16:K.lookup f16=some ⟨oc16,od16,.func (PySem.W.fnOf "_law_cell_at" "_law_cell_at" (aA cS) (au cS) (af cS) .none kV16 dc16 pm16 an16 cd16 ct16),sl16⟩) (c16:PySem.W.codeIn K cd16 "_law_cell_at" = true) (k16:PySem.W.keepIn K (.ref f16)=true)
  (a17:PySem.W.nsIn K mainGlobals "_law_mixed" = some (some (.ref f17))) (l17:K.lookup f17=some ⟨oc17,od17,.func (PySem.W.fnOf "_law_mixed" "_law_mixed" (aA dB) (au dB) (af dB) .none kV17 dc17 pm17 an17 cd17 ct17),sl17⟩) (c17:PySem.W.codeIn K cd17 "_law_mixed" = true) (k17:PySem.W.keepIn K (.ref f17)=true)
  (a18:PySem.W.nsIn K mainGlobals "_law_text" = some (some (.ref f18))) (l18:K.lookup f18=some ⟨oc18,od18,.func (PySem.W.fnOf "_law_text" "_law_text" (aA dZ) (au dZ) (af dZ) .none kV18 dc18 pm18 an18 cd18 ct18),sl18⟩) (c18:PySem.W.codeIn K cd18 "_law_text" = true) (k18:PySem.W.keepIn K (.ref f18)=true)
  (a19:PySem.W.nsIn K mainGlobals "_law_book" = some (some (.ref f19))) (l19:K.lookup f19=some ⟨oc19,od19,.func (PySem.W.fnOf "_law_book" "_law_book" (aA d4) (au d4) (af d4) .none kV19 dc19 pm19 an19 cd19 ct19),sl19⟩) (c19:PySem.W.codeIn K cd19 "_law_book" = true) (k19:PySem.W.keepIn K (.ref f19)=true)
  (a20:PySem.W.nsIn K mainGlobals "_law_links_right" = some (some (.ref f20))) (l20:K.lookup f20=some ⟨oc20,od20,.func (PySem.W.fnOf "_law_links_right" "_law_links_right" (aA bC) (au bC) (af bC) .none kV20 dc20 pm20 an20 cd20 ct20),sl20⟩) (c20:PySem.W.codeIn K cd20 "_law_links_right" = true) (k20:PySem.W.keepIn K (.ref f20)=true)
  (a21:PySem.W.nsIn K mainGlobals "law" = some (some (.ref f21))) (l21:K.lookup f21=some ⟨oc21,od21,.func (PySem.W.fnOf "law" "law" (aA iQ) (au iQ) (af iQ) .none kV21 dc21 pm21 an21 cd21 ct21),sl21⟩) (c21:PySem.W.codeIn K cd21 "law" = true) (k21:PySem.W.keepIn K (.ref f21)=true)
  (z_bool:PySem.W.nsIn K mainGlobals "bool" = some none)
  (z_dict:PySem.W.nsIn K mainGlobals "dict" = some none)
  (z_int:PySem.W.nsIn K mainGlobals "int" = some none)
  (z_isinstance:PySem.W.nsIn K mainGlobals "isinstance" = some none)
  (z_len:PySem.W.nsIn K mainGlobals "len" = some none)
  (z_list:PySem.W.nsIn K mainGlobals "list" = some none)
  (z_max:PySem.W.nsIn K mainGlobals "max" = some none)
  (z_min:PySem.W.nsIn K mainGlobals "min" = some none)
  (z_range:PySem.W.nsIn K mainGlobals "range" = some none)
  (z_sorted:PySem.W.nsIn K mainGlobals "sorted" = some none)
  (z_sum:PySem.W.nsIn K mainGlobals "sum" = some none)
  (z_tuple:PySem.W.nsIn K mainGlobals "tuple" = some none)
  {t_MOST_SIGNS:Tok} (y_MOST_SIGNS:PySem.W.nsIn K mainGlobals "MOST_SIGNS" = some (some (.int 120 t_MOST_SIGNS)))
  {t_MOST_TEXTS:Tok} (y_MOST_TEXTS:PySem.W.nsIn K mainGlobals "MOST_TEXTS" = some (some (.int 8 t_MOST_TEXTS)))
  (w_Nodes:PySem.W.nsIn K mainGlobals "Nodes" = some (some (.ref C))) (pg_Nodes:PySem.W.plainGet K C Str.empty=true) (hd_Nodes:PySem.W.hasDictIn K C=true) (po_Nodes:PySem.W.plainOver K C=true) (sa_Nodes:PySem.W.findIn K (.ref C) "__setattr__" = some (some (.builtin "object.__setattr__"))) (mk_Nodes:PySem.W.makesIn K C=true) (kc_Nodes:PySem.W.keepIn K (.ref C)=true) (n_longs_Nodes:PySem.W.findIn K (.ref C) "longs" = some none) (n_links_Nodes:PySem.W.findIn K (.ref C) "links" = some none) (n_ways_Nodes:PySem.W.findIn K (.ref C) "ways" = some none) (n_texts_Nodes:PySem.W.findIn K (.ref C) "texts" = some none) (n_heads_Nodes:PySem.W.findIn K (.ref C) "heads" = some none) (n_nodes_Nodes:PySem.W.findIn K (.ref C) "nodes" = some none)
  (w_Machine:PySem.W.nsIn K mainGlobals "Machine" = some (some (.ref D))) (pg_Machine:PySem.W.plainGet K D Str.empty=true) (hd_Machine:PySem.W.hasDictIn K D=true) (po_Machine:PySem.W.plainOver K D=true) (sa_Machine:PySem.W.findIn K (.ref D) "__setattr__" = some (some (.builtin "object.__setattr__"))) (mk_Machine:PySem.W.makesIn K D=true) (kc_Machine:PySem.W.keepIn K (.ref D)=true) (n_longs_Machine:PySem.W.findIn K (.ref D) "longs" = some none) (n_links_Machine:PySem.W.findIn K (.ref D) "links" = some none) (n_ways_Machine:PySem.W.findIn K (.ref D) "ways" = some none) (n_texts_Machine:PySem.W.findIn K (.ref D) "texts" = some none) (n_heads_Machine:PySem.W.findIn K (.ref D) "heads" = some none) (n_nodes_Machine:PySem.W.findIn K (.ref D) "nodes" = some none)
  : ∃ fd:FuncData,(∀ (s:Shared) (v:Value),BindsTo s fd ⟨[v],[]⟩ [("_law_script",v)])/\∀ base:Heap,K.In base->base.Ns mainGlobals mg->FnOk l.prog w K mg base CX0 8 fa fd ["_law_script"] (spF (gx0 K) yC):=by
 have e:=hfa.symm.trans (Ys X G a21)
 cases e
 have B:Blt mg:=⟨ZA X G z_bool,ZA X G z_dict,ZA X G z_int,ZA X G z_isinstance,ZA X G z_len,ZA X G z_list,ZA X G z_max,ZA X G z_min,ZA X G z_range,ZA X G z_sorted,ZA X G z_sum,ZA X G z_tuple,⟨_,Ys X G y_MOST_SIGNS⟩,⟨_,Ys X G y_MOST_TEXTS⟩⟩
 have O:ObF K mg C D:=⟨⟨pg_Nodes,hd_Nodes,po_Nodes,sa_Nodes⟩,Ys X G w_Nodes,n_longs_Nodes,n_links_Nodes,n_ways_Nodes,n_texts_Nodes,n_heads_Nodes,n_nodes_Nodes,⟨pg_Machine,hd_Machine,po_Machine,sa_Machine⟩,Ys X G w_Machine,n_longs_Machine,n_links_Machine,n_ways_Machine,n_texts_Machine,n_heads_Machine,n_nodes_Machine⟩
 refine ⟨PySem.W.fnOf "law" "law" (aA iQ) (au iQ) (af iQ) .none kV21 dc21 pm21 an21 cd21 ct21,fun s v=>.of_eq rfl,fun base _ _=>?_⟩
 have aI:=aI (P:=l.prog) (w:=w) (base:=base) (cu (st:=bL) l0 c0 k0) ⟨a0,i0,k0⟩ B O
 have cx:=cx (P:=l.prog) (w:=w) (base:=base) (cu (st:=bN) l1 c1 k1) ⟨mk_Nodes,a1,i1,kc_Nodes⟩ B O aI
 have aQ:=aQ (P:=l.prog) (w:=w) (base:=base) (cu (st:=aR) l2 c2 k2) ⟨a2,i2,k2⟩ B O aI
 have bF:=bF (P:=l.prog) (w:=w) (base:=base) (cu (st:=bj) l3 c3 k3) ⟨a3,i3,k3⟩ B O aI aQ
 have bP:=bP (P:=l.prog) (w:=w) (base:=base) (cu (st:=bt) l4 c4 k4) ⟨a4,i4,k4⟩ B O bF
 have ba:=fun m=>ba (m:=m) (P:=l.prog) (w:=w) (base:=base) (cu (st:=aS) l5 c5 k5) ⟨a5,i5,k5⟩ B O
 have cX:=fun m=>cX (m:=m) (P:=l.prog) (w:=w) (base:=base) (cu (st:=cB) l6 c6 k6) ⟨a6,i6,k6⟩ B O
 have du:=fun m=>du (m:=m) (P:=l.prog) (w:=w) (base:=base) (cu (st:=cT) l7 c7 k7) ⟨a7,i7,k7⟩ B O ba cX
 have cN:=cN (P:=l.prog) (w:=w) (base:=base) (cu (st:=b9) l8 c8 k8) ⟨a8,i8,k8⟩ B O
 have fH:=fun m=>fH (m:=m) (P:=l.prog) (w:=w) (base:=base) (cu (st:=dW) l9 c9 k9) (Ys X G a9) B O
 have cy:=fun m=>cy (m:=m) (P:=l.prog) (w:=w) (base:=base) (cu (st:=bM) l10 c10 k10) (Ys X G a10) B O fH
 have fJ:=fun m=>fJ (m:=m) (P:=l.prog) (w:=w) (base:=base) (cu (st:=d3) l11 c11 k11) (Ys X G a11) B O
 have cU:=cU (P:=l.prog) (w:=w) (base:=base) (cu (st:=cE) l12 c12 k12) ⟨a12,i12,k12⟩ B O bP cy fJ
 have bR:=bR (P:=l.prog) (w:=w) (base:=base) ⟨⟨_,_,_,_,_,_,_,_,_,_,_,_,rfl,l13,c13,t13,u13⟩,k13⟩ ⟨mk_Machine,a13,i13,kc_Machine⟩ B O cN cU cx
 have g7:=fun m=>g7 (m:=m) (P:=l.prog) (w:=w) (base:=base) (cu (st:=cF) l14 c14 k14) ⟨a14,i14,k14⟩ B O
 have cP:=fun m=>cP (m:=m) (P:=l.prog) (w:=w) (base:=base) (cu (st:=b8) l15 c15 k15) ⟨a15,i15,k15⟩ B O du
 have bz:=fun m=>bz (m:=m) (P:=l.prog) (w:=w) (base:=base) (cu (st:=cS) l16 c16 k16) (Ys X G a16) B O
 have eE:=fun m=>eE (m:=m) (P:=l.prog) (w:=w) (base:=base) (cu (st:=dB) l17 c17 k17) (Ys X G a17) B O
 have fu:=fun m=>fu (m:=m) (P:=l.prog) (w:=w) (base:=base) (cu (st:=dZ) l18 c18 k18) (Ys X G a18) B O bz eE
 have fE:=fun m=>fE (m:=m) (P:=l.prog) (w:=w) (base:=base) (cu (st:=d4) l19 c19 k19) (Ys X G a19) B O bz fu
 have cp:=fun m=>cp (m:=m) (P:=l.prog) (w:=w) (base:=base) (cu (st:=bC) l20 c20 k20) (Ys X G a20) B O
 exact x6 rfl (AC (m:=none) (cu (st:=iQ) l21 c21 k21) B O bR cP fE cp) hlaw
end T09
open PySem PySem.W PyProof.Rows PySem.W.X PySem.W.ZRun
set_option maxRecDepth 100000 in
set_option maxHeartbeats 0 in
theorem PySem.Challenge.cw_allparts_k09_whole_how_many_stands_holds : PySem.Challenge.rw_allparts_k09_whole_how_many_stands.Holds := by
 w_on;o_law;z_head;(case hw=>w_witness2)
 k_fill
 intro w s₀ s₁ mg mb G y fa o pm cd doc dV kV ho hd hcd hD hmg hg args vals as L hpre hlay hrd hwl hlo
 z_open y L KX ZH ZN ZT
 clear ZH ZN ZT
 refine VS.tZ (l:=PySem.Challenge.rw_allparts_k09_whole_how_many_stands) (k:=8) (x := "_law_script") (g:=VS.yC) rfl rfl ⟨rfl,by decide,by decide⟩ (fun _=>rfl) ?F w s₀ s₁ mg mb G KX fa o pm cd doc dV kV ho hd hcd hD hmg hg args vals as hpre hlay hrd hwl hlo
 case F =>
  intro w mg fa h KX G hmg
  refine' T09.all_mk KX G hmg T09.uS ?a0 ?i0 ?l0 ?c0 ?k0 ?a1 ?i1 ?l1 ?c1 ?k1 ?a2 ?i2 ?l2 ?c2 ?k2 ?a3 ?i3 ?l3 ?c3 ?k3 ?a4 ?i4 ?l4 ?c4 ?k4 ?a5 ?i5 ?l5 ?c5 ?k5 ?a6 ?i6 ?l6 ?c6 ?k6 ?a7 ?i7 ?l7 ?c7 ?k7 ?a8 ?i8 ?l8 ?c8 ?k8 ?a9 ?l9 ?c9 ?k9 ?a10 ?l10 ?c10 ?k10 ?a11 ?l11 ?c11 ?k11 ?a12 ?i12 ?l12 ?c12 ?k12 ?a13 ?i13 ?l13 ?c13 ?k13 ?t13 ?u13 ?a14 ?i14 ?l14 ?c14 ?k14 ?a15 ?i15 ?l15 ?c15 ?k15 ?a16 ?l16 ?c16 ?k16 ?a17 ?l17 ?c17 ?k17 ?a18 ?l18 ?c18 ?k18 ?a19 ?l19 ?c19 ?k19 ?a20 ?l20 ?c20 ?k20 ?a21 ?l21 ?c21 ?k21 ?z_bool ?z_dict ?z_int ?z_isinstance ?z_len ?z_list ?z_max ?z_min ?z_range ?z_sorted ?z_sum ?z_tuple ?y_MOST_SIGNS ?y_MOST_TEXTS ?w_Nodes ?pg_Nodes ?hd_Nodes ?po_Nodes ?sa_Nodes ?mk_Nodes ?kc_Nodes ?n_longs_Nodes ?n_links_Nodes ?n_ways_Nodes ?n_texts_Nodes ?n_heads_Nodes ?n_nodes_Nodes ?w_Machine ?pg_Machine ?hd_Machine ?po_Machine ?sa_Machine ?mk_Machine ?kc_Machine ?n_longs_Machine ?n_links_Machine ?n_ways_Machine ?n_texts_Machine ?n_heads_Machine ?n_nodes_Machine
  (case w_Nodes=>k_is)
  (case w_Machine=>k_is)
  (case a0=>k_is)
  (case i0=>k_is)
  (case l0=>k_is)
  (case c0=>k_is)
  (case k0=>k_is)
  (case a1=>k_is)
  (case i1=>k_is)
  (case l1=>k_is)
  (case c1=>k_is)
  (case k1=>k_is)
  (case a2=>k_is)
  (case i2=>k_is)
  (case l2=>k_is)
  (case c2=>k_is)
  (case k2=>k_is)
  (case a3=>k_is)
  (case i3=>k_is)
  (case l3=>k_is)
  (case c3=>k_is)
  (case k3=>k_is)
  (case a4=>k_is)
  (case i4=>k_is)
  (case l4=>k_is)
  (case c4=>k_is)
  (case k4=>k_is)
  (case a5=>k_is)
  (case i5=>k_is)
  (case l5=>k_is)
  (case c5=>k_is)
  (case k5=>k_is)
  (case a6=>k_is)
  (case i6=>k_is)
  (case l6=>k_is)
  (case c6=>k_is)
  (case k6=>k_is)
  (case a7=>k_is)
  (case i7=>k_is)
  (case l7=>k_is)
  (case c7=>k_is)
  (case k7=>k_is)
  (case a8=>k_is)
  (case i8=>k_is)
  (case l8=>k_is)
  (case c8=>k_is)
  (case k8=>k_is)
  (case a9=>k_is)
  (case l9=>k_is)
  (case c9=>k_is)
  (case k9=>k_is)
  (case a10=>k_is)
  (case l10=>k_is)
  (case c10=>k_is)
  (case k10=>k_is)
  (case a11=>k_is)
  (case l11=>k_is)
  (case c11=>k_is)
  (case k11=>k_is)
  (case a12=>k_is)
  (case i12=>k_is)
  (case l12=>k_is)
  (case c12=>k_is)
  (case k12=>k_is)
  (case a13=>k_is)
  (case i13=>k_is)
  (case l13=>k_is)
  (case c13=>k_is)
  (case k13=>k_is)
  (case t13=>k_is)
  (case u13=>first | k_is | exact rfl)
  (case a14=>k_is)
  (case i14=>k_is)
  (case l14=>k_is)
  (case c14=>k_is)
  (case k14=>k_is)
  (case a15=>k_is)
  (case i15=>k_is)
  (case l15=>k_is)
  (case c15=>k_is)
  (case k15=>k_is)
  (case a16=>k_is)
  (case l16=>k_is)
  (case c16=>k_is)
  (case k16=>k_is)
  (case a17=>k_is)
  (case l17=>k_is)
  (case c17=>k_is)
  (case k17=>k_is)
  (case a18=>k_is)
  (case l18=>k_is)
  (case c18=>k_is)
  (case k18=>k_is)
  (case a19=>k_is)
  (case l19=>k_is)
  (case c19=>k_is)
  (case k19=>k_is)
  (case a20=>k_is)
  (case l20=>k_is)
  (case c20=>k_is)
  (case k20=>k_is)
  (case a21=>k_is)
  (case l21=>k_is)
  (case c21=>k_is)
  (case k21=>k_is)
  (case z_bool=>k_is)
  (case z_dict=>k_is)
  (case z_int=>k_is)
  (case z_isinstance=>k_is)
  (case z_len=>k_is)
  (case z_list=>k_is)
  (case z_max=>k_is)
  (case z_min=>k_is)
  (case z_range=>k_is)
  (case z_sorted=>k_is)
  (case z_sum=>k_is)
  (case z_tuple=>k_is)
  (case y_MOST_SIGNS=>k_is)
  (case y_MOST_TEXTS=>k_is)
  (case pg_Nodes=>k_is)
  (case hd_Nodes=>k_is)
  (case po_Nodes=>k_is)
  (case sa_Nodes=>k_is)
  (case mk_Nodes=>k_is)
  (case kc_Nodes=>k_is)
  (case n_longs_Nodes=>k_is)
  (case n_links_Nodes=>k_is)
  (case n_ways_Nodes=>k_is)
  (case n_texts_Nodes=>k_is)
  (case n_heads_Nodes=>k_is)
  (case n_nodes_Nodes=>k_is)
  (case pg_Machine=>k_is)
  (case hd_Machine=>k_is)
  (case po_Machine=>k_is)
  (case sa_Machine=>k_is)
  (case mk_Machine=>k_is)
  (case kc_Machine=>k_is)
  (case n_longs_Machine=>k_is)
  (case n_links_Machine=>k_is)
  (case n_ways_Machine=>k_is)
  (case n_texts_Machine=>k_is)
  (case n_heads_Machine=>k_is)
  (case n_nodes_Machine=>k_is)
end
