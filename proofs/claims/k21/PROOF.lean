import PyProof.Rows.All
import Wide.All
import OpenK.AllK
import Wide.FinOn
import Lean
import PyProof.EqAt
import PyProof.EqKinds
import PyProof.TupleCall
import PyProof.Rows.SortShellK
import PyProof.Rows.SortStr
import PyProof.Rows.SortWalk
import PyProof.StrBlockH
import PyProof.StrLawsIn
import PyProof.Rows.SetFrom
import PyProof.CollectWalk
import KE.KDictSum
import PyProof.ListStr
import PyProof.SeqI3
import PyProof.Rows.CallKwBuiltin
import PyProof.ListRange
import PyProof.AttrMissSeq
import PyProof.DictUpdate
import PyProof.DictList
import PyProof.ListNew
import PyProof.FactsAll.dict_1
import PyProof.SliceList
import PyProof.WalkInts
import PySem.Challenge.RW_allparts_k21_places_by_stands
set_option linter.all false
set_option maxRecDepth 100000
set_option Elab.async false
set_option maxHeartbeats 4000000
abbrev Yy:=PySem.Value->PySem.Shared->Prop
abbrev Yp:=List (PySem.Addr×PySem.Obj)
abbrev Yf:=List (List PySem.Addr)
abbrev Xs:=PySem.W.Frag
abbrev Xg:=PySem.Str->Option PySem.Value
abbrev Xf:=List PySem.Addr
abbrev Xb:=List PySem.Value
abbrev Vy:=Option PySem.Value
abbrev Vr:=List Nat
abbrev Vq:=List Int
abbrev Vp:=List (List (List Nat))
abbrev Zs:=@if_pos
abbrev Zp:=@if_neg
open Option renaming bind_eq_some_iff->Zz,bind_some->Zn,map_eq_some_iff->Zm,map_some->Yc,getD_some->XE,isSome_iff_exists->Wo,isSome_map->WB,getD_none->Vw
open PySem renaming wpAny_bind->Zy,wpAny_pure->Zq,wpAny_truthy_bool->YV,wpAny_mono->YT,wpAny_holding->YF,wpAny_specialOf->Xl,wpAny_passesOwn->Xk,mem_of_lookup->Xa,wpAny_forIn_list->XT,wpAny_call_entry->XS,wpAny_rule->XG,wpAny_typeNameOfWhole_keyiter->Wx,wpAny_Call_Name_kw->Wm,tupleKind_room_in1->Wl,wpAny_newObj_type->Wb,wpAny_isInstance->WU,wpAny_typeOf->WQ,wpAny_execs_nil->WM,isSubtype_tuple_tuple->WK,wpAny_seqItems->WD,sizeLine_eq->WC,look_same->Vz
open List renaming mem_cons_of_mem->Zx,mem_cons_self->Zw,length_map->Zv,length_append->Zu,map_cons->Zt,mem_cons->Zo,append_assoc->Zl,mem_singleton->Zj,length_cons->Zg,flatten_cons->Zf,mem_append->Zd,size_toArray->Zc,getElem?_eq_getElem->Za,getElem?_eq_some_iff->ZZ,nodup_cons->ZY,length_singleton->ZX,length_take->ZR,length_drop->ZQ,take_of_length_le->ZK,nodup_append->ZJ,append_nil->ZG,zip_cons_cons->ZF,pairwise_append->ZE,length_range->Z0,getElem?_map->Z1,mem_append_right->Z2,getD_eq_getElem?_getD->Z3,flatten_append->Z5,mem_range->Z6,mem_map->Yz,getElem?_append_right->Yx,all_eq_true->Yw,map_append->Yu,find?_cons->Yt,getElem_of_mem->Ys,nil_append->Yr,mem_of_mem_take->Yn,mem_of_mem_drop->Ym,getElem?_append_left->Yl,filterMap_cons->Yi,take_append_drop->Yg,findIdx?_cons->Yd,length_zip->Yb,map_map->Ya,map_nil->YX,length_nil->YW,getElem?_set_ne->YU,sublist_cons_self->YR,getElem?_set_self->YQ,drop_eq_nil_of_le->YO,suffix_of_suffix_length_le->YK,getElem?_eq_none_iff->YJ,perm_append_comm->YI,mem_of_getElem?->YH,drop_of_length_le->YC,mem_reverse->Y0,lookup_cons->Y1,length_replicate->Y2,pairwise_iff_getElem->Y3,drop_eq_getElem_cons->Y4,mem_append_left->Y6,any_cons->Xz,getElem?_replicate->Xv,length_set->Xq,getElem?_eq_none->Xo,getElem_take->Xn,getElem_drop->Xm,drop_zero->Xj,zipIdx_cons->Xe,not_mem_nil->Xd,getElem_mem->Xc,getD_cons_succ->XZ,all_cons->XX,zip_append->XW,foldl_cons->XU,pairwise_cons->XQ,length_eq_zero_iff->XN,filter_cons_of_neg->XM,drop_suffix->XC,drop_append->XB,take_append_of_le_length->X0,eq_nil_of_length_eq_zero->X1,mem_filter->X6,replicate_succ->X8,nodup_nil->Wv,drop_take->Wu,getElem?_zip_eq_some->Ws,mem_range'_1->Wr,mem_flatten->Wh,getElem_map->Wg,filter_cons_of_pos->Wf,flatten_singleton->Wd,of_mem_zip->Wa,getElem?_toArray->WX,cons_lt_cons_iff->WW,lt_irrefl->WT,drop_drop->WS,map_congr_left->WO,length_pos_iff->WN,mem_filterMap->WI,append_of_mem->WH,pairwise_map->W5,filter_congr->W6,ext_getElem?->W7,perm_middle->Vt,map_snd_zip->Vs
open Nat renaming le_refl->Zr,le_trans->ZW,le_of_lt->ZS,zero_le->ZO,le_add_right->ZM,ne_of_lt->ZL,lt_of_lt_of_le->ZA,min_eq_left->Yv,pos_of_ne_zero->Yo,le_of_lt_succ->Ye,sub_le->YS,le_add_left->YM,add_sub_cancel_left->YG,le_add_right_of_le->YD,succ_le_succ->YB,le_of_not_le->YA,lt_of_succ_lt->Y5,le_of_not_lt->Xw,zero_add->Xu,lt_irrefl->Xp,add_assoc->XY,lt_of_le_of_lt->XR,le_of_succ_le->XI,min_eq_right->XD,lt_trans->Wz,lt_or_ge->Wy,add_sub_cancel->Ww,lt_of_not_le->Wi,le_of_eq->We,succ_le_of_lt->WA,sub_pos_of_lt->W0,ne_of_gt->W1,lt_succ_of_lt->W2,lt_of_succ_le->W3,add_sub_of_le->W4,not_lt_of_le->Vv,lt_succ_self->Vu
open PyProof.Rows renaming wpS_pure->Zk,wpS_bind->Zb,wpS_forRange->Yj,wpS_mono->Y7,wpS_modify->X7,callWith_type1->X9,size_push'->Wn,listUpdate_at->Wj,wpS_get->WV
open Bool renaming false_ne_true->Zi,false_eq_true->Z4,and_eq_true->Yq,not_true->XA,and_eq_true_iff->X4,true_eq_false->WE
open Array renaming getElem_mem->Zh,getElem?_toList->Z8,toList_append->Yh,length_toList->YZ,perm_iff_toList_perm->Xh,toList_extract->X5,forIn_toList->Wt,toList_reverse->WR,toList_push->W8
open PySem.Heap renaming get?_push_of_some->Ze,get?_push_size->ZV,lt_size->ZU,get?_update_ne->Xt,size_update->XO,get?_update_other->X2,get?_push_ne->X3,get?_update_self->WG
open Int renaming emod_lt_of_pos->ZP,emod_nonneg->ZC,toNat_natCast->YN
open Option.some renaming inj->ZI
open PySem.PassesOwn renaming never->Z7
open PySem.W renaming mg_of->Z9,mg_none_of->Yk,kia_one->YY
open List.cons renaming injEq->YL
open Ne renaming symm->YE
open PySem.F renaming type_list_append->Y8,slot_list_append->Y9,plainAttrs_list->Xy,slot_dict_setdefault->Xr,slot_dict_keyiterator_next->Xi,slot_tuple_getattribute->Wc,slot_tuple_hash->WZ,slot_tuple_eq->WL,args_dict_setdefault_3->Vx
open List.Perm renaming refl->XH
open List.Sublist renaming refl->Wq
open PySem.Heap.SameBut renaming update->Wp
open PySem.Paired renaming length->WY
open PySem.W.KFB renaming if_not->WJ
open PySem.Around renaming under_plainId->W9
section
namespace L2
theorem fR {G:Prop} (h:∀ P:Prop,(G->P)->P):G:=h G id
end L2
namespace VS
noncomputable abbrev Tx:=Vr
inductive T where
 | non | bl (b:Bool) | int (i:Int) | str (s:Tx) | scr (ns:Vq)
 | tup (l:List T) | lst (l:List T) | dct (kd:Nat) (l:List (T×T)) | obj (c:Nat) (fs:List (Nat×T))
 deriving Inhabited
abbrev Vl:=List T
noncomputable def gN:Nat:=16777216
mutual
@[simp] noncomputable def imm:T->Bool
 | .lst _=>false
 | .dct _ _=>false
 | .obj _ _=>false
 | .tup l=>fA l
 | _=>true
@[simp] noncomputable def fA:Vl->Bool
 | []=>true
 | t :: r=>imm t && fA r
end
mutual
@[simp] noncomputable def eqT:T->T->Bool
 | .non,.non=>true
 | .bl a,.bl b=>a == b
 | .bl a,.int i=>(if a then 1 else 0) == i
 | .int i,.bl a=>i == (if a then 1 else 0)
 | .int i,.int j=>i == j
 | .str s,.str t=>s == t
 | .tup a,.tup b=>mG a b
 | .lst a,.lst b=>mG a b
 | _,_=>false
@[simp] noncomputable def mG:Vl->Vl->Bool
 | [],[]=>true
 | a :: as,b :: bs=>eqT a b && mG as bs
 | _,_=>false
end
@[simp] noncomputable def eqD:Nat->T->Bool
 | _,.non=>true
 | _,.bl _=>true
 | _,.int _=>true
 | _,.str _=>true
 | n+1,.tup l=>l.all (eqD n)
 | n+1,.lst l=>l.all (eqD n)
 | _,_=>false
inductive Md where | fr | pu | bo
 deriving DecidableEq,Inhabited
@[simp] noncomputable def Md.join:Md->Md->Md
 | .bo,_=>.bo
 | _,.bo=>.bo
 | .pu,_=>.pu
 | _,.pu=>.pu
 | .fr,.fr=>.fr
inductive Cell where | pu (t:T) | ow (t:T)
 deriving Inhabited
abbrev Vo:=Option Cell
noncomputable abbrev Env:=List (Vo)
noncomputable abbrev Val:=Md×T
abbrev Vm:=Option Val
abbrev Vn:=List Val
noncomputable abbrev Ex:=Env->Vm
noncomputable abbrev Exs:=Env->Option (Vn)
@[simp] noncomputable def up (m:Md) (t:T):Val:=(if imm t then .fr else m,t)
@[simp] noncomputable def AS:T->Bool
 | .lst _=>true
 | .dct _ _=>true
 | .obj _ _=>true
 | _=>false
@[simp] noncomputable def cellOf:Val->Vo
 | (.fr,t)=>some (if AS t then .ow t else .pu t)
 | (.pu,t)=>some (.pu t)
 | (.bo,_)=>none
inductive Out where | nx (η:Env) | rt (v:Val) (η:Env) | bk (η:Env) | ct (η:Env)
noncomputable abbrev Sx:=Env->Option Out
@[simp] noncomputable def eC (t:T) (_:Env):Vm:=some (.fr,t)
@[simp] noncomputable def ah (i:Nat) (η:Env):Vm:=match η[i]? with
 | some (some (.pu t))=>some (up .pu t)
 | some (some (.ow t))=>some (.bo,t)
 | _=>none
@[simp] noncomputable def e1 (f:Val->Vm) (a:Ex) (η:Env):Vm:=(a η).bind f
@[simp] noncomputable def e2 (f:Val->Val->Vm) (a b:Ex) (η:Env):Vm:=(a η).bind fun x=>(b η).bind fun y=>f x y
@[simp] noncomputable def av (_:Env):Option (Vn):=some []
@[simp] noncomputable def af (a:Ex) (r:Exs) (η:Env):Option (Vn):=(a η).bind fun x=>(r η).bind fun xs=>some (x :: xs)
@[simp] noncomputable def eN (f:Vn->Vm) (as:Exs) (η:Env):Vm:=(as η).bind f
@[simp] noncomputable def bF:Vn->Md
 | []=>.fr
 | v :: r=>v.1.join (bF r)
@[simp] noncomputable def trees (l:Vn):Vl:=l.map (·.2)
noncomputable def mkL (m:Md) (l:Vl):Vm:=if l.length<=gN then some (if fA l then .fr else m,.lst l) else none
@[simp] noncomputable def eO (as:Exs) (η:Env):Vm:=(as η).bind fun l=>mkL (bF l) (trees l)
noncomputable def qz (l:Vn):Vm:=if l.length<=gN then some (up (bF l) (.tup (trees l))) else none
@[simp] noncomputable def jT (as:Exs) (η:Env):Vm:=(as η).bind qz
noncomputable def dput (l:List (T×T)) (k v:T):List (T×T):=if l.any (fun p=>eqT p.1 k) then l.map (fun p=>if eqT p.1 k then (p.1,v) else p) else l++[(k,v)]
noncomputable def il:T->Bool
 | .int _=>true
 | .str _=>true
 | _=>false
noncomputable def keyOk:Nat->T->Bool
 | 0,t=>il t
 | 1,.tup l=>l.all il
 | _,_=>false
noncomputable def pairs:List (Ex×Ex)->Env->Option (List (Val×Val))
 | [],_=>some []
 | (a,b) :: r,η=>(a η).bind fun x=>(b η).bind fun y=>(pairs r η).map ((x,y) :: ·)
noncomputable def ly (kd:Nat) (ps:List (Ex×Ex)) (η:Env):Vm:=(pairs ps η).bind fun l=>if l.all (fun p=>keyOk kd p.1.2)/\l.length<=15 then
 some (bF (l.map (·.2)),.dct kd (l.foldl (fun d p=>dput d p.1.2 p.2.2) [])) else none
@[simp] noncomputable def tru:T->Option Bool
 | .bl b=>some b
 | .int i=>some (i != 0)
 | .str s=>some (!s.isEmpty)
 | .lst l=>some (!l.isEmpty)
 | .tup l=>some (!l.isEmpty)
 | .dct 0 l=>some (!l.isEmpty)
 | .non=>some false
 | _=>none
@[simp] noncomputable def iI (a b:Ex) (η:Env):Vm:=(a η).bind fun x=>match x.2 with
 | .bl true=>b η
 | .bl false=>some (.fr,.bl false)
 | _=>none
@[simp] noncomputable def eOr (a b:Ex) (η:Env):Vm:=(a η).bind fun x=>match x.2 with
 | .bl true=>some (.fr,.bl true)
 | .bl false=>b η
 | _=>none
@[simp] noncomputable def gq (a:Ex) (η:Env):Vm:=(a η).bind fun x=>match x.2 with
 | .bl b=>some (.fr,.bl (!b))
 | _=>none
@[simp] noncomputable def eIf (c a b:Ex) (η:Env):Vm:=(c η).bind fun x=>(tru x.2).bind fun t=>if t then a η else b η
@[simp] noncomputable def isN:T->Bool
 | .non=>true
 | _=>false
@[simp] noncomputable def FR (a:Ex) (η:Env):Vm:=(a η).bind fun x=>some (.fr,.bl (isN x.2))
@[simp] noncomputable def kZ (a:Ex) (η:Env):Vm:=(a η).bind fun x=>some (.fr,.bl (!isN x.2))
@[simp] noncomputable def ij (f g:Val->Val->Vm) (a b c:Ex) (η:Env):Vm:=(a η).bind fun x=>(b η).bind fun y=>(f x y).bind fun r=>match r.2 with
 | .bl true=>(c η).bind fun z=>g y z
 | .bl false=>some (.fr,.bl false)
 | _=>none
@[simp] noncomputable def int?:T->Option Int
 | .int i=>some i
 | _=>none
noncomputable def bZ:Val->Val->Vm
 | (_,.int i),(_,.int j)=>some (.fr,.int (i+j))
 | (_,.str s),(_,.str t)=>if s.length+t.length<=gN then some (.fr,.str (s++t)) else none
 | (m,.lst s),(n,.lst t)=>mkL (m.join n) (s++t)
 | _,_=>none
@[simp] noncomputable def qk:Val->Val->Vm
 | (_,.int i),(_,.int j)=>some (.fr,.int (i - j))
 | _,_=>none
noncomputable def B62:Int:=4611686018427387904
noncomputable def B64:Int:=18446744073709551616
noncomputable def ft:Val->Val->Vm
 | (_,.int i),(_,.int j)=>if (-B64 < i/\i < B64)\/(-B64 < j/\j < B64) then some (.fr,.int (i * j)) else none
 | _,_=>none
noncomputable def lq:Val->Val->Vm
 | (_,.str s),(_,.int j)=>if s.length * j.toNat<=gN/\-B62<=j/\j < B62 then some (.fr,.str (List.replicate j.toNat s).flatten) else none
 | _,_=>none
noncomputable def gf:Val->Val->Vm
 | (_,.int i),(_,.int j)=>if 0 < j/\j < 1073741824 then some (.fr,.int (i / j)) else none
 | _,_=>none
noncomputable def oMod:Val->Val->Vm
 | (_,.int i),(_,.int j)=>if 0 < j then some (.fr,.int (i % j)) else none
 | _,_=>none
noncomputable def ltx:Tx->Tx->Bool
 | [],[]=>false
 | [],_ :: _=>true
 | _ :: _,[]=>false
 | a :: as,b :: bs=>if a < b then true else if b < a then false else ltx as bs
@[simp] noncomputable def oLt:Val->Val->Vm
 | (_,.int i),(_,.int j)=>some (.fr,.bl (decide (i < j)))
 | (_,.str s),(_,.str t)=>some (.fr,.bl (ltx s t))
 | _,_=>none
@[simp] noncomputable def oLe:Val->Val->Vm
 | (_,.int i),(_,.int j)=>some (.fr,.bl (decide (i<=j)))
 | (_,.str s),(_,.str t)=>some (.fr,.bl (!ltx t s))
 | _,_=>none
@[simp] noncomputable def oGt (a b:Val):Vm:=oLt b a
@[simp] noncomputable def oGe (a b:Val):Vm:=oLe b a
@[simp] noncomputable def oEq (a b:Val):Vm:=if eqD 60 a.2/\eqD 60 b.2 then some (.fr,.bl (eqT a.2 b.2)) else none
@[simp] noncomputable def oNe (a b:Val):Vm:=if eqD 60 a.2/\eqD 60 b.2 then some (.fr,.bl (!eqT a.2 b.2)) else none
noncomputable def bN (l:List (T×T)) (k:T):Option T:=(l.find? fun p=>eqT p.1 k).map (·.2)
noncomputable def ixP (n:Nat) (i:Int):Option Nat:=if 0<=i then (if i < n then some i.toNat else none) else (if 0<=i+n then some (i+n).toNat else none)
@[simp] noncomputable def sub (m:Md) (t:T):Val:=up m t
@[simp] noncomputable def bq:Val->Val->Vm
 | (m,.lst l),(_,.int i)=>(ixP l.length i).bind fun k=>(l[k]?).map (sub m)
 | (m,.tup l),(_,.int i)=>(ixP l.length i).bind fun k=>(l[k]?).map (sub m)
 | (_,.scr l),(_,.int i)=>(ixP l.length i).bind fun k=>(l[k]?).map fun n=>(.fr,.int n)
 | (_,.str l),(_,.int i)=>(ixP l.length i).bind fun k=>(l[k]?).map fun n=>(.fr,.str [n])
 | _,_=>none
noncomputable def clip (n:Nat) (i:Int):Nat:=if i < 0 then (i+n).toNat else min i.toNat n
noncomputable def cut {α:Type} (l:List α) (a b:Option Int):List α :=
 let lo:=match a with | none=>0 | some i=>clip l.length i
 let hi:=match b with | none=>l.length | some i=>clip l.length i
 (l.drop lo).take (hi - lo)
@[simp] noncomputable def oSl (v:Val) (a b:Option Int):Vm:=match v with
 | (_,.str s)=>some (.fr,.str (cut s a b))
 | (m,.lst l)=>mkL m (cut l a b)
 | _=>none
@[simp] noncomputable def mV (c:Option Ex) (η:Env):Option (Option Int):=match c with
 | none=>some none
 | some e=>(e η).bind fun y=>(int? y.2).map some
@[simp] noncomputable def eSl (a:Ex) (lo hi:Option Ex) (η:Env):Vm:=(a η).bind fun x=>(mV lo η).bind fun l=>(mV hi η).bind fun h=>oSl x l h
@[simp] noncomputable def De:T->Option Nat
 | .lst l=>some l.length
 | .tup l=>some l.length
 | .str l=>some l.length
 | .scr l=>some l.length
 | .dct 0 l=>some l.length
 | _=>none
@[simp] noncomputable def fz:Vn->Vm
 | [x]=>(De x.2).map fun n=>(.fr,.int n)
 | _=>none
@[simp] noncomputable def mO:Vn->Vm
 | [(_,.int i),(_,.int j)]=>some (.fr,.int (if j < i then j else i))
 | _=>none
@[simp] noncomputable def FO:Vn->Vm
 | [(_,.int i),(_,.int j)]=>some (.fr,.int (if j > i then j else i))
 | _=>none
noncomputable def strs?:Vl->Option (List Tx)
 | []=>some []
 | .str i :: r=>(strs? r).map (i :: ·)
 | _=>none
@[simp] noncomputable def FI:T->Option (Vl)
 | .lst l=>some l
 | .tup l=>some l
 | .scr l=>some (l.map T.int)
 | .str l=>some (l.map fun c=>T.str [c])
 | .dct _ l=>some (l.map (·.1))
 | _=>none
@[simp] noncomputable def AK:Vn->Vm
 | [(m,.lst l)]=>mkL m l
 | [(m,.tup l)]=>mkL m l
 | _=>none
noncomputable def gy:Vn->Vm
 | [(m,.lst l)]=>if l.length<=gN then some (up m (.tup l)) else none
 | _=>none
inductive Ty where | int | str | bool | list | tuple | dict
@[simp] noncomputable def oR:Ty->T->Bool
 | .int,.int _=>true
 | .int,.bl _=>true
 | .bool,.bl _=>true
 | .str,.str _=>true
 | .list,.lst _=>true
 | .tuple,.tup _=>true
 | .dict,.dct _ _=>true
 | _,_=>false
@[simp] noncomputable def rV:T->Bool
 | .obj _ _=>false
 | .scr _=>false
 | .dct n _=>n != 2
 | _=>true
@[simp] noncomputable def eIs (t:Ty) (a:Ex) (η:Env):Vm:=(a η).bind fun x=>if rV x.2 then some (.fr,.bl (oR t x.2)) else none
@[simp] noncomputable def eM (f:Val->Vn->Vm) (o:Ex) (as:Exs) (η:Env):Vm:=(o η).bind fun x=>(as η).bind fun xs=>f x xs
noncomputable abbrev Fn:=Vl->Vm
@[simp] noncomputable def aL (g:Fn) (as:Exs) (η:Env):Vm:=(as η).bind fun xs=>(g (trees xs)).bind fun r=>match r with
 | (.fr,t)=>some (.fr,t)
 | (_,t)=>some ((Md.pu).join (bF xs),t)
noncomputable abbrev Its:=Env->Option (Md×Vl)
@[simp] noncomputable def Fm:Val->Option (Md×Vl)
 | (m,.lst l)=>some (m,l)
 | (m,.tup l)=>some (m,l)
 | (_,.str l)=>some (.fr,l.map fun c=>.str [c])
 | _=>none
@[simp] noncomputable def fS (a:Ex) (η:Env):Option (Md×Vl):=(a η).bind Fm
noncomputable def rng (lo:Int) (n:Nat):Vl:=(List.range n).map fun (k:Nat)=>T.int (lo+k)
noncomputable def cw (a:Ex) (η:Env):Option (Md×Vl):=(a η).bind fun x=>(int? x.2).bind fun j=>if -B62<=j/\j < B62 then some (.fr,rng 0 j.toNat) else none
noncomputable def dq (k:Nat):Vl->Vl
 | []=>[]
 | t :: r=>.tup [.int k,t] :: dq (k+1) r
@[simp] noncomputable def AZ:Val->Option (Md×Vl)
 | (m,.lst l)=>some (m,dq 0 l)
 | _=>none
@[simp] noncomputable def ir (a:Ex) (η:Env):Option (Md×Vl):=(a η).bind AZ
noncomputable abbrev Tg:=T->Env->Option Env
@[simp] noncomputable def bg (i:Nat) (t:T) (η:Env):Option Env:=if i < η.length then some (η.set i (some (.pu t))) else none
@[simp] noncomputable def q0:List Tg->Vl->Env->Option Env
 | [],[],η=>some η
 | g :: gs,t :: ts,η=>(g t η).bind fun η'=>q0 gs ts η'
 | _,_,_=>none
@[simp] noncomputable def jM (gs:List Tg) (t:T) (η:Env):Option Env:=match t with
 | .tup l=>q0 gs l η
 | _=>none
@[simp] noncomputable def okI (m:Md) (l:Vl):Bool:=match m with
 | .bo=>fA l
 | _=>true
noncomputable def i7 (tg:Tg) (cond:Option Ex) (elt:Ex) (η:Env):Vl->Option (Vn)
 | []=>some []
 | t :: r=>(tg t η).bind fun η'=>(match cond with | none=>some true | some c=>(c η').bind fun x=>tru x.2).bind fun b =>
  if b then (elt η').bind fun v=>(i7 tg cond elt η r).map (v :: ·) else i7 tg cond elt η r
noncomputable def dX (k:Nat) (tg:Tg) (it:Its) (cond:Option Ex) (elt:Ex) (η:Env):Vm:=(it η).bind fun (m,l)=>if okI m l then
 (i7 tg cond elt (List.replicate k none++η) l).bind fun vs=>mkL (bF vs) (trees vs) else none
@[simp] noncomputable def iF (η:Env):Option Out:=some (.nx η)
@[simp] noncomputable def au (a b:Sx) (η:Env):Option Out:=(a η).bind fun o=>match o with
 | .nx η'=>b η'
 | o=>some o
@[simp] noncomputable def hU (i:Nat) (e:Ex) (η:Env):Option Out:=(e η).bind fun v=>(cellOf v).bind fun c=>if i < η.length then some (.nx (η.set i (some c))) else none
@[simp] noncomputable def aN (i:Nat) (e:Ex) (η:Env):Option Out:=(e η).bind fun v=>match v.1 with
 | .bo=>none
 | _=>if i < η.length then some (.nx (η.set i (some (.pu v.2)))) else none
@[simp] noncomputable def fH (e:Ex) (η:Env):Option Out:=(e η).bind fun v=>some (.rt (match v.1 with | .bo=>.pu | m=>m,v.2) η)
@[simp] noncomputable def gG (i:Nat) (η:Env):Option Out:=match η[i]? with
 | some (some (.ow t))=>some (.rt (.fr,t) (η.set i none))
 | some (some (.pu t))=>some (.rt (up .pu t) η)
 | _=>none
@[simp] noncomputable def FP (η:Env):Option Out:=some (.rt (.fr,.non) η)
@[simp] noncomputable def FQ (η:Env):Option Out:=some (.bk η)
@[simp] noncomputable def FK (η:Env):Option Out:=some (.ct η)
@[simp] noncomputable def sIf (c:Ex) (a b:Sx) (η:Env):Option Out:=(c η).bind fun x=>(tru x.2).bind fun t=>if t then a η else b η
noncomputable def forL (tg:Tg) (body:Sx):Vl->Env->Option Out
 | [],η=>some (.nx η)
 | t :: r,η=>(tg t η).bind fun η1=>(body η1).bind fun o=>match o with
  | .nx η2=>forL tg body r η2
  | .ct η2=>forL tg body r η2
  | .bk η2=>some (.nx η2)
  | .rt v η2=>some (.rt v η2)
@[simp] noncomputable def okF:Md->Bool
 | .bo=>false
 | _=>true
@[simp] noncomputable def dG (tg:Tg) (it:Its) (body:Sx) (η:Env):Option Out:=(it η).bind fun (m,l)=>if okF m then forL tg body l η else none
noncomputable def ef (c:Ex) (body:Sx):Nat->Env->Option Out
 | 0,_=>none
 | n+1,η=>(c η).bind fun x=>(tru x.2).bind fun t=>if t then (body η).bind fun o=>match o with
  | .nx η2=>ef c body n η2
  | .ct η2=>ef c body n η2
  | .bk η2=>some (.nx η2)
  | .rt v η2=>some (.rt v η2)
  else some (.nx η)
noncomputable def EI:Nat:=1000000
noncomputable def qN (c:Ex) (body:Sx) (η:Env):Option Out:=ef c body EI η
@[simp] noncomputable def wY (i:Nat) (η:Env):Option Out:=match η[i]? with
 | some (some (.ow t))=>some (.nx (η.set i (some (.pu t))))
 | some (some (.pu _))=>some (.nx η)
 | _=>none
inductive Stp where | fld (k:Nat) | ix (e:Ex)
inductive Ky where | fld (k:Nat) | at (t:T)
@[simp] noncomputable def keys:List Stp->Env->Option (List Ky)
 | [],_=>some []
 | .fld k :: r,η=>(keys r η).map (.fld k :: ·)
 | .ix e :: r,η=>(e η).bind fun x=>(keys r η).map (.at x.2 :: ·)
noncomputable def FC (fs:List (Nat×T)) (k:Nat):Option T:=fs.lookup k
noncomputable def Fg (fs:List (Nat×T)) (k:Nat) (v:T):List (Nat×T):=if fs.any (fun p=>p.1 == k) then fs.map (fun p=>if p.1 == k then (p.1,v) else p) else fs++[(k,v)]
@[simp] noncomputable def zK {α:Type} (f:T->Option (T×α)):List Ky->T->Option (T×α)
 | [],t=>f t
 | .fld k :: r,.obj c fs=>(FC fs k).bind fun x=>(zK f r x).map fun (y,a)=>(.obj c (Fg fs k y),a)
 | .at (.int i) :: r,.lst l=>(ixP l.length i).bind fun j=>(l[j]?).bind fun x=>(zK f r x).map fun (y,a)=>(.lst (l.set j y),a)
 | .at k :: r,.dct d l=>(bN l k).bind fun x=>(zK f r x).map fun (y,a)=>(.dct d (dput l k y),a)
 | _,_=>none
noncomputable abbrev Xx:=Env->Option (Val×Env)
@[simp] noncomputable def xP (e:Ex) (η:Env):Option (Val×Env):=(e η).map fun v=>(v,η)
@[simp] noncomputable def j5 (i:Nat) (way:List Stp) (f:T->Vn->Option (T×Val)) (as:Exs) (η:Env):Option (Val×Env):=match η[i]? with
 | some (some (.ow t))=>(keys way η).bind fun ks=>(as η).bind fun xs=>(zK (fun x=>f x xs) ks t).map fun (t',v)=>(v,η.set i (some (.ow t')))
 | _=>none
@[simp] noncomputable def fit (v:Val):Option T:=match v.1 with
 | .fr=>some v.2
 | _=>none
noncomputable def aV:T->Vn->Option (T×Val)
 | .lst l,[v]=>(fit v).bind fun t=>if l.length < gN then some (.lst (l++[t]),(.fr,.non)) else none
 | _,_=>none
@[simp] noncomputable def sX (x:Xx) (η:Env):Option Out:=(x η).map fun r=>.nx r.2
@[simp] noncomputable def FL (i:Nat) (x:Xx) (η:Env):Option Out:=(x η).bind fun (v,η')=>(cellOf v).bind fun c=>if i < η'.length then some (.nx (η'.set i (some c))) else none
@[simp] noncomputable def FN (x:Xx) (η:Env):Option Out:=(x η).bind fun (v,η')=>some (.rt (match v.1 with | .bo=>.pu | m=>m,v.2) η')
@[simp] noncomputable def fn (np nn:Nat) (body:Sx):Fn:=fun ts=>if ts.length=np then
 (body (ts.map (fun t=>some (.pu t))++List.replicate (nn - np) none)).bind fun o=>match o with
  | .rt v _=>some v
  | .nx _=>some (.fr,.non)
  | _=>none else none
@[simp] theorem DU {m n:Md} {i j:Int}:bZ (m,.int i) (n,.int j)=some (.fr,.int (i+j)):=rfl
theorem iN {m n:Md} {s t:Tx} (h:s.length+t.length<=16777216):bZ (m,.str s) (n,.str t)=some (.fr,.str (s++t)):=Zs h
theorem ki {m n:Md} {i j:Int} (h:-18446744073709551616 < i/\i < 18446744073709551616):ft (m,.int i) (n,.int j)=some (.fr,.int (i * j)):=Zs (.inl h)
theorem fQ {m n:Md} {i j:Int} (h:0 < j/\j < 1073741824):gf (m,.int i) (n,.int j)=some (.fr,.int (i / j)):=Zs h
theorem bh {m n:Md} {i j:Int} (h:0 < j):oMod (m,.int i) (n,.int j)=some (.fr,.int (i % j)):=Zs h
theorem dB {l:Vl} {t:T} (h:l.length < 16777216):aV (.lst l) [(.fr,t)]=some (.lst (l++[t]),(.fr,.non)):=by
 simp only [aV,fit,Zn]
 exact Zs h
theorem kT {a:Ex} {η:Env} {m:Md} {j:Int} (e:a η=some (m,.int j)) (h:-4611686018427387904<=j/\j < 4611686018427387904):cw a η=some (.fr,rng 0 j.toNat):=by
 simp only [cw,e,Zn,int?]
 exact Zs h
theorem jd {m:Md} {l:Vl} (h:l.length<=16777216):mkL m l=some (if fA l then .fr else m,.lst l):=Zs h
theorem bB {tg:Tg} {body:Sx} {t:T} {r:Vl} {η η1 η2:Env} (h1:tg t η=some η1) (h2:body η1=some (.nx η2)):forL tg body (t :: r) η=forL tg body r η2:=by
 simp [forL,h1,h2]
theorem yF {tg:Tg} {body:Sx} {t:T} {r:Vl} {η η1 η2:Env} {v:Val} (h1:tg t η=some η1) (h2:body η1=some (.rt v η2)):forL tg body (t :: r) η=some (.rt v η2):=by
 simp [forL,h1,h2]
theorem strs_map {α:Type} (f:α->Tx):∀ l:List α,strs? (l.map fun x=>T.str (f x))=some (l.map f)
 | []=>rfl
 | a :: r=>by simp [strs?,strs_map f r]
theorem pW (n:Nat):rng 0 n=(List.range n).map fun (k:Nat)=>T.int (k:Int):=by
 unfold rng
 simp
theorem gJ {α:Type} (f:α->T) (h:∀ x,imm (f x)=true):∀ l:List α,fA (l.map f)=true
 | []=>rfl
 | a :: r=>by simp [h,gJ f h r]
theorem jZ {α:Type} {tg:Tg} {elt:Ex} {η:Env} (g:α->T) (f:α->Val):∀ l:List α,(∀ a∈l,∃ η',tg (g a) η=some η'/\elt η'=some (f a))->i7 tg none elt η (l.map g)=some (l.map f)
 | [],_=>rfl
 | a :: r,h=>by
  obtain ⟨η',h1,h2⟩:=h a Zw
  simp [i7,h1,h2,jZ g f r fun b hb=>h b (Zx _ hb)]
theorem jD {α:Type} {tg:Tg} {c elt:Ex} {η:Env} (g:α->T) (p:α->Bool) (f:α->Val):∀ l:List α,(∀ a∈l,∃ η' x,tg (g a) η=some η'/\c η'=some x/\tru x.2=some (p a)/\(p a=true->elt η'=some (f a))) →
  i7 tg (some c) elt η (l.map g)=some ((l.filter p).map f)
 | [],_=>rfl
 | a :: r,h=>by
  obtain ⟨η',x,h1,h2,h3,h4⟩:=h a Zw
  have ih:=jD (c:=c) g p f r fun b hb=>h b (Zx _ hb)
  cases e:p a with
  | true=>simp [-tru,i7,h1,h2,h3,e,h4 e,ih]
  | false=>simp [-tru,i7,h1,h2,h3,e,ih]
theorem lC {α:Type} (f:α->T):∀ l:List α,bF (l.map fun a=>(Md.fr,f a))=.fr
 | []=>rfl
 | a :: r=>by simp [lC f r]
theorem j4 {α:Type} (f:α->Val) (l:List α):trees (l.map f)=l.map fun a=>(f a).2:=by simp
theorem nq {α:Type} {k:Nat} {tg:Tg} {it:Its} {elt:Ex} {η:Env} {m:Md} (g:α->T) (f:α->T) (l:List α) (hi:it η=some (m,l.map g)) (hk:okI m (l.map g)=true) (hl:l.length<=16777216)
  (h:∀ a∈l,∃ η',tg (g a) (List.replicate k none++η)=some η'/\elt η'=some (.fr,f a)):dX k tg it none elt η=some (.fr,.lst (l.map f)):=by
 simp only [dX,hi,Zn]
 rw [Zs hk,jZ g (fun a=>(Md.fr,f a)) l h]
 simp only [Zn,lC,j4]
 rw [jd (by rw [Zv];exact hl)]
 simp
theorem nK {α:Type} {k:Nat} {tg:Tg} {it:Its} {c elt:Ex} {η:Env} {m:Md} (g:α->T) (p:α->Bool) (f:α->T) (l:List α) (hi:it η=some (m,l.map g)) (hk:okI m (l.map g)=true) (hl:l.length<=16777216)
  (h:∀ a∈l,∃ η' x,tg (g a) (List.replicate k none++η)=some η'/\c η'=some x/\tru x.2=some (p a)/\(p a=true->elt η'=some (.fr,f a))):dX k tg it (some c) elt η=some (.fr,.lst ((l.filter p).map f)):=by
 simp only [dX,hi,Zn]
 rw [Zs hk,jD g p (fun a=>(Md.fr,f a)) l h]
 simp only [Zn,lC,j4]
 rw [jd (by rw [Zv];exact ZW (List.length_filter_le _ _) hl)]
 simp
theorem lZ {α:Type} {m n:Md} (f:α->T) (l:List α) (i:Int) (d:α) (h0:0<=i) (h1:i < l.length) (hi:imm (f (l.getD i.toNat d))=true):bq (m,.lst (l.map f)) (n,.int i)=some (.fr,f (l.getD i.toNat d)):=by
 have b2:i.toNat < l.length:=by lia
 simp only [Z3,Za b2,XE] at hi ⊢
 simp [ixP,h0,h1,b2,hi]
theorem ql {l:Vn} (h:l.length<=16777216):qz l=some (up (bF l) (.tup (trees l))):=Zs h
end VS
end
section
namespace L2
open PySem PySem.Spec PyProof.Rows
noncomputable abbrev Key:=Sum Int Str
noncomputable def mW:Key->Value->Bool
 | .inl k,v=>Value.isInt k v
 | .inr x,v=>Value.isStrOf x v
noncomputable def Fz (w:World):Key->Int
 | .inl k=>hashInt k
 | .inr x=>hashStr w x
theorem bO:∀ {k:Key} {v:Value},mW k v=true->(∃ i t,k=Sum.inl i/\v=Value.int i t)\/(∃ x t,k=Sum.inr x/\v=Value.str x t)
 | .inl i,v,h=>by
  obtain ⟨t,e⟩:=Value.isInt_shape (k:=i) (v:=v) h
  exact .inl ⟨i,t,rfl,e⟩
 | .inr x,v,h=>by
  obtain ⟨t,e⟩:=Value.isStrOf_shape (x:=x) (v:=v) h
  exact .inr ⟨x,t,rfl,e⟩
theorem ui (i:Int) (t:Tok):mW (.inl i) (.int i t)=true:=by simp [mW,Value.isInt]
theorem uF (x:Str) (t:Tok):mW (.inr x) (.str x t)=true:=by simp [mW,Value.isStrOf]
theorem CS (a b:Int):decide ((Sum.inl a:Key)=Sum.inl b)=(a == b):=by
 by_cases e:a=b
 ·subst e;simp
 ·have h:¬ (Sum.inl a:Key)=Sum.inl b:=fun q=>e (Sum.inl.inj q)
  rw [decide_eq_false h]
  exact (beq_eq_false_iff_ne.mpr e).symm
theorem BS (a b:Str):decide ((Sum.inr a:Key)=Sum.inr b)=decide (a=b):=by
 by_cases e:a=b
 ·subst e;simp
 ·have h:¬ (Sum.inr a:Key)=Sum.inr b:=fun q=>e (Sum.inr.inj q)
  rw [decide_eq_false h,decide_eq_false e]
theorem Bt (a:Int) (b:Str):decide ((Sum.inl a:Key)=Sum.inr b)=false:=decide_eq_false (fun q=>nomatch q)
theorem BH (a:Str) (b:Int):decide ((Sum.inr a:Key)=Sum.inl b)=false:=decide_eq_false (fun q=>nomatch q)
noncomputable def aU (prog:Program) (w:World):PySem.KeyKind prog w Key where
 is:=mW
 hash:=Fz w
 inj:=fun v a b ha hb=>by
  rcases bO ha with ⟨i,t,rfl,rfl⟩ | ⟨x,t,rfl,rfl⟩
  ·rcases bO hb with ⟨j,u,rfl,e⟩ | ⟨y,u,rfl,e⟩
   ·injection e with e1 _;rw [e1]
   ·exact nomatch e
  ·rcases bO hb with ⟨j,u,rfl,e⟩ | ⟨y,u,rfl,e⟩
   ·exact nomatch e
   ·injection e with e1 _;rw [e1]
 byValue:=fun k v h=>by
  rcases bO h with ⟨i,t,rfl,rfl⟩ | ⟨x,t,rfl,rfl⟩ <;> rfl
 pyHash:=fun hv h=>by
  rcases bO hv with ⟨i,t,rfl,rfl⟩ | ⟨x,t,rfl,rfl⟩
  ·exact wpAny_pyHash_int h
  ·exact wpAny_pyHash_str h
 eqBool:=fun hu hv h=>by
  rcases bO hu with ⟨i,t,rfl,rfl⟩ | ⟨x,t,rfl,rfl⟩
  ·rcases bO hv with ⟨j,u,rfl,rfl⟩ | ⟨y,u,rfl,rfl⟩
   ·rw [CS] at h;exact wpAny_eqBool_int h
   ·rw [Bt] at h;exact SeqAt.EqAt.int_str i t y u _ _ _ _ h
  ·rcases bO hv with ⟨j,u,rfl,rfl⟩ | ⟨y,u,rfl,rfl⟩
   ·rw [BH] at h;exact SeqAt.EqAt.str_int x t j u _ _ _ _ h
   ·rw [BS] at h;exact wpAny_eqBool_str h
 «strs» := fun k x t v h=>by
  rcases bO h with ⟨i,u,rfl,e⟩ | ⟨y,u,rfl,e⟩
  ·exact nomatch e
  ·injection e with e1 _
   subst e1
   cases v <;> rfl
theorem pM (prog:Program) (w:World) (i:Int) (t:Tok):(aU prog w).is (.inl i) (.int i t)=true:=ui i t
theorem qi (prog:Program) (w:World) (x:Str) (t:Tok):(aU prog w).is (.inr x) (.str x t)=true:=uF x t
inductive V where
 | non | bl (b:Bool) | int (i:Int) | str (x:Str) | byt (b:Array UInt8) | flt (b:UInt64) | ref (a:Addr) | ty (n:String)
 deriving DecidableEq
noncomputable def RelV:V->Value->Prop
 | .non,u=>u=Value.none
 | .bl b,u=>u=Value.bool b
 | .int i,u=>∃ t,u=Value.int i t
 | .str x,u=>∃ t,u=Value.str x t
 | .byt b,u=>∃ t,u=Value.bytes b t
 | .flt b,u=>∃ t,u=Value.float b t
 | .ref a,u=>u=Value.ref a
 | .ty n,u=>u=Value.type n
noncomputable abbrev aQ:List V->Xb->Prop:=Paired RelV
theorem aQ.length {xs:List V} {us:Xb} (r:aQ xs us):xs.length=us.length:=WY r
theorem aQ.get:∀ {xs:List V} {us:Xb} {i:Nat} {x:V},aQ xs us->xs[i]?=some x->∃ u,us[i]?=some u/\RelV x u
 | _,_,_,_,.nil,e=>by simp at e
 | _,_,0,_,.cons r _,e=>by simp at e;subst e;exact ⟨_,rfl,r⟩
 | _,_,i+1,x,.cons _ t,e=>by
  obtain ⟨u,h1,h2⟩:=aQ.get (i:=i) (x:=x) t (by simpa using e)
  exact ⟨u,by simpa using h1,h2⟩
theorem aQ.set {x:V} {u:Value} (r:RelV x u):∀ {xs:List V} {us:Xb} (i:Nat),aQ xs us->aQ (xs.set i x) (us.set i u)
 | _,_,_,.nil=>.nil
 | _,_,0,.cons _ t=>.cons r t
 | _,_,i+1,.cons q t=>.cons q (aQ.set r i t)
theorem aQ.append:∀ {xs ys:List V} {us ws:Xb},aQ xs us->aQ ys ws->aQ (xs++ys) (us++ws)
 | _,_,_,_,.nil,s=>s
 | _,_,_,_,.cons r t,s=>.cons r (aQ.append t s)
theorem aQ.take:∀ {xs:List V} {us:Xb} (n:Nat),aQ xs us->aQ (xs.take n) (us.take n)
 | _,_,0,_=>.nil
 | _,_,_+1,.nil=>.nil
 | _,_,n+1,.cons r t=>.cons r (aQ.take n t)
theorem aQ.drop:∀ {xs:List V} {us:Xb} (n:Nat),aQ xs us->aQ (xs.drop n) (us.drop n)
 | _,_,0,r=>r
 | _,_,_+1,.nil=>.nil
 | _,_,n+1,.cons _ t=>aQ.drop n t
noncomputable def j9:Option V->Vy->Prop
 | some v,some u=>RelV v u
 | none,none=>True
 | _,_=>False
noncomputable def KV {κ:Type}:List (κ×V)->List (κ×Value)->Prop:=Paired fun (p:κ×V) (q:κ×Value)=>p.1=q.1/\RelV p.2 q.2
noncomputable def kV:Key->V
 | .inl i=>.int i
 | .inr x=>.str x
inductive HO where
 | lst (xs:List V)
 | tup (xs:List V)
 | dK (kvs:List (Key×V)) | dT (kvs:List (List Key×V))
 | set (S:Int->Bool) (n:Nat)
 | ins (C dx:Addr) (fs:List (Str×V))
 | own (x:Addr)
 | xd (fs:List (Str×V))
 | met (f x:Addr)
 | rng (lo hi:Int)
 | frz (o:Obj) (u:HO)
 | tbl (ps:Array Value)
 | ext (φ:Heap->Prop)
noncomputable abbrev Hp:=Addr->Option HO
noncomputable def upd (H:Hp) (a:Addr) (o:HO):Hp:=fun b=>if b=a then some o else H b
theorem aI {H:Hp} {a:Addr} {o:HO}:upd H a o a=some o:=by unfold upd;rw [Zs rfl]
theorem aA {H:Hp} {a b:Addr} {o:HO} (h:b ≠ a):upd H a o b=H b:=by unfold upd;rw [Zp h]
theorem zT {H:Hp} {a:Addr} {o u:HO}:upd (upd H a o) a u=upd H a u:=by
 funext b;unfold upd;split <;> rfl
theorem EF {H:Hp} {a b:Addr} {o u:HO} (h:H a=some o) (h':H b=some u) (d:o ≠ u):a ≠ b:=by
 intro e;subst e;rw [h] at h';exact d (ZI h')
theorem bJ {H:Hp} {a b:Addr} {o:HO} (h:H a=some o) (h':H b=none):a ≠ b:=by
 intro e;subst e;rw [h] at h';cases h'
noncomputable def NoD (h:Heap) (a:Addr):Prop:=∀ o,h.get? a=some o->o.dict=none
theorem NoD.new (h:Heap) (its:Array Value):NoD (h.push { cls:=.type "tuple",data:=.seq its }) h.objs.size:=fun o e=>by
 rw [ZV _ rfl] at e
 cases e
 rfl
theorem NoD.of {h:Heap} {a:Addr} {o:Obj} (e:h.get? a=some o) (d:o.dict=none):NoD h a:=fun o' e'=>by
 rw [e] at e'
 cases e'
 exact d
section
variable (P:Program) (w:World)
noncomputable def bj (H:Hp) (h:Heap) (a:Addr):HO->Prop
 | .lst xs=>xs.length<=sizeLine/\∃ (its:Xb) (n:Nat),aQ xs its/\h.get? a=some { cls:=.type "list",data:=.seq its.toArray n }
 | .tup xs=>xs.length<=sizeLine/\∃ its:Xb,aQ xs its/\NoD h a/\IsTup h a its.toArray
 | .dK kvs=>kvs.length<=sizeLine/\(a == sysModules)=false/\∃ vs,KV kvs vs/\h.DictOf (aU P w) a vs
 | .dT kvs=>kvs.length<=sizeLine/\(a == sysModules)=false/\∃ xs:List (List Key×Addr×Value),
   Paired (fun (p:List Key×V) (q:List Key×Addr×Value)=>p.1=q.1/\H q.2.1=some (.tup (p.1.map kV))/\RelV p.2 q.2.2) kvs xs ∧
   ∃ o es ep,h.get? a=some o/\o.ExactDict/\o.data=.dict es ep/\es.toList=xs.map (entryOfKey (tupleKind (aU P w)))/\(xs.map (·.1)).Nodup
 | .set S n=>h.SetOf (intKind P w) a S n
 | .ins C dx fs=>H dx=some (.own a)/\fs.length<=1000/\dx ≠ a/\h.get? a=some (PySem.W.instObj C dx) ∧
   ∃ mA,h.Ns1 dx mA/\(∀ f,j9 (fs.lookup f) (mA f))/\PySem.Within mA (fs.map (·.1))
 | .own _=>∃ o,h.get? a=some o
 | .xd fs=>∃ mA,h.Ns1 a mA/\∀ f,j9 (fs.lookup f) (mA f)
 | .rng lo hi=>∃ t u v,h.get? a=some { cls:=.type "range",data:=.fields #[.int lo t,.int hi u,.int 1 v] }
 | .frz o u=>h.get? a=some o/\bj H h a u
 | .tbl ps=>h.get? a=some { cls:=.none,data:=.fields ps }
 | .met f x=>h.get? a=some (PySem.W.methodObj (.ref f) (.ref x))
 | .ext φ=>φ h/\(∃ o,h.get? a=some o)/\∀ h1 h2:Heap,φ h1->(∀ o,h1.get? a=some o->h2.get? a=some o)->φ h2
noncomputable def HOk (H:Hp) (h:Heap):Prop:=∀ a o,H a=some o->bj P w H h a o
end
section
variable {P:Program} {w:World} {H H':Hp} {h h':Heap} {a:Addr} {o:HO}
theorem bj.lt (x:bj P w H h a o):a < h.objs.size:=by
 cases o with
 | lst xs=>obtain ⟨_,_,_,_,e⟩:=x;exact ZU e
 | tup xs=>obtain ⟨_,_,_,_,p⟩:=x;exact p.lt
 | dK kvs=>obtain ⟨_,_,_,_,o,_,_,e,_⟩:=x;exact ZU e
 | dT kvs=>obtain ⟨_,_,_,_,o,_,_,e,_⟩:=x;exact ZU e
 | set S n=>obtain ⟨o,_,_,_,e,_⟩:=x;exact ZU e
 | ins C dx fs=>obtain ⟨_,_,_,e,_⟩:=x;exact ZU e
 | own y=>obtain ⟨_,e⟩:=x;exact ZU e
 | xd fs=>obtain ⟨_,⟨_,_,_,e,_⟩,_⟩:=x;exact ZU e
 | rng lo hi=>obtain ⟨_,_,_,e⟩:=x;exact ZU e
 | frz ob u=>obtain ⟨e,_⟩:=x;exact ZU e
 | tbl ps=>exact ZU (show h.get? a=some _ from x)
 | met f y=>exact ZU (show h.get? a=some _ from x)
 | ext φ=>obtain ⟨_,⟨_,e⟩,_⟩:=x;exact ZU e
theorem Paired.mapP {α β:Type} {F G:α->β->Prop}:∀ {l₁:List α} {l₂:List β},Paired F l₁ l₂->(∀ a b,F a b->G a b)->Paired G l₁ l₂
 | _,_,.nil,_=>.nil
 | _,_,.cons r t,f=>.cons (f _ _ r) (Paired.mapP t f)
theorem bj.stay (x:bj P w H h a o) (k:∀ b u,(b=a\/H b=some (.own a))->h.get? b=some u->h'.get? b=some u)
  (ho:∀ b,H b=some (.own a)->H' b=some (.own a)) (ht:∀ b xs,H b=some (.tup xs)->H' b=some (.tup xs)):bj P w H' h' a o:=by
 induction o with
 | lst xs=>obtain ⟨z,its,n,r,e⟩:=x;exact ⟨z,its,n,r,k _ _ (.inl rfl) e⟩
 | tup xs=>obtain ⟨z,its,r,nd,ob,e,c⟩:=x;exact ⟨z,its,r,NoD.of (k _ _ (.inl rfl) e) (nd _ e),ob,k _ _ (.inl rfl) e,c⟩
 | dK kvs=>obtain ⟨z,y,vs,r,ob,es,ep,e,c⟩:=x;exact ⟨z,y,vs,r,ob,es,ep,k _ _ (.inl rfl) e,c⟩
 | dT kvs =>
  obtain ⟨z,y,xs,r,ob,es,ep,e,c⟩:=x
  exact ⟨z,y,xs,Paired.mapP r fun p q z=>⟨z.1,ht _ _ z.2.1,z.2.2⟩,ob,es,ep,k _ _ (.inl rfl) e,c⟩
 | set S n=>obtain ⟨ob,es,ep,t,e,c⟩:=x;exact ⟨ob,es,ep,t,k _ _ (.inl rfl) e,c⟩
 | ins C dx fs =>
  obtain ⟨d,z,ne,e,mA,⟨od,es,ep,e2,c⟩,r⟩:=x
  exact ⟨ho _ d,z,ne,k _ _ (.inl rfl) e,mA,⟨od,es,ep,k _ _ (.inr d) e2,c⟩,r⟩
 | own y=>obtain ⟨ob,e⟩:=x;exact ⟨ob,k _ _ (.inl rfl) e⟩
 | xd fs=>obtain ⟨mA,⟨od,es,ep,e,c⟩,r⟩:=x;exact ⟨mA,⟨od,es,ep,k _ _ (.inl rfl) e,c⟩,r⟩
 | rng lo hi=>obtain ⟨t,u,v,e⟩:=x;exact ⟨t,u,v,k _ _ (.inl rfl) e⟩
 | frz ob u ih=>obtain ⟨e,q⟩:=x;exact ⟨k _ _ (.inl rfl) e,ih q⟩
 | tbl ps =>
  have e:h.get? a=some { cls:=.none,data:=.fields ps }:=x
  show h'.get? a=some { cls:=.none,data:=.fields ps }
  exact k a _ (.inl rfl) e
 | met f y =>
  have e:h.get? a=some (PySem.W.methodObj (.ref f) (.ref y)):=x
  show h'.get? a=some (PySem.W.methodObj (.ref f) (.ref y))
  exact k a _ (.inl rfl) e
 | ext φ=>obtain ⟨p,⟨o,e⟩,st⟩:=x;exact ⟨st _ _ p fun o q=>k _ _ (.inl rfl) q,⟨o,k _ _ (.inl rfl) e⟩,st⟩
theorem HOk.lt (x:HOk P w H h) (e:H a=some o):a < h.objs.size:=(x a o e).lt
theorem HOk.fresh (x:HOk P w H h) (e:h.objs.size<=a):H a=none:=by
 cases q:H a with
 | none=>rfl
 | some u=>exact absurd (ZA (x.lt q) e) (Xp _)
theorem HOk.kept (x:HOk P w H h) (k:∀ b u,h.get? b=some u->h'.get? b=some u):HOk P w H h':=fun a o e =>
 (x a o e).stay (fun b u _ q=>k b u q) (fun _ q=>q) fun _ _ q=>q
theorem HOk.laid (x:HOk P w H h) (k:∀ b u,h.get? b=some u->h'.get? b=some u) (hp:h.objs.size<=a) (new:bj P w (upd H a o) h' a o):HOk P w (upd H a o) h':=fun b u e=>by
 have hn:=x.fresh hp
 by_cases hb:b=a
 ·subst hb;rw [aI] at e;cases e;exact new
 ·rw [aA hb] at e
  exact (x b u e).stay (fun c v _ q=>k c v q) (fun c q=>by rw [aA (bJ q hn)];exact q) fun c xs q=>by rw [aA (bJ q hn)];exact q
end
noncomputable def Rd (H:Hp) (a:Addr) (u:HO):Prop:=H a=some u\/∃ o,H a=some (.frz o u)
theorem Rd.ok {P:Program} {w:World} {H:Hp} {h:Heap} {a:Addr} {u:HO} (r:Rd H a u) (x:HOk P w H h):bj P w H h a u:=by
 rcases r with r | ⟨o,r⟩
 ·exact x a u r
 ·obtain ⟨_,q⟩:=x a _ r
  exact q
noncomputable def Mut:Option HO->Prop
 | some (.lst _)=>True
 | some (.dK _)=>True
 | some (.dT _)=>True
 | some (.set _ _)=>True
 | some (.ins _ _ _)=>True
 | some (.ext _)=>True
 | _=>False
section
variable {P:Program} {w:World} {H:Hp} {h h':Heap} {x e:Addr} {o':HO}
theorem HOk.write (ok:HOk P w H h) (mu:Mut (H x)) (he:e=x\/H e=some (.own x)) (k:∀ b u,b ≠ e->h.get? b=some u->h'.get? b=some u) (heo:∃ u,h'.get? e=some u)
  (new:bj P w (upd H x o') h' x o'):HOk P w (upd H x o') h':=fun b u q=>by
 have nown:∀ c y,H c=some (.own y)->c ≠ x:=fun c y r z=>by subst z;rw [r] at mu;exact mu
 have ntup:∀ c xs,H c=some (.tup xs)->c ≠ x:=fun c xs r z=>by subst z;rw [r] at mu;exact mu
 by_cases hb:b=x
 ·subst hb;rw [aI] at q;cases q;exact new
 ·rw [aA hb] at q
  by_cases hbe:b=e
  ·have q':H b=some (.own x):=by
    rcases he with z | z
    ·exact absurd (hbe.trans z) hb
    ·rw [hbe];exact z
   rw [q] at q';cases q'
   obtain ⟨v,hv⟩:=heo
   exact ⟨v,by rw [hbe];exact hv⟩
  ·refine (ok b u q).stay (fun c v hc r=>k c v ?_ r) (fun c r=>by rw [aA (nown c b r)];exact r) fun c xs r=>by rw [aA (ntup c xs r)];exact r
   rcases hc with rfl | hc
   ·exact hbe
   ·rintro rfl
    rcases he with z | z
    ·exact nown c b hc z
    ·rw [hc] at z;cases z;exact hb rfl
end
structure Un (fs ex:Xf) (H H':Hp) (h h':Heap):Prop where
 keep:∀ b o,h.get? b=some o->H b=none->b ∉ fs->b ∉ ex->h'.get? b=some o
 slot:∀ b o,h.get? b=some o->H b=none->b∈fs->b ∉ ex->∃ sl,h'.get? b=some { o with slots:=sl }
 free:∀ b o,h.get? b=some o->H b=none->b ∉ ex->H' b=none
 there:∀ b o,h.get? b=some o->b ∉ ex->∃ o',h'.get? b=some o'
 tups:∀ b xs,H b=some (.tup xs)->H' b=some (.tup xs)
 frzs:∀ b o u,H b=some (.frz o u)->H' b=some (.frz o u)
 tbls:∀ b ps,H b=some (.tbl ps)->∃ more,H' b=some (.tbl (ps++more))
section
variable {fs fs' ex ex':Xf} {H H1 H2:Hp} {h h1 h2 h':Heap} {a x e:Addr} {o:HO}
theorem Un.any (u:Un fs ex H H1 h h1) {b:Addr} {ob:Obj} (q:h.get? b=some ob) (n:H b=none) (hx:b ∉ ex):∃ sl,h1.get? b=some { ob with slots:=sl }:=by
 by_cases hb:b∈fs
 ·exact u.slot b ob q n hb hx
 ·exact ⟨ob.slots,u.keep b ob q n hb hx⟩
theorem Un.kept (k:∀ b u,h.get? b=some u->h'.get? b=some u):Un fs ex H H h h' :=
 ⟨fun b ob q _ _ _=>k b ob q,fun b ob q _ _ _=>⟨ob.slots,k b ob q⟩,fun _ _ _ n _=>n,fun b ob q _=>⟨ob,k b ob q⟩,fun _ _ q=>q,fun _ _ _ q=>q,fun _ ps q=>⟨#[],by rw [q];simp⟩⟩
theorem Un.refl:Un fs ex H H h h:=Un.kept fun _ _ q=>q
theorem Un.laid (k:∀ b u,h.get? b=some u->h'.get? b=some u) (hp:h.objs.size<=a) (hn:H a=none):Un fs ex H (upd H a o) h h' where
 keep:=fun b u q _ _ _=>k b u q
 slot:=fun b u q _ _ _=>⟨u.slots,k b u q⟩
 free:=fun b u q n _=>by rw [aA (ZL (ZA (ZU q) hp))];exact n
 there:=fun b u q _=>⟨u,k b u q⟩
 tups:=fun b xs q=>by rw [aA (bJ q hn)];exact q
 frzs:=fun b u xs q=>by rw [aA (bJ q hn)];exact q
 tbls:=fun b ps q=>⟨#[],by rw [aA (bJ q hn),q];simp⟩
theorem Un.write (mu:Mut (H x)) (he:e=x\/H e=some (.own x)) (k:∀ b u,b ≠ e->h.get? b=some u->h'.get? b=some u) (heo:∃ u,h'.get? e=some u):Un fs ex H (upd H x o) h h':=by
 have hx:∀ b,H b=none->b ≠ x:=fun b n z=>by subst z;rw [n] at mu;exact mu
 have hb:∀ b,H b=none->b ≠ e:=fun b n z=>by
  subst z
  rcases he with r | r
  ·exact hx b n r
  ·rw [n] at r;cases r
 have hm:∀ b u,H b=some u->¬ Mut (some u)->b ≠ x:=fun b u q nm z=>by subst z;rw [q] at mu;exact nm mu
 refine ⟨fun b u q n _ _=>k b u (hb b n) q,fun b u q n _ _=>⟨u.slots,k b u (hb b n) q⟩,fun b u q n _=>by rw [aA (hx b n)];exact n,fun b u q _=>?_,
  fun b xs q=>by rw [aA (hm b _ q fun z=>z)];exact q,fun b u xs q=>by rw [aA (hm b _ q fun z=>z)];exact q,fun b ps q=>⟨#[],by rw [aA (hm b _ q fun z=>z),q];simp⟩⟩
 by_cases hbe:b=e
 ·subst hbe;exact heo
 ·exact ⟨u,k b u hbe q⟩
end
noncomputable def trk (h:Heap) (H:Hp):Xf:=(List.range h.objs.size).filter fun a=>(H a).isSome
noncomputable def oD (h:Heap) (H:Hp):Heap:=PySem.W.hideAll h (trk h H)
theorem uq (h:Heap) (H:Hp):(oD h H).objs.size=h.objs.size:=PySem.W.hideAll_size _ _
theorem xp {h:Heap} {H:Hp} {b:Addr} {o:Obj} (e:h.get? b=some o) (n:H b=none):(oD h H).get? b=some o :=
 PySem.W.hideAll_get _ e fun hm=>by
  have q:(H b).isSome=true:=(X6.mp hm).2
  rw [n] at q;simp at q
theorem AE {h:Heap} {H:Hp} {b:Addr} {o:Obj} (e:(oD h H).get? b=some o):h.get? b=some o/\H b=none:=by
 have e':h.get? b=some o:=PySem.W.of_hideAll (trk h H) e
 refine ⟨e',?_⟩
 cases q:H b with
 | none=>rfl
 | some x =>
  have hm:b∈trk h H:=X6.mpr ⟨Z6.mpr (ZU e'),by simp [q]⟩
  have z:(oD h H).get? b=none:=PySem.W.hideAll_none (trk h H) hm
  rw [z] at e;cases e
noncomputable def Ao (g h:Heap) (L:Addr):Yp:=(List.range h.objs.size).filterMap fun a=>if a=L\/(g.get? a).isSome=true then none else (h.get? a).map fun o=>(a,o)
noncomputable def rest (g h:Heap) (L d:Addr):Yp:=(Ao g h L).filter fun p=>decide (p.1 ≠ d)
structure Mod (K:Xs) (mg:Xg) (base:Heap):Prop where
 kin:K.In base
 glob:base.Ns mainGlobals mg
 blt:∃ mb,base.Ns builtinsNs mb/\∀ x:Str,x ≠ "__name__" → mb x=bootBuiltins x
 nolimit:base.NoLimit
structure Cx where
 prog:Program
 w:World
 K:Xs
 mg:Xg
 base:Heap
 A:Around
 N:List Str
 s₀:Shared
 H₀:Hp
 env:Env
 outer:List Env
 stack:List Env
 ex:Xf
 fn:Str->Bool
 calm:Bool
 pn:Yp
 xe:Yy
noncomputable def frs (l:List Env):Xf:=l.filterMap (·.frame)
noncomputable abbrev Cx.fs (X:Cx):Xf:=frs X.outer
noncomputable def Vis (sc:Scope) (x:Str):Prop:=sc.names.lookup x=some .local\/sc.names.lookup x=some .cell\/sc.names.lookup x=some .free
noncomputable def Loc (sc:Scope) (x:Str):Prop:=sc.names.lookup x=some .local\/sc.names.lookup x=some .cell
noncomputable def Look (env:Env) (h:Heap) (m:Xg) (x:Str) (u:Value):Prop :=
 (env.kindOf x=some .local/\m x=some u)\/((env.kindOf x=some .cell\/env.kindOf x=some .free)/\∃ c,env.cells.lookup x=some c/\h.IsCell c (some u))
structure Cx.Ok (X:Cx):Prop where
 mod:Mod X.K X.mg X.base
 kind:X.env.scope.kind=.function
 glob:X.env.globals=mainGlobals
 blt:X.env.builtins=builtinsNs
 above:X.s₀.heap.objs.size<=X.env.locals
 inj:∀ x y c,X.env.cells.lookup x=some c->X.env.cells.lookup y=some c->x=y
 has:∀ x,(X.env.kindOf x=some .cell\/X.env.kindOf x=some .free)->∃ c,X.env.cells.lookup x=some c
 cab:∀ x c,X.fn x=true->X.env.cells.lookup x=some c->X.s₀.heap.objs.size<=c
 hd:X.calm=true->X.A.handled=none
 frames:X.A.frames=some X.stack
 stk:X.stack=X.outer\/(X.stack=X.env :: X.outer/\X.env.frame=some X.env.locals)
 exf:∀ b∈X.ex,b ≠ X.env.locals/\∀ x c,X.env.cells.lookup x=some c->c ≠ b
 bs:∀ b o,X.base.get? b=some o->X.s₀.heap.get? b=some o/\X.H₀ b=none
 bsz:X.base.objs.size<=X.s₀.heap.objs.size
 noex:∀ b o,X.base.get? b=some o->b ∉ X.ex
 exfs:∀ b∈X.ex,b ∉ X.fs
 funs:X.s₀.heap.FunFrames X.base X.outer
 frf:∀ b∈X.fs,X.H₀ b=none
structure Inv (X:Cx) (pins:Yp) (σ:List (Option V)) (H:Hp) (s:Shared):Prop where
 ok:X.Ok
 os:s.os=X.s₀.os
 bare:AllBare s.gens
 base:Un X.fs X.ex X.H₀ H X.s₀.heap s.heap
 loc:∃ m,s.heap.Ns X.env.locals m/\∀ (i:Nat) (x:Str) (v:V),X.N[i]?=some x->σ[i]?=some (some v)->Vis X.env.scope x->∃ u,RelV v u/\Look X.env s.heap m x u
 cell:∀ x c,X.env.cells.lookup x=some c->∃ v,s.heap.IsCell c v
 free:H X.env.locals=none
 freeC:∀ x c,X.env.cells.lookup x=some c->H c=none
 pin:∀ p∈X.pn++pins,s.heap.get? p.1=some p.2/\H p.1=none/\p.1 ≠ X.env.locals/\p.1 ∉ X.fs/\∀ v,p.2.data ≠ .cell v
 hok:HOk X.prog X.w H s.heap
 len:σ.length=X.N.length
section
variable {X:Cx} {pins:Yp} {σ:List (Option V)} {H H':Hp} {s:Shared} {h':Heap}
theorem Cx.Ok.nofr (ok:X.Ok) {b:Addr} {o:Obj} (e:X.base.get? b=some o):b ∉ X.fs:=fun hb=>by
 have:=(ok.funs.mem hb).1
 rw [e] at this;cases this
theorem Inv.bs (I:Inv X pins σ H s):∀ b o,X.base.get? b=some o->s.heap.get? b=some o/\H b=none:=fun b o e =>
 ⟨I.base.keep b o (I.ok.bs b o e).1 (I.ok.bs b o e).2 (I.ok.nofr e) (I.ok.noex b o e),I.base.free b o (I.ok.bs b o e).1 (I.ok.bs b o e).2 (I.ok.noex b o e)⟩
theorem Inv.bk (I:Inv X pins σ H s):∀ b o,X.base.get? b=some o->s.heap.get? b=some o:=fun b o e=>(I.bs b o e).1
theorem Inv.mod (I:Inv X pins σ H s):Mod X.K X.mg X.base:=I.ok.mod
theorem Inv.kIn (I:Inv X pins σ H s):X.K.In s.heap:=I.ok.mod.kin.keeps I.bk
theorem Inv.lt (I:Inv X pins σ H s):X.env.locals < s.heap.objs.size:=let ⟨_,hn,_⟩:=I.loc;hn.lt
theorem Inv.sz (I:Inv X pins σ H s):X.s₀.heap.objs.size<=s.heap.objs.size:=ZW I.ok.above (ZS I.lt)
theorem Inv.nofs (I:Inv X pins σ H s) {a:Addr} (h:s.heap.objs.size<=a):a ∉ X.fs:=fun hb=>by
 obtain ⟨_,o,ho,_⟩:=I.ok.funs.mem hb
 exact absurd (ZA (ZU ho) (ZW I.sz h)) (Xp _)
theorem Inv.cne (I:Inv X pins σ H s):∀ x c,X.env.cells.lookup x=some c->c ≠ X.env.locals:=fun x c e z=>by
 obtain ⟨v,o,ho,hd⟩:=I.cell x c e
 obtain ⟨m,⟨o',es,ep,ho',hd',_⟩,_⟩:=I.loc
 rw [z,ho'] at ho;cases ho;rw [hd'] at hd;cases hd
theorem Inv.funs (I:Inv X pins σ H s):s.heap.FunFrames X.base X.outer:=by
 have all:∀ (l:List Env),(∀ b∈frs l,b∈X.fs)->X.s₀.heap.FunFrames X.base l->s.heap.FunFrames X.base l:=by
  intro l
  induction l with
  | nil=>intro _ _;trivial
  | cons env r ih =>
   intro hs hl
   obtain ⟨hk,⟨L,o,hf,hn,ho,hd⟩,hr⟩:=hl
   have hL:L∈X.fs:=hs L (by unfold frs;rw [Yi,hf];exact Zw)
   obtain ⟨sl,e⟩:=I.base.slot L o ho (I.ok.frf L hL) hL fun z=>I.ok.exfs L z hL
   exact ⟨hk,⟨L,_,hf,hn,e,hd⟩,ih (fun b hb=>hs b (by unfold frs;rw [Yi,hf];exact Zx _ hb)) hr⟩
 exact all X.outer (fun _ hb=>hb) I.ok.funs
theorem Inv.stack (I:Inv X pins σ H s):s.heap.FunFrames X.base X.stack:=by
 rcases I.ok.stk with e | ⟨e,hf⟩
 ·rw [e];exact I.funs
 ·rw [e]
  obtain ⟨m,hn,_⟩:=I.loc
  refine .cons (by rw [I.ok.kind];decide) hf hn ?_ I.funs
  exact Heap.get?_none_of_le (ZW I.ok.bsz I.ok.above)
theorem Inv.stkSub (I:Inv X pins σ H s):∀ b∈frs X.stack,b∈X.env.locals :: X.fs:=fun b hb=>by
 rcases I.ok.stk with e | ⟨e,hf⟩
 ·rw [e] at hb;exact Zx _ hb
 ·rw [e] at hb
  unfold frs at hb
  rw [Yi,hf] at hb
  exact hb
theorem Inv.stkFree (I:Inv X pins σ H s):∀ b∈frs X.stack,H b=none:=fun b hb=>by
 rcases Zo.mp (I.stkSub b hb) with e | hb
 ·rw [e];exact I.free
 ·obtain ⟨_,o,ho,_⟩:=I.ok.funs.mem hb
  exact I.base.free b o ho (I.ok.frf b hb) fun z=>I.ok.exfs b z hb
theorem Inv.step {g':Array GenState} {t':Nat} {d':Drawn} {ch:Xf} (I:Inv X pins σ H s)
  (hch:∀ b∈ch,(b∈X.ex\/X.s₀.heap.objs.size<=b)/\b ≠ X.env.locals/\(∀ x c,X.env.cells.lookup x=some c->c ≠ b)/\∀ p∈X.pn++pins,p.1 ≠ b)
  (keep:∀ b o,b ≠ X.env.locals->b ∉ X.fs->b ∉ ch->s.heap.get? b=some o->H b=none->h'.get? b=some o)
  (slot:∀ b o,b ≠ X.env.locals->b∈X.fs->b ∉ ch->s.heap.get? b=some o->H b=none->∃ sl,h'.get? b=some { o with slots:=sl }) (free:∀ b o,b ∉ ch->s.heap.get? b=some o->H b=none->H' b=none)
  (there:∀ b o,b ∉ ch->s.heap.get? b=some o->∃ o',h'.get? b=some o')
  (tups:∀ b xs,H b=some (.tup xs)->H' b=some (.tup xs)) (frzs:∀ b o u,H b=some (.frz o u)->H' b=some (.frz o u)) (tbls:∀ b ps,H b=some (.tbl ps)->∃ more,H' b=some (.tbl (ps++more)))
  (ns:∀ m,s.heap.Ns X.env.locals m->h'.Ns X.env.locals m) (hok:HOk X.prog X.w H' h') (hg:AllBare g') :
  Inv X pins σ H' { s with heap:=h',gens:=g',drawn:=d',toks:=t' }:=by
 have neL:∀ b o,X.s₀.heap.get? b=some o->b ≠ X.env.locals:=fun b o e=>ZL (ZA (ZU e) I.ok.above)
 have neC:∀ b o,X.s₀.heap.get? b=some o->b ∉ X.ex->b ∉ ch:=fun b o e hx hb=>by
  rcases (hch b hb).1 with z | z
  ·exact hx z
  ·exact absurd (ZA (ZU e) z) (Xp _)
 have cellK:∀ x c,X.env.cells.lookup x=some c->∀ v,s.heap.IsCell c v->h'.IsCell c v:=fun x c e v ⟨o,ho,hd⟩=>by
  have nch:c ∉ ch:=fun z=>(hch c z).2.2.1 x c e rfl
  by_cases hc:c∈X.fs
  ·obtain ⟨sl,q⟩:=slot c o (I.cne x c e) hc nch ho (I.freeC x c e)
   exact ⟨_,q,hd⟩
  ·exact ⟨o,keep c o (I.cne x c e) hc nch ho (I.freeC x c e),hd⟩
 refine ⟨I.ok,I.os,hg,⟨fun b o e n hb hx=>?_,fun b o e n hb hx=>?_,fun b o e n hx=>?_,fun b o e hx=>?_,fun b xs e=>tups b xs (I.base.tups b xs e),fun b o xs e=>frzs b o xs (I.base.frzs b o xs e),fun b ps e=>?_⟩,?_,fun x c e=>?_,?_,fun x c e=>?_,fun p hp=>?_,hok,I.len⟩
 ·exact keep b o (neL b o e) hb (neC b o e hx) (I.base.keep b o e n hb hx) (I.base.free b o e n hx)
 ·obtain ⟨sl,e1⟩:=I.base.slot b o e n hb hx
  obtain ⟨sl',e2⟩:=slot b _ (neL b o e) hb (neC b o e hx) e1 (I.base.free b o e n hx)
  exact ⟨sl',e2⟩
 ·obtain ⟨o',e1⟩:=I.base.there b o e hx
  exact free b o' (neC b o e hx) e1 (I.base.free b o e n hx)
 ·obtain ⟨o',e1⟩:=I.base.there b o e hx
  exact there b o' (neC b o e hx) e1
 ·obtain ⟨m1,e1⟩:=I.base.tbls b ps e
  obtain ⟨m2,e2⟩:=tbls b _ e1
  exact ⟨m1++m2,by rw [e2,Array.append_assoc]⟩
 ·obtain ⟨m,hn,hl⟩:=I.loc
  refine ⟨m,ns m hn,fun i x v e1 e2 e3=>?_⟩
  obtain ⟨u,r,l⟩:=hl i x v e1 e2 e3
  refine ⟨u,r,?_⟩
  rcases l with l | ⟨k,c,e,z⟩
  ·exact .inl l
  ·exact .inr ⟨k,c,e,cellK x c e _ z⟩
 ·obtain ⟨v,z⟩:=I.cell x c e
  exact ⟨v,cellK x c e v z⟩
 ·obtain ⟨m,⟨o,_,_,ho,_⟩,_⟩:=I.loc
  exact free _ o (fun z=>(hch _ z).2.1 rfl) ho I.free
 ·obtain ⟨v,o,ho,hd⟩:=I.cell x c e
  exact free c o (fun z=>(hch c z).2.2.1 x c e rfl) ho (I.freeC x c e)
 ·obtain ⟨e,n,ne,nf,d⟩:=I.pin p hp
  have nch:p.1 ∉ ch:=fun z=>(hch p.1 z).2.2.2 p hp rfl
  exact ⟨keep p.1 p.2 ne nf nch e n,free p.1 p.2 nch e n,ne,nf,d⟩
theorem Inv.un {t':Nat} (I:Inv X pins σ H s) (u:Un X.fs [] H H' s.heap h') (hok:HOk X.prog X.w H' h'):Inv X pins σ H' { s with heap:=h',toks:=t' }:=by
 obtain ⟨m,⟨o,es,ep,ho,r⟩,_⟩:=id I.loc
 obtain ⟨sl,hL⟩:=u.any ho I.free (by simp)
 exact I.step (g':=s.gens) (d':=s.drawn) (ch:=[]) (fun _ z=>nomatch z) (fun b o _ hb _ e n=>u.keep b o e n hb (by simp)) (fun b o _ hb _ e n=>u.slot b o e n hb (by simp)) (fun b o _ e n=>u.free b o e n (by simp)) (fun b o _ e=>u.there b o e (by simp)) u.tups u.frzs u.tbls (fun m' hm=>by
  obtain ⟨o',es',ep',ho',r'⟩:=hm
  rw [ho] at ho';cases ho'
  exact ⟨_,es',ep',hL,r'⟩) hok I.bare
theorem Inv.call {g':Array GenState} {t':Nat} {d':Drawn} {ch:Xf} (I:Inv X pins σ H s) (u:Un (frs X.stack) ch H H' s.heap h') (hok:HOk X.prog X.w H' h') (hg:AllBare g')
  (hch:∀ b∈ch,(b∈X.ex\/X.s₀.heap.objs.size<=b)/\b ≠ X.env.locals/\(∀ x c,X.env.cells.lookup x=some c->c ≠ b)/\∀ p∈X.pn++pins,p.1 ≠ b) :
  Inv X pins σ H' { s with heap:=h',gens:=g',drawn:=d',toks:=t' }:=by
 obtain ⟨m,⟨o,es,ep,ho,r⟩,_⟩:=id I.loc
 obtain ⟨sl,hL⟩:=u.any ho I.free fun z=>(hch _ z).2.1 rfl
 exact I.step (ch:=ch) hch (fun b o hL hb hc e n=>u.keep b o e n (fun z=>(Zo.mp (I.stkSub b z)).elim hL hb) hc) (fun b o _ _ hc e n=>u.any e n hc) (fun b o hc e n=>u.free b o e n hc) (fun b o hc e=>u.there b o e hc) u.tups u.frzs u.tbls (fun m' hm=>by
  obtain ⟨o',es',ep',ho',r'⟩:=hm
  rw [ho] at ho';cases ho'
  exact ⟨_,es',ep',hL,r'⟩) hok hg
theorem Inv.turned {t':Nat} {it:Addr} (I:Inv X pins σ H s) (k:∀ b o,b ≠ it->s.heap.get? b=some o->h'.get? b=some o) (hn:H it=none) (hL:it ≠ X.env.locals)
  (h1:it∈X.ex\/X.s₀.heap.objs.size<=it) (h2:∀ x c,X.env.cells.lookup x=some c->c ≠ it) (h3:∀ p∈X.pn++pins,p.1 ≠ it):Inv X pins σ H { s with heap:=h',toks:=t' }:=by
 have nit:∀ b u,H b=some u->b ≠ it:=fun b u e z=>by rw [z,hn] at e;cases e
 refine I.step (g':=s.gens) (d':=s.drawn) (ch:=[it]) (fun b hb=>?_) (fun b o _ _ hc e _=>k b o (fun z=>hc (by simp [z])) e) (fun b o _ _ hc e _=>⟨o.slots,k b o (fun z=>hc (by simp [z])) e⟩) (fun _ _ _ _ n=>n)
  (fun b o hc e=>⟨o,k b o (fun z=>hc (by simp [z])) e⟩) (fun _ _ e=>e) (fun _ _ _ e=>e) (fun b ps e=>⟨#[],by rw [e];simp⟩) (fun m hm=>?_) (fun b u e=>?_) I.bare
 ·have e:b=it:=by simpa using hb
  subst e
  exact ⟨h1,hL,h2,h3⟩
 ·obtain ⟨o,es,ep,ho,r⟩:=hm
  exact ⟨o,es,ep,k _ o (YE hL) ho,r⟩
 ·refine (I.hok b u e).stay (fun c v hc q=>k c v ?_ q) (fun _ q=>q) fun _ _ q=>q
  rcases hc with z | z
  ·rw [z];exact nit b u e
  ·exact nit c _ z
theorem Inv.tok (I:Inv X pins σ H s) (t:Nat):Inv X pins σ H { s with toks:=t }:=I.un (h':=s.heap) (t':=t) Un.refl I.hok
theorem Inv.kept {t':Nat} (I:Inv X pins σ H s) (k:∀ b u,s.heap.get? b=some u->h'.get? b=some u):Inv X pins σ H { s with heap:=h',toks:=t' }:=I.un (Un.kept k) (I.hok.kept k)
theorem Inv.laid {a:Addr} {o:HO} {t':Nat} (I:Inv X pins σ H s) (k:∀ b u,s.heap.get? b=some u->h'.get? b=some u) (hp:s.heap.objs.size<=a) (new:bj X.prog X.w (upd H a o) h' a o) :
  Inv X pins σ (upd H a o) { s with heap:=h',toks:=t' }:=I.un (Un.laid k hp (I.hok.fresh hp)) (I.hok.laid k hp new)
theorem Inv.write {x e:Addr} {o:HO} {t':Nat} (I:Inv X pins σ H s) (mu:Mut (H x)) (he:e=x\/H e=some (.own x)) (k:∀ b u,b ≠ e->s.heap.get? b=some u->h'.get? b=some u) (heo:∃ u,h'.get? e=some u)
  (new:bj X.prog X.w (upd H x o) h' x o):Inv X pins σ (upd H x o) { s with heap:=h',toks:=t' }:=I.un (Un.write mu he k heo) (I.hok.write mu he k heo new)
theorem Inv.pins_of {pins':Yp} (I:Inv X pins σ H s) (h:∀ p∈pins',s.heap.get? p.1=some p.2/\H p.1=none/\p.1 ≠ X.env.locals/\p.1 ∉ X.fs/\∀ v,p.2.data ≠ .cell v):Inv X pins' σ H s :=
 ⟨I.ok,I.os,I.bare,I.base,I.loc,I.cell,I.free,I.freeC,fun p hp=>(Zd.mp hp).elim (fun z=>I.pin p (Y6 _ z)) (h p),I.hok,I.len⟩
theorem o6 {N:List Str} (hN:N.Nodup) {i j:Nat} {x:Str} (a:N[i]?=some x) (b:N[j]?=some x):i=j:=by
 obtain ⟨h1,e1⟩:=ZZ.mp a
 obtain ⟨h2,e2⟩:=ZZ.mp b
 exact (List.getElem_inj hN).mp (e1.trans e2.symm)
theorem mQ {M:Model} {A:Around} {E:Yy} {i:Nat} {x:Str} {v:V} {u:Value} {Q:Unit->Shared->Prop} (I:Inv X pins σ H s) (hN:X.N.Nodup) (hi:X.N[i]?=some x) (hx:Loc X.env.scope x) (r:RelV v u)
  (h:∀ s',Inv X pins (σ.set i (some v)) H s'->(∃ a,Heap.SameBut a s.heap s'.heap/\(a=X.env.locals\/X.env.cells.lookup x=some a))->Q () s') (hf:X.fn x=true\/X.env.scope.names.lookup x=some .local:=by first | exact .inl rfl | exact .inr rfl | assumption):wpAny M A (storeName X.env x u) Q E s:=by
 obtain ⟨m,hn,hl⟩:=id I.loc
 have hcls:(X.env.scope.kind == .class || (X.env.scope.kind == .module && X.env.locals != X.env.globals))=false:=by rw [I.ok.kind];rfl
 have hiσ:i < σ.length:=by rw [I.len];exact (ZZ.mp hi).1
 have cne:=I.cne
 have tracked:∀ {a:Addr} {h':Heap},(∃ o,s.heap.get? a=some o/\H a=none)->Heap.SameBut a s.heap h'->HOk X.prog X.w H h':=fun {a h'} ha hs b ob e=>by
  obtain ⟨_,_,hfree⟩:=ha
  refine (I.hok b ob e).stay (fun c w' hc q=>(hs.2 c ?_).trans q) (fun _ q=>q) fun _ _ q=>q
  rintro rfl
  rcases hc with rfl | hc
  ·rw [hfree] at e;cases e
  ·rw [hfree] at hc;cases hc
 rcases hx with hk | hk
 ·refine wpAny_storeName_local hk hn (fun h' hn' hs=>?_) hcls
  obtain ⟨oL,_,_,hoL,_⟩:=id hn
  refine h _ ⟨I.ok,I.os,I.bare,⟨fun b o e n hb hx=>?_,fun b o e n hb hx=>?_,I.base.free,fun b o e hx=>?_,I.base.tups,I.base.frzs,I.base.tbls⟩,⟨_,hn',fun j y v' e1 e2 e3=>?_⟩,fun y c e=>?_,I.free,I.freeC,fun p hp=>?_,tracked ⟨oL,hoL,I.free⟩ hs,by simpa using I.len⟩ ⟨_,hs,.inl rfl⟩
  ·exact (hs.2 b (ZL (ZA (ZU e) I.ok.above))).trans (I.base.keep b o e n hb hx)
  ·obtain ⟨sl,e1⟩:=I.base.slot b o e n hb hx
   exact ⟨sl,(hs.2 b (ZL (ZA (ZU e) I.ok.above))).trans e1⟩
  ·obtain ⟨o',e1⟩:=I.base.there b o e hx
   exact ⟨o',(hs.2 b (ZL (ZA (ZU e) I.ok.above))).trans e1⟩
  ·by_cases hj:j=i
   ·subst hj
    rw [hi] at e1;cases e1
    rw [YQ hiσ] at e2
    cases e2
    exact ⟨u,r,.inl ⟨hk,by simp⟩⟩
   ·rw [YU (YE hj)] at e2
    obtain ⟨u',r',q⟩:=hl j y v' e1 e2 e3
    refine ⟨u',r',?_⟩
    rcases q with ⟨k,e⟩ | ⟨k,c,e,z⟩
    ·refine .inl ⟨k,?_⟩
     have:y ≠ x:=fun e=>hj (o6 hN e1 (e ▸ hi))
     simp [this,e]
    ·exact .inr ⟨k,c,e,z.sameBut hs (cne y c e)⟩
  ·obtain ⟨w',z⟩:=I.cell y c e
   exact ⟨w',z.sameBut hs (cne y c e)⟩
  ·obtain ⟨e,n,ne,nf,d⟩:=I.pin p hp
   exact ⟨(hs.2 p.1 ne).trans e,n,ne,nf,d⟩
 ·have hfn:X.fn x=true:=by
   rcases hf with z | z
   ·exact z
   ·rw [z] at hk;cases hk
  obtain ⟨c,hc⟩:=I.ok.has x (.inl hk)
  obtain ⟨w',z⟩:=I.cell x c hc
  refine wpAny_storeName_cell I.ok.kind hk hc z (fun h' hc' hs=>?_)
  obtain ⟨oc,hoc,hocd⟩:=id z
  refine h { s with heap:=h' } ⟨I.ok,I.os,I.bare,⟨fun b o e n hb hx=>?_,fun b o e n hb hx=>?_,I.base.free,fun b o e hx=>?_,I.base.tups,I.base.frzs,I.base.tbls⟩,⟨m,hn.sameBut hs (YE (cne x c hc)),fun j y v' e1 e2 e3=>?_⟩,fun y c' e=>?_,I.free,I.freeC,fun p hp=>?_,tracked ⟨oc,hoc,I.freeC x c hc⟩ hs,by simpa using I.len⟩ ⟨c,hs,.inr hc⟩
  ·exact (hs.2 b (ZL (ZA (ZU e) (I.ok.cab x c hfn hc)))).trans (I.base.keep b o e n hb hx)
  ·obtain ⟨sl,e1⟩:=I.base.slot b o e n hb hx
   exact ⟨sl,(hs.2 b (ZL (ZA (ZU e) (I.ok.cab x c hfn hc)))).trans e1⟩
  ·obtain ⟨o',e1⟩:=I.base.there b o e hx
   exact ⟨o',(hs.2 b (ZL (ZA (ZU e) (I.ok.cab x c hfn hc)))).trans e1⟩
  ·by_cases hj:j=i
   ·subst hj
    rw [hi] at e1;cases e1
    rw [YQ hiσ] at e2
    cases e2
    exact ⟨u,r,.inr ⟨.inl hk,c,hc,hc'⟩⟩
   ·rw [YU (YE hj)] at e2
    obtain ⟨u',r',q⟩:=hl j y v' e1 e2 e3
    refine ⟨u',r',?_⟩
    rcases q with q | ⟨k,c',e,z'⟩
    ·exact .inl q
    ·refine .inr ⟨k,c',e,z'.sameBut hs ?_⟩
     rintro rfl
     exact hj (o6 hN e1 (I.ok.inj _ _ _ e hc ▸ hi))
  ·by_cases hcc:c'=c
   ·subst hcc;exact ⟨_,hc'⟩
   ·obtain ⟨w2,z2⟩:=I.cell y c' e
    exact ⟨w2,z2.sameBut hs hcc⟩
  ·obtain ⟨e,n,ne,nf,d⟩:=I.pin p hp
   refine ⟨(hs.2 p.1 ?_).trans e,n,ne,nf,d⟩
   intro q
   rw [q,hoc] at e
   have q':oc=p.2:=ZI e
   exact d w' (by rw [← q'];exact hocd)
theorem oZ {M:Model} {A:Around} {E:Yy} {i:Nat} {x:Str} {v:V} {u:Value} {Q:Unit->Shared->Prop} (I:Inv X pins σ H s) (hN:X.N.Nodup) (hi:X.N[i]?=some x) (hx:Loc X.env.scope x) (r:RelV v u)
  (h:∀ s',Inv X pins (σ.set i (some v)) H s'->Q () s') (hf:X.fn x=true\/X.env.scope.names.lookup x=some .local:=by first | exact .inl rfl | exact .inr rfl | assumption):wpAny M A (storeName X.env x u) Q E s :=
 mQ I hN hi hx r (fun s' I' _=>h s' I') hf
theorem Inv.call' {s':Shared} {ch:Xf} (I:Inv X pins σ H s) (ho:s'.os=s.os) (u:Un (frs X.stack) ch H H' s.heap s'.heap) (hok:HOk X.prog X.w H' s'.heap) (hg:AllBare s'.gens)
  (hch:∀ b∈ch,(b∈X.ex\/X.s₀.heap.objs.size<=b)/\b ≠ X.env.locals/\(∀ x c,X.env.cells.lookup x=some c->c ≠ b)/\∀ p∈X.pn++pins,p.1 ≠ b):Inv X pins σ H' s':=by
 obtain ⟨h',g',d',t',o'⟩:=s'
 have e:o'=s.os:=ho
 subst e
 exact I.call (g':=g') (t':=t') (d':=d') u hok hg hch
end
noncomputable abbrev XK:=Value->Option Addr->Hp->Prop
noncomputable abbrev St:=List (Option V)
noncomputable abbrev VK:=V->Hp->Prop
noncomputable abbrev TE:=St->Hp->VK->Prop
noncomputable abbrev TT:=St->Hp->(Bool->Hp->Prop)->Prop
noncomputable abbrev TA:=St->Hp->(List V->Hp->Prop)->Prop
structure Ends where
 nx:St->Hp->Prop
 rt:VK
 bk:St->Hp->Prop:=fun _ _=>False
 ct:St->Hp->Prop:=fun _ _=>False
noncomputable abbrev TS:=Ends->St->Hp->Prop
noncomputable def EP (X:Cx) (pins:Yp) (σ:St) (Q:VK) (u:Value) (s':Shared):Prop:=∃ v H',Inv X pins σ H' s'/\RelV v u/\Q v H'
noncomputable def TP (X:Cx) (pins:Yp) (σ:St) (Q:Bool->Hp->Prop) (b:Bool) (s':Shared):Prop:=∃ H',Inv X pins σ H' s'/\Q b H'
noncomputable def AP (X:Cx) (pins:Yp) (σ:St) (Q:List V->Hp->Prop) (us:Xb) (s':Shared):Prop:=∃ vs H',Inv X pins σ H' s'/\aQ vs us/\Q vs H'
noncomputable def SP (X:Cx) (pins:Yp) (D:Ends) (f:Flow) (s':Shared):Prop :=
 match f with
 | .next=>∃ σ' H',Inv X pins σ' H' s'/\D.nx σ' H'
 | .brk=>∃ σ' H',Inv X pins σ' H' s'/\D.bk σ' H'
 | .cont=>∃ σ' H',Inv X pins σ' H' s'/\D.ct σ' H'
 | .ret u=>∃ v σ' H',Inv X pins σ' H' s'/\RelV v u/\D.rt v H'
noncomputable def PE (X:Cx) (e:Expr) (t:TE):Prop :=
 ∀ (pins:Yp) (s:Shared) (σ:St) (H:Hp) (Q:VK),Inv X pins σ H s->t σ H Q->wpAny (model X.prog X.w) X.A (eval e X.env) (EP X pins σ Q) X.xe s
noncomputable def PT (X:Cx) (e:Expr) (t:TT):Prop :=
 ∀ (pins:Yp) (s:Shared) (σ:St) (H:Hp) (Q:Bool->Hp->Prop),Inv X pins σ H s->t σ H Q->wpAny (model X.prog X.w) X.A (isTrue e X.env (eval e X.env)) (TP X pins σ Q) X.xe s
noncomputable def PW (X:Cx) (e:Expr) (t:TT):Prop :=
 ∀ (whole:Sem Value) (pins:Yp) (s:Shared) (σ:St) (H:Hp) (Q:Bool->Hp->Prop),Inv X pins σ H s->t σ H Q->wpAny (model X.prog X.w) X.A (isTrue e X.env whole) (TP X pins σ Q) X.xe s
theorem PW.pt {X:Cx} {e:Expr} {t:TT} (h:PW X e t):PT X e t:=h _
noncomputable def PA (X:Cx) (es:List Expr) (t:TA):Prop :=
 ∀ (pos:Pos) (pins:Yp) (s:Shared) (σ:St) (H:Hp) (Q:List V->Hp->Prop),Inv X pins σ H s->t σ H Q->wpAny (model X.prog X.w) X.A (spliced (backTo pos (starEach es X.env))) (AP X pins σ Q) X.xe s
noncomputable def PS (X:Cx) (st:Stmt) (t:TS):Prop :=
 ∀ (pins:Yp) (s:Shared) (σ:St) (H:Hp) (D:Ends),Inv X pins σ H s->t D σ H->wpAny (model X.prog X.w) X.A (exec st X.env) (SP X pins D) X.xe s
noncomputable def PSs (X:Cx) (st:List Stmt) (t:TS):Prop :=
 ∀ (pins:Yp) (s:Shared) (σ:St) (H:Hp) (D:Ends),Inv X pins σ H s->t D σ H->wpAny (model X.prog X.w) X.A (execs st X.env) (SP X pins D) X.xe s
theorem thn {α:Type} {t:Sem α} {Q Q':α->Shared->Prop} {M:Model} {A:Around} {E:Yy} {s:Shared} (h:wpAny M A t Q E s) (hQ:∀ a s,Q a s->Q' a s):wpAny M A t Q' E s:=YT h hQ fun _ _ x=>x
section
variable {X:Cx}
noncomputable def uv (i:Nat):TE:=fun σ H Q=>∃ v,σ[i]?=some (some v)/\Q v H
noncomputable def tC (v:V):TE:=fun _ H Q=>Q v H
theorem eI {i:Nat} {x:Str} {pos:Pos} (hN:X.N[i]?=some x) (hv:Vis X.env.scope x) (hd:(x == ("__debug__" : Str))=false:=by decide) (hcd:(x == ("__classdict__" : Str))=false:=by decide):PE X (.Name x pos) (uv i):=by
 intro pins s σ H Q I h
 obtain ⟨v,e,h⟩:=h
 obtain ⟨m,hn,hl⟩:=I.loc
 obtain ⟨u,r,l⟩:=hl i x v hN e hv
 have fin:EP X pins σ Q u s:=⟨v,H,I,r,h⟩
 rcases l with ⟨hk,hm⟩ | ⟨hk,c,hc,hcell⟩
 ·exact wpAny_Name (wpAny_loadName_local I.ok.kind hk hn hm fin) hd
 ·rcases hk with hk | hk
  ·exact wpAny_Name (wpAny_loadName_cell I.ok.kind hk hc hcell fin) hd
  ·exact wpAny_Name (wpAny_loadName_free I.ok.kind hk hc hcell fin hcd) hd
theorem wV {i j pos}:PE X (.Constant (.int i) j pos) (tC (.int i)):=fun _ _ _ H _ I h=>wpAny_Constant_int ⟨.int i,H,I.tok _,⟨_,rfl⟩,h⟩
theorem Di {b j pos}:PE X (.Constant (.bool b) j pos) (tC (.bl b)):=fun _ _ _ H _ I h=>Constant_bool ⟨.bl b,H,I,rfl,h⟩
theorem BL {j pos}:PE X (.Constant .none j pos) (tC .non):=fun _ _ _ H _ I h=>Constant_none ⟨.non,H,I,rfl,h⟩
theorem vm {x j pos}:PE X (.Constant (.str x) j pos) (tC (.str x)):=fun _ _ _ H _ I h=>Calls.Constant_str ⟨.str x,H,I.tok _,⟨_,rfl⟩,h⟩
noncomputable def Gl (X:Cx) (x:Str):Prop:=X.env.kindOf x=some .globalImplicit
theorem rR {E:Yy} {pins:Yp} {s:Shared} {σ:St} {H:Hp} {x:Str} {u:Value} {pos:Pos} {Q:Yy} (I:Inv X pins σ H s) (hg:Gl X x) (hm:X.mg x=some u) (h:Q u s)
  (hd:(x == ("__debug__" : Str))=false:=by decide):wpAny (model X.prog X.w) X.A (eval (.Name x pos) X.env) Q E s :=
 Calls.Name_function_global I.ok.kind hg (Calls.loadGlobal_global (by rw [I.ok.glob];exact I.mod.glob.keeps I.bk) hm h) hd
theorem j3 {E:Yy} {pins:Yp} {s:Shared} {σ:St} {H:Hp} {x:Str} {u:Value} {pos:Pos} {Q:Yy} (I:Inv X pins σ H s) (hg:Gl X x) (hm:X.mg x=none) (hv:bootBuiltins x=some u) (h:Q u s)
  (hn:x ≠ "__name__" := by decide) (hd:(x == ("__debug__" : Str))=false:=by decide):wpAny (model X.prog X.w) X.A (eval (.Name x pos) X.env) Q E s:=by
 obtain ⟨mb,h1,h2⟩:=I.mod.blt
 exact Calls.Name_function_global I.ok.kind hg (Calls.loadGlobal_builtin (by rw [I.ok.glob];exact I.mod.glob.keeps I.bk) hm (by rw [I.ok.blt];exact h1.keeps I.bk) ((h2 x hn).trans hv) h) hd
theorem ze {x:Str} {v:V} {u:Value} {pos:Pos} (hg:Gl X x) (hm:X.mg x=some u) (r:RelV v u) (hd:(x == ("__debug__" : Str))=false:=by decide):PE X (.Name x pos) (tC v) :=
 fun _ _ _ H _ I h=>rR I hg hm ⟨v,H,I,r,h⟩ hd
theorem yk {x:Str} {v:V} {u:Value} {pos:Pos} (hg:Gl X x) (hm:X.mg x=none) (hv:bootBuiltins x=some u) (r:RelV v u) (hn:x ≠ "__name__" := by decide) (hd:(x == ("__debug__" : Str))=false:=by decide):PE X (.Name x pos) (tC v) :=
 fun _ _ _ H _ I h=>j3 I hg hm hv ⟨v,H,I,r,h⟩ hn hd
variable {a b:Expr} {ta tb:TE} {pos:Pos}
noncomputable def PC (X:Cx) (op:CmpOp) (a b:Expr) (t:TE):Prop :=
 ∀ (pins:Yp) (s:Shared) (σ:St) (H:Hp) (Q:VK),Inv X pins σ H s->t σ H Q →
  wpAny (model X.prog X.w) X.A (eval a X.env) (fun v s₁=>wpAny (model X.prog X.w) X.A (eval b X.env) (fun u s₂=>wpAny (model X.prog X.w) X.A (compareOp op v u) (EP X pins σ Q) X.xe s₂) X.xe s₁) X.xe s
theorem xU (b:Expr) {op:CmpOp} (h:op ≠ .In) (h2:op ≠ .NotIn):behindInMarks op b=false:=by
 have e1:(op == CmpOp.In)=false:=by cases op <;> first | rfl | exact absurd rfl h
 have e2:(op == CmpOp.NotIn)=false:=by cases op <;> first | rfl | exact absurd rfl h2
 cases b <;> simp [behindInMarks,e1,e2]
noncomputable def DD (ta:TE):TE:=fun σ H Q=>ta σ H fun x H1=>Q (.bl (!decide (x=.non))) H1
theorem RelV.none_iff {x:V} {v:Value} (r:RelV x v):(v == Value.none)=decide (x=.non):=by
 cases x with
 | non=>cases r;rfl
 | bl _=>cases r;rfl
 | int _=>obtain ⟨t,rfl⟩:=r;rfl
 | str _=>obtain ⟨t,rfl⟩:=r;rfl
 | byt _=>obtain ⟨t,rfl⟩:=r;rfl
 | flt _=>obtain ⟨t,rfl⟩:=r;rfl
 | ref _=>cases r;rfl
 | ty _=>cases r;rfl
theorem zE {j pos'} (ha:PE X a ta):PC X .IsNot a (.Constant .none j pos') (DD ta):=by
 intro pins s σ H Q I h
 refine thn (ha pins s σ H _ I h) fun v s1 ⟨x,H1,I1,r1,q1⟩=>?_
 exact Constant_none (isnot_none_gen ⟨.bl _,H1,I1,by rw [r1.none_iff];rfl,q1⟩)
noncomputable def tB (t:TE):TT:=fun σ H Q=>t σ H fun x H1=>∃ c,x=.bl c/\Q c H1
theorem CN {op:CmpOp} {t:TE} (h:PC X op a b t) (h1:behindInMarks op b=false:=by first | exact xU _ (by decide) (by decide) | rfl):PT X (.Compare a [op] [b] pos) (tB t):=by
 intro pins s σ H Q I hw
 refine wpAny_isTrue_Compare1 (thn (h pins s σ H _ I hw) fun v s1 h1=>thn h1 fun u s2 h2=>thn h2 fun c s3 ⟨x,H1,I1,r1,q1⟩=>?_) h1
 obtain ⟨d,rfl,q⟩:=q1
 cases r1
 exact YV ⟨H1,I1,q⟩
variable {tA tB':TT} {rest:List Expr}
noncomputable def EV (t u:TT):TT:=fun σ H Q=>t σ H fun c H1=>if c=true then u σ H1 Q else Q false H1
noncomputable def tOr (t u:TT):TT:=fun σ H Q=>t σ H fun c H1=>if c=true then Q true H1 else u σ H1 Q
noncomputable def E3 (t:TT):TT:=fun σ H Q=>t σ H fun c H1=>Q (!c) H1
theorem Aw (ha:PT X a tA):PW X (.BoolOp .And [a] pos) tA:=by
 intro wh pins s σ H Q I h
 refine isTrue_and (thn (ha pins s σ H Q I h) fun c s1 e=>?_)
 cases c with
 | true=>exact isTrue_and_nil e
 | false=>exact e
theorem BY (ha:PT X a tA):PW X (.BoolOp .Or [a] pos) tA:=by
 intro wh pins s σ H Q I h
 refine isTrue_or (thn (ha pins s σ H Q I h) fun c s1 e=>?_)
 cases c with
 | false=>exact isTrue_or_nil e
 | true=>exact e
theorem CV (ha:PT X a tA) (hb:PW X (.BoolOp .And (b :: rest) pos) tB'):PW X (.BoolOp .And (a :: b :: rest) pos) (EV tA tB'):=by
 intro wh pins s σ H Q I h
 refine isTrue_and (thn (ha pins s σ H _ I h) fun c s1 ⟨H1,I1,q1⟩=>?_)
 cases c with
 | true=>exact hb wh pins s1 σ H1 Q I1 q1
 | false=>exact ⟨H1,I1,q1⟩
theorem DH (ha:PT X a tA) (hb:PW X (.BoolOp .Or (b :: rest) pos) tB'):PW X (.BoolOp .Or (a :: b :: rest) pos) (tOr tA tB'):=by
 intro wh pins s σ H Q I h
 refine isTrue_or (thn (ha pins s σ H _ I h) fun c s1 ⟨H1,I1,q1⟩=>?_)
 cases c with
 | true=>exact ⟨H1,I1,q1⟩
 | false=>exact hb wh pins s1 σ H1 Q I1 q1
theorem BO (ha:PT X a tA):PT X (.UnaryOp .Not a pos) (E3 tA):=by
 intro pins s σ H Q I h
 exact isTrue_not (ha pins s σ H (fun c H1=>Q (!c) H1) I h)
noncomputable def Ef (ta tb:TE):TE:=fun σ H Q=>ta σ H fun x H1=>∃ c,x=.bl c/\if c=true then tb σ H1 Q else Q (.bl false) H1
noncomputable def Ec (ta:TE):TE:=fun σ H Q=>ta σ H fun x H1=>∃ c,x=.bl c/\Q (.bl (!c)) H1
theorem Bs {op} {t:TE} (h:PE X a t):PE X (.BoolOp op [a] pos) t:=fun pins s σ H Q I hw=>BoolOp_one (h pins s σ H Q I hw)
theorem CT (ha:PE X a ta) (hb:PE X (.BoolOp .And (b :: rest) pos) tb):PE X (.BoolOp .And (a :: b :: rest) pos) (Ef ta tb):=by
 intro pins s σ H Q I h
 refine BoolOp_and (thn (ha pins s σ H _ I h) fun v s1 ⟨x,H1,I1,r1,q1⟩=>?_)
 obtain ⟨c,rfl,q1⟩:=q1
 cases r1
 refine YV ?_
 cases c with
 | true=>exact hb pins s1 σ H1 Q I1 q1
 | false=>exact ⟨.bl false,H1,I1,rfl,q1⟩
theorem Bw (ha:PE X a ta):PE X (.UnaryOp .Not a pos) (Ec ta):=by
 intro pins s σ H Q I h
 refine UnaryOp_ (thn (ha pins s σ H _ I h) fun v s1 ⟨x,H1,I1,r1,q1⟩=>?_)
 obtain ⟨c,rfl,q1⟩:=q1
 cases r1
 exact not_of (YV ⟨.bl (!c),H1,I1,rfl,q1⟩)
end
noncomputable def SqL (K:Xs) (H:Hp) (a:Addr) (xs:List V):Prop :=
 Rd H a (.lst xs) ∨
  ∃ (o:Obj) (its:Array Value) (n:Nat),K.lookup a=some o/\o.cls=.type "list" ∧ o.dict=none/\o.data=.seq its n/\its.size<=sizeLine/\aQ xs its.toList
noncomputable def SqT (K:Xs) (H:Hp) (a:Addr) (xs:List V):Prop :=
 Rd H a (.tup xs) ∨
  ∃ (o:Obj) (its:Array Value) (n:Nat),K.lookup a=some o/\o.cls=.type "tuple" ∧ o.data=.seq its n/\its.size<=sizeLine/\aQ xs its.toList
noncomputable def EW:Value->Option V
 | .none=>some .non
 | .bool b=>some (.bl b)
 | .int i _=>some (.int i)
 | .str x _=>some (.str x)
 | .bytes b _=>some (.byt b)
 | .float b _=>some (.flt b)
 | .ref a=>some (.ref a)
 | .type n=>some (.ty n)
 | _=>none
theorem RelV.abs {x:V} {u:Value} (r:RelV x u):EW u=some x:=by
 cases x with
 | non=>cases r;rfl
 | bl _=>cases r;rfl
 | int _=>obtain ⟨t,rfl⟩:=r;rfl
 | str _=>obtain ⟨t,rfl⟩:=r;rfl
 | byt _=>obtain ⟨t,rfl⟩:=r;rfl
 | flt _=>obtain ⟨t,rfl⟩:=r;rfl
 | ref _=>cases r;rfl
 | ty _=>cases r;rfl
theorem RelV.inj {x y:V} {u:Value} (r:RelV x u) (q:RelV y u):x=y:=ZI (r.abs.symm.trans q.abs)
theorem aQ.inj:∀ {xs ys:List V} {us:Xb},aQ xs us->aQ ys us->xs=ys
 | _,_,_,.nil,.nil=>rfl
 | _,_,_,.cons r t,.cons r' t'=>by rw [r.inj r',aQ.inj t t']
section
variable {X:Cx} {pins:Yp} {σ:St} {H:Hp} {s:Shared} {a:Addr} {xs ys:List V}
theorem SqL.of {K:Xs} (h:H a=some (.lst xs)):SqL K H a xs:=.inl (.inl h)
theorem SqT.of {K:Xs} (h:H a=some (.tup xs)):SqT K H a xs:=.inl (.inl h)
theorem Inv.list (I:Inv X pins σ H s) (h:SqL X.K H a xs):∃ its:Xb,aQ xs its/\PlainL s.heap a its.toArray/\xs.length<=sizeLine:=by
 rcases h with h | ⟨o,its,n,hk,hc,hd,hs,hz,r⟩
 ·obtain ⟨z,its,n,r,e⟩:=h.ok I.hok
  exact ⟨its,r,⟨_,n,e,rfl,rfl,rfl⟩,z⟩
 ·refine ⟨its.toList,r,⟨o,n,I.kIn a o hk,hc,hd,by simpa using hs⟩,?_⟩
  have e:=r.length
  simp only [YZ] at e
  lia
theorem Inv.tuple (I:Inv X pins σ H s) (h:SqT X.K H a xs):∃ its:Xb,aQ xs its/\IsTup s.heap a its.toArray/\xs.length<=sizeLine:=by
 rcases h with h | ⟨o,its,n,hk,hc,hs,hz,r⟩
 ·obtain ⟨z,its,r,_,p⟩:=h.ok I.hok
  exact ⟨its,r,p,z⟩
 ·refine ⟨its.toList,r,⟨o,I.kIn a o hk,hc,n,by simpa using hs⟩,?_⟩
  have e:=r.length
  simp only [YZ] at e
  lia
theorem Inv.list_inj (I:Inv X pins σ H s) (h:SqL X.K H a xs) (h':SqL X.K H a ys):xs=ys:=by
 obtain ⟨its,r,⟨o,n,e,_,_,d⟩,_⟩:=I.list h
 obtain ⟨its',r',⟨o',n',e',_,_,d'⟩,_⟩:=I.list h'
 rw [e] at e';cases e'
 rw [d] at d'
 injection d' with d1 _
 have:its=its':=by simpa using congrArg Array.toList d1
 subst this
 exact r.inj r'
theorem Inv.tuple_inj (I:Inv X pins σ H s) (h:SqT X.K H a xs) (h':SqT X.K H a ys):xs=ys:=by
 obtain ⟨its,r,⟨o,e,_,n,d⟩,_⟩:=I.tuple h
 obtain ⟨its',r',⟨o',e',_,n',d'⟩,_⟩:=I.tuple h'
 rw [e] at e';cases e'
 rw [d] at d'
 injection d' with d1 _
 have:its=its':=by simpa using congrArg Array.toList d1
 subst this
 exact r.inj r'
end
noncomputable abbrev Cx.wish (X:Cx) (E:Yy):Cx:={ X with xe:=E }
noncomputable abbrev Cx.nox (X:Cx):Cx:=X.wish fun _ _=>False
theorem Cx.Ok.wish {X:Cx} (ok:X.Ok) (E:Yy):(X.wish E).Ok :=
 ⟨ok.mod,ok.kind,ok.glob,ok.blt,ok.above,ok.inj,ok.has,ok.cab,ok.hd,ok.frames,ok.stk,ok.exf,ok.bs,ok.bsz,ok.noex,ok.exfs,ok.funs,ok.frf⟩
theorem Cx.Ok.unwish {X:Cx} {E:Yy} (ok:(X.wish E).Ok):X.Ok :=
 ⟨ok.mod,ok.kind,ok.glob,ok.blt,ok.above,ok.inj,ok.has,ok.cab,ok.hd,ok.frames,ok.stk,ok.exf,ok.bs,ok.bsz,ok.noex,ok.exfs,ok.funs,ok.frf⟩
section
variable {X:Cx} {pins:Yp} {σ:St} {H:Hp} {s:Shared} {E:Yy}
theorem Inv.wish (I:Inv X pins σ H s) (E:Yy):Inv (X.wish E) pins σ H s:=⟨I.ok.wish E,I.os,I.bare,I.base,I.loc,I.cell,I.free,I.freeC,I.pin,I.hok,I.len⟩
theorem Inv.unwish (I:Inv (X.wish E) pins σ H s):Inv X pins σ H s:=⟨I.ok.unwish,I.os,I.bare,I.base,I.loc,I.cell,I.free,I.freeC,I.pin,I.hok,I.len⟩
theorem SP.unwish {D:Ends} {f:Flow} {s':Shared} (h:SP (X.wish E) pins D f s'):SP X pins D f s':=by
 cases f with
 | next=>obtain ⟨σ',H',I,q⟩:=h;exact ⟨σ',H',I.unwish,q⟩
 | brk=>obtain ⟨σ',H',I,q⟩:=h;exact ⟨σ',H',I.unwish,q⟩
 | cont=>obtain ⟨σ',H',I,q⟩:=h;exact ⟨σ',H',I.unwish,q⟩
 | ret u=>obtain ⟨v,σ',H',I,r,q⟩:=h;exact ⟨v,σ',H',I.unwish,r,q⟩
theorem PSs.nox {st:List Stmt} {t:TS} (h:PSs X.nox st t):PSs X st t:=fun pins s σ H D I hw =>
 YT (h pins s σ H D (I.wish _) hw) (fun _ _ q=>q.unwish) fun _ _ z=>False.elim z
end
section
variable {X:Cx} {st:Stmt} {rest:List Stmt} {t u:TS} {e:Expr} {te:TE} {pos:Pos}
noncomputable def Ed:TS:=fun D σ H=>D.nx σ H
noncomputable def FE (t u:TS):TS:=fun D σ H=>t { D with nx:=u D } σ H
theorem zz:PSs X [] Ed:=fun _ _ σ H _ I h=>WM ⟨σ,H,I,h⟩
theorem xJ (h1:PS X st t) (h2:PSs X rest u):PSs X (st :: rest) (FE t u):=by
 intro pins s σ H D I h
 refine wpAny_execs_cons (thn (h1 pins s σ H { D with nx:=u D } I h) fun f s1 q=>?_)
 cases f with
 | next =>
  obtain ⟨σ',H',I',q⟩:=q
  exact h2 pins s1 σ' H' D I' q
 | ret v=>exact q
 | brk=>exact q
 | cont=>exact q
theorem rW (h1:PS X st t):PSs X [st] t:=by
 intro pins s σ H D I h
 refine wpAny_execs_cons (thn (h1 pins s σ H D I h) fun f s1 q=>?_)
 cases f with
 | next=>exact WM q
 | ret v=>exact q
 | brk=>exact q
 | cont=>exact q
theorem Inv.quiet {pins:Yp} {σ:St} {H:Hp} {s:Shared} (I:Inv X pins σ H s):interactive X.env=false:=by simp [interactive,I.ok.kind]
noncomputable def Du (te:TE):TS:=fun D σ H=>te σ H fun _ H1=>D.nx σ H1
theorem iU (he:PE X e te) (hs:swapsWith e none pos.line X.env=pure false:=by rfl):PS X (.Expr e pos) (Du te):=by
 intro pins s σ H D I h
 exact wpAny_Expr_any (thn (he pins s σ H _ I h) fun v s1 ⟨x,H1,I1,r1,q1⟩=>⟨σ,H1,I1,q1⟩) I.quiet hs
noncomputable def EZ (te:TE):TS:=fun D σ H=>te σ H D.rt
theorem qM (he:PE X e te):PS X (.Return (some e) pos) (EZ te):=by
 intro pins s σ H D I h
 exact wpAny_Return_some (thn (he pins s σ H _ I h) fun v s1 ⟨x,H1,I1,r1,q1⟩=>⟨x,σ,H1,I1,r1,q1⟩)
noncomputable def FF (c:TT) (t u:TS):TS:=fun D σ H=>c σ H fun b H1=>if b=true then t D σ H1 else u D σ H1
theorem DR {c:Expr} {a b:List Stmt} {tc:TT} (hc:PT X c tc) (ha:PSs X a t) (hb:PSs X b u):PS X (.If c a b pos) (FF tc t u):=by
 intro pins s σ H D I h
 refine wpAny_If (thn (hc pins s σ H _ I h) fun d s1 ⟨H1,I1,q1⟩=>?_)
 cases d with
 | true=>exact ha pins s1 σ H1 D I1 q1
 | false=>exact hb pins s1 σ H1 D I1 q1
end
noncomputable abbrev TG:=V->St->Hp->(St->Hp->Prop)->Prop
noncomputable abbrev TGs:=List V->St->Hp->(St->Hp->Prop)->Prop
noncomputable def PG (X:Cx) (target:Expr) (t:TG):Prop :=
 ∀ (pins:Yp) (s:Shared) (σ:St) (H:Hp) (v:V) (u:Value) (Q:St->Hp->Prop),Inv X pins σ H s->RelV v u->t v σ H Q →
  wpAny (model X.prog X.w) X.A (assign target X.env u) (fun _ s'=>∃ σ' H',Inv X pins σ' H' s'/\Q σ' H') X.xe s
noncomputable def PGs (X:Cx) (ts:List Expr) (t:TGs):Prop :=
 ∀ (pins:Yp) (s:Shared) (σ:St) (H:Hp) (vs:List V) (us:Xb) (Q:St->Hp->Prop),Inv X pins σ H s->aQ vs us->t vs σ H Q →
  wpAny (model X.prog X.w) X.A (assignInOrder ((assignEach ts X.env).map (·.2)) us) (fun _ s'=>∃ σ' H',Inv X pins σ' H' s'/\Q σ' H') X.xe s
noncomputable abbrev Ae:=V->V->V->Hp->(Hp->Prop)->Prop
noncomputable def CY (X:Cx) (t:Ae):Prop :=
 ∀ (pins:Yp) (s:Shared) (σ:St) (H:Hp) (o i v:V) (ov iv u:Value) (Q:Hp->Prop),Inv X pins σ H s->RelV o ov->RelV i iv->RelV v u->t o i v H Q →
  wpAny (model X.prog X.w) X.A (setItem ov iv u) (fun _ s'=>∃ H',Inv X pins σ H' s'/\Q H') X.xe s
section
variable {X:Cx} {pos:Pos}
noncomputable def sT (i:Nat):TG:=fun v σ H Q=>Q (σ.set i (some v)) H
theorem oF {i:Nat} {x:Str} (hN:X.N.Nodup) (hi:X.N[i]?=some x) (hx:Loc X.env.scope x) (hf:X.fn x=true\/X.env.scope.names.lookup x=some .local:=by first | exact .inl rfl | exact .inr rfl | assumption):PG X (.Name x pos) (sT i):=by
 intro pins s σ H v u Q I r h
 exact wpAny_assign_Name (oZ I hN hi hx r (fun s' I'=>⟨_,H,I',h⟩) hf)
noncomputable def Fe:TGs:=fun vs σ H Q=>vs=[]/\Q σ H
noncomputable def Eu (t:TG) (u:TGs):TGs:=fun vs σ H Q=>∃ v r,vs=v :: r/\t v σ H fun σ' H'=>u r σ' H' Q
theorem yW:PGs X [] Fe:=by
 intro pins s σ H vs us Q I r h
 obtain ⟨e,h⟩:=h
 subst e
 cases r
 exact assignInOrder_nil ⟨σ,H,I,h⟩
theorem xX {e:Expr} {es:List Expr} {t:TG} {u:TGs} (h1:PG X e t) (h2:PGs X es u)
  (hs:(assignEach (e :: es) X.env).map (·.2)=assign e X.env :: (assignEach es X.env).map (·.2):=by rfl):PGs X (e :: es) (Eu t u):=by
 intro pins s σ H vs us Q I r h
 obtain ⟨v,vr,e1,h⟩:=h
 subst e1
 cases r with
 | cons r rr =>
  rw [hs]
  refine assignInOrder_cons (thn (h1 pins s σ H _ _ _ I r h) fun _ s1 ⟨σ1,H1,I1,q1⟩=>?_)
  exact h2 pins s1 σ1 H1 _ _ Q I1 rr q1
noncomputable def jM (K:Xs) (n:Nat) (t:TGs):TG:=fun v σ H Q=>∃ a xs,v=.ref a/\SqT K H a xs/\xs.length=n/\t xs σ H Q
theorem Bh {es:List Expr} {k:Nat} {t:TGs} {n:Nat} (hc:X.calm=true) (h:PGs X es t)
  (hn:(assignEach es X.env).length=n:=by rfl) (hst:(assignEach es X.env).findIdx? (·.1)=none:=by rfl):PG X (.Tuple es k pos) (jM X.K n t):=by
 intro pins s σ H v u Q I r hw
 obtain ⟨a,xs,e1,hq,hl,hw⟩:=hw
 subst e1
 cases r
 obtain ⟨its,rv,ht,hz⟩:=I.tuple hq
 refine assign_Tuple_tuple (I.ok.hd hc) ht (by simp [hn,← hl,rv.length]) hst fun h' hx=>?_
 have I1:Inv X pins σ H { s with heap:=h' }:=I.kept (t':=s.toks) fun b o e=>hx b o (ZL (ZU e)) e
 exact h pins _ σ H xs _ Q I1 (by simpa using rv) hw
noncomputable def Fq (to ti:TE) (t:Ae):TG:=fun v σ H Q=>to σ H fun o H1=>ti σ H1 fun i H2=>t o i v H2 fun H3=>Q σ H3
theorem CC {o i:Expr} {to ti:TE} {t:Ae} (ho:PE X o to) (hi:PE X i ti) (hs:CY X t)
  (ha:∀ v,assign (.Subscript o i pos) X.env v=(do
   let ov ← holding [v] (eval o X.env)
   let iv ← holding [v,ov] (eval i X.env)
   standAt pos
   holding [v,ov,iv] (setItem ov iv v)
   release [v,ov,iv] []):=by intro _;rfl):PG X (.Subscript o i pos) (Fq to ti t):=by
 intro pins s σ H v u Q I r h
 rw [ha]
 refine Zy (YF (thn (ho pins s σ H _ I h) fun ov s1 ⟨x,H1,I1,r1,q1⟩=>?_))
 refine Zy (YF (thn (hi pins s1 σ H1 _ I1 q1) fun iv s2 ⟨y,H2,I2,r2,q2⟩=>?_))
 refine Zy (wpAny_standAt (Zy (YF (thn (hs pins s2 σ H2 x y v ov iv u _ I2 r1 r2 r q2) fun _ s3 ⟨H3,I3,q3⟩=>?_))))
 exact wpAny_release ⟨σ,H3,I3,q3⟩
noncomputable def DQ (te:TE) (g:TG):TS:=fun D σ H=>te σ H fun x H1=>g x σ H1 D.nx
theorem BA {tg e:Expr} {te:TE} {g:TG} (he:PE X e te) (hg:PG X tg g) (hs:swapsWithSole [tg] e pos.line X.env=pure false:=by rfl) (hw:swappedStores [tg] e X.env=pure none:=by rfl)
  (h1:(assignEach [tg] X.env).map (·.2)=[assign tg X.env]:=by rfl):PS X (.Assign [tg] e pos) (DQ te g):=by
 intro pins s σ H D I h
 refine wpAny_Assign_stores (thn (he pins s σ H _ I h) fun v s1 ⟨x,H1,I1,r1,q1⟩=>?_) hs hw
 rw [h1]
 exact thn (hg pins s1 σ H1 x v _ I1 r1 q1) fun _ s2 q=>q
theorem vM {i:Nat} {x:Str} {e:Expr} {te:TE} {pos':Pos} (hN:X.N.Nodup) (hi:X.N[i]?=some x) (hx:Loc X.env.scope x) (he:PE X e te) (hs:swapsWith e (some (.Name x pos')) pos.line X.env=pure false:=by rfl) (hf:X.fn x=true\/X.env.scope.names.lookup x=some .local:=by first | exact .inl rfl | exact .inr rfl | assumption) :
  PS X (.Assign [.Name x pos'] e pos) (DQ te (sT i)):=by
 intro pins s σ H D I h
 refine wpAny_Assign_Name (thn (he pins s σ H _ I h) fun v s1 ⟨y,H1,I1,r1,q1⟩=>?_) hs
 exact oZ I1 hN hi hx r1 (fun s2 I2=>⟨_,H1,I2,q1⟩) hf
end
section
variable {X:Cx} {pos:Pos}
noncomputable def Ca (c:TT) (tb:TS):TS:=fun D σ H=>∃ W:Nat->St->Hp->Prop,(∃ m,W m σ H)/\∀ m σ H,W m σ H →
 c σ H fun b H1=>if b=true then ∃ N:St->Hp->Prop,(∀ σ' H',N σ' H'->∃ m',m' < m/\W m' σ' H')/\tb { D with nx:=N,ct:=N,bk:=D.nx } σ H1 else D.nx σ H1
theorem wB {c:Expr} {body:List Stmt} {tc:TT} {tb:TS} (hp:PassesOwn (model X.prog X.w) X.A X.env X.xe) (hc:PT X c tc) (hb:PSs X body tb):PS X (.While c body [] pos) (Ca tc tb):=by
 intro pins s σ H D I h
 obtain ⟨W,⟨m0,w0⟩,turn⟩:=h
 refine wpAny_While (codeAny_whileLoop (fun n s'=>∃ σ' H',Inv X pins σ' H' s'/\W n σ' H') ?_ m0 ⟨σ,H,I,w0⟩)
 rintro n s1 ⟨σ1,H1,I1,w1⟩
 refine Xk hp (thn (hc pins s1 σ1 H1 _ I1 (turn n σ1 H1 w1)) fun b s2 ⟨H2,I2,q2⟩=>?_)
 cases b with
 | true =>
  obtain ⟨N,hN,q2⟩:=q2
  rw [Zs rfl]
  refine Xk hp (thn (hb pins s2 σ1 H2 _ I2 q2) fun f s3 q3=>?_)
  cases f with
  | next =>
   obtain ⟨σ3,H3,I3,n3⟩:=q3
   obtain ⟨m',hm,w3⟩:=hN σ3 H3 n3
   exact ⟨m',hm,σ3,H3,I3,w3⟩
  | cont =>
   obtain ⟨σ3,H3,I3,n3⟩:=q3
   obtain ⟨m',hm,w3⟩:=hN σ3 H3 n3
   exact ⟨m',hm,σ3,H3,I3,w3⟩
  | brk=>exact q3
  | ret v=>exact q3
 | false =>
  rw [Zp Zi]
  exact WM ⟨σ1,H2,I2,q2⟩
end
structure It where
 go:Nat->Hp->Prop
 yld:Nat->Hp->V->Hp->Prop
 stop:Nat->Hp->Prop
noncomputable def jf (X:Cx) (pins:Yp) (H:Hp) (b:Addr):Prop :=
 H b=none/\b ≠ X.env.locals/\b ∉ X.fs/\(b∈X.ex\/X.s₀.heap.objs.size<=b)/\(∀ x c,X.env.cells.lookup x=some c->c ≠ b)/\∀ p∈X.pn++pins,p.1 ≠ b
theorem Inv.fpOk {X:Cx} {pins:Yp} {σ:St} {H H':Hp} {s:Shared} {b:Addr} (I:Inv X pins σ H s) (hb:s.heap.objs.size<=b) (hn:H' b=none):jf X pins H' b:=by
 refine ⟨hn,W1 (ZA I.lt hb),I.nofs hb,.inr (ZW I.sz hb),fun x c e z=>?_,fun p hp z=>?_⟩
 ·obtain ⟨v,q⟩:=I.cell x c e
  exact absurd (ZA q.lt (by rw [z];exact hb)) (Xp _)
 ·exact absurd (ZA (ZU (I.pin p hp).1) (by rw [z];exact hb)) (Xp _)
structure Turn (P:Program) (w:World) (K:Xs) (tg:Expr) (J:It) (fp:Xf) (it:Addr) (tn:Nat->Heap->Prop):Prop where
 mem:it∈fp
 obj:∀ i h,tn i h->∀ b∈fp,∃ o,h.get? b=some o/\∀ v,o.data ≠ .cell v
 keep:∀ i h h',tn i h->(∀ b∈fp,∀ o,h.get? b=some o->h'.get? b=some o)->tn i h'
 item:∀ (X:Cx),X.prog=P->X.w=w->X.K=K->X.calm=true->∀ (i:Nat) (pins:Yp) (s:Shared) (σ:St) (H:Hp) (E:Yy),Inv X pins σ H s->(∀ b∈fp,jf X pins H b)->tn i s.heap->J.go i H →
  wpAny (model P w) X.A (pyNext (.ref it)) (fun r s1=>∃ u,r=some u ∧
   wpAny (model P w) X.A (letOwnedTupleGo tg (.ref it) u) (fun _ s2=>∃ x H',Inv X pins σ H' s2/\RelV x u/\J.yld i H x H'/\tn (i+1) s2.heap/\∀ b∈fp,H' b=none) E s1) E s
 done:∀ (X:Cx),X.prog=P->X.w=w->X.K=K->X.calm=true->∀ (i:Nat) (pins:Yp) (s:Shared) (σ:St) (H:Hp) (E:Yy),Inv X pins σ H s->(∀ b∈fp,jf X pins H b)->tn i s.heap->J.stop i H →
  wpAny (model P w) X.A (pyNext (.ref it)) (fun r s1=>r=none/\Inv X pins σ H s1) E s
 self:∀ (A:Around) (i:Nat) (s:Shared) (Q:Yy) (E:Yy),tn i s.heap->Q (.ref it) s->wpAny (model P w) A (pyIter (.ref it)) Q E s
noncomputable abbrev TI:=St->Hp->(It->Hp->Prop)->Prop
noncomputable def PIE (X:Cx) (pins:Yp) (σ:St) (tg:Expr) (R:It->Hp->Prop) (itv:Value) (s2:Shared):Prop :=
 ∃ (it:Addr) (fp:Xf) (tn:Nat->Heap->Prop) (J:It) (H':Hp),itv=.ref it/\Inv X pins σ H' s2/\Turn X.prog X.w X.K tg J fp it tn/\tn 0 s2.heap/\(∀ b∈fp,jf X pins H' b)/\R J H'
noncomputable def PI (X:Cx) (tg iter:Expr) (wi:TI):Prop :=
 ∀ (pins:Yp) (s:Shared) (σ:St) (H:Hp) (R:It->Hp->Prop),Inv X pins σ H s->wi σ H R →
  wpAny (model X.prog X.w) X.A (eval iter X.env) (fun v s1=>wpAny (model X.prog X.w) X.A (pyIter v) (PIE X pins σ tg R) X.xe s1) X.xe s
theorem qv {M:Model} {A:Around} {E:Yy} {s:Shared} {tg:Expr} {it:Addr} {u:Value} {o:Obj} {n:String} {vs:Array Value} {Q:Unit->Shared->Prop} (ho:s.heap.get? it=some o) (hc:o.cls=.type n) (hd:o.data=.fields vs)
  (hn:["enumerate", "zip", "dict_itemiterator", "dict_reverseitemiterator", "odict_iterator", "itertools.zip_longest", "itertools.pairwise"].contains n=false) (hQ:Q () s):wpAny M A (letOwnedTupleGo tg (.ref it) u) Q E s:=by
 unfold letOwnedTupleGo
 cases tg <;> first
  | exact Zq hQ
  | (cases u <;> first
    | exact Zq hQ
    | (refine Zy (wpAny_load ho ?_)
       rw [hc,hd]
       show wpAny M A (if (["enumerate", "zip", "dict_itemiterator", "dict_reverseitemiterator", "odict_iterator", "itertools.zip_longest", "itertools.pairwise"].contains n && vs[0]? == some (rawInt _))=true then _ else _) Q E s
       rw [Zp (by intro h;rw [hn,Bool.false_and] at h;cases h)]
       exact Zq hQ))
noncomputable def Itl (K:Xs) (a:Addr):It :=
 ⟨fun i H=>∃ xs x,SqL K H a xs/\xs[i]?=some x,fun i H x H'=>H'=H/\∀ xs,SqL K H a xs->xs[i]?=some x,fun i H=>∃ xs,SqL K H a xs/\xs.length<=i⟩
noncomputable def Itt (K:Xs) (a:Addr):It :=
 ⟨fun i H=>∃ xs x,SqT K H a xs/\xs[i]?=some x,fun i H x H'=>H'=H/\∀ xs,SqT K H a xs->xs[i]?=some x,fun i H=>∃ xs,SqT K H a xs/\xs.length<=i⟩
noncomputable def Itr (lo:Int) (n:Nat):It:=⟨fun i _=>i < n,fun i H x H'=>H'=H/\x=.int (lo+i),fun i _=>n<=i⟩
theorem mK {P:Program} {w:World} {K:Xs} {tg:Expr} (a it:Addr):Turn P w K tg (Itl K a) [it] it (fun i h=>h.IsListIter it a i) where
 mem:=by simp
 obj:=fun i h st b hb=>by
  have e:b=it:=by simpa using hb
  subst e
  obtain ⟨o,e,c,d⟩:=st
  exact ⟨o,e,fun v z=>by rw [d] at z;cases z⟩
 keep:=fun i h h' st k=>st.at fun o e=>k it (by simp) o e
 item:=by
  intro X hP hw hK hc i pins s σ H E I hf st hg
  subst hP hw hK
  obtain ⟨xs,x,hq,hx⟩:=hg
  obtain ⟨its,rv,p,hz⟩:=I.list hq
  obtain ⟨u,hu,ru⟩:=rv.get hx
  obtain ⟨f0,f1,f2,f3,f4,f5⟩:=hf it (by simp)
  refine wpAny_pyNext_list_item st p.isList (x:=u) (by simpa using hu) fun h' st' sb=>?_
  have I1:Inv X pins σ H { s with heap:=h' }:=I.turned (t':=s.toks) (fun b o hb e=>(sb.2 b hb).trans e) f0 f1 f3 f4 f5
  obtain ⟨o,e,c,d⟩:=id st'
  exact ⟨u,rfl,qv (s:={ s with heap:=h' }) e c d (by decide) ⟨x,H,I1,ru,⟨rfl,fun ys hy=>by rw [I.list_inj hy hq];exact hx⟩,st',fun b hb=>(hf b hb).1⟩⟩
 done:=by
  intro X hP hw hK hc i pins s σ H E I hf st hg
  subst hP hw hK
  obtain ⟨xs,hq,hx⟩:=hg
  obtain ⟨its,rv,p,hz⟩:=I.list hq
  obtain ⟨f0,f1,f2,f3,f4,f5⟩:=hf it (by simp)
  have hl:=rv.length
  exact wpAny_pyNext_list_end (I.ok.hd hc) st p.isList (by simp;lia) fun h' eb=>⟨rfl,I.turned (t':=s.toks) (fun b o hb e=>eb b o hb e) f0 f1 f3 f4 f5⟩
 self:=fun _ _ _ _ _ st h=>wpAny_pyIter_listiter st h
theorem lS {P:Program} {w:World} {K:Xs} {tg:Expr} (a it:Addr):Turn P w K tg (Itt K a) [it] it (fun i h=>h.IsTupleIter it a i) where
 mem:=by simp
 obj:=fun i h st b hb=>by
  have e:b=it:=by simpa using hb
  subst e
  obtain ⟨o,e,c,d⟩:=st
  exact ⟨o,e,fun v z=>by rw [d] at z;cases z⟩
 keep:=fun i h h' st k=>st.at fun o e=>k it (by simp) o e
 item:=by
  intro X hP hw hK hc i pins s σ H E I hf st hg
  subst hP hw hK
  obtain ⟨xs,x,hq,hx⟩:=hg
  obtain ⟨its,rv,p,hz⟩:=I.tuple hq
  obtain ⟨u,hu,ru⟩:=rv.get hx
  obtain ⟨f0,f1,f2,f3,f4,f5⟩:=hf it (by simp)
  refine wpAny_pyNext_tuple_item st (show s.heap.IsTuple a its.toArray from p) (x:=u) (by simpa using hu) fun h' st' sb=>?_
  have I1:Inv X pins σ H { s with heap:=h' }:=I.turned (t':=s.toks) (fun b o hb e=>(sb.2 b hb).trans e) f0 f1 f3 f4 f5
  obtain ⟨o,e,c,d⟩:=id st'
  exact ⟨u,rfl,qv (s:={ s with heap:=h' }) e c d (by decide) ⟨x,H,I1,ru,⟨rfl,fun ys hy=>by rw [I.tuple_inj hy hq];exact hx⟩,st',fun b hb=>(hf b hb).1⟩⟩
 done:=by
  intro X hP hw hK hc i pins s σ H E I hf st hg
  subst hP hw hK
  obtain ⟨xs,hq,hx⟩:=hg
  obtain ⟨its,rv,p,hz⟩:=I.tuple hq
  obtain ⟨f0,f1,f2,f3,f4,f5⟩:=hf it (by simp)
  have hl:=rv.length
  exact wpAny_pyNext_tuple_end (I.ok.hd hc) st (show s.heap.IsTuple a its.toArray from p) (by simp;lia) fun h' eb=>⟨rfl,I.turned (t':=s.toks) (fun b o hb e=>eb b o hb e) f0 f1 f3 f4 f5⟩
 self:=fun _ _ _ _ _ st h=>wpAny_pyIter_tupleiter st h
theorem qU {P:Program} {w:World} {K:Xs} {tg:Expr} (it:Addr) (lo:Int) (n:Nat):Turn P w K tg (Itr lo n) [it] it (fun i h=>IsRangeIter h it (lo+(i:Nat) * 1) ((n:Int) - (i:Nat)) 1) where
 mem:=by simp
 obj:=fun i h st b hb=>by
  have e:b=it:=by simpa using hb
  subst e
  exact ⟨_,st,fun v z=>by
   have z':Data.fields _=Data.cell v:=z
   cases z'⟩
 keep:=fun i h h' st k=>k it (by simp) _ st
 item:=by
  intro X hP hw hK hc i pins s σ H E I hf st hg
  subst hP hw hK
  obtain ⟨f0,f1,f2,f3,f4,f5⟩:=hf it (by simp)
  have W:=Walks.range (prog:=X.prog) (w:=X.w) (I.ok.hd hc) it lo 1 n
  refine W.item i s _ _ hg st fun v h' tk hv st' kk=>?_
  obtain ⟨t,rfl⟩:=hv
  have I1:Inv X pins σ H { s with heap:=h',toks:=tk }:=I.turned (fun b o hb e=>kk b o (by simpa using hb) e) f0 f1 f3 f4 f5
  refine ⟨_,rfl,qv (s:={ s with heap:=h',toks:=tk }) (n := "range_iterator") st' rfl rfl (by decide) ⟨.int (lo+i),H,I1,⟨t,?_⟩,⟨rfl,rfl⟩,st',fun b hb=>(hf b hb).1⟩⟩
  rw [Int.mul_one]
 done:=by
  intro X hP hw hK hc i pins s σ H E I hf st hg
  subst hP hw hK
  obtain ⟨f0,f1,f2,f3,f4,f5⟩:=hf it (by simp)
  exact wpAny_pyNext_range_end (I.ok.hd hc) st (by have:n<=i:=hg;lia) fun h' eb=>⟨rfl,I.turned (t':=s.toks) (fun b o hb e=>eb b o hb e) f0 f1 f3 f4 f5⟩
 self:=fun _ _ _ _ _ st h=>wpAny_pyIter_rangeiter st h
section
variable {X:Cx} {tg:Expr}
theorem xa {pins:Yp} {σ:St} {H:Hp} {s:Shared} {R:It->Hp->Prop} {E:Yy} {lo hi:Int} {t u v:Tok} {tk:Nat} (I:Inv X pins σ H s) (h1:-(2 ^ 62)<=lo) (h2:lo < 2 ^ 62) (h3:-(2 ^ 62)<=hi) (h4:hi < 2 ^ 62)
  (q:R (Itr lo (hi - lo).toNat) H):wpAny (model X.prog X.w) X.A (pyIter (.ref s.heap.objs.size)) (PIE X pins σ tg R) E { s with heap:=s.heap.push { cls:=.type "range",data:=.fields #[.int lo t,.int hi u,.int 1 v] },toks:=tk }:=by
 refine wpAny_pyIter_range (IsRange.new ..) (small_one h1 h2 h3 h4) ?_
 have I1:Inv X pins σ H { s with heap:=s.heap.push { cls:=.type "range",data:=.fields #[.int lo t,.int hi u,.int 1 v] },toks:=tk }:=I.kept fun b o e=>Ze _ e
 refine ⟨(s.heap.push { cls:=.type "range",data:=.fields #[.int lo t,.int hi u,.int 1 v] }).objs.size,[(s.heap.push { cls:=.type "range",data:=.fields #[.int lo t,.int hi u,.int 1 v] }).objs.size],_,_,H,rfl,
  I1.kept (t':=tk) fun b o e=>Ze _ e,qU _ lo (hi - lo).toNat,?_,fun b hb=>?_,q⟩
 ·have e1:lo+((0:Nat):Int) * 1=lo:=by simp
  have e2:(((hi - lo).toNat:Nat):Int) - ((0:Nat):Int)=Builtin.Range.rangeSize lo hi 1:=by rw [rangeSize_one];split <;> lia
  show IsRangeIter _ _ (lo+((0:Nat):Int) * 1) ((((hi - lo).toNat:Nat):Int) - ((0:Nat):Int)) 1
  rw [e1,e2]
  exact ZV _ rfl
 ·have e:b=(s.heap.push { cls:=.type "range",data:=.fields #[.int lo t,.int hi u,.int 1 v] }).objs.size:=by simpa using hb
  subst e
  exact I1.fpOk (Zr _) (I1.hok.fresh (Zr _))
noncomputable def Dj (ta:TA):TI:=fun σ H R=>ta σ H fun vs H1=>∃ j:Int,vs=[.int j]/\-(2 ^ 62)<=j/\j < 2 ^ 62/\R (Itr 0 j.toNat) H1
theorem t9 {a:Expr} {ta:TA} {p pos:Pos} (hg:Gl X "range") (hm:X.mg "range" = none) (ha:PA X [a] ta) (hs:starEach [a] X.env=[(false,eval a X.env)]:=by rfl):PI X tg (.Call (.Name "range" p) [a] [] pos) (Dj ta):=by
 intro pins s σ H R I h
 refine Call_ (j3 I hg hm boot_range (X9 (thn (ha pos pins s σ H _ I h) fun us s1 ⟨vs,H1,I1,r1,q1⟩=>?_) hs rfl))
 obtain ⟨j,e,q1,q2,q⟩:=q1
 subst e
 cases r1 with
 | cons r rr =>
  cases rr
  obtain ⟨t,rfl⟩:=r
  exact call_range_1 (xa I1 (by lia) (by lia) q1 q2 (by simpa using q))
noncomputable def ER (wi:TI) (g:TG) (tb:TS):TS:=fun D σ H=>wi σ H fun J H1=>∃ W:Nat->Nat->St->Hp->Prop,(∃ m,W 0 m σ H1)/\∀ i m σ H,W i m σ H →
 (J.stop i H/\D.nx σ H)\/(J.go i H/\∃ N:St->Hp->Prop,(∀ σ' H',N σ' H'->∃ m',m' < m/\W (i+1) m' σ' H')/\∀ x H',J.yld i H x H'->g x σ H' fun σ2 H2=>tb { D with nx:=N,ct:=N,bk:=D.nx } σ2 H2)
noncomputable def lU (fp:Xf) (h:Heap):Yp:=fp.filterMap fun b=>(h.get? b).map fun o=>(b,o)
theorem gM {fp:Xf} {h:Heap} {b:Addr} {o:Obj} (hb:b∈fp) (e:h.get? b=some o):(b,o)∈lU fp h:=WI.mpr ⟨b,hb,by rw [e];rfl⟩
theorem uz {fp:Xf} {h:Heap} {p:Addr×Obj} (hp:p∈lU fp h):p.1∈fp/\h.get? p.1=some p.2:=by
 obtain ⟨b,hb,e⟩:=WI.mp hp
 cases q:h.get? b with
 | none=>rw [q] at e;cases e
 | some o =>
  rw [q] at e
  have e':(b,o)=p:=ZI e
  subst e'
  exact ⟨hb,q⟩
theorem Inv.pinned {pins:Yp} {σ:St} {H:Hp} {s:Shared} {fp:Xf} (I:Inv X pins σ H s) (hf:∀ b∈fp,jf X pins H b) (ho:∀ b∈fp,∃ o,s.heap.get? b=some o/\∀ v,o.data ≠ .cell v):Inv X (pins++lU fp s.heap) σ H s :=
 I.pins_of fun p hp=>(Zd.mp hp).elim (fun z=>I.pin p (Z2 _ z)) fun z=>by
  obtain ⟨hb,e⟩:=uz z
  obtain ⟨f0,f1,f2,_⟩:=hf p.1 hb
  obtain ⟨o,e',d⟩:=ho p.1 hb
  rw [e] at e';cases e'
  exact ⟨e,f0,f1,f2,d⟩
theorem Inv.unpinned {pins pl:Yp} {σ:St} {H:Hp} {s:Shared} (I:Inv X (pins++pl) σ H s):Inv X pins σ H s:=I.pins_of fun p hp=>I.pin p (Z2 _ (Y6 _ hp))
theorem wI {iter:Expr} {body:List Stmt} {wi:TI} {g:TG} {tb:TS} {pos:Pos} (hp:PassesOwn (model X.prog X.w) X.A X.env X.xe) (hc:X.calm=true) (hi:PI X tg iter wi) (hg:PG X tg g) (hb:PSs X body tb)
  (hs:∀ x,foldedSetIterable iter X.env x=pure x:=by intro _;rfl):PS X (.For tg iter body [] pos) (ER wi g tb):=by
 intro pins s σ H D I h
 refine wpAny_For (thn (hi pins s σ H _ I h) fun v s1 h1=>thn h1 fun itv s2 h2=>?_) hs
 obtain ⟨it,fp,tn,J,H2,e,I2,T,st2,f2,W,⟨m0,w0⟩,turn⟩:=h2
 subst e
 have stat:∀ {H':Hp},(∀ b∈fp,H' b=none)->∀ b∈fp,jf X pins H' b:=fun hn b hb=>⟨hn b hb,(f2 b hb).2⟩
 refine codeAny_forLoop_any (fun n s'=>∃ i σ' H',Inv X pins σ' H' s'/\tn i s'.heap/\(∀ b∈fp,H' b=none)/\W i n σ' H') ?_ m0 ⟨0,σ,H2,I2,st2,fun b hb=>(f2 b hb).1,w0⟩
 rintro n s3 ⟨i,σ3,H3,I3,st3,fr3,w3⟩
 rcases turn i n σ3 H3 w3 with ⟨stop,qn⟩ | ⟨go,N,hN,step⟩
 ·refine Xk hp (thn (T.done X rfl rfl rfl hc i pins s3 σ3 H3 X.xe I3 (stat fr3) st3 stop) fun r s4 ⟨hr,I4⟩=>?_)
  subst hr
  exact WM ⟨σ3,H3,I4,qn⟩
 ·refine Xk hp (thn (T.item X rfl rfl rfl hc i pins s3 σ3 H3 X.xe I3 (stat fr3) st3 go) fun r s4 ⟨u,hr,h4⟩=>?_)
  subst hr
  refine Xk hp (thn h4 fun _ s5 ⟨x,H5,I5,r5,y5,st5,fr5⟩=>?_)
  have I5':=I5.pinned (stat fr5) (T.obj _ _ st5)
  refine Xk hp (thn (hg _ s5 σ3 H5 x u _ I5' r5 (step x H5 y5)) fun _ s6 ⟨σ6,H6,I6,q6⟩=>?_)
  refine Xk hp (thn (hb _ s6 σ6 H6 _ I6 q6) fun f s7 q7=>?_)
  have again:∀ {σ7:St} {H7:Hp},Inv X (pins++lU fp s5.heap) σ7 H7 s7->N σ7 H7->∃ m,m < n/\∃ i σ' H',Inv X pins σ' H' s7/\tn i s7.heap/\(∀ b∈fp,H' b=none)/\W i m σ' H':=fun {σ7 H7} I7 n7=>by
   obtain ⟨m',hm,w7⟩:=hN σ7 H7 n7
   refine ⟨m',hm,i+1,σ7,H7,I7.unpinned,T.keep _ _ _ st5 fun b hb o e=>(I7.pin (b,o) (Z2 _ (Z2 _ (gM hb e)))).1,fun b hb=>?_,w7⟩
   obtain ⟨o,e,d⟩:=T.obj _ _ st5 b hb
   exact (I7.pin (b,o) (Z2 _ (Z2 _ (gM hb e)))).2.1
  cases f with
  | next=>obtain ⟨σ7,H7,I7,n7⟩:=q7;exact again I7 n7
  | cont=>obtain ⟨σ7,H7,I7,n7⟩:=q7;exact again I7 n7
  | brk=>obtain ⟨σ7,H7,I7,q7⟩:=q7;exact ⟨σ7,H7,I7.unpinned,q7⟩
  | ret v=>obtain ⟨x7,σ7,H7,I7,r7,q7⟩:=q7;exact ⟨x7,σ7,H7,I7.unpinned,r7,q7⟩
end
noncomputable abbrev R2:=V->V->Hp->VK->Prop
noncomputable def OpR (X:Cx) (f:Value->Value->Sem Value) (r:R2):Prop :=
 ∀ (pins:Yp) (s:Shared) (σ:St) (H:Hp) (x y:V) (v u:Value) (Q:VK),Inv X pins σ H s->RelV x v->RelV y u->r x y H Q →
  wpAny (model X.prog X.w) X.A (f v u) (EP X pins σ Q) X.xe s
noncomputable def UnR (X:Cx) (f:Value->Sem Value) (r:V->Hp->VK->Prop):Prop :=
 ∀ (pins:Yp) (s:Shared) (σ:St) (H:Hp) (x:V) (v:Value) (Q:VK),Inv X pins σ H s->RelV x v->r x H Q →
  wpAny (model X.prog X.w) X.A (f v) (EP X pins σ Q) X.xe s
noncomputable def eZ (X:Cx) (f:Value) (r:List V->Hp->VK->Prop):Prop :=
 ∀ (pins:Yp) (s:Shared) (σ:St) (H:Hp) (xs:List V) (us:Xb) (Q:VK),Inv X pins σ H s->aQ xs us->r xs H Q →
  wpAny (model X.prog X.w) X.A (call f us) (EP X pins σ Q) X.xe s
noncomputable def ES (X:Cx) (r:V->Hp->(Bool->Hp->Prop)->Prop):Prop :=
 ∀ (pins:Yp) (s:Shared) (σ:St) (H:Hp) (x:V) (v:Value) (Q:Bool->Hp->Prop),Inv X pins σ H s->RelV x v->r x H Q →
  wpAny (model X.prog X.w) X.A (truthy v) (TP X pins σ Q) X.xe s
noncomputable def tOp (r:R2) (ta tb:TE):TE:=fun σ H Q=>ta σ H fun x H1=>tb σ H1 fun y H2=>r x y H2 Q
noncomputable def tUn (r:V->Hp->VK->Prop) (ta:TE):TE:=fun σ H Q=>ta σ H fun x H1=>r x H1 Q
noncomputable def rI (C:Int->Int->Prop) (g:Int->Int->V):R2:=fun x y H Q=>∃ i j,x=.int i/\y=.int j/\C i j/\Q (g i j) H
noncomputable def rI0 (g:Int->Int->V):R2:=fun x y H Q=>∃ i j,x=.int i/\y=.int j/\Q (g i j) H
noncomputable def rU (g:Int->V):V->Hp->VK->Prop:=fun x H Q=>∃ i,x=.int i/\Q (g i) H
section
variable {X:Cx} {a b c:Expr} {ta tb tc:TE} {pos:Pos}
theorem Ck (ha:PE X a ta) (hb:PE X b tb) {pins:Yp} {s:Shared} {σ:St} {H:Hp} {R:V->V->Hp->Prop} (I:Inv X pins σ H s)
  (h:ta σ H fun x H1=>tb σ H1 fun y H2=>R x y H2) {Q:Yy} {f:Value->Value->Sem Value}
  (hf:∀ v u s2 x y H2,Inv X pins σ H2 s2->RelV x v->RelV y u->R x y H2->wpAny (model X.prog X.w) X.A (f v u) Q X.xe s2) :
  wpAny (model X.prog X.w) X.A (eval a X.env) (fun v s₁=>wpAny (model X.prog X.w) X.A (eval b X.env) (fun u s₂=>wpAny (model X.prog X.w) X.A (f v u) Q X.xe s₂) X.xe s₁) X.xe s:=by
 refine thn (ha pins s σ H _ I h) fun v s1 ⟨x,H1,I1,r1,q1⟩=>?_
 refine thn (hb pins s1 σ H1 _ I1 q1) fun u s2 ⟨y,H2,I2,r2,q2⟩=>?_
 exact hf v u s2 x y H2 I2 r1 r2 q2
theorem C5 {op:Operator} {r:R2} (ho:OpR X (binaryOp op) r) (ha:PE X a ta) (hb:PE X b tb):PE X (.BinOp a op b pos) (tOp r ta tb):=by
 intro pins s σ H Q I h
 exact wpAny_BinOp (Ck ha hb I h fun v u s2 x y H2 I2 rx ry q=>ho pins s2 σ H2 x y v u Q I2 rx ry q)
theorem DI {op:UnaryOp} {r:V->Hp->VK->Prop} (ho:UnR X (unaryOp op) r) (ha:PE X a ta):PE X (.UnaryOp op a pos) (tUn r ta):=by
 intro pins s σ H Q I h
 exact UnaryOp_ (thn (ha pins s σ H _ I h) fun v s1 ⟨x,H1,I1,r1,q1⟩=>ho pins s1 σ H1 x v Q I1 r1 q1)
theorem opI {f:Value->Value->Sem Value} {C:Int->Int->Prop} {g:Int->Int->Int}
  (rule:∀ (i j:Int) (t u:Tok) (s:Shared) (Q:Yy) (E:Yy),C i j->Q (.int (g i j) s.toks) { s with toks:=s.toks+1 }->wpAny (model X.prog X.w) X.A (f (.int i t) (.int j u)) Q E s) :
  OpR X f (rI C fun i j=>.int (g i j)):=by
 intro pins s σ H x y v u Q I rx ry h
 obtain ⟨i,j,rfl,rfl,hc,q⟩:=h
 obtain ⟨t,rfl⟩:=rx
 obtain ⟨t',rfl⟩:=ry
 exact rule i j t t' s _ _ hc ⟨.int (g i j),H,I.tok _,⟨_,rfl⟩,q⟩
theorem EH {f:Value->Value->Sem Value} {g:Int->Int->Int}
  (rule:∀ (i j:Int) (t u:Tok) (s:Shared) (Q:Yy) (E:Yy),Q (.int (g i j) s.toks) { s with toks:=s.toks+1 }->wpAny (model X.prog X.w) X.A (f (.int i t) (.int j u)) Q E s) :
  OpR X f (rI0 fun i j=>.int (g i j)):=by
 intro pins s σ H x y v u Q I rx ry h
 obtain ⟨i,j,rfl,rfl,q⟩:=h
 obtain ⟨t,rfl⟩:=rx
 obtain ⟨t',rfl⟩:=ry
 exact rule i j t t' s _ _ ⟨.int (g i j),H,I.tok _,⟨_,rfl⟩,q⟩
theorem yx {f:Value->Value->Sem Value} {g:Int->Int->Bool}
  (rule:∀ (i j:Int) (t u:Tok) (s:Shared) (Q:Yy) (E:Yy),Q (.bool (g i j)) s->wpAny (model X.prog X.w) X.A (f (.int i t) (.int j u)) Q E s) :
  OpR X f (rI0 fun i j=>.bl (g i j)):=by
 intro pins s σ H x y v u Q I rx ry h
 obtain ⟨i,j,rfl,rfl,q⟩:=h
 obtain ⟨t,rfl⟩:=rx
 obtain ⟨t',rfl⟩:=ry
 exact rule i j t t' s _ _ ⟨.bl (g i j),H,I,rfl,q⟩
noncomputable def Dm (i j:Int):Prop:=0 < j/\j < 1073741824
noncomputable def yg (i j:Int):Prop:=(-(2 ^ 64) < i/\i < 2 ^ 64)\/(-(2 ^ 64) < j/\j < 2 ^ 64)
theorem yg.ok {i j:Int} (h:yg i j):IntMulOk i j:=by
 rcases h with ⟨h1,h2⟩ | ⟨h1,h2⟩
 ·exact .of_left (intBits_le_64 h1 h2)
 ·exact .of_right (intBits_le_64 h1 h2)
theorem BW:OpR X (binaryOp .Add) (rI0 fun i j=>.int (i+j)):=EH fun _ _ _ _ _ _ _ q=>add_int q
theorem BV:OpR X (binaryOp .Sub) (rI0 fun i j=>.int (i - j)):=EH fun _ _ _ _ _ _ _ q=>sub_int q
theorem CB:OpR X (binaryOp .Mult) (rI yg fun i j=>.int (i * j)):=opI fun _ _ _ _ _ _ _ hc q=>mul_int q hc.ok
theorem zr:OpR X (binaryOp .FloorDiv) (rI Dm fun i j=>.int (i / j)):=opI fun i j _ _ _ _ _ hc q=>by
 have h1:(0:Int) < j:=hc.1
 have h2:j < 1073741824:=hc.2
 exact floordiv_int (by lia) (by rw [Int.fdiv_eq_ediv_of_nonneg i (by lia)];exact q) (.inl (PyProof.noPylong_small (by omega)))
theorem Cz:OpR X (binaryOp .Mod) (rI (fun _ j=>0 < j) fun i j=>.int (i % j)):=opI fun i j _ _ _ _ _ hc q=>by
 have h1:(0:Int) < j:=hc
 exact mod_int' (by lia) (by rw [Int.fmod_eq_emod_of_nonneg i (by lia)];exact q)
theorem unI {f:Value->Sem Value} {g:Int->Int}
  (rule:∀ (i:Int) (t:Tok) (s:Shared) (Q:Yy) (E:Yy),Q (.int (g i) s.toks) { s with toks:=s.toks+1 }->wpAny (model X.prog X.w) X.A (f (.int i t)) Q E s) :
  UnR X f (rU fun i=>.int (g i)):=by
 intro pins s σ H x v Q I rx h
 obtain ⟨i,rfl,q⟩:=h
 obtain ⟨t,rfl⟩:=rx
 exact rule i t s _ _ ⟨.int (g i),H,I.tok _,⟨_,rfl⟩,q⟩
theorem Cj:UnR X (unaryOp .USub) (rU fun i=>.int (-i)):=unI fun _ _ _ _ _ q=>neg_int q
end
section
variable {X:Cx} {a b c:Expr} {ta tb tc:TE} {pos:Pos}
theorem B6 {pins:Yp} {σ:St} {H:Hp} {s:Shared} {Q:VK} {k k':Bool} (I:Inv X pins σ H s) (q:Q (.bl k) H) (e:k=k'):EP X pins σ Q (.bool k') s:=by
 subst e
 exact ⟨.bl k,H,I,rfl,q⟩
theorem DL:OpR X (compareOp .Lt) (rI0 fun i j=>.bl (decide (i < j))):=yx fun _ _ _ _ _ _ _ q=>lt_int q
theorem EJ:OpR X (compareOp .LtE) (rI0 fun i j=>.bl (decide (i<=j))):=yx fun _ _ _ _ _ _ _ q=>le_int q
theorem Dq:OpR X (compareOp .Gt) (rI0 fun i j=>.bl (decide (j < i))):=yx fun _ _ _ _ _ _ _ q=>gt_int q
theorem DC:OpR X (compareOp .GtE) (rI0 fun i j=>.bl (decide (j<=i))):=yx fun _ _ _ _ _ _ _ q=>ge_int q
theorem tX:OpR X (compareOp .Lt) (fun x y H Q=>∃ i j,x=.str i/\y=.str j/\Q (.bl (decide (i.cps.toList < j.cps.toList))) H):=by
 intro pins s σ H x y v u Q I rx ry h
 obtain ⟨i,j,rfl,rfl,q⟩:=h
 obtain ⟨t,rfl⟩:=rx
 obtain ⟨t',rfl⟩:=ry
 exact lt_str (B6 I q rfl)
theorem OpR.or {f:Value->Value->Sem Value} {r r':R2} (h:OpR X f r) (h':OpR X f r'):OpR X f (fun x y H Q=>r x y H Q\/r' x y H Q):=by
 intro pins s σ H x y v u Q I rx ry q
 rcases q with q | q
 ·exact h pins s σ H x y v u Q I rx ry q
 ·exact h' pins s σ H x y v u Q I rx ry q
theorem kj (b:Expr) {op:CmpOp} (h:op ≠ .In:=by decide) (h2:op ≠ .NotIn:=by decide):behindInMarks op b=false:=by
 have e1:(op == CmpOp.In)=false:=by cases op <;> first | rfl | exact absurd rfl h
 have e2:(op == CmpOp.NotIn)=false:=by cases op <;> first | rfl | exact absurd rfl h2
 cases b <;> simp [behindInMarks,e1,e2]
theorem Ax {op:CmpOp} {r:R2} (ho:OpR X (compareOp op) r) (ha:PE X a ta) (hb:PE X b tb) (hm:behindInMarks op b=false):PE X (.Compare a [op] [b] pos) (tOp r ta tb):=by
 intro pins s σ H Q I h
 exact wpAny_Compare1 (Ck ha hb I h fun v u s2 x y H2 I2 rx ry q=>ho pins s2 σ H2 x y v u Q I2 rx ry q) hm
noncomputable def wG (t:TE):TT:=fun σ H Q=>t σ H fun x H'=>∃ k,x=.bl k/\Q k H'
theorem zD {op:CmpOp} {r:R2} (ho:OpR X (compareOp op) r) (ha:PE X a ta) (hb:PE X b tb) (hm:behindInMarks op b=false):PT X (.Compare a [op] [b] pos) (wG (tOp r ta tb)):=by
 intro pins s σ H Q I h
 refine wpAny_isTrue_Compare1 (thn (ha pins s σ H _ I h) fun v s1 ⟨x,H1,I1,r1,q1⟩=>thn (hb pins s1 σ H1 _ I1 q1) fun u s2 ⟨y,H2,I2,r2,q2⟩ =>
  thn (ho pins s2 σ H2 x y v u _ I2 r1 r2 q2) fun c s3 ⟨z,H3,I3,r3,k,e,q3⟩=>?_) hm
 subst e
 cases r3
 exact YV ⟨H3,I3,q3⟩
noncomputable def vn (r r':R2) (ta tb tc:TE):TE:=fun σ H Q=>ta σ H fun x H1=>tb σ H1 fun y H2=>r x y H2 fun z H3=>∃ k,z=.bl k ∧
 (if k=true then tc σ H3 fun w' H4=>r' y w' H4 Q else Q (.bl false) H3)
theorem vO {op op':CmpOp} {r r':R2} (ho:OpR X (compareOp op) r) (ho':OpR X (compareOp op') r') (ha:PE X a ta) (hb:PE X b tb) (hc:PE X c tc)
  (hm:lastMarks [op,op'] [b,c]=false:=by with_unfolding_all rfl):PT X (.Compare a [op,op'] [b,c] pos) (wG (vn r r' ta tb tc)):=by
 intro pins s σ H Q I h
 refine isTrue_chain (thn (ha pins s σ H _ I h) fun v s1 ⟨x,H1,I1,r1,q1⟩=>test_link (thn (hb pins s1 σ H1 _ I1 q1) fun u s2 ⟨y,H2,I2,r2,q2⟩ =>
  thn (ho pins s2 σ H2 x y v u _ I2 r1 r2 q2) fun d s3 ⟨z,H3,I3,r3,k,e,q3⟩=>?_)) hm
 subst e
 cases r3
 refine YV ?_
 cases k with
 | false =>
  obtain ⟨k',e',q'⟩:=q3
  cases e'
  exact ite_ff ⟨H3,I3,q'⟩
 | true =>
  refine ite_tt (test_last (thn (hc pins s3 σ H3 _ I3 q3) fun w' s4 ⟨z',H4,I4,r4,q4⟩=>thn (ho' pins s4 σ H4 y z' u w' _ I4 r2 r4 q4) fun d' s5 ⟨z2,H5,I5,r5,k2,e2,q5⟩=>?_))
  subst e2
  cases r5
  exact YV ⟨H5,I5,q5⟩
noncomputable def BF (K:Xs) (x:V) (H:Hp) (k:Bool):Prop :=
 match x with
 | .non=>k=false
 | .bl b=>k=b
 | .int i=>k=(i != 0)
 | .str y=>y.length<=sizeLine/\k=((y.length:Int) != 0)
 | .byt y=>y.size<=sizeLine/\k=((y.size:Int) != 0)
 | .ref p=>(∃ xs,SqL K H p xs/\k=!xs.isEmpty)\/(∃ xs,SqT K H p xs/\k=!xs.isEmpty)\/∃ kvs,H p=some (.dK kvs)/\k=!kvs.isEmpty
 | _=>False
theorem qS {κ:Type} {kvs:List (κ×V)} {vs:List (κ×Value)} (r:KV kvs vs):(!vs.isEmpty)=!kvs.isEmpty:=by
 cases r <;> rfl
theorem lz {xs:List V} {its:Xb} (r:aQ xs its):(!its.toArray.isEmpty)=!xs.isEmpty:=by
 cases r <;> simp
theorem j6:(sizeLine:Nat) < 2 ^ 63:=by rw [WC];decide
theorem Bo:ES X (fun x H Q=>∃ k,BF X.K x H k/\Q k H):=by
 intro pins s σ H x v Q I rx h
 obtain ⟨k,e,q⟩:=h
 have hl:=j6
 have hs:sizeLine=16777216:=WC
 cases x with
 | non =>
  cases rx
  have e':k=false:=e
  subst e'
  exact truthy_none ⟨H,I,q⟩
 | bl b =>
  cases rx
  have e':k=b:=e
  subst e'
  exact YV ⟨H,I,q⟩
 | int i =>
  obtain ⟨t,rfl⟩:=rx
  have e':k=(i != 0):=e
  subst e'
  exact PySem.P.truthy_int ⟨H,I,q⟩
 | str y =>
  obtain ⟨t,rfl⟩:=rx
  obtain ⟨hy,e'⟩:y.length<=sizeLine/\k=((y.length:Int) != 0):=e
  subst e'
  exact PySem.P.truthy_str (by lia) ⟨H,I.tok _,q⟩
 | byt y =>
  obtain ⟨t,rfl⟩:=rx
  obtain ⟨hy,e'⟩:y.size<=sizeLine/\k=((y.size:Int) != 0):=e
  subst e'
  exact PySem.W.truthy_bytes (by lia) ⟨H,I.tok _,q⟩
 | ref p =>
  cases rx
  have e':(∃ xs,SqL X.K H p xs/\k=!xs.isEmpty)\/(∃ xs,SqT X.K H p xs/\k=!xs.isEmpty)\/∃ kvs,H p=some (.dK kvs)/\k=!kvs.isEmpty:=e
  rcases e' with ⟨xs,hx,e'⟩ | ⟨xs,hx,e'⟩ | ⟨kvs,hx,e'⟩
  ·subst e'
   obtain ⟨its,r,pl,hz⟩:=I.list hx
   have hlen:=r.length
   exact wpAny_truthy_list pl.isList (by simp only [Zc];lia) ⟨H,I.tok _,by rw [lz r];exact q⟩
  ·subst e'
   obtain ⟨its,r,pl,hz⟩:=I.tuple hx
   have hlen:=r.length
   exact truthy_tuple pl (by simp only [Zc];lia) ⟨H,I.tok _,by rw [lz r];exact q⟩
  ·subst e'
   obtain ⟨hz,hS,vs,r,m⟩:kvs.length<=sizeLine/\(p == sysModules)=false/\∃ vs,KV kvs vs/\s.heap.DictOf (aU X.prog X.w) p vs:=I.hok p _ hx
   have hlen:kvs.length=vs.length:=WY r
   exact wpAny_truthy_dict hS m (by lia) ⟨H,I.tok _,by rw [qS r];exact q⟩
 | _=>exact (show False from e).elim
theorem xy (ha:PE X a ta) (he:∀ whole,isTrue a X.env whole=(do let v ← whole;standAt a.pos;holding [v] (truthy v))) :
  PT X a (fun σ H Q=>ta σ H fun x H'=>∃ k,BF X.K x H' k/\Q k H'):=by
 intro pins s σ H Q I h
 exact isTrue_plain (thn (ha pins s σ H _ I h) fun v s1 ⟨x,H1,I1,r1,q1⟩=>Bo pins s1 σ H1 x v Q I1 r1 q1) (he _)
theorem q9:OpR X (binaryOp .Add) (fun x y H Q=>∃ i j,x=.str i/\y=.str j/\i.length+j.length<=sizeLine/\Q (.str (i++j)) H):=by
 intro pins s σ H x y v u Q I rx ry h
 obtain ⟨i,j,rfl,rfl,hz,q⟩:=h
 obtain ⟨t,rfl⟩:=rx
 obtain ⟨t',rfl⟩:=ry
 exact add_str (fun t' tk=>⟨.str (i++j),H,I.tok _,⟨_,rfl⟩,q⟩) hz
theorem vals1 {x:V} {us:Xb} (r:aQ [x] us):∃ u,us=[u]/\RelV x u:=by
 cases r with
 | cons r1 r2=>cases r2;exact ⟨_,rfl,r1⟩
theorem vals2 {x y:V} {us:Xb} (r:aQ [x,y] us):∃ u w',us=[u,w']/\RelV x u/\RelV y w':=by
 cases r with
 | cons r1 r2 =>
  cases r2 with
  | cons r3 r4=>cases r4;exact ⟨_,_,rfl,r1,r3⟩
theorem tW (hc:X.calm=true):eZ X (.builtin "min") (fun xs H Q=>∃ i j,xs=[.int i,.int j]/\Q (.int (if j < i then j else i)) H):=by
 intro pins s σ H xs us Q I r h
 obtain ⟨i,j,rfl,q⟩:=h
 obtain ⟨u,w',rfl,⟨t,rfl⟩,⟨t',rfl⟩⟩:=vals2 r
 refine min_two_ints (I.ok.hd hc) fun h' tk k=>⟨_,H,I.kept k,?_,q⟩
 by_cases hj:j < i
 ·rw [Zs hj,Zs hj];exact ⟨_,rfl⟩
 ·rw [Zp hj,Zp hj];exact ⟨_,rfl⟩
noncomputable def D9 (K:Xs) (x:V) (H:Hp) (n:Nat):Prop :=
 match x with
 | .str y=>y.length<=sizeLine/\n=y.length
 | .byt y=>y.size<=sizeLine/\n=y.size
 | .ref p=>(∃ xs,SqL K H p xs/\n=xs.length)\/∃ xs,SqT K H p xs/\n=xs.length
 | _=>False
theorem uX:eZ X (.builtin "len") (fun xs H Q=>∃ x n,xs=[x]/\D9 X.K x H n/\Q (.int n) H):=by
 intro pins s σ H xs us Q I r h
 obtain ⟨x,n,rfl,e,q⟩:=h
 obtain ⟨u,rfl,rx⟩:=vals1 r
 have hl:=j6
 have hs:sizeLine=16777216:=WC
 cases x with
 | str y =>
  obtain ⟨t,rfl⟩:=rx
  obtain ⟨hy,e'⟩:y.length<=sizeLine/\n=y.length:=e
  subst e'
  exact len_str (by lia) ⟨.int _,H,I.tok _,⟨_,rfl⟩,q⟩
 | byt y =>
  obtain ⟨t,rfl⟩:=rx
  obtain ⟨hy,e'⟩:y.size<=sizeLine/\n=y.size:=e
  subst e'
  exact PySem.W.len_bytes (by lia) ⟨.int _,H,I.tok _,⟨_,rfl⟩,q⟩
 | ref p =>
  cases rx
  have e':(∃ xs,SqL X.K H p xs/\n=xs.length)\/∃ xs,SqT X.K H p xs/\n=xs.length:=e
  rcases e' with ⟨xs,hx,e'⟩ | ⟨xs,hx,e'⟩
  ·subst e'
   obtain ⟨its,r',pl,hz⟩:=I.list hx
   have hlen:=r'.length
   exact Calls.call_len_list pl.isList (by simp only [Zc];lia) ⟨.int xs.length,H,I.tok _,⟨_,by simp only [Zc];rw [hlen]⟩,q⟩
  ·subst e'
   obtain ⟨its,r',pl,hz⟩:=I.tuple hx
   have hlen:=r'.length
   exact len_tuple pl (by simp only [Zc];lia) ⟨.int xs.length,H,I.tok _,⟨_,by simp only [Zc];rw [hlen]⟩,q⟩
 | _=>exact (show False from e).elim
end
structure ObjM (h:Heap) (x dx C:Addr) (mA:Xg):Prop where
 obj:h.get? x=some (PySem.W.instObj C dx)
 ns:h.Ns1 dx mA
 ne:dx ≠ x
theorem uo {h:Heap} {dx:Addr} {mA:Xg} (n:h.Ns1 dx mA):∃ od,h.get? dx=some od/\∀ name,PySem.W.lookIn name od=some (mA name):=by
 obtain ⟨o,es,ep,ho,hd,hk,_,hm⟩:=n
 refine ⟨o,ho,fun name=>?_⟩
 have e:=hm name
 unfold nsFind findBy at e
 rw [← Array.find?_toList] at e
 unfold PySem.W.lookIn
 rw [hd]
 dsimp only
 split
 ·rename_i y q
  rw [q] at e
  exact congrArg some e
 ·rename_i q
  rw [q] at e
  have a:es.toList.any (·.refKey)=false:=by
   rw [List.any_eq_false]
   intro y hy
   obtain ⟨z,t,hkey⟩:=hk y (Array.mem_toList_iff.mp hy)
   simp [DictEntry.refKey,hkey]
  have a':¬ es.toList.any (·.refKey)=true:=by rw [a];exact Zi
  rw [Zp a']
  exact congrArg some e
theorem ObjM.look {h:Heap} {x dx C:Addr} {mA:Xg} (I:ObjM h x dx C mA):∃ od,PySem.W.InstAt h x (PySem.W.instObj C dx) C (some od)/\∀ name,PySem.W.lookIn name od=some (mA name) :=
 let ⟨od,ho,hl⟩:=uo I.ns
 ⟨od,⟨I.obj,rfl,rfl,ho⟩,hl⟩
theorem j9.some_of {v:V} {o:Vy} (r:j9 (some v) o):∃ u,o=some u/\RelV v u:=by
 cases o with
 | none=>exact (show False from r).elim
 | some u=>exact ⟨u,rfl,r⟩
section
variable {P:Program} {w:World} {H H':Hp} {h h':Heap} {a C dx:Addr} {fs fs':List (Str×V)}
theorem zk (hok:HOk P w H h) (e:H a=some (.ins C dx fs)):∃ mA,ObjM h a dx C mA/\(∀ f,j9 (fs.lookup f) (mA f))/\PySem.Within mA (fs.map (·.1))/\fs.length<=1000/\H dx=some (.own a):=by
 obtain ⟨d,z,ne,ob,mA,n,r,q⟩:=(show bj P w H h a (.ins C dx fs) from hok a _ e)
 exact ⟨mA,⟨ob,n,ne⟩,r,q,z,d⟩
end
structure Cls (K:Xs) (C:Addr):Prop where
 pg:PySem.W.plainGet K C Str.empty=true
 hd:PySem.W.hasDictIn K C=true
 po:PySem.W.plainOver K C=true
 sa:PySem.W.findIn K (.ref C) "__setattr__" = some (some (.builtin "object.__setattr__"))
theorem Cls.get {K:Xs} {C:Addr} (c:Cls K C) (f:Str):PySem.W.plainGet K C f=true:=c.pg
section
variable {X:Cx} {o e value:Expr} {f:Str} {pos pos' tpos:Pos} {ta tv:TE}
noncomputable def Cr:V->V->Hp->VK->Prop:=fun x y H Q=>∃ i j,x=.int i/\y=.int j/\Q (.int (i+j)) H
end
section
variable {X:Cx} {pins:Yp} {σ:St} {H:Hp} {s:Shared} {A:Around} {E:Yy} {Q:Yy} {c:Value} {b:Bool}
inductive TyOf (K:Xs) (H:Hp):V->Value->Prop where
 | non:TyOf K H .non (.type "NoneType")
 | bl (x:Bool):TyOf K H (.bl x) (.type "bool")
 | int (i:Int):TyOf K H (.int i) (.type "int")
 | str (x:Str):TyOf K H (.str x) (.type "str")
 | flt (x:UInt64):TyOf K H (.flt x) (.type "float")
 | lst {a:Addr} {xs:List V} (e:H a=some (.lst xs)):TyOf K H (.ref a) (.type "list")
 | frz {a:Addr} {o:Obj} {xs:List V} (e:H a=some (.frz o (.lst xs))):TyOf K H (.ref a) (.type "list")
 | tup {a:Addr} {xs:List V} (e:H a=some (.tup xs)):TyOf K H (.ref a) (.type "tuple")
 | dK {a:Addr} {kvs:List (Key×V)} (e:H a=some (.dK kvs)):TyOf K H (.ref a) (.type "dict")
 | dT {a:Addr} {kvs:List (List Key×V)} (e:H a=some (.dT kvs)):TyOf K H (.ref a) (.type "dict")
 | ins {a C dx:Addr} {fs:List (Str×V)} (e:H a=some (.ins C dx fs)) (cl:Cls K C) (ha:PySem.W.findIn K (.ref C) "__class__" = some (some (.builtin "object.__class__")))
   (hn:PySem.W.specialIn K (.builtin "object.__class__") "__get__" = some (some (.builtin "getset_descriptor.__get__"))) (htk:PySem.W.takesIn K (.builtin "object.__class__")=some true)
   (hm:PySem.W.mroIn K C (.type "object")=some true):TyOf K H (.ref a) (.ref C)
theorem uI {x:V} {u t:Value} (I:Inv X pins σ H s) (rx:RelV x u) (ty:TyOf X.K H x t) (e:PySem.W.kitOne X.K t c=some b) (h:∀ tk,Q (.bool b) { s with toks:=tk }) :
  wpAny (model X.prog X.w) A (call (.builtin "isinstance") [u,c]) Q E s:=by
 cases ty with
 | non=>cases (show u=Value.none from rx);exact YY PySem.W.kitx_none I.kIn True.intro e (fun z=>nomatch z) h
 | bl y=>cases (show u=Value.bool y from rx);exact YY PySem.W.kitx_bool I.kIn True.intro e (fun z=>nomatch z) h
 | int i=>obtain ⟨t,q⟩:=(show ∃ t,u=Value.int i t from rx);cases q;exact YY PySem.W.kitx_int I.kIn True.intro e (fun z=>nomatch z) h
 | str y=>obtain ⟨t,q⟩:=(show ∃ t,u=Value.str y t from rx);cases q;exact YY PySem.W.kitx_str I.kIn True.intro e (fun z=>nomatch z) h
 | flt y=>obtain ⟨t,q⟩:=(show ∃ t,u=Value.float y t from rx);cases q;exact YY PySem.W.kitx_float I.kIn True.intro e (fun z=>nomatch z) h
 | @lst a xs ea =>
  cases (show u=Value.ref a from rx)
  obtain ⟨_,_,n,_,h1⟩:=(show bj X.prog X.w H s.heap a (.lst xs) from I.hok a _ ea)
  exact YY PySem.W.kitx_list I.kIn ⟨_,h1,rfl⟩ e (fun z=>nomatch z) h
 | @frz a ob xs ea =>
  cases (show u=Value.ref a from rx)
  obtain ⟨_,_,_,n,_,h1⟩:=(show bj X.prog X.w H s.heap a (.frz ob (.lst xs)) from I.hok a _ ea)
  exact YY PySem.W.kitx_list I.kIn ⟨_,h1,rfl⟩ e (fun z=>nomatch z) h
 | @tup a xs ea =>
  cases (show u=Value.ref a from rx)
  obtain ⟨_,_,_,_,p⟩:=(show bj X.prog X.w H s.heap a (.tup xs) from I.hok a _ ea)
  obtain ⟨o,h1,h2,_⟩:=p
  exact YY PySem.W.kitx_tuple I.kIn ⟨o,h1,h2⟩ e (fun z=>nomatch z) h
 | @dK a kvs ea =>
  cases (show u=Value.ref a from rx)
  obtain ⟨_,_,vs,_,p⟩:=(show bj X.prog X.w H s.heap a (.dK kvs) from I.hok a _ ea)
  obtain ⟨o,es,ep,h1,h2,_⟩:=p
  exact YY PySem.W.kitx_dict I.kIn ⟨o,h1,h2.1⟩ e (fun z=>nomatch z) h
 | @dT a kvs ea =>
  cases (show u=Value.ref a from rx)
  obtain ⟨_,_,xs,_,o,es,ep,h1,h2,_⟩:=(show bj X.prog X.w H s.heap a (.dT kvs) from I.hok a _ ea)
  exact YY PySem.W.kitx_dict I.kIn ⟨o,h1,h2.1⟩ e (fun z=>nomatch z) h
 | @ins a C dx fs ea cl ha hn htk hm =>
  cases (show u=Value.ref a from rx)
  obtain ⟨mA,O,_⟩:=zk I.hok ea
  obtain ⟨od,J,_⟩:=O.look
  exact YY (PySem.W.kitx_own (cl.get _) cl.hd ha hn htk hm) I.kIn J e (fun z=>nomatch z) h
end
structure Room (k:Nat) (A:Around):Prop where
 hd:A.handled=none
 dp:A.depth+3 * k+5 < recursionLimit
 un:A.units+16 * k+200 < cLine
theorem Room.mono {j k:Nat} {A:Around} (r:Room k A) (h:j<=k):Room j A:=⟨r.hd,by have:=r.dp;lia,by have:=r.un;lia⟩
theorem Room.deeper {k:Nat} {A:Around} (r:Room (k+1) A) (env:Env):Room k (A.deeper env) :=
 ⟨r.hd,by have:=r.dp;show A.depth+1+3 * k+5 < _;lia,by have:=r.un;show A.units+3+16 * k+200 < _;lia⟩
theorem Room.in1 {k:Nat} {A:Around} (r:Room (k+1) A):Room k A.in1 :=
 ⟨r.hd,by have:=r.dp;show A.depth+3 * k+5 < _;lia,by have:=r.un;show A.units+1+16 * k+200 < _;lia⟩
theorem Room.depth {k:Nat} {A:Around} (r:Room k A):A.depth < recursionLimit:=by have:=r.dp;lia
theorem Room.units {k:Nat} {A:Around} (r:Room k A):A.units+64 < cLine:=by have:=r.un;lia
noncomputable def DX:TA:=fun _ H Q=>Q [] H
noncomputable def AX (ta:TE) (tr:TA):TA:=fun σ H Q=>ta σ H fun x H1=>tr σ H1 fun xs H2=>Q (x :: xs) H2
section
variable {X:Cx} {e:Expr} {es:List Expr} {te:TE} {t:TA} {pos:Pos}
theorem gZ:PA X [] DX:=fun _ _ _ _ H Q I h=>Calls.spliced_nil ⟨[],H,I,.nil,h⟩
theorem fI (ha:PE X e te) (hr:PA X es t) (hs:starEach (e :: es) X.env=(false,eval e X.env) :: starEach es X.env:=by rfl):PA X (e :: es) (AX te t):=by
 intro pos pins s σ H Q I h
 rw [hs]
 show wpAny _ _ (spliced ((false,eval e X.env) :: backTo pos (starEach es X.env))) _ _ s
 refine Calls.spliced_cons (thn (ha pins s σ H _ I h) fun u s1 ⟨x,H1,I1,r1,q1⟩=>?_)
 exact thn (hr pos pins s1 σ H1 _ I1 q1) fun us s2 ⟨xs,H2,I2,r2,q2⟩=>⟨x :: xs,H2,I2,.cons r1 r2,q2⟩
noncomputable def E6 (t:TA):TE:=fun σ H Q=>t σ H fun xs H1=>xs.length<=sizeLine/\∀ p,H1 p=none->Q (.ref p) (upd H1 p (.tup xs))
noncomputable def Fh (t:TA):TE:=fun σ H Q=>t σ H fun xs H1=>xs.length<=sizeLine/\∀ p,H1 p=none->Q (.ref p) (upd H1 p (.lst xs))
theorem C0 {x1} (h:PA X es t):PE X (.Tuple es x1 pos) (E6 t):=by
 intro pins s σ H Q I hq
 refine wpAny_Tuple_spliced (thn (h pos pins s σ H _ I hq) fun us s1 ⟨xs,H1,I1,r,z,q⟩=>⟨by rw [← r.length];exact z,?_⟩)
 have hf:H1 s1.heap.objs.size=none:=I1.hok.fresh (Zr _)
 refine ⟨.ref s1.heap.objs.size,upd H1 s1.heap.objs.size (.tup xs),I1.laid (t':=s1.toks) (fun b u e=>Ze _ e) (Zr _) ?_,rfl,q _ hf⟩
 exact ⟨z,us,r,NoD.of (ZV _ rfl) rfl,⟨_,ZV _ rfl,rfl,_,rfl⟩⟩
theorem oB (h:PA X es t):PE X (.List es pos) (Fh t):=by
 intro pins s σ H Q I hq
 refine wpAny_List_spliced (thn (h pos pins s σ H _ I hq) fun us s1 ⟨xs,H1,I1,r,z,q⟩=>⟨by rw [← r.length];exact z,?_⟩)
 have hf:H1 s1.heap.objs.size=none:=I1.hok.fresh (Zr _)
 refine ⟨.ref s1.heap.objs.size,upd H1 s1.heap.objs.size (.lst xs),I1.laid (t':=s1.toks) (fun b u e=>Ze _ e) (Zr _) ?_,rfl,q _ hf⟩
 exact ⟨z,us,0,r,ZV _ rfl⟩
end
noncomputable abbrev Sp:=List V->Hp->VK->XK->Prop
noncomputable abbrev CXT:=List Env->Hp->Shared->XK->Yy
structure Env0 (P:Program) (w:World) (K:Xs) (mg:Xg) (base:Heap) (A:Around) (outer:List Env) (s:Shared) (H:Hp):Prop where
 frames:A.frames=some outer
 mod:Mod K mg base
 bs:∀ b o,base.get? b=some o->s.heap.get? b=some o/\H b=none
 bsz:base.objs.size<=s.heap.objs.size
 funs:s.heap.FunFrames base outer
 frf:∀ b∈frs outer,H b=none
 hok:HOk P w H s.heap
 bare:AllBare s.gens
noncomputable def CE (outer:List Env) (P:Program) (w:World) (H:Hp) (s:Shared) (Q:VK) (u:Value) (s':Shared):Prop :=
 ∃ v H',s'.os=s.os/\AllBare s'.gens/\Un (frs outer) [] H H' s.heap s'.heap/\HOk P w H' s'.heap/\RelV v u/\Q v H'
noncomputable def CR (CX:CXT) (outer:List Env) (P:Program) (w:World) (H:Hp) (s:Shared) (Q:VK) (E:XK) (r:Result) (s':Shared):Prop :=
 match r with
 | .ok (.ret u)=>CE outer P w H s Q u s'
 | .ok _=>False
 | .error e=>CX outer H s E e s'
structure FnOk (P:Program) (w:World) (K:Xs) (mg:Xg) (base:Heap) (CX:CXT) (k:Nat) (f:Addr) (fd:FuncData) (ps:List Str) (sp:Sp):Prop where
 len:∀ vs H Q E,sp vs H Q E->vs.length=ps.length
 run:∀ (A:Around) (outer:List Env) (s:Shared) (H:Hp) (args:Args) (us:Xb) (vs:List V) (Q:VK) (E:XK),Room k A->Env0 P w K mg base A outer s H->BindsTo s fd args (ps.zip us)->aQ vs us->sp vs H Q E →
  codeAny (model P w) A (.call (.ref f) args) (CR CX outer P w H s Q E) s
section
variable {X:Cx} {pins:Yp} {σ:St} {H:Hp} {s s':Shared}
theorem Inv.env0 (I:Inv X pins σ H s):Env0 X.prog X.w X.K X.mg X.base X.A X.stack s H :=
 ⟨I.ok.frames,I.ok.mod,I.bs,ZW I.ok.bsz I.sz,I.stack,I.stkFree,I.hok,I.bare⟩
theorem Inv.after {Q:VK} {u:Value} (I:Inv X pins σ H s) (h:CE X.stack X.prog X.w H s Q u s'):EP X pins σ Q u s':=by
 obtain ⟨v,H',os,bare,un,hok,r,q⟩:=h
 obtain ⟨hh,g,d,t,os'⟩:=s'
 obtain rfl:os'=s.os:=os
 exact ⟨v,H',I.call (h':=hh) (g':=g) (d':=d) (t':=t) (ch:=[]) un hok bare (fun b z=>absurd z (by simp)),r,q⟩
end
noncomputable def AJ (sp:Sp) (dvs:List V) (E:XK) (t:TA):TE:=fun σ H Q=>t σ H fun vs H1=>sp (vs++dvs) H1 Q E
noncomputable def Binds (K:Xs) (fd:FuncData) (ps:List Str) (ds:Xb):Prop :=
 ∀ (s:Shared) (us:Xb),K.In s.heap->(us++ds).length=ps.length->BindsTo s fd ⟨us,[]⟩ (ps.zip (us++ds))
theorem Binds.all {K:Xs} {fd:FuncData} {ps:List Str} (h:∀ us:Xb,us.length=ps.length->bindArgs fd ⟨us,[]⟩=pure (ps.zip us)):Binds K fd ps []:=fun s us _ hl=>by
 rw [ZG] at hl ⊢
 exact .of_eq (h us hl)
noncomputable def qJ (CX:CXT) (X:Cx) (E:XK):Prop:=∀ (pins:Yp) (σ:St) (H:Hp) (s:Shared) (e:Value) (s':Shared),Inv X pins σ H s->CX X.stack H s E e s'->X.xe e s'
section
variable {X:Cx} {CX:CXT} {k:Nat} {f C:Addr} {fd:FuncData} {ps:List Str} {sp:Sp} {dvs:List V} {ds:Xb} {E:XK} {x m:Str} {p pos apos:Pos} {e o:Expr} {es:List Expr} {ta:TE} {t:TA}
theorem A8 {pins:Yp} {σ:St} {H:Hp} {s:Shared} {Q:VK} {us:Xb} {vs:List V} (F:FnOk X.prog X.w X.K X.mg X.base CX k f fd ps sp) (hr:Room k X.A) (hb:Binds X.K fd ps ds) (hd:aQ dvs ds) (hx:qJ CX X E)
  (I:Inv X pins σ H s) (r:aQ vs us) (h:sp (vs++dvs) H Q E):wpAny (model X.prog X.w) X.A (call (.ref f) us) (EP X pins σ Q) X.xe s:=by
 have r2:aQ (vs++dvs) (us++ds):=r.append hd
 have hl:(us++ds).length=ps.length:=by rw [← r2.length];exact F.len _ _ _ _ h
 refine wpAny_call (codeAny_mono (F.run X.A X.stack s H ⟨us,[]⟩ (us++ds) (vs++dvs) Q E hr I.env0 (hb s us I.kIn hl) r2 h) fun r s' hq=>?_)
 cases r with
 | error e=>exact hx pins σ H s e s' I hq
 | ok fl =>
  cases fl with
  | ret u=>exact I.after hq
  | next=>exact False.elim hq
  | brk=>exact False.elim hq
  | cont=>exact False.elim hq
theorem Au (F:FnOk X.prog X.w X.K X.mg X.base CX k f fd ps sp) (hr:Room k X.A) (hg:Gl X x) (hm:X.mg x=some (.ref f)) (hk:PySem.W.keepIn X.K (.ref f)=true) (hb:Binds X.K fd ps ds) (hd:aQ dvs ds) (hx:qJ CX X E)
  (ha:PA X (e :: es) t) (hdb:(x == ("__debug__" : Str))=false:=by decide) (he:starEach (e :: es) X.env=(false,eval e X.env) :: starEach es X.env:=by rfl) (hpl:(backTo pos (starEach es X.env)).any (·.1)=false:=by rfl) :
  PE X (.Call (.Name x p) (e :: es) [] pos) (AJ sp dvs E t):=by
 intro pins s σ H Q I h
 refine Wm (rR I hg hm ?_ hdb)
 refine PySem.W.callWith_K (h₀:=X.base) I.ok.mod.kin hk (thn (ha pos pins s σ H _ I h) fun us s1 ⟨vs,H1,I1,r,q⟩=>⟨I1.kIn,?_⟩) he hpl
 exact A8 F hr hb hd hx I1 r q
end
noncomputable def PK (X:Cx) (kws:List Keyword) (t:TA):Prop :=
 ∀ (pos:Pos) (pins:Yp) (s:Shared) (σ:St) (H:Hp) (Q:List V->Hp->Prop),Inv X pins σ H s->t σ H Q->wpAny (model X.prog X.w) X.A (evalAll ((backToKw pos (keywordEach kws X.env)).map (·.2))) (AP X pins σ Q) X.xe s
section
variable {X:Cx} {CX:CXT} {k:Nat} {f C:Addr} {fd:FuncData} {ps ks:List Str} {sp:Sp} {E:XK} {x m:Str} {p pos apos kpos:Pos} {e o:Expr} {es:List Expr} {kws:List Keyword} {te ta:TE} {t tk:TA} {nm:Option Str}
theorem Bm:PK X [] DX:=fun _ _ _ _ H Q I h=>wpAny_evalAll_nil ⟨[],H,I,.nil,h⟩
theorem Ac (ha:PE X e te) (hr:PK X kws t):PK X (⟨nm,e,kpos⟩ :: kws) (AX te t):=by
 intro pos pins s σ H Q I h
 show wpAny _ _ (evalAll ((do let v ← eval e X.env;standAt pos;pure v) :: (backToKw pos (keywordEach kws X.env)).map (·.2))) _ _ s
 refine wpAny_evalAll_cons (Zy (thn (ha pins s σ H _ I h) fun u s1 ⟨x,H1,I1,r1,q1⟩=>Zy (wpAny_standAt (Zq ?_))))
 exact thn (hr pos pins s1 σ H1 _ I1 q1) fun us s2 ⟨xs,H2,I2,r2,q2⟩=>⟨x :: xs,H2,I2,.cons r1 r2,q2⟩
variable {g:Xb->Xb->Xb} {gV:List V->List V->List V}
end
structure FnScope (N P:List Str) (sc:Scope):Prop where
 kind:sc.kind=.function
 co:sc.isCoroutine=false
 gen:sc.isGenerator=false
 nd:N.Nodup
 pre:N.take P.length=P
 par:∀ x∈P,sc.names.lookup x=some .local\/sc.names.lookup x=some .cell
 nofree:∀ y∈sc.names,y.2 ≠ .free
theorem mJ {kindOf:Str->Option NameKind} {x:Str}:∀ {binds:List (Str×Value)} {m:Xg},(∀ v,(x,v) ∉ binds)->bindL kindOf binds m x=m x
 | [],_,_=>rfl
 | (n,v) :: r,m,h=>by
  unfold bindL
  rw [mJ fun w hw=>h w (Zx _ hw)]
  split
  ·have:x ≠ n:=by rintro rfl;exact h v Zw
   simp [this]
  ·rfl
theorem mM {kindOf:Str->Option NameKind} {x:Str}:∀ {binds:List (Str×Value)} {m:Xg},(∀ v,(x,v) ∉ binds)->bindC kindOf binds m x=m x
 | [],_,_=>rfl
 | (n,v) :: r,m,h=>by
  unfold bindC
  rw [mM fun w hw=>h w (Zx _ hw)]
  split
  ·rfl
  ·have:x ≠ n:=by rintro rfl;exact h v Zw
   simp [this]
theorem nh {kindOf:Str->Option NameKind} {x:Str} {v:Value}:∀ {P:List Str} {vs:Xb} {i:Nat} {m:Xg},P.Nodup->P[i]?=some x->vs[i]?=some v->kindOf x=some .local →
  bindL kindOf (P.zip vs) m x=some v
 | [],_,_,_,_,h,_,_=>by simp at h
 | _ :: _,[],_,_,_,_,h,_=>by simp at h
 | p :: P,w :: vs,0,m,nd,h1,h2,hk=>by
  simp at h1 h2;subst h1;subst h2
  show bindL kindOf ((p,w) :: P.zip vs) m p=_
  unfold bindL
  rw [mJ fun v hv=>(ZY.mp nd).1 (Wa hv).1,Zs hk]
  simp
 | p :: P,w :: vs,i+1,m,nd,h1,h2,hk=>by
  show bindL kindOf ((p,w) :: P.zip vs) m x=_
  unfold bindL
  exact nh (i:=i) (ZY.mp nd).2 (by simpa using h1) (by simpa using h2) hk
theorem nc {kindOf:Str->Option NameKind} {x:Str} {v:Value}:∀ {P:List Str} {vs:Xb} {i:Nat} {m:Xg},P.Nodup->P[i]?=some x->vs[i]?=some v->kindOf x ≠ some .local →
  bindC kindOf (P.zip vs) m x=some v
 | [],_,_,_,_,h,_,_=>by simp at h
 | _ :: _,[],_,_,_,_,h,_=>by simp at h
 | p :: P,w :: vs,0,m,nd,h1,h2,hk=>by
  simp at h1 h2;subst h1;subst h2
  show bindC kindOf ((p,w) :: P.zip vs) m p=_
  unfold bindC
  rw [mM fun v hv=>(ZY.mp nd).1 (Wa hv).1,Zp hk]
  simp
 | p :: P,w :: vs,i+1,m,nd,h1,h2,hk=>by
  show bindC kindOf ((p,w) :: P.zip vs) m x=_
  unfold bindC
  exact nc (i:=i) (ZY.mp nd).2 (by simpa using h1) (by simpa using h2) hk
noncomputable def start (N:List Str) (vs:List V):St:=vs.map some++List.replicate (N.length - vs.length) none
noncomputable def mI (CX:CXT) (P:Program) (w:World) (K:Xs) (mg:Xg) (base:Heap) (N:List Str) (qual:Str) (scope:Scope) (f:Addr) (cd:Value) (A:Around) (outer:List Env) (s:Shared) (H:Hp) (E:XK):Cx where
 prog:=P
 w:=w
 K:=K
 mg:=mg
 base:=base
 A:=A.deeper (envOfC qual scope s.heap.objs.size f cd)
 N:=N
 s₀:=s
 H₀:=H
 env:=envOfC qual scope s.heap.objs.size f cd
 outer:=outer
 stack:=envOfC qual scope s.heap.objs.size f cd :: outer
 ex:=[]
 calm:=true
 fn:=fun _=>true
 pn:=[]
 xe:=fun e s'=>wpAny (model P w) (A.deeper (envOfC qual scope s.heap.objs.size f cd)) (leaving (envOfC qual scope s.heap.objs.size f cd) e) (fun _ s''=>CX outer H s E e s'') (fun e' s''=>CX outer H s E e' s'') s'
theorem qb {sc:Scope} {n:Nat} {x:Str} (h:sc.names.lookup x=some .cell):∃ c,(cellsFrom n sc.names []).lookup x=some c:=by
 have q:=PySem.W.cellsFrom_some sc.names n [] (.inl h)
 exact Wo.mp q
theorem uw {CX:CXT} {P:Program} {w:World} {K:Xs} {mg:Xg} {base:Heap} {N ps:List Str} {qual:Str} {scope:Scope} {f:Addr} {cd:Value} {A:Around} {outer:List Env} {s s1:Shared} {H:Hp} {E:XK} {us:Xb} {vs:List V}
  (S:FnScope N ps scope) (hd:A.handled=none) (e0:Env0 P w K mg base A outer s H) (hl:vs.length=ps.length) (r:aQ vs us)
  (x:InCallC s s.heap.objs.size (bindL (envOfC qual scope s.heap.objs.size f cd).kindOf (ps.zip us) fun _=>none) (cellsFrom (s.heap.objs.size+1) scope.names []) (bindC (envOfC qual scope s.heap.objs.size f cd).kindOf (ps.zip us) fun _=>none) s1) :
  Inv (mI CX P w K mg base N qual scope f cd A outer s H E) [] (start N vs) H s1:=by
 have hpl:ps.length<=N.length:=by have:=congrArg List.length S.pre;rw [ZR] at this;lia
 obtain ⟨h1,tk,rfl,hk⟩:=x.done
 have noA:∀ b:Addr,b ∉ (mI CX P w K mg base N qual scope f cd A outer s H E).ex:=fun b z=>absurd (show b∈([]:Xf) from z) (by simp)
 refine ⟨⟨e0.mod,S.kind,rfl,rfl,Zr _,fun y z c h1 h2=>?_,fun y hy=>?_,fun y c _ h=>?_,fun _=>hd,Around.frames_deeper e0.frames,.inr ⟨rfl,rfl⟩,fun b z=>absurd z (noA b),e0.bs,e0.bsz,fun b _ _=>noA b,fun b z=>absurd z (noA b),e0.funs,e0.frf⟩,
  rfl,e0.bare,Un.kept hk,⟨_,x.toInCall.ns,fun i y v h1 h2 h3=>?_⟩,fun y c h=>⟨_,x.cell y c h⟩,e0.hok.fresh (Zr _),fun y c h=>?_,fun p hp=>absurd (show p∈([]:Yp) from hp) (by simp),e0.hok.kept hk,?_⟩
 ·exact name_of_addr x.apart (Xa h1) (Xa h2)
 ·have hy:scope.names.lookup y=some .cell\/scope.names.lookup y=some .free:=hy
  rcases hy with hy | hy
  ·exact qb hy
  ·exact absurd rfl (S.nofree _ (Xa hy))
 ·exact ZS (x.above y c (Xa h))
 ·have hi:i < vs.length:=by
   unfold start at h2
   by_cases hi:i < vs.length
   ·exact hi
   ·rw [Yx (by simpa using hi)] at h2
    rw [Xv] at h2
    split at h2 <;> cases h2
  have ha:vs[i]?=some v:=by
   unfold start at h2
   rw [Yl (by simpa using hi),Z1] at h2
   cases e:vs[i]? with
   | none=>rw [e] at h2;cases h2
   | some a=>rw [e] at h2;cases h2;rfl
  obtain ⟨u,hu,rv⟩:=r.get ha
  have hp:ps[i]?=some y:=by
   rw [← S.pre,List.getElem?_take_of_lt (by lia)];exact h1
  have ndP:ps.Nodup:=by rw [← S.pre];exact S.nd.sublist (List.take_sublist _ _)
  refine ⟨u,rv,?_⟩
  rcases S.par y (YH hp) with k | k
  ·exact .inl ⟨k,nh ndP hp hu k⟩
  ·obtain ⟨c,e⟩:=qb (n:=s.heap.objs.size+1) k
   refine .inr ⟨.inl k,c,e,?_⟩
   have q:=x.cell y c e
   rw [nc ndP hp hu (by show scope.names.lookup y ≠ _;rw [k];decide)] at q
   exact q
 ·exact e0.hok.fresh (ZS (x.above y c (Xa h)))
 ·unfold start
  show _=N.length
  rw [Zu,Zv,Y2]
  lia
theorem EB {CX:CXT} {P:Program} {w:World} {K:Xs} {mg:Xg} {base:Heap} {k:Nat} {f:Addr} {name qual:Str} {params:Arguments} {body:List Stmt} {scope:Scope} {dV kV doc pm cdv ct oc:Value} {an od:Option Addr}
  {osl:Array (Vy)} {N ps:List Str} {sp:Sp} (lk:K.lookup f=some ⟨oc,od,.func (PySem.W.fnOf name qual params body scope dV kV doc pm an cdv ct),osl⟩) (hcd:PySem.W.codeIn K cdv qual=true) (S:FnScope N ps scope)
  (len:∀ vs H Q E,sp vs H Q E->vs.length=ps.length)
  (hbody:∀ (A:Around) (outer:List Env) (s:Shared) (H:Hp) (vs:List V) (Q:VK) (E:XK),Room k (A.deeper (envOfC qual scope s.heap.objs.size f cdv))->sp vs H Q E →
   ∃ t,PSs (mI CX P w K mg base N qual scope f cdv A outer s H E) body t/\t { nx:=fun _ H'=>Q .non H',rt:=Q } (start N vs) H) :
  FnOk P w K mg base CX (k+1) f (PySem.W.fnOf name qual params body scope dV kV doc pm an cdv ct) ps sp:=by
 refine ⟨len,fun A outer s H args us vs Q E hr e0 hb r hsp=>?_⟩
 have hl:=len _ _ _ _ hsp
 have KX:K.In s.heap:=e0.mod.kin.keeps fun b o e=>(e0.bs b o e).1
 have lim:s.heap.NoLimit:=e0.mod.nolimit.keeps fun b o e=>(e0.bs b o e).1
 have hkind:∀ y∈ps.zip us,scope.names.lookup y.1=some .local\/(scope.names.lookup y.1=some .cell/\((cellsFrom (s.heap.objs.size+1) scope.names []).lookup y.1).isSome=true):=fun ⟨n,v⟩ hy=>by
  rcases S.par n (Wa hy).1 with q | q
  ·exact .inl q
  ·exact .inr ⟨q,PySem.W.cellsFrom_some _ _ _ (.inl q)⟩
 refine codeAny_call_function hr.depth (KX _ _ lk) rfl S.co S.gen rfl (PySem.W.codeRec_of KX hcd) (hb _ _ _ _ ?_)
 refine wpAny_newFunctionEnv_cells S.kind hkind fun env he s1 x=>?_
 subst he
 refine ⟨lim.keeps x.toInCall.keep,codeAny_func ?_⟩
 obtain ⟨t,ht,hq⟩:=hbody A outer s H vs Q E (hr.deeper _) hsp
 have I:Inv (mI CX P w K mg base N qual scope f cdv A outer s H E) [] (start N vs) H s1:=uw S hr.hd e0 hl r x
 refine YT (ht [] s1 (start N vs) H _ I hq) (fun fl s' hs=>?_) fun e s' hs=>hs
 have fin:∀ {σ':St} {H':Hp} {v:V} {u:Value},Inv (mI CX P w K mg base N qual scope f cdv A outer s H E) [] σ' H' s'->RelV v u->Q v H'->CE outer P w H s Q u s' :=
  fun {σ' H' v u} J rv q=>⟨v,H',J.os,J.bare,J.base,J.hok,rv,q⟩
 cases fl with
 | ret u =>
  obtain ⟨v,σ',H',J,rv,q⟩:=hs
  exact fin J rv q
 | next =>
  obtain ⟨σ',H',J,q⟩:=hs
  exact fin (v:=V.non) (u:=Value.none) J rfl q
 | brk =>
  obtain ⟨_,_,_,q⟩:=hs
  exact False.elim q
 | cont =>
  obtain ⟨_,_,_,q⟩:=hs
  exact False.elim q
section
variable {X:Cx} {x:Str} {p pos:Pos} {e:Expr} {es:List Expr} {t:TA} {id T:String} {r:List V->Hp->VK->Prop}
noncomputable def tCB (r:List V->Hp->VK->Prop) (t:TA):TE:=fun σ H Q=>t σ H fun vs H1=>r vs H1 Q
theorem p6 (hc:eZ X (.builtin id) r) (hg:Gl X x) (hm:X.mg x=none) (hv:bootBuiltins x=some (.builtin id)) (ha:PA X (e :: es) t) (hn:x ≠ "__name__" := by decide) (hdb:(x == ("__debug__" : Str))=false:=by decide)
  (he:starEach (e :: es) X.env=(false,eval e X.env) :: starEach es X.env:=by rfl) (hpl:(backTo pos (starEach es X.env)).any (·.1)=false:=by rfl):PE X (.Call (.Name x p) (e :: es) [] pos) (tCB r t):=by
 intro pins s σ H Q I h
 refine Wm (j3 I hg hm hv ?_ hn hdb)
 exact PyProof.Rows.callWith_builtin1 (thn (ha pos pins s σ H _ I h) fun us s1 ⟨vs,H1,I1,r1,q1⟩=>hc pins s1 σ H1 vs us Q I1 r1 q1) he hpl
theorem tL (hc:eZ X (.type T) r) (hg:Gl X x) (hm:X.mg x=none) (hv:bootBuiltins x=some (.type T)) (ha:PA X (e :: es) t) (hn:x ≠ "__name__" := by decide) (hdb:(x == ("__debug__" : Str))=false:=by decide)
  (he:starEach (e :: es) X.env=(false,eval e X.env) :: starEach es X.env:=by rfl) (hpl:(backTo pos (starEach es X.env)).any (·.1)=false:=by rfl):PE X (.Call (.Name x p) (e :: es) [] pos) (tCB r t):=by
 intro pins s σ H Q I h
 refine Wm (j3 I hg hm hv ?_ hn hdb)
 exact X9 (thn (ha pos pins s σ H _ I h) fun us s1 ⟨vs,H1,I1,r1,q1⟩=>hc pins s1 σ H1 vs us Q I1 r1 q1) he hpl
end
end L2
namespace HT
open PySem PyProof.Rows
section
variable {prog:Program} {w:World} {A:Around} {E:Yy} {s:Shared}
noncomputable def sIx (n d:Nat):Option Int->Nat
 | none=>d
 | some v=>if v < 0 then (v+(n:Int)).toNat else min v.toNat n
end
end HT
namespace L2
open PySem PySem.Spec PyProof.Rows
noncomputable abbrev TO:=St->Hp->(Option Int->Hp->Prop)->Prop
noncomputable def PO (X:Cx) (e:Option Expr) (t:TO):Prop :=
 ∀ (pins:Yp) (s:Shared) (σ:St) (H:Hp) (Q:Option Int->Hp->Prop),Inv X pins σ H s->t σ H Q →
  wpAny (model X.prog X.w) X.A (evalPart e X.env) (fun u s'=>∃ o H',Inv X pins σ H' s'/\IsPart u o/\Q o H') X.xe s
noncomputable def zc:TO:=fun _ H Q=>Q none H
noncomputable def Dy (t:TE):TO:=fun σ H Q=>t σ H fun x H1=>∃ i,x=.int i/\Q (some i) H1
section
variable {X:Cx} {e:Expr} {te:TE} {lo hi:Option Expr} {tl th:TO} {pos p2:Pos}
theorem Ap:PO X none zc:=by
 intro pins s σ H Q I h
 rw [evalPart_none]
 exact Zq ⟨none,H,I,.none,h⟩
theorem Av (h:PE X e te):PO X (some e) (Dy te):=by
 intro pins s σ H Q I hw
 rw [evalPart_some]
 refine thn (h pins s σ H _ I hw) fun u s1 ⟨x,H1,I1,r1,q1⟩=>?_
 obtain ⟨i,rfl,q⟩:=q1
 obtain ⟨t,rfl⟩:=r1
 exact ⟨some i,H1,I1,.int i t,q⟩
noncomputable def SlR (X:Cx) (r:V->Option Int->Option Int->Hp->VK->Prop):Prop :=
 ∀ (pins:Yp) (s:Shared) (σ:St) (H:Hp) (x:V) (v vl vu:Value) (lo hi:Option Int) (sl:Addr) (Q:VK),Inv X pins σ H s->RelV x v->s.heap.IsSliceOf sl vl vu .none->IsPart vl lo->IsPart vu hi->r x lo hi H Q →
  ∃ T id,typeLookup (.type T) "__getitem__" = pure (some (.builtin id))/\s.TypeIs v T/\wpAny (model X.prog X.w) X.A (getItem v (.ref sl)) (EP X pins σ Q) X.xe s
theorem SlR.or {r r':V->Option Int->Option Int->Hp->VK->Prop} (h:SlR X r) (h':SlR X r'):SlR X (fun x lo hi H Q=>r x lo hi H Q\/r' x lo hi H Q):=by
 intro pins s σ H x v vl vu lo hi sl Q I rx hs pl pu q
 rcases q with q | q
 ·exact h pins s σ H x v vl vu lo hi sl Q I rx hs pl pu q
 ·exact h' pins s σ H x v vl vu lo hi sl Q I rx hs pl pu q
noncomputable def tSl (r:V->Option Int->Option Int->Hp->VK->Prop) (te:TE) (tl th:TO):TE:=fun σ H Q=>te σ H fun x H1=>tl σ H1 fun l H2=>th σ H2 fun u H3=>r x l u H3 Q
theorem wK {r:V->Option Int->Option Int->Hp->VK->Prop} (hr:SlR X r) (he:PE X e te) (hl:PO X lo tl) (hu:PO X hi th):PE X (.Subscript e (.Slice lo hi none p2) pos) (tSl r te tl th):=by
 intro pins s σ H Q I h
 refine Subscript_ (thn (he pins s σ H _ I h) fun v s1 ⟨x,H1,I1,r1,q1⟩=>?_)
 refine wpAny_Slice (thn (hl pins s1 σ H1 _ I1 q1) fun vl s2 ⟨l,H2,I2,pl,q2⟩=>thn (hu pins s2 σ H2 _ I2 q2) fun vu s3 ⟨u,H3,I3,pu,q3⟩=>?_)
 rw [evalPart_none]
 refine Zq ?_
 have I4:Inv X pins σ H3 { s3 with heap:=s3.heap.push { cls:=.type "slice",data:=.fields #[vl,vu,.none] } }:=I3.kept (t':=s3.toks) fun b ob q=>Ze _ q
 obtain ⟨T,id,hT,ht,hg⟩:=hr pins { s3 with heap:=s3.heap.push { cls:=.type "slice",data:=.fields #[vl,vu,.none] } } σ H3 x v vl vu l u s3.heap.objs.size Q I4 r1 (Heap.IsSliceOf.new ..) pl pu q3
 show wpAny (model X.prog X.w) X.A (subscriptTail e (.Slice lo hi none p2) v (.ref s3.heap.objs.size)) (EP X pins σ Q) X.xe { s3 with heap:=s3.heap.push { cls:=.type "slice",data:=.fields #[vl,vu,.none] } }
 exact tail_any (ops:=[.ref s3.heap.objs.size,v]) ht hT hg (by with_unfolding_all rfl)
noncomputable def uB (xs:List V) (lo hi:Option Int):List V:=(xs.drop (HT.sIx xs.length 0 lo)).take (HT.sIx xs.length xs.length hi - HT.sIx xs.length 0 lo)
theorem pV (xs:List V) (lo hi:Option Int):(uB xs lo hi).length<=xs.length:=by
 unfold uB
 rw [ZR,ZQ]
 lia
end
noncomputable def ixN (n:Nat) (i:Int):Option Nat:=if 0<=i then (if i < n then some i.toNat else none) else if -(n:Int)<=i then some (i+n).toNat else none
noncomputable def atI {α:Type} (xs:List α) (i:Int):Option α:=(ixN xs.length i).bind fun j=>xs[j]?
theorem rZ {n:Nat} {i:Int} {j:Nat} (h:ixN n i=some j):seqIndex? i n=some j/\j < n/\-(n:Int)<=i/\i < n:=by
 unfold ixN at h
 by_cases h0:0<=i
 ·rw [Zs h0] at h
  by_cases h1:i < n
  ·rw [Zs h1] at h
   have e:i.toNat=j:=ZI h
   exact ⟨by rw [seqIndex_of h0 h1,e],by lia,by lia,h1⟩
  ·rw [Zp h1] at h;cases h
 ·rw [Zp h0] at h
  by_cases h1:-(n:Int)<=i
  ·rw [Zs h1] at h
   have e:(i+n).toNat=j:=ZI h
   exact ⟨by rw [seqIndex_neg (by lia) h1,e],by lia,h1,by lia⟩
  ·rw [Zp h1] at h;cases h
theorem oz {α:Type} {xs:List α} {i:Int} {v:α} (h:atI xs i=some v):∃ j,seqIndex? i xs.length=some j/\xs[j]?=some v/\j < xs.length/\-(xs.length:Int)<=i/\i < xs.length:=by
 unfold atI at h
 cases e:ixN xs.length i with
 | none=>rw [e] at h;cases h
 | some j =>
  rw [e] at h
  obtain ⟨h1,h2,h3,h4⟩:=rZ e
  exact ⟨j,h1,h,h2,h3,h4⟩
noncomputable def fF (b:Expr):Prop:=∀ o i,subscripted b false o i=operate [o,i] (getItem o i)
noncomputable def IxR (X:Cx) (r:R2):Prop :=
 ∀ (value slice:Expr) (pins:Yp) (s:Shared) (σ:St) (H:Hp) (x y:V) (v u:Value) (Q:VK),Inv X pins σ H s->RelV x v->RelV y u->r x y H Q →
  subscripted slice false v u=operate [v,u] (getItem v u)->wpAny (model X.prog X.w) X.A (subscriptTail value slice v u) (EP X pins σ Q) X.xe s
noncomputable def MtR (X:Cx) (id:String) (r:V->List V->Hp->VK->Prop):Prop :=
 ∀ (pins:Yp) (s:Shared) (σ:St) (H:Hp) (x:V) (xs:List V) (v:Value) (us:Xb) (Q:VK),Inv X pins σ H s->RelV x v->aQ xs us->r x xs H Q →
  wpAny (model X.prog X.w) X.A (call (.builtin id) (v :: us)) (EP X pins σ Q) X.xe s
section
variable {X:Cx} {a b:Expr} {ta tb:TE} {pos:Pos}
theorem IxR.or {r r':R2} (h:IxR X r) (h':IxR X r'):IxR X (fun x y H Q=>r x y H Q\/r' x y H Q):=by
 intro value slice pins s σ H x y v u Q I rx ry q hs
 rcases q with q | q
 ·exact h value slice pins s σ H x y v u Q I rx ry q hs
 ·exact h' value slice pins s σ H x y v u Q I rx ry q hs
theorem rL {r:R2} (hr:IxR X r) (ha:PE X a ta) (hb:PE X b tb) (hs:fF b):PE X (.Subscript a b pos) (tOp r ta tb):=by
 intro pins s σ H Q I h
 exact Subscript_ (Ck ha hb I h fun v u s2 x y H2 I2 rx ry q=>hr a b pins s2 σ H2 x y v u Q I2 rx ry q (hs _ _))
noncomputable def Eb (K:Xs):R2:=fun x y H Q=>∃ p xs i v,x=.ref p/\y=.int i/\SqL K H p xs/\atI xs i=some v/\Q v H
noncomputable def Eg (K:Xs):R2:=fun x y H Q=>∃ p xs i v,x=.ref p/\y=.int i/\SqT K H p xs/\atI xs i=some v/\Q v H
noncomputable def DV:R2:=fun x y H Q=>∃ z i c,x=.str z/\y=.int i/\z.length<=sizeLine/\atI z.cps.toList i=some c/\Q (.str ⟨#[c]⟩) H
theorem sH:IxR X (Eb X.K):=by
 intro value slice pins s σ H x y v u Q I rx ry h hs
 obtain ⟨p,xs,i,z,rfl,rfl,hq,he,q⟩:=h
 cases rx
 obtain ⟨t,rfl⟩:=ry
 obtain ⟨its,r,pl,hz⟩:=I.list hq
 obtain ⟨j,h1,h2,h3,h4,h5⟩:=oz he
 obtain ⟨w,ew,rw'⟩:=r.get h2
 have hl:=r.length
 have hn:=j6
 have fin:EP X pins σ Q w s:=⟨z,H,I,rw',q⟩
 by_cases h0:0<=i
 ·have hj:i.toNat=j:=by
   rw [seqIndex_of h0 h5] at h1
   exact ZI h1
  exact item_listR pl.isList h0 (by lia) (by rw [hj];simpa using ew) fin hs
 ·have hj:(i+(its.toArray.size:Int)).toNat=j:=by
   rw [seqIndex_neg (by lia) h4] at h1
   rw [Zc,← hl]
   exact ZI h1
  exact subscriptTail_builtinR (x:=w) pl.isList.typeIs slot_list_getitem.lookup
   (wpAny_getItem_list_neg (Q:=fun r s'=>r=w/\EP X pins σ Q r s') pl.isList (by lia) (by rw [Zc] <;> lia) (by lia) (by rw [hj];simpa using ew) ⟨rfl,fin⟩) hs
theorem Ct:IxR X (Eg X.K):=by
 intro value slice pins s σ H x y v u Q I rx ry h hs
 obtain ⟨p,xs,i,z,rfl,rfl,hq,he,q⟩:=h
 cases rx
 obtain ⟨t,rfl⟩:=ry
 obtain ⟨its,r,pl,hz⟩:=I.tuple hq
 obtain ⟨j,h1,h2,h3,h4,h5⟩:=oz he
 obtain ⟨w,ew,rw'⟩:=r.get h2
 have hl:=r.length
 have hn:=j6
 have fin:EP X pins σ Q w s:=⟨z,H,I,rw',q⟩
 exact subscriptTail_builtinR (x:=w) pl.typeIs slot_tuple_getitem.lookup
  (getItem_tuple (j:=j) (Q:=fun r s'=>r=w/\EP X pins σ Q r s') pl (by lia) (by lia) (by rw [Zc,← hl];exact h1) (by simpa using ew) ⟨rfl,fin⟩) hs
theorem BN:IxR X DV:=by
 intro value slice pins s σ H x y v u Q I rx ry h hs
 obtain ⟨z,i,c,rfl,rfl,hz,he,q⟩:=h
 obtain ⟨t,rfl⟩:=rx
 obtain ⟨t',rfl⟩:=ry
 obtain ⟨j,h1,h2,h3,h4,h5⟩:=oz he
 have hl:z.cps.toList.length=z.length:=by simp [Str.length]
 rw [hl] at h1 h4 h5
 have hn:=j6
 exact tail_any (typeIs_str s z t) slot_str_getitem.lookup (getItem_str (c:=c) (by
  have e1:decide (i < -(2 ^ 63:Int))=false:=decide_eq_false (by lia)
  have e2:decide (i ≥ 2 ^ 63)=false:=decide_eq_false (by lia)
  rw [e1,e2,Bool.or_false]) (by rw [h1];simpa using h2) ⟨.str ⟨#[c]⟩,H,I.tok _,⟨_,rfl⟩,q⟩) hs
noncomputable def rIx (K:Xs):R2:=fun x y H Q=>Eb K x y H Q\/Eg K x y H Q\/DV x y H Q
theorem vi:IxR X (rIx X.K):=sH.or (Ct.or BN)
theorem qV (its:Xb) (n j:Nat) (u:Value):Obj.mapSeq (·.setIfInBounds j u) { cls:=.type "list",data:=.seq its.toArray n }={ cls:=.type "list",data:=.seq (its.set j u).toArray n }:=by
 simp [Obj.mapSeq]
theorem Inv.lst {pins:Yp} {σ:St} {H:Hp} {s:Shared} {p:Addr} {xs:List V} (I:Inv X pins σ H s) (h:H p=some (.lst xs)) :
  ∃ (its:Xb) (n:Nat),aQ xs its/\s.heap.get? p=some { cls:=.type "list",data:=.seq its.toArray n }/\xs.length<=sizeLine:=by
 obtain ⟨z,its,n,r,e⟩:=I.hok p _ h
 exact ⟨its,n,r,e,z⟩
theorem Inv.lstUpd {pins:Yp} {σ:St} {H:Hp} {s:Shared} {p:Addr} {xs ys:List V} {its its':Xb} {n n':Nat} {f:Obj->Obj} (I:Inv X pins σ H s) (h:H p=some (.lst xs))
  (ho:s.heap.get? p=some { cls:=.type "list",data:=.seq its.toArray n }) (hf:f { cls:=.type "list",data:=.seq its.toArray n }={ cls:=.type "list",data:=.seq its'.toArray n' }) (r:aQ ys its') (hz:ys.length<=sizeLine) (t:Nat) :
  Inv X pins σ (upd H p (.lst ys)) { s with heap:=s.heap.update p f,toks:=t }:=by
 have e:(s.heap.update p f).get? p=some { cls:=.type "list",data:=.seq its'.toArray n' }:=by
  rw [WG f ho (by rw [hf] <;> rfl),hf]
 refine I.write (x:=p) (e:=p) (by rw [h];trivial) (.inl rfl) (fun b u hb q=>(X2 _ _ (YE hb)).trans q) ⟨_,e⟩ ?_
 exact ⟨hz,its',n',r,e⟩
noncomputable def AV:V->V->V->Hp->(Hp->Prop)->Prop:=fun o i v H Q=>∃ p xs k j,o=.ref p/\i=.int k/\H p=some (.lst xs)/\ixN xs.length k=some j/\Q (upd H p (.lst (xs.set j v)))
theorem set_list:CY X AV:=by
 intro pins s σ H o i v ov iv u Q I ro ri rv h
 obtain ⟨p,xs,k,j,rfl,rfl,hp,hj,q⟩:=h
 cases ro
 obtain ⟨t,rfl⟩:=ri
 obtain ⟨its,n,r,ho,hz⟩:=I.lst hp
 obtain ⟨h1,h2,h3,h4⟩:=rZ hj
 have hl:=r.length
 have hn:=j6
 have I':Inv X pins σ (upd H p (.lst (xs.set j v))) { s with heap:=s.heap.update p (Obj.mapSeq (·.setIfInBounds j u)) } :=
  I.lstUpd hp ho (qV its n j u) (r.set rv j) (by rw [Xq];exact hz) s.toks
 by_cases h0:0<=k
 ·have hk:k.toNat=j:=by
   rw [seqIndex_of h0 h4] at h1
   exact ZI h1
  exact PySem.W.ki_setAt ho h0 (by lia) (by rw [Zc,← hl];exact h4) (by rw [hk];exact ⟨_,I',q⟩)
 ·have hk:(k+(its.toArray.size:Int)).toNat=j:=by
   rw [seqIndex_neg (by lia) h3] at h1
   rw [Zc,← hl]
   exact ZI h1
  exact PySem.W.ki_setBack ho (by lia) (by rw [Zc,← hl];exact h3) (by lia) (by rw [hk];exact ⟨_,I',q⟩)
theorem nP (lo hi:Option Int) (n:Nat):(sliceBounds lo hi none n).1=((HT.sIx n 0 lo:Nat):Int)/\(sliceBounds lo hi none n).2.1=((HT.sIx n n hi:Nat):Int)/\(sliceBounds lo hi none n).2.2=1:=by
 refine ⟨?_,?_,rfl⟩
 ·cases lo with
  | none=>simp [sliceBounds,HT.sIx]
  | some i =>
   simp only [sliceBounds,HT.sIx,Vw,show (1:Int) > 0 by decide,if_true]
   by_cases h:i < 0
   ·simp only [h,if_true] <;> lia
   ·simp only [h,if_false] <;> lia
 ·cases hi with
  | none=>simp [sliceBounds,HT.sIx]
  | some i =>
   simp only [sliceBounds,HT.sIx,Vw,show (1:Int) > 0 by decide,if_true]
   by_cases h:i < 0
   ·simp only [h,if_true] <;> lia
   ·simp only [h,if_false] <;> lia
theorem mE (its:Xb) (lo hi:Option Int):slicePick its.toArray lo hi none=((its.drop (HT.sIx its.length 0 lo)).take (HT.sIx its.length its.length hi - HT.sIx its.length 0 lo)).toArray:=by
 obtain ⟨h1,h2,h3⟩:=nP lo hi its.toArray.size
 unfold slicePick
 rw [h1,h2,h3]
 simp only [sliceRange_one,pick_run,Zc] <;> rfl
noncomputable def Ew (K:Xs):V->Option Int->Option Int->Hp->VK->Prop:=fun x lo hi H Q=>∃ a xs,x=.ref a/\SqL K H a xs/\∀ p,H p=none->Q (.ref p) (upd H p (.lst (uB xs lo hi)))
theorem An:SlR X (Ew X.K):=by
 intro pins s σ H x v vl vu lo hi sl Q I rx hs pl pu h
 obtain ⟨a,xs,rfl,hx,q⟩:=h
 cases rx
 obtain ⟨its,r,ht,hz⟩:=I.list hx
 have hlen:=r.length
 refine ⟨"list",_,slot_list_getitem.lookup,ht.isList.typeIs,?_⟩
 refine wpAny_getItem_list_slice ht.isList hs pl pu .none (by simp) ?_ (by rw [Zc] <;> lia)
 rw [mE,← hlen]
 refine ⟨.ref s.heap.objs.size,_,I.laid (t':=s.toks) (o:=.lst (uB xs lo hi)) (fun b ob q=>Ze _ q) (Zr _) ?_,rfl,q _ (I.hok.fresh (Zr _))⟩
 exact ⟨ZW (pV xs lo hi) hz,_,0,(r.drop (HT.sIx xs.length 0 lo)).take (HT.sIx xs.length xs.length hi - HT.sIx xs.length 0 lo),ZV _ rfl⟩
noncomputable def fC:V->Bool
 | .non=>true
 | .bl _=>true
 | .int _=>true
 | .str _=>true
 | _=>false
noncomputable def eqV:V->V->Bool
 | .non,.non=>true
 | .bl a,.bl b=>a == b
 | .bl a,.int b=>(if a then 1 else 0) == b
 | .int a,.bl b=>a == (if b then 1 else 0)
 | .int a,.int b=>a == b
 | .str a,.str b=>a == b
 | _,_=>false
theorem BB {A:Around} {s:Shared} {y x:V} {u v:Value} (ry:RelV y u) (rx:RelV x v) (fy:fC y=true) (fx:fC x=true):SeqAt.EqAt A s u v (eqV y x):=by
 cases y with
 | non =>
  cases ry
  cases x with
  | non=>cases rx;exact SeqAt.EqAt.same _
  | bl b=>cases rx;exact SeqAt.EqAt.none_bool b
  | int b=>obtain ⟨t,rfl⟩:=rx;exact SeqAt.EqAt.none_int b t
  | str b=>obtain ⟨t,rfl⟩:=rx;exact SeqAt.EqAt.none_str b t
  | _=>exact absurd (show false=true from fx) Zi
 | bl a =>
  cases ry
  cases x with
  | non=>cases rx;exact SeqAt.EqAt.bool_none a
  | bl b=>cases rx;exact SeqAt.EqAt.bool_bool a b
  | int b=>obtain ⟨t,rfl⟩:=rx;exact SeqAt.EqAt.bool_int a b t
  | str b=>obtain ⟨t,rfl⟩:=rx;exact SeqAt.EqAt.bool_str a b t
  | _=>exact absurd (show false=true from fx) Zi
 | int a =>
  obtain ⟨t',rfl⟩:=ry
  cases x with
  | non=>cases rx;exact SeqAt.EqAt.int_none a t'
  | bl b=>cases rx;exact SeqAt.EqAt.int_bool a t' b
  | int b=>obtain ⟨t,rfl⟩:=rx;exact SeqAt.EqAt.int_int a t' b t
  | str b=>obtain ⟨t,rfl⟩:=rx;exact SeqAt.EqAt.int_str a t' b t
  | _=>exact absurd (show false=true from fx) Zi
 | str a =>
  obtain ⟨t',rfl⟩:=ry
  cases x with
  | non=>cases rx;exact SeqAt.EqAt.str_none a t'
  | bl b=>cases rx;exact SeqAt.EqAt.str_bool a t' b
  | int b=>obtain ⟨t,rfl⟩:=rx;exact SeqAt.EqAt.str_int a t' b t
  | str b=>obtain ⟨t,rfl⟩:=rx;exact SeqAt.EqAt.str_str a t' b t
  | _=>exact absurd (show false=true from fx) Zi
 | _=>exact absurd (show false=true from fy) Zi
noncomputable def eqU (x:V) (u:Value):Bool:=match u with
 | .none=>eqV .non x
 | .bool b=>eqV (.bl b) x
 | .int i _=>eqV (.int i) x
 | .str z _=>eqV (.str z) x
 | _=>false
theorem wC {x y:V} {u:Value} (r:RelV y u) (f:fC y=true):eqU x u=eqV y x:=by
 cases y with
 | non=>cases r;rfl
 | bl b=>cases r;rfl
 | int i=>obtain ⟨t,rfl⟩:=r;rfl
 | str z=>obtain ⟨t,rfl⟩:=r;rfl
 | _=>exact absurd (show false=true from f) Zi
theorem jy {x:V}:∀ {xs:List V} {us:Xb},aQ xs us->xs.all fC=true->us.any (eqU x)=xs.any fun y=>eqV y x
 | _,_,.nil,_=>rfl
 | y :: xs,u :: us,.cons r t,f=>by
  rw [XX,Yq] at f
  rw [Xz,Xz,wC r f.1,jy t f.2]
theorem iw {A:Around} {s:Shared} {x:V} {v:Value} (rx:RelV x v) (fx:fC x=true):∀ {xs:List V} {us:Xb},aQ xs us->xs.all fC=true->∀ u∈us,SeqAt.EqAt A s u v (eqU x u)
 | _,_,.nil,_=>fun u hu=>by cases hu
 | y :: xs,u :: us,.cons r t,f=>fun u' hu=>by
  rw [XX,Yq] at f
  rcases Zo.mp hu with rfl | hu
  ·rw [wC r f.1];exact BB r rx f.1 fx
  ·exact iw rx fx t f.2 u' hu
noncomputable def inV (x:V) (xs:List V):Bool:=xs.any fun y=>eqV y x
noncomputable def rIn (K:Xs) (neg:Bool):R2:=fun x y H Q=>∃ p xs,y=.ref p/\(SqL K H p xs\/SqT K H p xs)/\fC x=true/\xs.all fC=true/\Q (.bl (if neg then !inV x xs else inV x xs)) H
theorem ud:OpR X (compareOp .In) (rIn X.K false):=by
 intro pins s σ H x y v u Q I rx ry h
 obtain ⟨p,xs,rfl,hq,fx,fs,q⟩:=h
 cases ry
 rcases hq with hq | hq
 ·obtain ⟨its,r,pl,hz⟩:=I.list hq
  refine SeqAt.in_listAt (eqU x) pl.isList (fun w hw=>iw rx fx r fs w (by simpa using hw)) ⟨.bl _,H,I,rfl,?_⟩
  rw [show its.toArray.any (eqU x)=its.any (eqU x) by simp,jy r fs]
  exact q
 ·obtain ⟨its,r,pl,hz⟩:=I.tuple hq
  refine SeqAt.in_tupleAt (eqU x) pl (fun w hw=>iw rx fx r fs w (by simpa using hw)) ⟨.bl _,H,I,rfl,?_⟩
  rw [show its.toArray.any (eqU x)=its.any (eqU x) by simp,jy r fs]
  exact q
theorem oq:OpR X (compareOp .NotIn) (rIn X.K true):=by
 intro pins s σ H x y v u Q I rx ry h
 obtain ⟨p,xs,rfl,hq,fx,fs,q⟩:=h
 cases ry
 rcases hq with hq | hq
 ·obtain ⟨its,r,pl,hz⟩:=I.list hq
  refine SeqAt.notIn_listAt (eqU x) pl.isList (fun w hw=>iw rx fx r fs w (by simpa using hw)) ⟨.bl _,H,I,rfl,?_⟩
  rw [show its.toArray.any (eqU x)=its.any (eqU x) by simp,jy r fs]
  exact q
 ·obtain ⟨its,r,pl,hz⟩:=I.tuple hq
  refine SeqAt.notIn_tupleAt (eqU x) pl (fun w hw=>iw rx fx r fs w (by simpa using hw)) ⟨.bl _,H,I,rfl,?_⟩
  rw [show its.toArray.any (eqU x)=its.any (eqU x) by simp,jy r fs]
  exact q
theorem eZ.or {f:Value} {r r':List V->Hp->VK->Prop} (h:eZ X f r) (h':eZ X f r'):eZ X f (fun xs H Q=>r xs H Q\/r' xs H Q):=by
 intro pins s σ H xs us Q I rs q
 rcases q with q | q
 ·exact h pins s σ H xs us Q I rs q
 ·exact h' pins s σ H xs us Q I rs q
theorem n6:eZ X (.type "list") (fun xs H Q=>∃ p ys,xs=[.ref p]/\(SqL X.K H p ys\/SqT X.K H p ys)/\∀ l,H l=none->Q (.ref l) (upd H l (.lst ys))):=by
 intro pins s σ H xs us Q I r h
 obtain ⟨p,ys,rfl,hq,q⟩:=h
 obtain ⟨u,rfl,rx⟩:=vals1 r
 cases rx
 have fin:∀ (its:Xb),aQ ys its->ys.length<=sizeLine->∀ (h':Heap) (c':Nat),(∀ b o',s.heap.get? b=some o'->h'.get? b=some o') →
   h'.get? s.heap.objs.size=some { cls:=.type "list",dict:=none,data:=.seq its.toArray c',slots:=#[] }->EP X pins σ Q (.ref s.heap.objs.size) { s with heap:=h' }:=fun its r' hz h' c' kp e =>
  ⟨.ref s.heap.objs.size,_,I.laid (t':=s.toks) kp (Zr _) (show bj X.prog X.w _ h' _ (.lst ys) from ⟨hz,its,c',r',e⟩),rfl,q _ (I.hok.fresh (Zr _))⟩
 rcases hq with hq | hq
 ·obtain ⟨its,r',pl,hz⟩:=I.list hq
  have hlen:=r'.length
  obtain ⟨o,ho,hc,n,hd⟩:=pl.isList
  exact call_list_seq p (.inl rfl) ho hc hd (fun h' c' kp e=>fin its r' hz h' c' kp e) (by simp only [Zc] <;> lia)
 ·obtain ⟨its,r',pl,hz⟩:=I.tuple hq
  have hlen:=r'.length
  obtain ⟨o,ho,hc,n,hd⟩:=pl
  exact call_list_seq p (.inr rfl) ho hc hd (fun h' c' kp e=>fin its r' hz h' c' kp e) (by simp only [Zc] <;> lia)
theorem mD:eZ X (.type "tuple") (fun xs H Q=>∃ p ys,xs=[.ref p]/\((SqL X.K H p ys/\∀ l,H l=none->Q (.ref l) (upd H l (.tup ys)))\/(SqT X.K H p ys/\Q (.ref p) H))):=by
 intro pins s σ H xs us Q I r h
 obtain ⟨p,ys,rfl,h⟩:=h
 obtain ⟨u,rfl,rx⟩:=vals1 r
 cases rx
 rcases h with ⟨hq,q⟩ | ⟨hq,q⟩
 ·obtain ⟨its,r',pl,hz⟩:=I.list hq
  have hlen:=r'.length
  refine call_tuple_list pl.isList (fun h' kp=>?_) (by simp only [Zc] <;> lia)
  have I1:Inv X pins σ H { s with heap:=h' }:=I.kept (t':=s.toks) kp
  have I2:Inv X pins σ (upd H h'.objs.size (.tup ys)) { s with heap:=h'.push { cls:=.type "tuple",data:=.seq its.toArray } } :=
   I1.laid (t':=s.toks) (fun b o e=>Ze _ e) (Zr _) (show bj X.prog X.w _ _ _ (.tup ys) from ⟨hz,its,r',NoD.new _ _,IsTup.new _ _⟩)
  exact ⟨.ref h'.objs.size,_,I2,rfl,q _ (I1.hok.fresh (Zr _))⟩
 ·obtain ⟨its,r',pl,hz⟩:=I.tuple hq
  exact call_tuple_same pl ⟨.ref p,H,I,rfl,q⟩
noncomputable def tyV (K:Xs) (T:String) (x:V) (H:Hp):Prop:=match x with
 | .str _=>T = "str"
 | .int _=>T = "int"
 | .ref p=>(T = "list" ∧ ∃ xs,SqL K H p xs)\/(T = "tuple" ∧ ∃ o,K.lookup p=some o/\o.cls=.type "tuple" ∧ o.dict=none) ∨
   (T = "dict" ∧ ((∃ kvs,H p=some (.dK kvs))\/∃ kvs,H p=some (.dT kvs)))\/(T = "set" ∧ ∃ S n,H p=some (.set S n))
 | _=>False
theorem BI {pins:Yp} {σ:St} {H:Hp} {s:Shared} {T:String} {x:V} {v:Value} (I:Inv X pins σ H s) (r:RelV x v) (ty:tyV X.K T x H) :
  s.TypeIs v T/\∀ a,v=.ref a->∃ ob,s.heap.get? a=some ob/\ob.dict=none:=by
 cases x with
 | str z =>
  obtain ⟨t,rfl⟩:=r
  cases (show T = "str" from ty)
  exact ⟨typeIs_str s z t,fun _ e=>nomatch e⟩
 | int i =>
  obtain ⟨t,rfl⟩:=r
  cases (show T = "int" from ty)
  exact ⟨typeIs_int s i t,fun _ e=>nomatch e⟩
 | ref p =>
  cases r
  rcases ty with ⟨rfl,xs,hq⟩ | ⟨rfl,o,hk,hc,hd⟩ | ⟨rfl,hk⟩ | ⟨rfl,S,n,hk⟩
  ·obtain ⟨its,_,pl,_⟩:=I.list hq
   refine ⟨pl.isList.typeIs,fun a e=>?_⟩
   cases e
   obtain ⟨o,n,e,c,hd,_⟩:=pl
   exact ⟨o,e,hd⟩
  ·refine ⟨⟨o,I.kIn p o hk,hc⟩,fun a e=>?_⟩
   cases e
   exact ⟨o,I.kIn _ o hk,hd⟩
  ·have z:∃ o,s.heap.get? p=some o/\o.ExactDict:=by
    rcases hk with ⟨kvs,hk⟩ | ⟨kvs,hk⟩
    ·obtain ⟨_,_,_,_,o,_,_,e,ex,_⟩:=I.hok p _ hk
     exact ⟨o,e,ex⟩
    ·obtain ⟨_,_,_,_,o,_,_,e,ex,_⟩:=I.hok p _ hk
     exact ⟨o,e,ex⟩
   obtain ⟨o,e,ex⟩:=z
   refine ⟨⟨o,e,ex.1⟩,fun a e2=>?_⟩
   cases e2
   exact ⟨o,e,ex.2.1⟩
  ·obtain ⟨o,_,_,_,e,ex,_⟩:=I.hok p _ hk
   refine ⟨⟨o,e,ex.1⟩,fun a e2=>?_⟩
   cases e2
   exact ⟨o,e,ex.2.1⟩
 | _=>exact False.elim ty
noncomputable def tBM (K:Xs) (T:String) (r:V->List V->Hp->VK->Prop) (to:TE) (t:TA):TE:=fun σ H Q=>to σ H fun x H1=>tyV K T x H1/\t σ H1 fun xs H2=>r x xs H2 Q
variable {o e:Expr} {es:List Expr} {to:TE} {t:TA} {name:Str} {apos cpos:Pos} {T id:String} {r:V->List V->Hp->VK->Prop}
theorem nr (pa:PlainAttrs T) (slot:Slot T name id) (hty:typeOf (.builtin id)=pure (.type "method_descriptor")) (hm:MtR X id r) (ho:PE X o to) (ha:PA X (e :: es) t)
  (hbase:attributeBase o name X.env (eval o X.env)=eval o X.env:=by rfl)
  (hfew:((backTo cpos (starEach (e :: es) X.env)).all (fun x=>!x.1) && (backToKw cpos (keywordEach [] X.env)).all (fun x=>x.1.isSome)
   && decide ((e :: es).length+([]:List Keyword).length+(if ([]:List Keyword).isEmpty then 0 else 1) < 30))=true:=by rfl)
  (hline:(apos.endLine == cpos.line)=true:=by rfl) (hs:starEach (e :: es) X.env=(false,eval e X.env) :: starEach es X.env:=by rfl) (hplain:(backTo cpos (starEach es X.env)).any (·.1)=false:=by rfl) :
  PE X (.Call (.Attribute o name apos) (e :: es) [] cpos) (tBM X.K T r to t):=by
 intro pins s σ H Q I h
 refine wpAny_Call_method_late hbase hfew hline rfl (thn (ho pins s σ H _ I h) fun v s1 ⟨x,H1,I1,r1,ty,q1⟩=>?_)
 obtain ⟨h1,h2⟩:=BI I1 r1 ty
 refine ⟨T,id,pa,slot,hty,h1,h2,?_⟩
 have hA:=ha cpos pins s1 σ H1 _ I1 q1
 rw [hs] at hA ⊢
 refine Calls.callWith_builtin (by show (false || (backTo cpos (starEach es X.env)).any (·.1))=false;rw [hplain] <;> rfl) (Calls.evalArgs_plain ?_)
 exact thn hA fun us s2 ⟨vs,H2,I2,r2,q2⟩=>hm pins s2 σ H2 x vs v us Q I2 r1 r2 q2
end
noncomputable def MtM (X:Cx) (id:String) (r:V->List V->Hp->VK->Prop):Prop :=
 ∀ (pins:Yp) (s:Shared) (σ:St) (H:Hp) (x:V) (xs:List V) (v:Value) (us:Xb) (Q:VK),Inv X pins σ H s->RelV x v->aQ xs us->r x xs H Q →
  wpAny (model X.prog X.w) X.A (call (.builtin id) (v :: us)) (EP X pins σ Q) X.xe s
theorem aQ.nil_inv {us:Xb} (h:aQ [] us):us=[]:=by
 cases h
 rfl
theorem aQ.cons_inv {x:V} {xs:List V} {us:Xb} (h:aQ (x :: xs) us):∃ u vs,us=u :: vs/\RelV x u/\aQ xs vs:=by
 cases h with
 | cons r t=>exact ⟨_,_,rfl,r,t⟩
theorem aQ.one {x:V} {us:Xb} (h:aQ [x] us):∃ u,us=[u]/\RelV x u:=by
 obtain ⟨u,vs,rfl,r,t⟩:=h.cons_inv
 rw [t.nil_inv]
 exact ⟨_,rfl,r⟩
theorem aQ.two {x y:V} {us:Xb} (h:aQ [x,y] us):∃ u v,us=[u,v]/\RelV x u/\RelV y v:=by
 obtain ⟨u,vs,rfl,r,t⟩:=h.cons_inv
 obtain ⟨v,rfl,q⟩:=t.one
 exact ⟨_,_,rfl,r,q⟩
section
variable {X:Cx} {pins:Yp} {σ:St} {H:Hp} {s:Shared} {l b:Addr} {xs ys zs:List V}
theorem Inv.lset {its its':Xb} {n:Nat} {f:Array Value->Array Value} {t':Nat} (I:Inv X pins σ H s) (hH:H l=some (.lst xs))
  (e:s.heap.get? l=some { cls:=.type "list",data:=.seq its.toArray n }) (hf:f its.toArray=its'.toArray) (hv:aQ ys its') (hz:ys.length<=sizeLine) :
  Inv X pins σ (upd H l (.lst ys)) { s with heap:=s.heap.update l (Obj.mapSeq f),toks:=t' }:=by
 have q:=PySem.IsL.update e f
 rw [hf] at q
 refine I.write (x:=l) (e:=l) (by rw [hH];exact trivial) (.inl rfl) (fun b' u hb hu=>(X2 s.heap (Obj.mapSeq f) (YE hb)).trans hu) ⟨_,q⟩ ?_
 exact ⟨hz,its',_,hv,q⟩
theorem Inv.lnew {its:Xb} {t':Nat} (I:Inv X pins σ H s) (hv:aQ ys its) (hz:ys.length<=sizeLine) :
  Inv X pins σ (upd H s.heap.objs.size (.lst ys)) { s with heap:=s.heap.push { cls:=.type "list",data:=.seq its.toArray },toks:=t' } :=
 I.laid (fun _ _ q=>Ze _ q) (Zr _) ⟨hz,its,0,hv,ZV _ rfl⟩
theorem Inv.fresh (I:Inv X pins σ H s):H s.heap.objs.size=none:=I.hok.fresh (Zr _)
theorem Inv.lstM (I:Inv X pins σ H s) (hH:H l=some (.lst xs)):xs.length<=sizeLine/\∃ (its:Xb) (n:Nat),aQ xs its/\xs.length=its.length/\s.heap.get? l=some { cls:=.type "list",data:=.seq its.toArray n }:=by
 obtain ⟨z,its,n,r,e⟩:=I.hok l _ hH
 exact ⟨z,its,n,r,r.length,e⟩
theorem pC {n:Nat} (h:n<=sizeLine):Builtin.List.listTooLong n=false:=by
 unfold Builtin.List.listTooLong
 exact decide_eq_false (by exact Vv h)
end
section
variable {X:Cx}
noncomputable def kI:V->List V->Hp->VK->Prop:=fun x vs H Q=>∃ l xs y,x=.ref l/\vs=[y]/\H l=some (.lst xs)/\xs.length < sizeLine/\Q .non (upd H l (.lst (xs++[y])))
theorem fN:MtM X "list.append" kI:=by
 intro pins s σ H x vs v us Q I rx rv h
 obtain ⟨l,xs,y,rfl,rfl,hH,hz,q⟩:=h
 cases rx
 obtain ⟨u,rfl,ru⟩:=rv.one
 obtain ⟨z,its,n,r,hl,e⟩:=I.lstM hH
 refine call_meets F.slot_list_append ⟨_,e,rfl⟩ F.entry_list_append (F.args_list_append_2 _ _) (PySem.list_append l its.toArray n u (by rw [Zc];lia)) ⟨e,?_⟩
 refine ⟨.non,_,I.lset (its':=its++[u]) hH e (by simp) (r.append (.cons ru .nil)) ?_,rfl,q⟩
 rw [Zu,ZX]
 exact WA hz
noncomputable def Dw:R2:=fun x y H Q=>∃ l b xs zs,x=.ref l/\y=.ref b/\H l=some (.lst xs)/\H b=some (.lst zs)/\xs.length+zs.length<=sizeLine/\∀ p,H p=none->Q (.ref p) (upd H p (.lst (xs++zs)))
theorem CD:OpR X (binaryOp .Add) Dw:=by
 intro pins s σ H x y v u Q I rx ry h
 obtain ⟨l,b,xs,zs,rfl,rfl,hH,hB,hz,q⟩:=h
 cases rx
 cases ry
 obtain ⟨z,its,n,r,hl,e⟩:=I.lstM hH
 obtain ⟨z2,its2,n2,r2,hl2,e2⟩:=I.lstM hB
 refine PySem.P.add_list e e2 ?_ (by rw [Zc,Zc];lia)
 have ea:its.toArray++its2.toArray=(its++its2).toArray:=by simp
 rw [ea]
 exact ⟨.ref _,_,I.lnew (t':=s.toks) (r.append r2) (by rw [Zu];omega),rfl,q _ I.fresh⟩
theorem len_rep {α:Type} (xs:List α) (k:Nat):(List.replicate k xs).flatten.length=k * xs.length:=by
 induction k with
 | zero=>simp
 | succ k ih=>rw [X8,Zf,Zu,ih,Nat.succ_mul,Nat.add_comm]
end
section
variable {prog:Program} {w:World} {A:Around} {E:Yy} {s:Shared}
theorem qT {a c n:Nat} (hac:a<=c) (hc:c<=n):sliceBounds (some (a:Int)) (some (c:Int)) none n=((a:Int),(c:Int),1):=by
 simp only [sliceBounds,Vw]
 have h1:¬ ((a:Int) < 0):=by lia
 have h2:¬ ((c:Int) < 0):=by lia
 simp only [h1,h2,if_false,show (1:Int) > 0 by decide,if_true]
 congr 1
 ·lia
 ·congr 1;lia
set_option maxRecDepth 100000 in
theorem yd {l b sl:Addr} {items new:Array Value} {n n2:Nat} {vl vu:Value} {a c:Nat} {Q:Unit->Shared->Prop}
  (e:s.heap.get? l=some { cls:=.type "list",data:=.seq items n }) (e2:s.heap.get? b=some { cls:=.type "list",data:=.seq new n2 }) (hne:l ≠ b)
  (hs:s.heap.IsSliceOf sl vl vu .none) (pl:IsPart vl (some (a:Int))) (pu:IsPart vu (some (c:Int))) (hac:a<=c) (hc:c<=items.size)
  (hsz:items.size+new.size<=sizeLine) (h:Q () { s with heap:=s.heap.update l (Obj.mapSeq fun xs=>xs.extract 0 a++new++xs.extract c xs.size) }) :
  wpAny (model prog w) A (setItem (.ref l) (.ref sl) (.ref b)) Q E s:=by
 have hl:s.heap.IsList l items:=PySem.IsL.isList e
 have hb:s.heap.IsList b new:=PySem.IsL.isList e2
 obtain ⟨os,hos,hcs,hds⟩:=id hs
 have hTs:s.TypeIs (.ref sl) "slice" := ⟨os,hos,hcs⟩
 have hstep:¬ ((rawPart none == rawInt 0)=true):=Zi
 have hsame:Builtin.List.listSameRef (.ref l) (.ref b)=false:=by
  unfold Builtin.List.listSameRef
  exact beq_eq_false_iff_ne.mpr hne
 have hmax:(max (a:Int) (c:Int)).toNat=c:=by lia
 have hz':((fun xs:Array Value=>xs.extract 0 a++new++xs.extract c xs.size) items).size<=sizeLine+1:=by
  simp only [Array.size_append,Array.size_extract]
  lia
 unfold setItem
 try with_reducible refine YF ?_
 first | refine Zy (Zq ?_) | skip
 refine Zy (wpAny_sequenceKey hl.typeIs (by decide) ?_)
 refine Zy (wpAny_callSpecial?_slot (name:=Str.ofString "__setitem__") hl.typeIs slot_list_setitem
  (XS slot_list_setitem hl.typeIs entry_list_setitem ?_ (args_list_setitem _ _ _)))
 show wpAny _ _ (Builtin.List.listSubscript? (.ref sl) >>= _) _ _ s
 refine Zy ?_
 unfold Builtin.List.listSubscript?
 refine Zy (Xl hTs slice_no_index ?_)
 simp only [Option.isNone_none,if_true]
 refine Zq ?_
 show wpAny _ _ (typeOf (.ref sl) >>= _) _ _ s
 refine Zy (WQ hTs ?_)
 first
  | rw [Zp (by decide)]
  | refine WJ (by decide) ?_
 rw [listSliceParts_eq]
 refine Zy (Zy (wpAny_field hos hds (x:=.none) rfl (Zy (wpAny_listPart .none ?_))))
 rw [Zp hstep]
 refine Zy (wpAny_field hos hds (x:=vl) rfl (Zy (wpAny_listPart pl ?_)))
 refine Zy (wpAny_field hos hds (x:=vu) rfl (Zy (wpAny_listPart pu (Zq ?_))))
 first
  | simp only [hsame,Z4,if_false]
  | refine WJ hsame ?_
  | (dsimp only
     rw [Zp (by rw [hsame];exact Zi)])
 refine Zy (m:=Builtin.List.listAllItems (.ref b) "must assign iterable to extended slice") ?_
 unfold Builtin.List.listAllItems
 refine Zy (WQ hb.typeIs ?_)
 first
  | refine PySem.W.KFB.if_so (by decide) ?_
  | rw [Zs (by decide)]
  | simp only [beq_self_eq_true,Bool.true_or,if_true]
 unfold Builtin.List.listItems
 refine Zy (WD e2 rfl (Zq ?_))
 refine Zy (Zy (WD e rfl (Zq ?_)))
 refine Zy (wpAny_of_eq ((sliceIndices_raw (some (a:Int)) (some (c:Int)) none items.size (by simp)).trans (congrArg (pure:Int×Int×Int->Sem (Int×Int×Int)) (qT hac hc))) ?_)
 show wpAny _ _ (if ((1:Int) == 1)=true then _ else _) _ _ s
 rw [Zs (by decide)]
 refine Zy (XG ?_)
 first
  | simp only [pC hsz,Z4,if_false]
  | refine WJ (pC hsz) ?_
 first | refine Zy (Zq ?_) | skip
 show wpAny _ _ (updateSeq l (fun xs=>xs.extract 0 ((a:Int)).toNat++new++xs.extract (max (a:Int) (c:Int)).toNat xs.size) >>= _) _ _ s
 rw [hmax,YN]
 refine Zy (wpAny_updateSeq (hz:=ZW (ZM _ _) hsz) (_hz':=hz') e rfl ?_)
 refine Zy (wpAny_letGo ?_)
 first
  | exact Zy (Zq (Zq ⟨.none,rfl,Zq h⟩))
  | exact Zq ⟨.none,rfl,Zq h⟩
end
section
variable {κ:Type} [DecidableEq κ]
noncomputable def cC (kvs:List (κ×V)) (k:κ):Option V:=(kvs.find? fun kv=>decide (kv.1=k)).map (·.2)
noncomputable def putK (kvs:List (κ×V)) (k:κ) (v:V):List (κ×V) :=
 if (kvs.any fun kv=>decide (kv.1=k))=true then kvs.map (fun kv=>if kv.1=k then (kv.1,v) else kv) else kvs++[(k,v)]
noncomputable def FH (kvs:List (κ×V)) (k:κ):List (κ×V):=kvs.filter fun kv=>decide (kv.1 ≠ k)
theorem b8 {p:κ×V} {r:List (κ×V)} {k:κ} (e:p.1=k):cC (p :: r) k=some p.2:=by simp [cC,Yt,e]
theorem cT {p:κ×V} {r:List (κ×V)} {k:κ} (e:¬ p.1=k):cC (p :: r) k=cC r k:=by simp [cC,Yt,e]
theorem ip (k:κ):∀ kvs:List (κ×V),(kvs.any fun kv=>decide (kv.1=k))=(cC kvs k).isSome
 | []=>rfl
 | p :: r=>by
  rw [Xz]
  by_cases e:p.1=k
  ·simp only [b8 e,decide_eq_true e,Bool.true_or,Option.isSome_some]
  ·rw [cT e,decide_eq_false e,Bool.false_or];exact ip k r
theorem qo (k j:κ) (y:V):∀ kvs:List (κ×V),cC (kvs.map fun kv=>if kv.1=k then (kv.1,y) else kv) j=(cC kvs j).map fun x=>if j=k then y else x
 | []=>rfl
 | p :: r=>by
  have ih:=qo k j y r
  rw [Zt]
  by_cases h:p.1=k
  ·rw [Zs h]
   by_cases e:p.1=j
   ·rw [b8 (p:=(p.1,y)) e,b8 e,Yc,Zs (e.symm.trans h)]
   ·rw [cT (p:=(p.1,y)) e,cT e,ih]
  ·rw [Zp h]
   by_cases e:p.1=j
   ·rw [b8 (p:=p) e,b8 e,Yc,Zp (fun z=>h (e.trans z))]
   ·rw [cT (p:=p) e,cT e,ih]
theorem mU (k j:κ) (y:V):∀ kvs:List (κ×V),cC kvs k=none->cC (kvs++[(k,y)]) j=if j=k then some y else cC kvs j
 | [],_=>by
  by_cases e:k=j
  ·rw [Zs e.symm];exact b8 (p:=(k,y)) e
  ·rw [Zp (fun z=>e z.symm)];exact cT (p:=(k,y)) e
 | p :: r,hn=>by
  rw [List.cons_append]
  have hk:¬ p.1=k:=fun z=>by rw [b8 z] at hn;cases hn
  rw [cT hk] at hn
  have ih:=mU k j y r hn
  by_cases e:p.1=j
  ·rw [b8 e,b8 e,Zp (fun z=>hk (e.trans z))]
  ·rw [cT e,cT e,ih]
theorem xR (kvs:List (κ×V)) (k j:κ) (y:V):cC (putK kvs k y) j=if j=k then some y else cC kvs j:=by
 unfold putK
 by_cases a:(kvs.any fun kv=>decide (kv.1=k))=true
 ·rw [Zs a,qo]
  rw [ip] at a
  by_cases e:j=k
  ·obtain ⟨x,hx⟩:=Wo.mp a
   rw [Zs e,e,hx,Yc,Zs rfl]
  ·rw [Zp e]
   cases cC kvs j with
   | none=>rfl
   | some x=>rw [Yc,Zp e]
 ·rw [Zp a]
  refine mU k j y kvs ?_
  rw [ip] at a
  cases q:cC kvs k with
  | none=>rfl
  | some x=>rw [q] at a;exact (a rfl).elim
theorem fi (kvs:List (κ×V)) (k:κ) (v:V):(putK kvs k v).length<=kvs.length+1:=by
 unfold putK
 split
 ·rw [Zv];exact ZM _ _
 ·rw [Zu,Zg,YW];exact Zr _
theorem j9.isSome_eq {o:Option V} {u:Vy} (r:j9 o u):o.isSome=u.isSome:=by
 cases o with
 | none=>cases u with
  | none=>rfl
  | some _=>exact (show False from r).elim
 | some _=>cases u with
  | none=>exact (show False from r).elim
  | some _=>rfl
theorem KV.val {kvs:List (κ×V)} {vs:List (κ×Value)} (r:KV kvs vs) (k:κ):j9 (cC kvs k) (valueAt vs k):=by
 unfold KV at r
 induction r with
 | nil=>exact True.intro
 | @cons p q ps qs h t ih =>
  obtain ⟨h1,h2⟩:=h
  by_cases e:p.1=k
  ·have e':q.1=k:=h1.symm.trans e
   have b:valueAt (q :: qs) k=some q.2:=by simp [valueAt,Yt,e']
   rw [b8 e,b];exact h2
  ·have e':¬ q.1=k:=fun z=>e (h1.trans z)
   have b:valueAt (q :: qs) k=valueAt qs k:=by simp [valueAt,Yt,e']
   rw [cT e,b];exact ih
theorem KV.any {kvs:List (κ×V)} {vs:List (κ×Value)} (r:KV kvs vs) (k:κ):(kvs.any fun kv=>decide (kv.1=k))=vs.any fun kv=>decide (kv.1=k):=by
 unfold KV at r
 induction r with
 | nil=>rfl
 | cons h t ih=>rw [Xz,Xz,ih,h.1]
theorem KV.repl {kvs:List (κ×V)} {vs:List (κ×Value)} (r:KV kvs vs) (k:κ) {y:V} {u:Value} (ry:RelV y u) :
  KV (kvs.map fun kv=>if kv.1=k then (kv.1,y) else kv) (vs.map fun kv=>if kv.1=k then (kv.1,u) else kv):=by
 unfold KV at r ⊢
 induction r with
 | nil=>exact .nil
 | @cons p q ps qs h t ih =>
  rw [Zt,Zt]
  refine .cons ?_ ih
  obtain ⟨h1,h2⟩:=h
  by_cases e:p.1=k
  ·rw [Zs e,Zs (h1.symm.trans e)];exact ⟨h1,ry⟩
  ·rw [Zp e,Zp (fun z=>e (h1.trans z))];exact ⟨h1,h2⟩
theorem KV.put {kvs:List (κ×V)} {vs:List (κ×Value)} (r:KV kvs vs) (k:κ) {y:V} {u:Value} (ry:RelV y u):KV (putK kvs k y) (stored vs k u):=by
 unfold putK stored
 rw [r.any k]
 by_cases e:(vs.any fun kv=>decide (kv.1=k))=true
 ·rw [Zs e,Zs e];exact r.repl k ry
 ·rw [Zp e,Zp e];exact Paired.snoc r ⟨rfl,ry⟩
theorem KV.keys {kvs:List (κ×V)} {vs:List (κ×Value)} (r:KV kvs vs):kvs.map (·.1)=vs.map (·.1):=by
 unfold KV at r
 induction r with
 | nil=>rfl
 | cons h t ih=>rw [Zt,Zt,ih,h.1]
theorem KV.length {kvs:List (κ×V)} {vs:List (κ×Value)} (r:KV kvs vs):kvs.length=vs.length:=WY r
end
theorem km {P:Program} {w:World} {k:Key} {u:Value} (r:RelV (kV k) u):(aU P w).is k u=true:=by
 cases k with
 | inl i=>obtain ⟨t,e⟩:=(show ∃ t,u=Value.int i t from r);subst e;exact pM P w i t
 | inr x=>obtain ⟨t,e⟩:=(show ∃ t,u=Value.str x t from r);subst e;exact qi P w x t
theorem m9 {P:Program} {w:World}:∀ {ks:List Key} {us:Xb},aQ (ks.map kV) us->ItemsAre (aU P w) ks us
 | [],_,r=>by rw [YX] at r;cases r;exact .nil
 | k :: ks,_,r=>by
  rw [Zt] at r
  cases r with
  | cons h t=>exact .cons (km h) (m9 t)
noncomputable abbrev KT (H:Hp):List (List Key×V)->List (List Key×Addr×Value)->Prop:=Paired fun p q=>p.1=q.1/\H q.2.1=some (.tup (p.1.map kV))/\RelV p.2 q.2.2
theorem KT.val {H:Hp} {kvs:List (List Key×V)} {xs:List (List Key×Addr×Value)} (r:KT H kvs xs) (k:List Key):j9 (cC kvs k) ((atKey xs k).map (·.2)):=by
 induction r with
 | nil=>exact True.intro
 | @cons p q ps qs h t ih =>
  obtain ⟨h1,_,h2⟩:=h
  by_cases e:p.1=k
  ·have e':q.1=k:=h1.symm.trans e
   have b:atKey (q :: qs) k=some q.2:=by simp [atKey,Yt,e']
   rw [b8 e,b];exact h2
  ·have e':¬ q.1=k:=fun z=>e (h1.trans z)
   have b:atKey (q :: qs) k=atKey qs k:=by simp [atKey,Yt,e']
   rw [cT e,b];exact ih
theorem KT.repl {H:Hp} {kvs:List (List Key×V)} {xs:List (List Key×Addr×Value)} (r:KT H kvs xs) (k:List Key) {y:V} {u:Value} (ry:RelV y u) :
  KT H (kvs.map fun kv=>if kv.1=k then (kv.1,y) else kv) (xs.map (putAt k u)):=by
 induction r with
 | nil=>exact .nil
 | @cons p q ps qs h t ih =>
  rw [Zt,Zt]
  refine .cons ?_ ih
  obtain ⟨h1,h2,h3⟩:=h
  unfold putAt
  by_cases e:p.1=k
  ·rw [Zs e,Zs (h1.symm.trans e)];exact ⟨h1,h2,ry⟩
  ·rw [Zp e,Zp (fun z=>e (h1.trans z))];exact ⟨h1,h2,h3⟩
theorem KT.put {H:Hp} {kvs:List (List Key×V)} {xs:List (List Key×Addr×Value)} (r:KT H kvs xs) (k:List Key) {b:Addr} {y:V} {u:Value} (hb:H b=some (.tup (k.map kV))) (ry:RelV y u) :
  KT H (putK kvs k y) (storedH xs k b u):=by
 have e:(kvs.any fun kv=>decide (kv.1=k))=(atKey xs k).isSome:=by
  rw [ip,(r.val k).isSome_eq,WB]
 unfold putK storedH
 rw [e]
 by_cases q:(atKey xs k).isSome=true
 ·rw [Zs q,Zs q];exact r.repl k ry
 ·rw [Zp q,Zp q];exact Paired.snoc r ⟨rfl,hb,ry⟩
theorem KT.keeps {H H':Hp} {kvs:List (List Key×V)} {xs:List (List Key×Addr×Value)} (r:KT H kvs xs) (ht:∀ b ys,H b=some (.tup ys)->H' b=some (.tup ys)):KT H' kvs xs :=
 Paired.mapP r fun _ _ z=>⟨z.1,ht _ _ z.2.1,z.2.2⟩
section
variable {P:Program} {w:World} {H:Hp} {h:Heap} {a:Addr}
theorem AM {u:HO} (ok:HOk P w H h) (e:Rd H a u):bj P w H h a u:=e.ok ok
theorem nk {kvs:List (Key×V)} (ok:HOk P w H h) (e:Rd H a (.dK kvs)):kvs.length<=sizeLine/\(a == sysModules)=false/\∃ vs,KV kvs vs/\h.DictOf (aU P w) a vs :=
 show bj P w H h a (.dK kvs) from AM ok e
theorem sC {kvs:List (Key×V)} (ok:HOk P w H h) (e:H a=some (.dK kvs)):kvs.length<=sizeLine/\(a == sysModules)=false/\∃ vs,KV kvs vs/\h.DictOf (aU P w) a vs:=nk ok (.inl e)
theorem gh {ks:List Key} (ok:HOk P w H h) (e:H a=some (.tup (ks.map kV))):(tupleKind (aU P w)).is h ks a:=by
 obtain ⟨_,its,r,_,o,h1,h2,n,h3⟩:=(show bj P w H h a (.tup (ks.map kV)) from ok a _ e)
 exact ⟨o,its.toArray,n,h1,h2,h3,by simpa using m9 r⟩
theorem qA {kvs:List (List Key×V)} (ok:HOk P w H h) (e:Rd H a (.dT kvs)):kvs.length<=sizeLine/\(a == sysModules)=false ∧
  ∃ xs,KT H kvs xs/\h.DictOfH (tupleKind (aU P w)) a xs:=by
 obtain ⟨z,y,xs,r,o,es,ep,h1,h2,h3,h4,h5⟩:=(show bj P w H h a (.dT kvs) from AM ok e)
 refine ⟨z,y,xs,r,o,es,ep,h1,h2,h3,h4,fun x hx=>?_,h5⟩
 have all:∀ {l:List (List Key×V)} {m:List (List Key×Addr×Value)},KT H l m->∀ x∈m,(tupleKind (aU P w)).is h x.1 x.2.1:=by
  intro l m q
  induction q with
  | nil=>intro x hx;exact nomatch hx
  | @cons p q ps qs hq t ih =>
   intro x hx
   rcases Zo.mp hx with e | hx
   ·subst e
    exact gh ok (by rw [← hq.1];exact hq.2.1)
   ·exact ih x hx
 exact all r x hx
theorem DG {kvs:List (List Key×V)} (ok:HOk P w H h) (e:H a=some (.dT kvs)):kvs.length<=sizeLine/\(a == sysModules)=false ∧
  ∃ xs,KT H kvs xs/\h.DictOfH (tupleKind (aU P w)) a xs:=qA ok (.inl e)
end
noncomputable def ji (H:Hp) (a:Addr) (y:V) (r:Option V):Prop :=
 (∃ kvs k,Rd H a (.dK kvs)/\y=kV k/\r=cC kvs k)\/∃ kvs k b,Rd H a (.dT kvs)/\y=.ref b/\H b=some (.tup (k.map kV))/\r=cC kvs k
noncomputable def xx (H:Hp) (a:Addr) (y v:V) (H':Hp):Prop :=
 (∃ kvs k,H a=some (.dK kvs)/\y=kV k/\kvs.length < sizeLine/\H'=upd H a (.dK (putK kvs k v))) ∨
 ∃ kvs k b,H a=some (.dT kvs)/\y=.ref b/\H b=some (.tup (k.map kV))/\kvs.length < sizeLine/\H'=upd H a (.dT (putK kvs k v))
theorem ji.k {H:Hp} {a:Addr} {kvs:List (Key×V)} {k:Key} (e:H a=some (.dK kvs)):ji H a (kV k) (cC kvs k):=.inl ⟨kvs,k,.inl e,rfl,rfl⟩
theorem xx.k {H:Hp} {a:Addr} {kvs:List (Key×V)} {k:Key} {v:V} (e:H a=some (.dK kvs)) (hl:kvs.length < sizeLine):xx H a (kV k) v (upd H a (.dK (putK kvs k v))):=.inl ⟨kvs,k,e,rfl,hl,rfl⟩
section
variable {X:Cx} {pins:Yp} {σ:St} {H:Hp} {s:Shared} {a:Addr} {y v:V} {u r:Value} {o:Option V} {A:Around} {E:Yy}
theorem Inv.big (I:Inv X pins σ H s):sysModules < s.heap.objs.size:=by
 have h:mainGlobals < s.heap.objs.size:=(I.mod.glob.keeps I.bk).lt
 exact Wz (by decide) h
theorem tH {Q:Yy} (hu:A.units+1 < cLine) (I:Inv X pins σ H s) (g:ji H a y (some v)) (ry:RelV y u) (h:∀ w' s',Inv X pins σ H s'->RelV v w'->Q w' s') :
  wpAny (model X.prog X.w) A (getItem (.ref a) u) Q E s:=by
 rcases g with ⟨kvs,k,e,ey,l⟩ | ⟨kvs,k,b,e,ey,eb,l⟩
 ·subst ey
  obtain ⟨z,hd,vs,rel,dd⟩:=nk I.hok e
  obtain ⟨w',hw,rw'⟩:=j9.some_of (v:=v) (o:=valueAt vs k) (by rw [l];exact rel.val k)
  exact wpAny_getItem_of (km ry) dd.mapOf hw (h w' _ (I.tok _) rw')
 ·subst ey
  cases (show u=Value.ref b from ry)
  obtain ⟨z,hd,xs,rel,dd⟩:=qA I.hok e
  obtain ⟨w',hw,rw'⟩:=j9.some_of (v:=v) (o:=(atKey xs k).map (·.2)) (by rw [l];exact rel.val k)
  obtain ⟨p,hp,hp2⟩:=Zm.mp hw
  refine wpAny_getItem_heap (Wl hu) (gh I.hok eb) dd hp ?_
  rw [hp2]
  exact h w' _ (I.tok _) rw'
theorem FD {Q:Yy} (hu:A.units+1 < cLine) (I:Inv X pins σ H s) (g:ji H a y o) (ry:RelV y u) (h:∀ s',Inv X pins σ H s'->Q (.bool o.isSome) s') :
  wpAny (model X.prog X.w) A (compareOp .In u (.ref a)) Q E s:=by
 rcases g with ⟨kvs,k,e,ey,l⟩ | ⟨kvs,k,b,e,ey,eb,l⟩
 ·subst ey
  obtain ⟨z,hd,vs,rel,dd⟩:=nk I.hok e
  refine wpAny_in_of (km ry) hd dd.mapOf ?_
  rw [← (rel.val k).isSome_eq,← l]
  exact h _ (I.tok _)
 ·subst ey
  cases (show u=Value.ref b from ry)
  obtain ⟨z,hd,xs,rel,dd⟩:=qA I.hok e
  refine wpAny_in_heap (Wl hu) (gh I.hok eb) hd dd ?_
  have q:=(rel.val k).isSome_eq
  rw [WB] at q
  rw [← q,← l]
  exact h _ (I.tok _)
theorem yr {Q:Yy} (hu:A.units+1 < cLine) (I:Inv X pins σ H s) (g:ji H a y o) (ry:RelV y u) (h:∀ s',Inv X pins σ H s'->Q (.bool (!o.isSome)) s') :
  wpAny (model X.prog X.w) A (compareOp .NotIn u (.ref a)) Q E s:=by
 rcases g with ⟨kvs,k,e,ey,l⟩ | ⟨kvs,k,b,e,ey,eb,l⟩
 ·subst ey
  obtain ⟨z,hd,vs,rel,dd⟩:=nk I.hok e
  refine wpAny_notIn_of (km ry) hd dd.mapOf ?_
  rw [← (rel.val k).isSome_eq,← l]
  exact h _ (I.tok _)
 ·subst ey
  cases (show u=Value.ref b from ry)
  obtain ⟨z,hd,xs,rel,dd⟩:=qA I.hok e
  refine wpAny_notIn_heap (Wl hu) (gh I.hok eb) hd dd ?_
  have q:=(rel.val k).isSome_eq
  rw [WB] at q
  rw [← q,← l]
  exact h _ (I.tok _)
theorem iQ {h':Heap} {t':Nat} {ob:HO} (I:Inv X pins σ H s) (mu:Mut (H a)) (hs:Heap.SameBut a s.heap h') (he:∃ q,h'.get? a=some q) (new:bj X.prog X.w (upd H a ob) h' a ob) :
  Inv X pins σ (upd H a ob) { s with heap:=h',toks:=t' } :=
 I.write (x:=a) (e:=a) mu (.inl rfl) (fun b q hb z=>(hs.2 b hb).trans z) he new
theorem om {P:Program} {w:World} {H':Hp} {h':Heap} {kvs:List (Key×V)} {vs:List (Key×Value)} (z:kvs.length<=sizeLine) (hd:(a == sysModules)=false) (rel:KV kvs vs) (dd:h'.DictOf (aU P w) a vs) :
  bj P w H' h' a (.dK kvs):=⟨z,hd,vs,rel,dd⟩
theorem tM {H':Hp} {Q:Unit->Shared->Prop} (hu:A.units+1 < cLine) (I:Inv X pins σ H s) (g:xx H a y v H') (ry:RelV y u) (rv:RelV v r) (h:∀ s',Inv X pins σ H' s'->Q () s') :
  wpAny (model X.prog X.w) A (setItem (.ref a) u r) Q E s:=by
 rcases g with ⟨kvs,k,e,ey,l,eH⟩ | ⟨kvs,k,b,e,ey,eb,l,eH⟩
 ·subst ey eH
  obtain ⟨z,hd,vs,rel,dd⟩:=sC I.hok e
  have hz:vs.length<=sizeLine:=by rw [← rel.length];exact z
  have hl:(putK kvs k v).length<=sizeLine:=by have:=fi kvs k v;lia
  refine wpAny_setItem_pairs (hsz:=hz) (km ry) dd fun h' dd' hs=>h _ ?_
  have he:∃ q,h'.get? a=some q:=let ⟨q,_,_,hq,_⟩:=dd';⟨q,hq⟩
  exact iQ I (by rw [e];exact True.intro) hs he (om hl hd (rel.put k rv) dd')
 ·subst ey eH
  cases (show u=Value.ref b from ry)
  obtain ⟨z,hd,xs,rel,dd⟩:=DG I.hok e
  have hz:xs.length<=sizeLine:=by rw [← WY rel];exact z
  have hl:(putK kvs k v).length<=sizeLine:=by have:=fi kvs k v;lia
  refine wpAny_setItem_heap (hsz:=hz) (Wl hu) (gh I.hok eb) dd fun h' dd' hs=>h _ ?_
  obtain ⟨q,es,ep,hq,h2,h3,h4,_,h5⟩:=dd'
  refine iQ I (by rw [e];exact True.intro) hs ⟨q,hq⟩ ⟨hl,hd,_,(rel.put k eb rv).keeps fun c ys ec=>?_,q,es,ep,hq,h2,h3,h4,h5⟩
  rw [aA (EF ec e (fun z=>nomatch z))]
  exact ec
end
section
variable {X:Cx} {pins:Yp} {σ:St} {H:Hp} {s:Shared} {a:Addr} {kvs:List (Key×V)} {k:Key} {u:Value} {A:Around} {E:Yy}
theorem DY {Q:Yy} (I:Inv X pins σ H s) (e:Rd H a (.dK kvs)) (h:∀ t s',Inv X pins σ H s'->Q (.int kvs.length t) s'):wpAny (model X.prog X.w) A (call (.builtin "len") [.ref a]) Q E s:=by
 obtain ⟨z,hd,vs,rel,dd⟩:=nk I.hok e
 refine call_len_dict hd dd (by rw [← rel.length];rw [WC] at z;lia) ?_
 rw [← rel.length]
 exact h _ _ (I.tok _)
end
theorem o8 {X:Cx} {pins:Yp} {σ:St} {H:Hp} {s:Shared} {a:Addr} {y:V} {o:Option V} (I:Inv X pins σ H s) (g:ji H a y o):s.TypeIs (.ref a) "dict" := by
 rcases g with ⟨kvs,k,e,_,_⟩ | ⟨kvs,k,b,e,_,_,_⟩
 ·obtain ⟨_,_,vs,_,dd⟩:=nk I.hok e
  exact dd.typeIs
 ·obtain ⟨_,_,xs,_,dd⟩:=qA I.hok e
  exact dd.typeIs
theorem qj {P:Program} {w:World} {H:Hp} (h:Heap) (hb:sysModules < h.objs.size):bj P w H (h.push { cls:=.type "dict",data:=.dict #[] }) h.objs.size (.dK []) :=
 ⟨ZO _,beq_eq_false_iff_ne.mpr (YE (ZL hb)),[],.nil,Heap.DictOf.new h⟩
noncomputable def CH:TE:=fun _ H Q=>∀ p,H p=none->Q (.ref p) (upd H p (.dK []))
section
variable {X:Cx} {pos:Pos}
theorem vD:PE X (.Dict [] [] pos) CH:=fun pins s σ H Q I h =>
 wpAny_Dict_empty ⟨.ref s.heap.objs.size,_,I.laid (a:=s.heap.objs.size) (o:=.dK []) (t':=s.toks) (fun _ _ q=>Ze _ q) (Zr _) (qj s.heap I.big),rfl,h _ (I.hok.fresh (Zr _))⟩
end
noncomputable def rD:List (TE×TE)->St->Hp->(List (V×V)->Hp->Prop)->Prop
 | [],_,H,Q=>Q [] H
 | (tk,tv) :: r,σ,H,Q=>tk σ H fun x H1=>tv σ H1 fun y H2=>rD r σ H2 fun ps H3=>Q ((x,y) :: ps) H3
noncomputable abbrev VV:List (V×V)->List (Value×Value)->Prop:=Paired fun p q=>RelV p.1 q.1/\RelV p.2 q.2
noncomputable def PPs (X:Cx) (pos:Pos) (keys:List (Option Expr)) (values:List Expr) (trs:List (TE×TE)):Prop :=
 ∀ (pins:Yp) (s:Shared) (σ:St) (H:Hp) (Q:List (V×V)->Hp->Prop),Inv X pins σ H s->rD trs σ H Q →
  wpAny (model X.prog X.w) X.A (evalPairs (pairTrees keys values X.env pos)) (fun vs s'=>∃ ps H',Inv X pins σ H' s'/\VV ps vs/\Q ps H') X.xe s
theorem zd {X:Cx} {pos:Pos}:PPs X pos [] [] []:=fun pins s σ H Q I h=>pairTrees_nil_walk ⟨[],H,I,.nil,h⟩
theorem uT {X:Cx} {pos:Pos} {k v:Expr} {ks:List (Option Expr)} {vs:List Expr} {tk tv:TE} {trs:List (TE×TE)} (hk:PE X k tk) (hv:PE X v tv) (hr:PPs X pos ks vs trs) :
  PPs X pos (some k :: ks) (v :: vs) ((tk,tv) :: trs):=fun pins s σ H Q I h =>
 pairTrees_cons_walk (thn (hk pins s σ H _ I h) fun u s1 ⟨x,H1,I1,rx,q1⟩=>thn (hv pins s1 σ H1 _ I1 q1) fun w2 s2 ⟨y,H2,I2,ry,q2⟩ =>
  thn (hr pins s2 σ H2 _ I2 q2) fun ws s3 ⟨ps,H3,I3,rel,q3⟩=>⟨(x,y) :: ps,H3,I3,.cons ⟨rx,ry⟩ rel,q3⟩)
noncomputable def kc (kvs more:List (Key×V)):List (Key×V):=more.foldl (fun acc kv=>putK acc kv.1 kv.2) kvs
theorem KV.merge:∀ {more:List (Key×V)} {rs:List (Key×Value)} {kvs:List (Key×V)} {vs:List (Key×Value)},KV more rs->KV kvs vs->KV (kc kvs more) (merged vs rs):=by
 intro more rs kvs vs r
 unfold KV at r
 induction r generalizing kvs vs with
 | nil=>intro q;exact q
 | @cons p q ps qs h t ih =>
  intro r0
  have e:KV (putK kvs p.1 p.2) (stored vs q.1 q.2):=by
   have:=r0.put p.1 h.2
   rw [← h.1];exact this
  exact ih e
theorem i8:∀ (more kvs:List (Key×V)),(kc kvs more).length<=kvs.length+more.length
 | [],kvs=>by show kvs.length<=kvs.length+0;exact ZM _ _
 | p :: r,kvs=>by
  have h1:=i8 r (putK kvs p.1 p.2)
  have h2:=fi kvs p.1 p.2
  show (kc (putK kvs p.1 p.2) r).length<=_
  rw [Zg];lia
theorem lH {P:Program} {w:World}:∀ {kvs:List (Key×V)} {ws:List (Value×Value)},VV (kvs.map fun kv=>(kV kv.1,kv.2)) ws->∃ rs,Carries (aU P w) ws rs/\KV kvs rs
 | [],_,r=>by rw [YX] at r;cases r;exact ⟨[],True.intro,.nil⟩
 | p :: kvs,_,r=>by
  rw [Zt] at r
  cases r with
  | @cons a b as bs h t =>
   obtain ⟨rs,c,q⟩:=lH (P:=P) (w:=w) t
   obtain ⟨b1,b2⟩:=b
   exact ⟨(p.1,b2) :: rs,⟨km h.1,rfl,c⟩,.cons ⟨rfl,h.2⟩ q⟩
noncomputable def Dc (trs:List (TE×TE)):TE:=fun σ H Q=>∀ p,H p=none->rD trs σ (upd H p (.dK [])) fun ps H2=>H2 p=some (.dK [])/\∃ kvs:List (Key×V),ps=kvs.map (fun kv=>(kV kv.1,kv.2))/\kvs.length<=15/\Q (.ref p) (upd H2 p (.dK (kc [] kvs)))
theorem zM {X:Cx} {pos:Pos} {keys:List (Option Expr)} {values:List Expr} {trs:List (TE×TE)} (h:PPs X pos keys values trs) (hall:keys.all (·.isSome)=true) (hl:keys.length=values.length) (h0:keys ≠ [])
  (h15:keys.length<=15):PE X (.Dict keys values pos) (Dc trs):=by
 intro pins s σ H Q I q
 have hn:=I.hok.fresh (Zr s.heap.objs.size)
 have I1:=I.laid (a:=s.heap.objs.size) (o:=.dK []) (h':=s.heap.push { cls:=.type "dict",data:=.dict #[] }) (t':=s.toks) (fun _ _ q=>Ze _ q) (Zr _) (qj s.heap I.big)
 refine wpAny_Dict_walk (knd:=aU X.prog X.w) hall hl h0 h15 (thn (h pins _ σ _ _ I1 (q _ hn)) fun ws s2 ⟨ps,H2,I2,rel,e,kvs,ep,lk,q2⟩=>?_)
 subst ep
 obtain ⟨rs,c,rk⟩:=lH (P:=X.prog) (w:=X.w) rel
 obtain ⟨z,hd,vs0,r0,dd⟩:=sC I2.hok e
 cases r0
 refine ⟨rs,c,dd,fun h' dd' hs=>⟨.ref s.heap.objs.size,_,?_,rfl,q2⟩⟩
 have hz:(kc [] kvs).length<=sizeLine:=by
  have h1:=i8 kvs []
  rw [YW] at h1
  rw [WC];lia
 have he:∃ q,h'.get? s.heap.objs.size=some q:=let ⟨q,_,_,hq,_⟩:=dd';⟨q,hq⟩
 exact iQ I2 (by rw [e];exact True.intro) hs he (om hz hd (rk.merge .nil) dd')
end L2
namespace Att
open PySem PySem.W PySem.Calls PyProof.Rows
theorem kD {P:Params} {h:Heap}:∀ (ns:Vq) (vs:Xb),WellAll P h vs (ns.map WData.int)->IntsAre vs ns:=by
 intro ns
 induction ns with
 | nil =>
  intro vs w
  rw [YX] at w
  cases w
  exact .nil
 | cons n ns ih =>
  intro vs w
  rw [Zt] at w
  cases w with
  | cons a b =>
   cases a
   exact .cons _ _ (ih _ b)
theorem ue {l:OpenLaw} {n:Nat} (hn:l.most=some n) {P:Params} {h:Heap} {args:List WData} {vals:Xb}
  (hpre:l.row.toRowW.claim.pre args=true) (hwl:WellAll P h vals args) :
  ∃ a vs ns,vals=[Value.ref a]/\args=[WData.list (ns.map WData.int)]/\h.get? a=some { cls:=.type "list",data:=.seq vs.toArray }/\IntsAre vs ns/\ns.length<=n:=by
 have hsh:WShape.hasAll [] args [.list .int]=true:=(pre_splitW hpre).1
 have hc:l.pre.holds [] { args:=args }=true:=(pre_splitW hpre).2
 obtain ⟨d,r,rfl,h1,h2⟩:=hasAllW_cons hsh
 obtain rfl:=hasAllW_nil h2
 obtain ⟨xs,rfl,h3⟩:=hasW_list h1
 obtain ⟨ns,rfl⟩:=items_int h3
 have hlen:ns.length<=n:=by
  unfold OpenLaw.pre at hc
  have h4:(WTm.not (.lt (.lit (.int (n:Int))) (.len (.arg 0)))).holds [] { args:=[.list (ns.map .int)] }=true:=by
   have h4:=(holds_andW hc).1
   rw [hn] at h4
   exact h4
  have h5:=condW_of h4 (w_not (w_lt w_lit (w_len_list (w_arg rfl))))
  rw [Zv] at h5
  refine Xw fun q=>?_
  have q':(n:Int) < ((ns.length:Nat):Int):=by omega
  first
   | (rw [decide_eq_true q'] at h5;exact absurd h5 (by decide))
   | (simp at h5;omega)
 cases hwl with
 | cons w1 w2 =>
  cases w2
  cases w1 with
  | list ho hall=>exact ⟨_,_,ns,rfl,rfl,ho,kD ns _ hall,hlen⟩
theorem uG (l:OpenLaw) (args:List WData):l.row.toRowW.claim.post args (.bool true) args=true :=
 postW_of (r:=l.row.toRowW) (X:=(true == true))
  (show WShape.has [] (.bool true) .bool=true by first | rfl | decide | simp [WShape.has,WShape.arms,WShape.armsAll])
  (show (WTm.eq .res (.lit (.bool true))).value [] { args:=args,res:=some (.bool true),after:=args }=some (.bool (true == true)) from w_eq_bool (w_res rfl) w_lit) rfl
theorem pZ {l:OpenLaw} {n:Nat} {q:Program} {loose:List Str} {XP:(Xg)->Heap->Prop} {YP:World->Heap->Prop} {d:DefRec}
  (hn:l.most=some n) (hdf:d.params.defaults=[])
  (call:∀ (w:World) (s₀ s₁:Shared) (mg mb:Xg) (fa:Addr) (o:Obj) (pm cd doc:Value) (a:Addr) (vs:Xb) (ns:Vq),
   Ground q loose [] XP w s₀ mg mb s₁.heap->YP w s₁.heap →
   s₁.heap.get? fa=some o->o.data=.func (docDef d.name d.params d.body d.scope pm cd doc)->s₁.heap.CodeRec cd d.name->mg d.name=some (.ref fa) →
   s₁.heap.get? a=some { cls:=.type "list",data:=.seq vs.toArray }->IntsAre vs ns->ns.length<=n->s₁.gens=#[] →
   codeAny (model l.prog w) callerA (.call (.ref fa) ⟨[.ref a],[]⟩) (fun r s'=>r=.ok (.ret (.bool true))/\OldK s₁.heap s'.heap/\s'.os=s₁.os/\AllBare s'.gens) s₁) :
  WalkO q loose XP YP l.row.toRowW d [] (fun f vs=>PySem.call f vs):=by
 intro w s₀ s₁ mg mb G Y fa o pm cd doc dV kV ho hd hcd hD hmg hg args vals as hpre hlay hrd hwl hlo
 obtain rfl:dV=.none:=Dflts.none hD hdf
 obtain rfl:kV=.none:=Dflts.noKw hD
 obtain ⟨a,vs,ns,rfl,rfl,hobj,hints,hlen⟩:=ue hn hpre hwl
 refine enter_call (codeAny_mono (call w s₀ s₁ mg mb fa o pm cd doc a vs ns G Y ho (fd_plain hd) hcd hmg hobj hints hlen hg) fun r s' hq=>?_)
 obtain ⟨rfl,h2,h3,h4⟩:=hq
 exact ⟨.inl ⟨.bool true,.bool true,[],rfl,fun _=>rfl,.bool true,uG l _,fun _=>⟨List.Pairwise.nil,fun _ hm=>(nomatch hm)⟩⟩,h2,h3,h4⟩
end Att
namespace L2
open PySem PySem.Spec PyProof.Rows
theorem mN:∀ {vs:Xb} {ns:Vq},IntsAre vs ns->aQ (ns.map V.int) vs
 | _,_,.nil=>.nil
 | _,_,.cons n t h=>.cons ⟨t,rfl⟩ (mN h)
noncomputable def vR (H:Hp):Prop:=∀ b,H b=none\/∃ o xs,H b=some (.frz o (.lst xs))
theorem xT {P:Program} {w:World} {K:Xs} {mg mb:Xg} {CX:CXT} {k:Nat} {fa a:Addr} {fd:FuncData} {x:Str} {sp:Sp} {s₁:Shared} {vs:Xb} {ns:Vq}
  (KX:K.In s₁.heap) (hns:s₁.heap.Ns mainGlobals mg) (hb:s₁.heap.Ns builtinsNs mb) (hbb:∀ x:Str,x ≠ "__name__" → mb x=bootBuiltins x) (hlim:s₁.heap.NoLimit) (hg:s₁.gens=#[])
  (ha:s₁.heap.get? a=some { cls:=.type "list",data:=.seq vs.toArray }) (hi:IntsAre vs ns) (hl:ns.length<=sizeLine) (hr:Room k callerA)
  (F:∀ base:Heap,K.In base->base.Ns mainGlobals mg->FnOk P w K mg base CX k fa fd [x] sp) (hbind:∀ (s:Shared) (u:Value),BindsTo s fd ⟨[u],[]⟩ [(x,u)])
  (hsp:∀ H:Hp,vR H->SqL K H a (ns.map V.int)->sp [.ref a] H (fun v _=>v=.bl true) fun _ _ _=>False)
  (hCX:∀ H e s',CX [] H s₁ (fun _ _ _=>False) e s'->False) :
  codeAny (model P w) callerA (.call (.ref fa) ⟨[.ref a],[]⟩) (fun r s'=>r=.ok (.ret (.bool true))/\OldK s₁.heap s'.heap/\s'.os=s₁.os/\AllBare s'.gens) s₁:=by
 have rv:=mN hi
 have lenV:=hi.length
 have core:∀ H:Hp,vR H->SqL K H a (ns.map V.int)->HOk P w H s₁.heap->(∀ b,H b ≠ none->b=a)->(H a ≠ none->K.lookup a=none) →
   codeAny (model P w) callerA (.call (.ref fa) ⟨[.ref a],[]⟩) (fun r s'=>r=.ok (.ret (.bool true))/\OldK s₁.heap s'.heap/\s'.os=s₁.os/\AllBare s'.gens) s₁:=by
  intro H hO hS hok hA hK
  have base_of:∀ {b:Addr} {o:Obj},s₁.heap.get? b=some o->H b=none->(oD s₁.heap H).get? b=some o:=fun e n=>xp e n
  have noA:∀ {b:Addr} {o:Obj} {es:Array DictEntry} {ep:Nat},s₁.heap.get? b=some o->o.data=.dict es ep->H b=none:=fun {b o es ep} e d=>by
   cases q:H b with
   | none=>rfl
   | some u =>
    have e':b=a:=hA b (by rw [q];simp)
    subst e'
    rw [ha] at e;cases e
    have d':Data.seq vs.toArray _=Data.dict es ep:=d
    cases d'
  have nsK:∀ {b:Addr} {m:Xg},s₁.heap.Ns b m->(oD s₁.heap H).Ns b m:=fun {b m} ⟨o,es,ep,e,d,r⟩=>⟨o,es,ep,base_of e (noA e d),d,r⟩
  have hKb:K.In (oD s₁.heap H):=fun b o e=>base_of (KX b o e) (by
   cases q:H b with
   | none=>rfl
   | some u =>
    have e':b=a:=hA b (by rw [q];simp)
    subst e'
    rw [hK (by rw [q];simp)] at e;cases e)
  have hM:Mod K mg (oD s₁.heap H):=⟨hKb,nsK hns,⟨mb,nsK hb,hbb⟩,let ⟨mc,h1,h2⟩:=hlim;⟨mc,nsK h1,h2⟩⟩
  have e0:Env0 P w K mg (oD s₁.heap H) callerA [] s₁ H:=⟨rfl,hM,fun b o e=>AE e,We (uq _ _),trivial,fun b hb=>absurd (show b∈([]:Xf) from hb) (by simp),hok,.of_eq hg⟩
  refine codeAny_mono ((F _ hKb (nsK hns)).run callerA [] s₁ H ⟨[.ref a],[]⟩ [.ref a] [.ref a] _ _ hr e0 (hbind s₁ (.ref a)) (.cons rfl .nil) (hsp H hO hS)) fun r s' h=>?_
  cases r with
  | error e=>exact (hCX H e s' h).elim
  | ok fl =>
   cases fl with
   | next=>exact False.elim h
   | brk=>exact False.elim h
   | cont=>exact False.elim h
   | ret u =>
    obtain ⟨v,H',os,bare,un,hok',r',q⟩:=h
    have q':v=.bl true:=q
    subst q'
    obtain rfl:u=Value.bool true:=r'
    refine ⟨rfl,OldK.of_keep fun b o e=>?_,os,bare⟩
    cases q:H b with
    | none=>exact un.keep b o e q (by intro z;exact absurd (show b∈([]:Xf) from z) (by simp)) (by simp)
    | some u =>
     rcases hO b with z | ⟨ob,xs,z⟩
     ·rw [q] at z;cases z
     ·have z2:=un.frzs b ob _ z
      obtain ⟨e1,_⟩:=hok b _ z
      obtain ⟨e2,_⟩:=hok' b _ z2
      rw [e] at e1;cases e1
      exact e2
 cases hk:K.lookup a with
 | some o =>
  have e:=KX a o hk
  rw [ha] at e
  cases e
  refine core (fun _=>none) (fun _=>.inl rfl) (.inr ⟨_,vs.toArray,_,hk,rfl,rfl,rfl,by rw [Zc,lenV];exact hl,by simpa using rv⟩) (fun b u z=>by have z':(none:Option HO)=some u:=z;cases z') (fun b z=>absurd rfl z) fun z=>absurd rfl z
 | none =>
  refine core (fun b=>if b=a then some (.frz { cls:=.type "list",data:=.seq vs.toArray } (.lst (ns.map V.int))) else none) (fun b=>?_) (.inl (.inr ⟨{ cls:=.type "list",data:=.seq vs.toArray },Zs rfl⟩)) (fun b u z=>?_) (fun b z=>?_) fun _=>hk
  ·by_cases hb:b=a
   ·exact .inr ⟨_,_,Zs hb⟩
   ·exact .inl (Zp hb)
  ·by_cases hb:b=a
   ·have z':=(Zs hb).symm.trans z
    cases z'
    subst hb
    exact ⟨ha,by rw [Zv];exact hl,vs,_,rv,ha⟩
   ·have z':=(Zp hb).symm.trans z
    cases z'
  ·by_cases hb:b=a
   ·exact hb
   ·exact absurd (Zp hb) z
theorem zb {l:PySem.W.OpenLaw} {n k:Nat} {q:Program} {loose:List Str} {XP:(Xg)->Heap->Prop} {YP:World->Heap->Prop} {d:DefRec} {K:Params->Xs} {CX:World->CXT} {sp:World->Sp} {x:Str}
  (hn:l.most=some n) (hn2:n<=sizeLine) (hdf:d.params.defaults=[]) (hr:Room k callerA)
  (hY:∀ (w:World) (h:Heap),YP w h->(K w.params).In h)
  (F:∀ (w:World) (mg:Xg) (fa:Addr) (h:Heap),(K w.params).In h->h.Ns mainGlobals mg->mg d.name=some (.ref fa) →
   ∃ fd:FuncData,(∀ (s:Shared) (u:Value),BindsTo s fd ⟨[u],[]⟩ [(x,u)]) ∧
    ∀ base:Heap,(K w.params).In base->base.Ns mainGlobals mg->FnOk l.prog w (K w.params) mg base (CX w) k fa fd [x] (sp w))
  (hsp:∀ (w:World) (H:Hp) (a:Addr) (ns:Vq),ns.length<=n->vR H->SqL (K w.params) H a (ns.map V.int)->sp w [.ref a] H (fun v _=>v=.bl true) fun _ _ _=>False)
  (hCX:∀ (w:World) (H:Hp) (s:Shared) (e:Value) (s':Shared),CX w [] H s (fun _ _ _=>False) e s'->False) :
  PySem.W.WalkO q loose XP YP l.row.toRowW d [] (fun f vs=>PySem.call f vs):=by
 refine Att.pZ hn hdf fun w s₀ s₁ mg mb fa o pm cd doc a vs ns G Y ho hd hcd hmg hobj hints hlen hg=>?_
 have KX:=hY w _ Y
 obtain ⟨fd,hb,hF⟩:=F w mg fa _ KX G.T.g hmg
 exact xT KX G.T.g G.T.b G.T.builtins G.T.nolimit hg hobj hints (ZW hlen hn2) hr hF hb (fun H hO hS=>hsp w H a ns hlen hO hS) fun H e s'=>hCX w H s₁ e s'
noncomputable def aT (s:Stmt):Arguments:=match s with
 | .FunctionDef _ a _ _ _ _ _ _ _ _=>a
 | _=>{ posonlyargs:=[],args:=[],vararg:=none,kwonlyargs:=[],kw_defaults:=[],kwarg:=none,defaults:=[] }
noncomputable def aM (s:Stmt):List Stmt:=match s with
 | .FunctionDef _ _ b _ _ _ _ _ _ _=>b
 | _=>[]
noncomputable def ao (s:Stmt):Scope:=match s with
 | .FunctionDef _ _ _ _ _ _ sc _ _ _=>sc
 | _=>{ kind:=.function,names:=[],isGenerator:=false,isCoroutine:=false }
noncomputable abbrev CX0:CXT:=fun _ _ _ _ _ _=>False
noncomputable abbrev E0:XK:=fun _ _ _=>False
theorem Em {X:Cx}:qJ CX0 X E0:=fun _ _ _ _ _ _ _ h=>h.elim
structure Fun (K:Xs) (x qual:Str) (st:Stmt) (f:Addr) (fd:FuncData):Prop where
 ex:∃ (oc:Value) (od:Option Addr) (kV doc pm:Value) (an:Option Addr) (cdv ct:Value) (osl:Array (Vy)),
  fd=PySem.W.fnOf x qual (aT st) (aM st) (ao st) .none kV doc pm an cdv ct/\K.lookup f=some ⟨oc,od,.func fd,osl⟩/\PySem.W.codeIn K cdv qual=true
 kp:PySem.W.keepIn K (.ref f)=true
section
variable {P:Program} {w:World} {K:Xs} {mg:Xg} {base:Heap}
theorem Fun.ok {x qual:Str} {st:Stmt} {f:Addr} {fd:FuncData} {N ps:List Str} {k:Nat} {sp:Sp} (F:Fun K x qual st f fd) (S:FnScope N ps (ao st)) (len:∀ vs H Q E,sp vs H Q E->vs.length=ps.length)
  (hbody:∀ (cdv:Value) (A:Around) (outer:List Env) (s:Shared) (H:Hp) (vs:List V) (Q:VK) (E:XK),Room k (A.deeper (envOfC qual (ao st) s.heap.objs.size f cdv))->sp vs H Q E →
   ∃ t,PSs (mI CX0 P w K mg base N qual (ao st) f cdv A outer s H E).nox (aM st) t/\t { nx:=fun _ H'=>Q .non H',rt:=Q } (start N vs) H):FnOk P w K mg base CX0 (k+1) f fd ps sp:=by
 obtain ⟨oc,od,kV,doc,pm,an,cdv,ct,osl,rfl,lk,hcd⟩:=F.ex
 refine EB lk hcd S len fun A outer s H vs Q E hr hsp=>?_
 obtain ⟨t,h,q⟩:=hbody cdv A outer s H vs Q E hr hsp
 exact ⟨t,h.nox,q⟩
theorem Fun.binds {x qual:Str} {st:Stmt} {f:Addr} {fd:FuncData} {ps:List Str} (F:Fun K x qual st f fd)
  (h:∀ (kV doc pm:Value) (an:Option Addr) (cdv ct:Value) (us:Xb),us.length=ps.length->bindArgs (PySem.W.fnOf x qual (aT st) (aM st) (ao st) .none kV doc pm an cdv ct) ⟨us,[]⟩=pure (ps.zip us)):Binds K fd ps []:=by
 obtain ⟨oc,od,kV,doc,pm,an,cdv,ct,osl,rfl,lk,hcd⟩:=F.ex
 exact .all (h kV doc pm an cdv ct)
theorem bV {x qual:Str} {st:Stmt} {f:Addr} {oc:Value} {od an:Option Addr} {osl:Array (Vy)} {kV doc pm cdv ct:Value} (l:K.lookup f=some ⟨oc,od,.func (PySem.W.fnOf x qual (aT st) (aM st) (ao st) .none kV doc pm an cdv ct),osl⟩)
  (c:PySem.W.codeIn K cdv qual=true) (k:PySem.W.keepIn K (.ref f)=true):Fun K x qual st f (PySem.W.fnOf x qual (aT st) (aM st) (ao st) .none kV doc pm an cdv ct):=⟨⟨oc,od,kV,doc,pm,an,cdv,ct,osl,rfl,l,c⟩,k⟩
end
theorem su {A:Around} {k:Nat} (hr:Room k A):A.units+1 < cLine:=XR (Nat.add_le_add_left (by decide:1<=64) _) hr.units
section
variable {X:Cx}
theorem pv (i:Nat) {x:Str} {pos:Pos} (hN:X.N[i]?=some x:=by rfl) (hv:Vis X.env.scope x:=by first | exact Or.inl rfl | exact Or.inr (Or.inl rfl) | exact Or.inr (Or.inr rfl)) (hd:(x == ("__debug__" : Str))=false:=by decide)
  (hcd:(x == ("__classdict__" : Str))=false:=by decide):PE X (.Name x pos) (uv i):=eI hN hv hd hcd
end
theorem Af {A B:Prop} (h:B):if false=true then A else B:=by
 rw [Zp Zi]
 exact h
theorem AC {A B:Prop} (h:A):if true=true then A else B:=by
 rw [Zs rfl]
 exact h
noncomputable def aS (H H':Hp):Prop:=∀ b o,H b=some o->H' b=some o
theorem aS.refl (H:Hp):aS H H:=fun _ _ h=>h
theorem aS.trans {H H1 H2:Hp} (a:aS H H1) (b:aS H1 H2):aS H H2:=fun c o h=>b c o (a c o h)
theorem aS.free {H H':Hp} (e:aS H H') {l:Addr} (h:H' l=Option.none):H l=Option.none:=by
 cases q:H l with
 | none=>rfl
 | some o =>
  rw [e l o q] at h
  cases h
end L2
end
section
namespace NK
open PySem PySem.Spec PyProof.Rows
variable {prog:Program} {w:World} {K:Type} [DecidableEq K] {knd:KeyKind prog w K} {A:Around} {E:Yy} {s:Shared}
inductive Its (knd:KeyKind prog w K) (h:Heap):List (List K)->Xb->Prop
 | nil:Its knd h [] []
 | cons {k:List K} {b:Addr} {ks:List (List K)} {vs:Xb}:IsTupleKey knd h k b->Its knd h ks vs->Its knd h (k :: ks) (.ref b :: vs)
noncomputable def IsN (knd:KeyKind prog w K) (h:Heap) (ks:List (List K)) (a:Addr):Prop:=∃ o items n,h.get? a=some o/\o.cls=.type "tuple" ∧ o.data=.seq items n/\Its knd h ks items.toList
theorem Its.fn {h:Heap} {x y:List (List K)} {vs:Xb} (hx:Its knd h x vs):Its knd h y vs->x=y:=by
 induction hx generalizing y with
 | nil=>intro hy;cases hy;rfl
 | cons h1 _ ih =>
  intro hy
  cases hy with
  | cons h2 t=>rw [h1.inj h2,ih t]
theorem IsN.ty {ks:List (List K)} {a:Addr} (x:IsN knd s.heap ks a):s.TypeIs (.ref a) "tuple" := let ⟨o,_,_,g,c,_⟩:=x;⟨o,g,c⟩
theorem IsN.fn {h:Heap} {a:Addr} {x y:List (List K)} (hx:IsN knd h x a) (hy:IsN knd h y a):x=y:=by
 obtain ⟨o,its,n,g,_,d,i⟩:=hx
 obtain ⟨o',its',n',g',_,d',i'⟩:=hy
 rw [g] at g'
 cases g'
 rw [d] at d'
 cases d'
 exact i.fn i'
theorem Its.keeps {h h':Heap} {ks:List (List K)} {vs:Xb} {d:Addr} {o:Obj} {es ep} (x:Its knd h ks vs) (ho:h.get? d=some o) (hd:o.data=.dict es ep) (hs:Heap.SameBut d h h'):Its knd h' ks vs:=by
 induction x with
 | nil=>exact .nil
 | cons h1 _ ih=>exact .cons (h1.keeps ho hd hs) ih
theorem IsN.keeps {h h':Heap} {ks:List (List K)} {a d:Addr} {o:Obj} {es ep} (x:IsN knd h ks a) (ho:h.get? d=some o) (hd:o.data=.dict es ep) (hs:Heap.SameBut d h h'):IsN knd h' ks a:=by
 obtain ⟨o',its,n,g,c,d',i⟩:=x
 refine ⟨o',its,n,(hs.2 a fun z=>?_).trans g,c,d',i.keeps ho hd hs⟩
 subst z
 rw [ho] at g
 cases g
 rw [hd] at d'
 cases d'
noncomputable def xM (knd:KeyKind prog w K) (ks:List (List K)):Int:=reduceHash (Builtin.Tuple.tupleHashOf (ks.map (tupleKeyHash knd)))
noncomputable def rA (ks:List (List K)):Nat:=(ks.map fun k=>k.length+1).sum+1
theorem zg {ks:List (List K)} {a:Addr} {Q:Int->Shared->Prop} (hu:A.units+1 < cLine) (hk:IsN knd s.heap ks a) (q:Q (xM knd ks) { s with toks:=s.toks+rA ks }):wpAny (model prog w) A (pyHash (.ref a)) Q E s:=by
 have ty:=hk.ty
 obtain ⟨o,its,n,g,_,d,i⟩:=hk
 unfold pyHash
 first | unfold pyHashByItsType | skip
 first | refine Zy (wpAny_cRoomFor_or (.inr (Y5 hu)) ?_) | skip
 refine Zy (Xl ty WZ.lookup ?_)
 refine (show wpAny _ _ (if (some (Value.builtin "tuple.__hash__") == some Value.none)=true then _ else _) Q E s from ?_)
 rw [Zp (fun z=>by rw [beq_builtin_none] at z;cases z)]
 refine Zy (Xl ty WZ.lookup (Zy (wpAny_callSpecialIfBoundUnlessNone?_slot ty WZ (XS WZ ty F.entry_tuple_hash (Zy (m:=Builtin.Tuple.tupleItemsOf (.ref a)) (wpAny_tupleItemsOf g d (Zy ?_))) (F.args_tuple_hash_1 _)))))
 rw [← Wt]
 refine XT _ (fun rest (b:Array Int) s'=>∃ x y,ks=x++y/\Its knd s.heap y rest/\b.toList=x.map (tupleKeyHash knd)/\s'={ s with toks:=s.toks+(x.map fun k=>k.length+1).sum }) _ ?turn ?fin _ _ ⟨[],ks,rfl,i,rfl,rfl⟩
 case turn =>
  rintro v rest b s' ⟨x,y,rfl,hi,hb,rfl⟩
  cases hi with
  | @cons k c ks' _ h1 h2 =>
   refine Zy (wpAny_pyHash_tuple (s:={ s with toks:=s.toks+(x.map fun k=>k.length+1).sum }) (by show A.in1.units < cLine;exact hu) h1 ?_)
   first
    | exact Zq ⟨x++[k],ks',by simp,h2,by simp [hb],by simp [XY]⟩
    | exact Zy (Zq (Zq ⟨x++[k],ks',by simp,h2,by simp [hb],by simp [XY]⟩))
 case fin =>
  rintro b s' ⟨x,y,rfl,hi,hb,rfl⟩
  cases hi
  rw [ZG] at q
  refine (show wpAny _ _ (retInt (Builtin.Tuple.tupleHashOf b.toList)) _ _ _ from ?_)
  rw [hb]
  refine wpAny_ret_mkInt ?_
  unfold xM reduceHash rA at q
  refine (show wpAny _ _ (if (decide (-(2:Int) ^ 63<=Builtin.Tuple.tupleHashOf (x.map (tupleKeyHash knd))) && decide (Builtin.Tuple.tupleHashOf (x.map (tupleKeyHash knd)) < 2 ^ 63))=true then _ else _) Q E _ from ?_)
  by_cases hr:(decide (-(2:Int) ^ 63<=Builtin.Tuple.tupleHashOf (x.map (tupleKeyHash knd))) && decide (Builtin.Tuple.tupleHashOf (x.map (tupleKeyHash knd)) < 2 ^ 63))=true
  ·rw [Zs hr] at q ⊢
   exact Zq (by simpa [XY] using q)
  ·rw [Zp hr] at q ⊢
   exact Zy (XG (Zq (by simpa [XY] using q)))
theorem zH {x y:List (List K)} {a b:Addr} {P:PySem.Fin->Shared->Prop} (hu:A.units < cLine) (hx:IsN knd s.heap x a) (hy:IsN knd s.heap y b) (q:P (.done (.ret (.bool (decide (x=y))))) s):wpAny (model prog w) A (Builtin.«tuple.__eq__» ⟨[.ref a,.ref b],[]⟩) P E s:=by
 have ty:=hy.ty
 obtain ⟨oa,xs,na,ga,_,da,ia⟩:=hx
 obtain ⟨ob,ys,nb,gb,_,db,ib⟩:=hy
 refine (show wpAny _ _ (isInstance (.ref b) (.type "tuple") >>= _) _ _ s from Zy (WU ty WK ?_))
 simp only [XA,Z4,↓reduceIte]
 refine Zy (wpAny_tupleItemsOf ga da (Zy (wpAny_tupleItemsOf gb db (Zy ?_))))
 refine XT _ (fun rest r s'=>r.1=none/\s'=s/\∃ x' y' xs' ys',rest=List.zip xs' ys'/\Its knd s.heap x' xs'/\Its knd s.heap y' ys'/\decide (x'=y')=decide (x=y)/\(xs'.length == ys'.length)=(xs.size == ys.size)) _ ?turn ?fin _ _ ⟨rfl,rfl,x,y,xs.toList,ys.toList,rfl,ia,ib,rfl,by simp⟩
 case turn =>
  rintro ⟨u,v⟩ rest r s' ⟨hr,rfl,x',y',xs',ys',hz,hx',hy',hdec,hlen⟩
  cases hx' with
  | nil=>simp at hz
  | @cons k1 c1 x2 xs2 h1 t1 =>
   cases hy' with
   | nil=>simp at hz
   | @cons k2 c2 y2 ys2 h2 t2 =>
    simp only [ZF,YL,Prod.mk.injEq] at hz
    obtain ⟨⟨rfl,rfl⟩,rfl⟩:=hz
    refine Zy (wpAny_eqBool_tuple hu h1 h2 ?_)
    by_cases hk:k1=k2
    ·subst hk
     rw [decide_eq_true rfl]
     simp only [XA,Z4,↓reduceIte]
     refine Zq ⟨rfl,rfl,x2,y2,xs2,ys2,rfl,t1,t2,?_,by simpa using hlen⟩
     rw [← hdec]
     by_cases hxy:x2=y2 <;> simp [hxy]
    ·rw [decide_eq_false hk]
     simp only [Bool.not_false,↓reduceIte]
     have hf:decide (x=y)=false:=by rw [← hdec];simp [hk]
     rw [hf] at q
     exact Zy (Zq (Zq (Zq q)))
 case fin =>
  rintro ⟨r1,r2⟩ s' ⟨hr,rfl,x',y',xs',ys',hz,hx',hy',hdec,hlen⟩
  simp only at hr
  subst hr
  have hfin:(xs.size == ys.size)=decide (x=y):=by
   rw [← hdec,← hlen]
   cases hx' with
   | nil=>cases hy' <;> simp
   | cons _ _ =>
    cases hy' with
    | nil=>simp
    | cons _ _=>simp at hz
  refine Zq (show P (.done (.ret (.bool (xs.size == ys.size)))) s' from ?_)
  rw [hfin]
  exact q
theorem Df {x y:List (List K)} {a b:Addr} {Q:Bool->Shared->Prop} (hu:A.units+1 < cLine) (hx:IsN knd s.heap x a) (hy:IsN knd s.heap y b) (q:Q (decide (x=y)) s):wpAny (model prog w) A (eqBool (.ref a) (.ref b)) Q E s:=by
 unfold eqBool
 try with_reducible refine YF ?_
 refine (show wpAny _ _ (if (Value.ref a == Value.ref b)=true then _ else _) Q E s from ?_)
 by_cases hab:(Value.ref a == Value.ref b)=true
 ·rw [Zs hab]
  have e:a=b:=by have:=eq_of_beq hab;injection this
  subst e
  obtain rfl:=hx.fn hy
  exact Zy (XG (Zq (by simpa using q)))
 ·rw [Zp hab]
  exact Zy (wpAny_richCompare_same_room (op:=.Eq) hx.ty hy.ty WL (XS WL hx.ty F.entry_tuple_eq (zH (by show A.in1.units < cLine;exact hu) hx hy ⟨_,rfl,(fun e=>nomatch e),YV q⟩) (F.args_tuple_eq_2 _ _)) (Y5 hu))
theorem tR {ks:List K} {n:Nat} {a:Addr} {Q:Bool->Shared->Prop} (hk:IsTupleKey knd s.heap ks a) (q:Q true s):wpAny (model prog w) A (eqIsQuiet (n+1) (.ref a)) Q E s:=by
 have ty:=hk.typeIs
 obtain ⟨o,its,m,g,_,d,i⟩:=hk
 unfold eqIsQuiet
 refine Zy (Xl ty WL.lookup (show wpAny _ _ (isInstance (.ref a) (.type "tuple") >>= _) _ _ s from Zy (WU ty WK ?_)))
 simp only [XA,Z4,↓reduceIte]
 refine Zy (WD g d (Zy (show wpAny _ _ (forIn its _ _) _ _ s from ?_)))
 rw [← Wt]
 refine XT _ (fun rest r s'=>r.1=none/\s'=s/\∀ v∈rest,carriedByValue v=true) _ ?turn ?fin _ _ ⟨rfl,rfl,i.byValue⟩
 case turn =>
  rintro v rest r s' ⟨hr,rfl,hall⟩
  rw [eqIsQuiet_byValue _ (hall v Zw)]
  refine Zy (Zq ?_)
  simp only [XA,Z4,↓reduceIte]
  exact Zq ⟨rfl,rfl,fun u hu=>hall u (Zx _ hu)⟩
 case fin =>
  rintro ⟨r1,r2⟩ s' ⟨hr,rfl,_⟩
  simp only at hr
  subst hr
  exact Zq q
theorem wo {ks:List (List K)} {a:Addr} {Q:Bool->Shared->Prop} (hk:IsN knd s.heap ks a) (q:Q true s):wpAny (model prog w) A (eqIsQuiet 8 (.ref a)) Q E s:=by
 have ty:=hk.ty
 obtain ⟨o,its,m,g,_,d,i⟩:=hk
 unfold eqIsQuiet
 refine Zy (Xl ty WL.lookup (show wpAny _ _ (isInstance (.ref a) (.type "tuple") >>= _) _ _ s from Zy (WU ty WK ?_)))
 simp only [XA,Z4,↓reduceIte]
 refine Zy (WD g d (Zy (show wpAny _ _ (forIn its _ _) _ _ s from ?_)))
 rw [← Wt]
 refine XT _ (fun rest r s'=>r.1=none/\s'=s/\∃ ks',Its knd s.heap ks' rest) _ ?turn ?fin _ _ ⟨rfl,rfl,ks,i⟩
 case turn =>
  rintro v rest r s' ⟨hr,rfl,ks',hi⟩
  cases hi with
  | cons h1 h2 =>
   refine Zy (tR h1 ?_)
   simp only [XA,Z4,↓reduceIte]
   exact Zq ⟨rfl,rfl,_,h2⟩
 case fin =>
  rintro ⟨r1,r2⟩ s' ⟨hr,rfl,_⟩
  simp only at hr
  subst hr
  exact Zq q
noncomputable def nest (knd:KeyKind prog w K):HeapKind prog w (List (List K)) where
 is:=IsN knd
 hash:=xM knd
 draws:=rA
 room:=fun A=>A.units+1 < cLine
 inj:=fun hx hy=>hx.fn hy
 keeps:=fun x ho hd hs=>x.keeps ho hd hs
 pyHash:=fun hu hk q=>zg hu hk q
 eqBool:=fun hu hx hy q=>Df hu hx hy q
 quiet:=fun hk q=>wo hk q
end NK
end
section
namespace L2
open PySem PySem.Spec PyProof.Rows
noncomputable abbrev br:=List (Vq)
noncomputable def hN (k:br):Int:=reduceHash (Builtin.Tuple.tupleHashOf (k.map fun x=>reduceHash (Builtin.Tuple.tupleHashOf (x.map hashInt))))
noncomputable def C3 (x:br×Addr×Value):DictEntry:=⟨hN x.1,.ref x.2.1,x.2.2⟩
noncomputable abbrev KN:List (br×Addr×V)->List (br×Addr×Value)->Prop:=Paired fun p q=>p.1=q.1/\p.2.1=q.2.1/\RelV p.2.2 q.2.2
noncomputable def DN (a:Addr) (kvs:List (br×Addr×V)):HO:=.ext fun h=>kvs.length<=sizeLine/\(a == sysModules)=false/\∃ xs:List (br×Addr×Value),KN kvs xs ∧
 ∃ o es ep,h.get? a=some o/\o.ExactDict/\o.data=.dict es ep/\es.toList=xs.map C3/\(xs.map (·.1)).Nodup
noncomputable def NAt (H:Hp) (k:br) (b:Addr):Prop:=∃ cs:Xf,H b=some (.tup (cs.map V.ref))/\Paired (fun (x:Vq) (c:Addr)=>H c=some (.tup (x.map V.int))) k cs
theorem NAt.mono {H H':Hp} {k:br} {b:Addr} (x:NAt H k b) (t:∀ a xs,H a=some (.tup xs)->H' a=some (.tup xs)):NAt H' k b:=by
 obtain ⟨cs,h,r⟩:=x
 exact ⟨cs,t _ _ h,Paired.mapP r fun _ _ z=>t _ _ z⟩
section
variable {P:Program} {w:World} {H:Hp} {h:Heap} {a b:Addr}
theorem items_int:∀ {ks:Vq} {us:Xb},aQ (ks.map V.int) us->ItemsAre (intKind P w) ks us
 | [],_,r=>by rw [YX] at r;cases r;exact .nil
 | k :: ks,_,r=>by
  rw [Zt] at r
  cases r with
  | @cons _ u _ _ h t =>
   refine .cons ?_ (items_int t)
   obtain ⟨q,rfl⟩:=(show ∃ q,u=Value.int k q from h)
   show Value.isInt k (.int k q)=true
   simp [Value.isInt]
theorem NAt.is {k:br} (ok:HOk P w H h) (x:NAt H k b):NK.IsN (intKind P w) h k b:=by
 obtain ⟨cs,e,r⟩:=x
 obtain ⟨z0,its,v,_,o,h1,h2,n,h3⟩:=(show bj P w H h b (.tup (cs.map V.ref)) from ok b _ e)
 refine ⟨o,its.toArray,n,h1,h2,h3,?_⟩
 rw [List.toList_toArray]
 clear e h1 h2 h3 z0
 induction r generalizing its with
 | nil =>
  rw [YX] at v
  cases v
  exact .nil
 | @cons x c xs cs' hx _ ih =>
  rw [Zt] at v
  cases v with
  | @cons _ u _ _ hu t =>
   obtain rfl:=(show u=Value.ref c from hu)
   obtain ⟨_,its2,v2,_,o2,g1,g2,n2,g3⟩:=(show bj P w H h c (.tup (x.map V.int)) from ok c _ hx)
   exact .cons ⟨o2,its2.toArray,n2,g1,g2,g3,by simpa using items_int v2⟩ (ih _ t)
theorem C8 {kvs:List (br×Addr×V)} (ok:HOk P w H h) (e:H a=some (DN a kvs)) (ks:∀ p∈kvs,NAt H p.1 p.2.1):kvs.length<=sizeLine/\(a == sysModules)=false ∧
  ∃ xs,KN kvs xs/\h.DictOfH (NK.nest (intKind P w)) a xs:=by
 obtain ⟨⟨z,y,xs,r,o,es,ep,h1,h2,h3,h4,h5⟩,_⟩:=(show bj P w H h a (DN a kvs) from ok a _ e)
 refine ⟨z,y,xs,r,o,es,ep,h1,h2,h3,h4,fun x hx=>?_,h5⟩
 have all:∀ {l:List (br×Addr×V)} {m:List (br×Addr×Value)},KN l m->(∀ p∈l,NAt H p.1 p.2.1)->∀ x∈m,NK.IsN (intKind P w) h x.1 x.2.1:=by
  intro l m q
  induction q with
  | nil=>intro _ x hx;exact nomatch hx
  | @cons p q ps qs hq t ih =>
   intro hl x hx
   rcases Zo.mp hx with e | hx
   ·subst e
    rw [← hq.1,← hq.2.1]
    exact (hl p Zw).is ok
   ·exact ih (fun p hp=>hl p (Zx _ hp)) x hx
 exact all r ks x hx
theorem vd {H':Hp} {h':Heap} {kvs:List (br×Addr×V)} {xs:List (br×Addr×Value)} (z:kvs.length<=sizeLine) (hd:(a == sysModules)=false) (rel:KN kvs xs) (dd:h'.DictOfH (NK.nest (intKind P w)) a xs) :
  bj P w H' h' a (DN a kvs):=by
 obtain ⟨o,es,ep,h1,h2,h3,h4,_,h5⟩:=dd
 refine ⟨⟨z,hd,xs,rel,o,es,ep,h1,h2,h3,h4,h5⟩,⟨o,h1⟩,?_⟩
 rintro g1 g2 ⟨z,hd,xs,rel,o,es,ep,h1,h2,h3,h4,h5⟩ k
 exact ⟨z,hd,xs,rel,o,es,ep,k _ h1,h2,h3,h4,h5⟩
theorem KN.length {l:List (br×Addr×V)} {m:List (br×Addr×Value)} (r:KN l m):l.length=m.length:=WY r
noncomputable def atN (kvs:List (br×Addr×V)) (k:br):Option V:=(kvs.find? fun x=>decide (x.1=k)).map (·.2.2)
theorem KN.at {l:List (br×Addr×V)} {m:List (br×Addr×Value)} (r:KN l m) (k:br):j9 (atN l k) ((atKey m k).map (·.2)):=by
 unfold atN atKey
 induction r with
 | nil=>exact (show j9 none none from trivial)
 | @cons p q ps qs hq t ih =>
  rw [Yt,Yt,← hq.1]
  by_cases e:p.1=k
  ·simp only [e,decide_true,Yc]
   exact hq.2.2
  ·simp only [e,decide_false]
   exact ih
theorem KN.add {l:List (br×Addr×V)} {m:List (br×Addr×Value)} (r:KN l m) {p:br×Addr×V} {q:br×Addr×Value} (x:p.1=q.1/\p.2.1=q.2.1/\RelV p.2.2 q.2.2):KN (l++[p]) (m++[q]):=by
 induction r with
 | nil=>exact .cons x .nil
 | cons h _ ih=>exact .cons h ih
end
section
variable {prog:Program} {w:World} {K:Type} [DecidableEq K] {knd:HeapKind prog w K} {A:Around} {E:Yy} {s:Shared}
theorem p5 {d a:Addr} {xs:List (K×Addr×Value)} {k:K} {v:Value} {Q:Yy} (hu:knd.room A) (hkey:knd.is s.heap k a) (hm:s.heap.DictOfH knd d xs) (hsz:xs.length<=sizeLine)
  (q1:∀ p,atKey xs k=some p->Q p.2 { s with toks:=s.toks+knd.draws k })
  (q2:atKey xs k=none->∀ h',h'.DictOfH knd d (xs++[(k,a,v)])->Heap.SameBut d s.heap h'->Q v { s with heap:=h',toks:=s.toks+knd.draws k }) :
  wpAny (model prog w) A (dictSetDefault d (.ref a) v) Q E s:=by
 obtain ⟨o,es,ep,ho,hc,hd,he,his,hn⟩:=hm
 unfold dictSetDefault
 try with_reducible refine YF ?_
 refine Zy (knd.pyHash hu hkey (Zy (wpAny_dictFind_heap (s:={ s with toks:=s.toks+knd.draws k }) hu hkey ho hd he his hn (fun hno=>?_) fun j p hj=>?_)))
 ·have at0:=atKey_none_of_get hno
  have hnot:k ∉ xs.map (·.1):=not_mem_keys_of_get hno
  refine Zy (XG (Zy (wpAny_updateDictKeys (hz:=by have e:=size_of_entries he;lia) (s:={ s with toks:=s.toks+knd.draws k }) ho hd (Zq (q2 at0 _ ⟨_,_,ep+1,WG _ ho (Obj.isFreed_of_dict (Obj.data_mapDictKeys hd _)),
   hc.mapDictKeys _,Obj.data_mapDictKeys hd _,by simp [he,entryOfKey],fun x hx=>?_,?_⟩ (Wp ..))))))
  ·rcases Zd.mp hx with hx | hx
   ·exact knd.keeps (his x hx) ho hd (Wp ..)
   ·obtain rfl:=Zj.mp hx
    exact knd.keeps hkey ho hd (Wp ..)
  ·rw [Yu,ZJ]
   refine ⟨hn,by simp,fun x hx y hy e=>hnot ?_⟩
   simp only [Zt,YX,Zj] at hy
   exact hy ▸ e ▸ hx
 ·refine Zy (wpAny_dictEntries (s:={ s with toks:=s.toks+knd.draws k }) ho hd ?_)
  rw [entry_at he j,hj]
  exact Zy (XG (Zq (q1 p (atKey_of_get hn hj))))
theorem ot (knd:HeapKind prog w K) {k:K} {a:Addr} (d:Addr) (hd:(d == sysModules)=false) (v:Value) :
  MeetsIn prog w (Builtin.«dict.setdefault» ⟨[.ref d,.ref a,v],[]⟩) (fun A R s=>knd.room A.in1/\knd.is s.heap k a/\∃ xs,s.heap.DictOfH knd d xs/\xs.length<=sizeLine ∧
   (∀ p,atKey xs k=some p->R (.ok (.ret p.2)) { s with toks:=s.toks+knd.draws k }) ∧
   (atKey xs k=none->∀ h',h'.DictOfH knd d (xs++[(k,a,v)])->Heap.SameBut d s.heap h'->R (.ok (.ret v)) { s with heap:=h',toks:=s.toks+knd.draws k })) :=
 .of_wp fun A R s ⟨hu,hkey,xs,hm,hz,q1,q2⟩=>by
  unfold Builtin.«dict.setdefault»
  refine Zy ?_
  unfold Builtin.Dict.keyAndDefault
  refine Zy (wpAny_notOrdered_dict hm.typeIs (show wpAny _ _ (pure (d,Value.ref a,some v)) _ _ s from Zq ?_))
  show wpAny _ _ (if (d == sysModules)=true then _ else (dictSetDefault d (.ref a) v >>= _)) _ _ s
  rw [Zp (by rw [hd];simp)]
  exact Zy (p5 hu hkey hm hz (fun p hp=>Zq ⟨_,rfl,q1 p hp⟩) fun hn h' hm' hs'=>Zq ⟨_,rfl,q2 hn h' hm' hs'⟩)
end
section
variable {X:Cx}
noncomputable def w6:V->List V->Hp->VK->Prop:=fun x vs H Q=>∃ (a b:Addr) (kvs:List (br×Addr×V)) (k:br) (y:V),x=.ref a/\vs=[.ref b,y]/\H a=some (DN a kvs)/\(∀ p∈kvs,NAt H p.1 p.2.1)/\NAt H k b/\kvs.length < sizeLine ∧
 (∀ v,atN kvs k=some v->Q v H)/\(atN kvs k=none->Q y (upd H a (DN a (kvs++[(k,b,y)]))))
theorem qP (hu:X.A.units+2 < cLine):MtR X "dict.setdefault" w6:=by
 intro pins s σ H x vs v us Q I rx rv h
 obtain ⟨a,b,kvs,k,y,rfl,rfl,e,hks,hk,hl,q1,q2⟩:=h
 cases rx
 obtain ⟨u,u2,rfl,ru,ru2⟩:=rv.two
 obtain rfl:=(show u=Value.ref b from ru)
 obtain ⟨z,hd,xs,rel,dd⟩:=C8 I.hok e hks
 have hz:xs.length<=sizeLine:=by rw [← rel.length];exact z
 have hval:=rel.at k
 refine call_meetsIn Xr dd.typeIs PySem.F.entry_dict_setdefault (Vx _ _ _) (ot (NK.nest (intKind X.prog X.w)) (k:=k) (a:=b) a hd u2) ⟨by show X.A.in1.units+1 < cLine;show X.A.units+1+1 < cLine;omega,hk.is I.hok,xs,dd,hz,fun p hv=>?_,fun hn h' dd' hs=>?_⟩
 ·rw [hv] at hval
  cases hx:atN kvs k with
  | none=>rw [hx] at hval;cases hval
  | some w =>
   rw [hx] at hval
   exact ⟨w,H,I.tok _,hval,q1 w hx⟩
 ·rw [hn] at hval
  have hx:atN kvs k=none:=by
   cases hx:atN kvs k with
   | none=>rfl
   | some w=>rw [hx] at hval;cases hval
  have he:∃ q,h'.get? a=some q:=let ⟨q,_,_,hq,_⟩:=dd';⟨q,hq⟩
  exact ⟨y,_,iQ I (by rw [e];exact True.intro) hs he (vd (by rw [Zu];exact hl) hd (rel.add ⟨rfl,rfl,ru2⟩) dd'),ru2,q2 hx⟩
end
end L2
end
section
namespace VS
open PySem PySem.Spec PyProof.Rows L2
noncomputable def sx (s:Tx):Str:=⟨s.toArray⟩
noncomputable def i4 (s:Tx):Prop:=s.length<=gN/\∀ c∈s,c < 1114112
structure Gx where
 K:Xs
 ct:Nat->Addr×(Nat->Str)
noncomputable def aO:Key->T
 | .inl i=>.int i
 | .inr x=>.str x.cps.toList
noncomputable def nkT (k:br):T:=.tup (k.map fun x=>T.tup (x.map T.int))
noncomputable def ku (K:Xs) (H:Hp) (a:Addr) (ns:Vq):Prop :=
 (∃ o,H a=some (.frz o (.lst (ns.map V.int)))) ∨
  ∃ (o:Obj) (its:Array Value) (n:Nat),K.lookup a=some o/\o.cls=.type "list" ∧ o.dict=none/\o.data=.seq its n/\its.size<=sizeLine/\aQ (ns.map V.int) its.toList
mutual
inductive Rp (G:Gx) (H:Hp):V->T->Xf->Prop
 | non:Rp G H .non .non []
 | bl (b:Bool):Rp G H (.bl b) (.bl b) []
 | int (i:Int):Rp G H (.int i) (.int i) []
 | str (s:Tx):i4 s->Rp G H (.str (sx s)) (.str s) []
 | scr {a:Addr} {ns:Vq}:ku G.K H a ns->Rp G H (.ref a) (.scr ns) []
 | tup {a:Addr} {vs:List V} {ts:Vl} {Fs:Yf}:H a=some (.tup vs)->RpL G H vs ts Fs->Rp G H (.ref a) (.tup ts) Fs.flatten
 | lst {a:Addr} {vs:List V} {ts:Vl} {Fs:Yf}:H a=some (.lst vs)->RpL G H vs ts Fs->Rp G H (.ref a) (.lst ts) (a :: Fs.flatten)
 | dct {a:Addr} {ks:List Key} {vs:List V} {ts:Vl} {Fs:Yf}:H a=some (.dK (ks.zip vs))->ks.length=vs.length->RpL G H vs ts Fs->Rp G H (.ref a) (.dct 0 ((ks.map aO).zip ts)) (a :: Fs.flatten)
 | dctT {a:Addr} {ks:List (List Key)} {vs:List V} {ts:Vl} {Fs:Yf}:H a=some (.dT (ks.zip vs))->ks.length=vs.length->RpL G H vs ts Fs->Rp G H (.ref a) (.dct 1 ((ks.map fun k=>T.tup (k.map aO)).zip ts)) (a :: Fs.flatten)
 | dctN {a:Addr} {ks:List (br×Addr)} {vs:List V} {ts:Vl} {Fs:Yf}:H a=some (DN a ((ks.zip vs).map fun p=>(p.1.1,p.1.2,p.2)))->ks.length=vs.length->(∀ p∈ks,NAt H p.1 p.2)->RpL G H vs ts Fs->Rp G H (.ref a) (.dct 2 ((ks.map fun p=>nkT p.1).zip ts)) (a :: Fs.flatten)
 | obj {c:Nat} {a dx:Addr} {ks:Vr} {vs:List V} {ts:Vl} {Fs:Yf}:H a=some (.ins (G.ct c).1 dx ((ks.map (G.ct c).2).zip vs))->ks.length=vs.length->RpL G H vs ts Fs->Rp G H (.ref a) (.obj c (ks.zip ts)) (a :: Fs.flatten)
inductive RpL (G:Gx) (H:Hp):List V->Vl->Yf->Prop
 | nil:RpL G H [] [] []
 | cons {v:V} {t:T} {F:Xf} {vs:List V} {ts:Vl} {Fs:Yf}:Rp G H v t F->RpL G H vs ts Fs->RpL G H (v :: vs) (t :: ts) (F :: Fs)
end
structure Kept (H H':Hp):Prop where
 tup:∀ a xs,H a=some (.tup xs)->H' a=some (.tup xs)
 frz:∀ a o u,H a=some (.frz o u)->H' a=some (.frz o u)
theorem Kept.refl (H:Hp):Kept H H:=⟨fun _ _ h=>h,fun _ _ _ h=>h⟩
theorem Kept.trans {H H1 H2:Hp} (a:Kept H H1) (b:Kept H1 H2):Kept H H2:=⟨fun c x h=>b.tup c x (a.tup c x h),fun c o u h=>b.frz c o u (a.frz c o u h)⟩
theorem Kept.of {H H':Hp} (e:aS H H'):Kept H H':=⟨fun a _ h=>e a _ h,fun a _ _ h=>e a _ h⟩
theorem Kept.upd {H:Hp} {a:Addr} {o:HO} (mu:Mut (H a)\/H a=none):Kept H (upd H a o):=by
 have ne:∀ b u,H b=some u->¬ Mut (some u)->b ≠ a:=fun b u h nm e=>by
  subst e
  rcases mu with m | m
  ·rw [h] at m;exact nm m
  ·rw [h] at m;cases m
 exact ⟨fun b xs h=>by rw [aA (ne b _ h fun z=>z)];exact h,fun b o u h=>by rw [aA (ne b _ h fun z=>z)];exact h⟩
theorem ku.kept {K:Xs} {H H':Hp} {a:Addr} {ns:Vq} (h:ku K H a ns) (k:Kept H H'):ku K H' a ns:=by
 rcases h with ⟨o,e⟩ | h
 ·exact .inl ⟨o,k.frz _ _ _ e⟩
 ·exact .inr h
theorem ku.seq {K:Xs} {H:Hp} {a:Addr} {ns:Vq} (h:ku K H a ns):SqL K H a (ns.map V.int):=by
 rcases h with ⟨o,e⟩ | h
 ·exact .inl (.inr ⟨o,e⟩)
 ·exact .inr h
theorem pL {H H':Hp} {a:Addr} {F:Xf} (f:∀ b∈a :: F,∀ o,H b=some o->H' b=some o):∀ b∈F,∀ o,H b=some o->H' b=some o:=fun b m=>f b (Zx _ m)
theorem sI {H H':Hp} {F:Xf} {Fs:Yf} (f:∀ b∈(F :: Fs).flatten,∀ o,H b=some o->H' b=some o):(∀ b∈F,∀ o,H b=some o->H' b=some o)/\∀ b∈Fs.flatten,∀ o,H b=some o->H' b=some o:=by
 rw [Zf] at f
 exact ⟨fun b m=>f b (Y6 _ m),fun b m=>f b (Z2 _ m)⟩
theorem Rp.keep {G:Gx} {H H':Hp} (k:Kept H H') {v:V} {t:T} {F:Xf} (r:Rp G H v t F):(∀ a∈F,∀ o,H a=some o->H' a=some o)->Rp G H' v t F :=
 Rp.rec (motive_1:=fun v t F _=>(∀ a∈F,∀ o,H a=some o->H' a=some o)->Rp G H' v t F) (motive_2:=fun vs ts Fs _=>(∀ a∈Fs.flatten,∀ o,H a=some o->H' a=some o)->RpL G H' vs ts Fs)
  (fun _=>.non) (fun b _=>.bl b) (fun i _=>.int i) (fun s h _=>.str s h) (fun h _=>.scr (h.kept k)) (fun h _ ih f=>.tup (k.tup _ _ h) (ih f)) (fun h _ ih f=>.lst (f _ Zw _ h) (ih (pL f))) (fun h l _ ih f=>.dct (f _ Zw _ h) l (ih (pL f))) (fun h l _ ih f=>.dctT (f _ Zw _ h) l (ih (pL f)))
  (fun h l n _ ih f=>.dctN (f _ Zw _ h) l (fun p m=>(n p m).mono k.tup) (ih (pL f))) (fun h l _ ih f=>.obj (f _ Zw _ h) l (ih (pL f))) (fun _=>.nil) (fun _ _ i1 i2 f=>.cons (i1 (sI f).1) (i2 (sI f).2)) r
theorem RpL.keep {G:Gx} {H H':Hp} (k:Kept H H'):∀ {vs:List V} {ts:Vl} {Fs:Yf},RpL G H vs ts Fs->(∀ a∈Fs.flatten,∀ o,H a=some o->H' a=some o)->RpL G H' vs ts Fs
 | _,_,_,.nil,_=>.nil
 | _,_,_,.cons r q,f=>.cons (r.keep k (sI f).1) (RpL.keep k q (sI f).2)
theorem Rp.same {G:Gx} {H H':Hp} (e:aS H H') {v:V} {t:T} {F:Xf} (r:Rp G H v t F):Rp G H' v t F:=r.keep (Kept.of e) fun a _ o h=>e a o h
theorem RpL.same {G:Gx} {H H':Hp} (e:aS H H') {v:List V} {t:Vl} {F:Yf} (r:RpL G H v t F):RpL G H' v t F:=r.keep (Kept.of e) fun a _ o h=>e a o h
theorem wt {H:Hp} {a:Addr} {F:Xf} (h:Mut (H a)) (ih:∀ b∈F,Mut (H b)):∀ b∈a :: F,Mut (H b):=fun b m=>(Zo.mp m).elim (fun e=>e ▸ h) (ih b)
theorem u0 {H:Hp} {a:Addr} {o:HO} (h:H a=some o) (m:Mut (some o)):Mut (H a):=by rw [h];exact m
theorem D4 {H:Hp} {F:Xf} {Fs:Yf} (h1:∀ b∈F,Mut (H b)) (h2:∀ b∈Fs.flatten,Mut (H b)):∀ b∈(F :: Fs).flatten,Mut (H b):=fun b m=>by
 rw [Zf] at m
 exact (Zd.mp m).elim (h1 b) (h2 b)
theorem Rp.dom {G:Gx} {H:Hp} {v:V} {t:T} {F:Xf} (r:Rp G H v t F):∀ a∈F,Mut (H a) :=
 Rp.rec (motive_1:=fun v t F _=>∀ a∈F,Mut (H a)) (motive_2:=fun vs ts Fs _=>∀ a∈Fs.flatten,Mut (H a))
  (fun _ m=>nomatch m) (fun _ _ m=>nomatch m) (fun _ _ m=>nomatch m) (fun _ _ _ m=>nomatch m) (fun _ _ m=>nomatch m) (fun _ _ ih=>ih) (fun h _ ih=>wt (u0 h True.intro) ih) (fun h _ _ ih=>wt (u0 h True.intro) ih) (fun h _ _ ih=>wt (u0 h True.intro) ih)
  (fun h _ _ _ ih=>wt (u0 h True.intro) ih) (fun h _ _ ih=>wt (u0 h True.intro) ih) (fun _ m=>nomatch m) (fun _ _ i1 i2=>D4 i1 i2) r
theorem RpL.dom {G:Gx} {H:Hp}:∀ {vs:List V} {ts:Vl} {Fs:Yf},RpL G H vs ts Fs->∀ a∈Fs.flatten,Mut (H a)
 | _,_,_,.nil=>fun _ m=>nomatch m
 | _,_,_,.cons r q=>D4 r.dom (RpL.dom q)
theorem Mut.ne_none {o:Option HO} (m:Mut o):o ≠ none:=fun e=>by subst e;exact m
theorem Dd {F:Xf} {Fs:Yf} {t:T} {ts:Vl} (h1:VS.imm t=true->F=[]) (h2:VS.fA ts=true->Fs.flatten=[]) (i:VS.fA (t :: ts)=true):(F :: Fs).flatten=[]:=by
 simp only [VS.fA,Yq] at i
 rw [Zf,h1 i.1,h2 i.2]
 rfl
theorem Rp.imm {G:Gx} {H:Hp} {v:V} {t:T} {F:Xf} (r:Rp G H v t F):VS.imm t=true->F=[] :=
 Rp.rec (motive_1:=fun v t F _=>VS.imm t=true->F=[]) (motive_2:=fun vs ts Fs _=>VS.fA ts=true->Fs.flatten=[])
  (fun _=>rfl) (fun _ _=>rfl) (fun _ _=>rfl) (fun _ _ _=>rfl) (fun _ _=>rfl) (fun _ _ ih i=>ih (by simpa [VS.imm] using i)) (fun _ _ _ i=>absurd (show false=true from i) Zi) (fun _ _ _ _ i=>absurd (show false=true from i) Zi) (fun _ _ _ _ i=>absurd (show false=true from i) Zi)
  (fun _ _ _ _ _ i=>absurd (show false=true from i) Zi) (fun _ _ _ _ i=>absurd (show false=true from i) Zi) (fun _=>rfl) (fun _ _ i1 i2 i=>Dd i1 i2 i) r
theorem RpL.imm {G:Gx} {H:Hp}:∀ {vs:List V} {ts:Vl} {Fs:Yf},RpL G H vs ts Fs->VS.fA ts=true->Fs.flatten=[]
 | _,_,_,.nil,_=>rfl
 | _,_,_,.cons r q,i=>Dd r.imm (RpL.imm q) i
theorem RpL.len {G:Gx} {H:Hp}:∀ {vs:List V} {ts:Vl} {Fs:Yf},RpL G H vs ts Fs->vs.length=ts.length/\Fs.length=ts.length
 | _,_,_,.nil=>⟨rfl,rfl⟩
 | _,_,_,.cons _ q=>by
  have:=RpL.len q
  simp only [Zg]
  lia
theorem RpL.get {G:Gx} {H:Hp}:∀ {vs:List V} {ts:Vl} {Fs:Yf} (i:Nat) {t:T},RpL G H vs ts Fs->ts[i]?=some t->∃ v F,vs[i]?=some v/\Fs[i]?=some F/\Rp G H v t F
 | _,_,_,_,_,.nil,e=>by simp at e
 | _,_,_,0,_,.cons r _,e=>by
  simp at e
  subst e
  exact ⟨_,_,rfl,rfl,r⟩
 | _,_,_,i+1,_,.cons _ q,e=>by
  obtain ⟨v,F,h1,h2,h3⟩:=RpL.get i q (by simpa using e)
  exact ⟨v,F,by simpa using h1,by simpa using h2,h3⟩
theorem RpL.append {G:Gx} {H:Hp}:∀ {vs:List V} {ts:Vl} {Fs:Yf} {us:List V} {rs:Vl} {Gs:Yf},RpL G H vs ts Fs->RpL G H us rs Gs->RpL G H (vs++us) (ts++rs) (Fs++Gs)
 | _,_,_,_,_,_,.nil,s=>s
 | _,_,_,_,_,_,.cons r q,s=>.cons r (RpL.append q s)
theorem RpL.take {G:Gx} {H:Hp}:∀ {vs:List V} {ts:Vl} {Fs:Yf} (n:Nat),RpL G H vs ts Fs->RpL G H (vs.take n) (ts.take n) (Fs.take n)
 | _,_,_,0,_=>by simpa using RpL.nil
 | _,_,_,n+1,.nil=>.nil
 | _,_,_,n+1,.cons r q=>.cons r (RpL.take n q)
theorem RpL.drop {G:Gx} {H:Hp}:∀ {vs:List V} {ts:Vl} {Fs:Yf} (n:Nat),RpL G H vs ts Fs->RpL G H (vs.drop n) (ts.drop n) (Fs.drop n)
 | _,_,_,0,q=>q
 | _,_,_,n+1,.nil=>.nil
 | _,_,_,n+1,.cons r q=>RpL.drop n q
noncomputable def ky:Cell->T
 | .pu t=>t
 | .ow t=>t
noncomputable abbrev Fps:=Nat->Xf
structure SR (G:Gx) (Φ:Fps) (η:VS.Env) (σ:L2.St) (H:Hp):Prop where
 len:η.length=σ.length
 rp:∀ i c,η[i]?=some (some c)->∃ v,σ[i]?=some (some v)/\Rp G H v (ky c) (Φ i)
 nd:∀ i t,η[i]?=some (some (.ow t))->(Φ i).Nodup
 sep:∀ i j t c,η[i]?=some (some (.ow t))->η[j]?=some (some c)->i ≠ j->∀ a∈Φ i,a ∉ Φ j
noncomputable def dF (Φ:Fps) (η:VS.Env) (a:Addr):Prop:=∃ j t,η[j]?=some (some (.pu t))/\a∈Φ j
noncomputable def b5 (Φ:Fps) (η:VS.Env) (a:Addr):Prop:=∃ j t,η[j]?=some (some (.ow t))/\a∈Φ j
noncomputable def Fp (Φ:Fps) (η:VS.Env) (H:Hp):Md->Xf->Prop
 | .fr,F=>F.Nodup/\∀ a∈F,H a=none
 | .pu,F=>∀ a∈F,H a=none\/dF Φ η a
 | .bo,F=>∀ a∈F,H a=none\/dF Φ η a\/b5 Φ η a
theorem SR.same {G:Gx} {Φ:Fps} {η:VS.Env} {σ:L2.St} {H H':Hp} (s:SR G Φ η σ H) (e:aS H H'):SR G Φ η σ H' :=
 ⟨s.len,fun i c h=>let ⟨v,h1,h2⟩:=s.rp i c h;⟨v,h1,h2.same e⟩,s.nd,s.sep⟩
theorem SR.pu_dom {G:Gx} {Φ:Fps} {η:VS.Env} {σ:L2.St} {H:Hp} {a:Addr} (s:SR G Φ η σ H) (h:dF Φ η a):Mut (H a):=by
 obtain ⟨j,t,h1,h2⟩:=h
 obtain ⟨v,_,r⟩:=s.rp j _ h1
 exact r.dom a h2
theorem SR.ow_dom {G:Gx} {Φ:Fps} {η:VS.Env} {σ:L2.St} {H:Hp} {a:Addr} (s:SR G Φ η σ H) (h:b5 Φ η a):Mut (H a):=by
 obtain ⟨j,t,h1,h2⟩:=h
 obtain ⟨v,_,r⟩:=s.rp j _ h1
 exact r.dom a h2
theorem Fp.nil {Φ:Fps} {η:VS.Env} {H:Hp} {m:Md}:Fp Φ η H m []:=by
 cases m
 ·exact ⟨Wv,fun a h=>by simp at h⟩
 ·exact fun a h=>by simp at h
 ·exact fun a h=>by simp at h
theorem Fp.bo {Φ:Fps} {η:VS.Env} {H:Hp} {F:Xf}:∀ {m:Md},Fp Φ η H m F->Fp Φ η H .bo F
 | .fr,h=>fun a m=>.inl (h.2 a m)
 | .pu,h=>fun a m=>(h a m).elim .inl fun z=>.inr (.inl z)
 | .bo,h=>h
theorem Fp.pu {Φ:Fps} {η:VS.Env} {H:Hp} {F:Xf}:∀ {m:Md},m ≠ .bo->Fp Φ η H m F->Fp Φ η H .pu F
 | .fr,_,h=>fun a m=>.inl (h.2 a m)
 | .pu,_,h=>h
 | .bo,n,_=>absurd rfl n
theorem Fp.back {Φ:Fps} {η:VS.Env} {H H':Hp} (e:aS H H') {F:Xf}:∀ {m:Md},Fp Φ η H' m F->Fp Φ η H m F
 | .fr,h=>⟨h.1,fun a m=>e.free (h.2 a m)⟩
 | .pu,h=>fun a m=>(h a m).imp e.free id
 | .bo,h=>fun a m=>(h a m).imp e.free id
theorem Fp.up {G:Gx} {Φ:Fps} {η:VS.Env} {H H':Hp} {m:Md} {v:V} {t:T} {F:Xf} (f:Fp Φ η H m F) (r:Rp G H' v t F):Fp Φ η H (VS.up m t).1 F:=by
 unfold VS.up
 by_cases h:VS.imm t=true
 ·rw [r.imm h]
  exact Fp.nil
 ·simp only [h,if_false,Z4]
  exact f
noncomputable def tE (G:Gx) (c:Ex):TE:=fun σ H Q=>∃ Φ η m r,SR G Φ η σ H/\c η=some (m,r)/\∀ v H' F,aS H H'->Rp G H' v r F->Fp Φ η H m F->Q v H'
noncomputable def PV (G:Gx) (X:Cx) (e:Expr) (c:Ex):Prop:=PE X e (tE G c)
theorem PE.weak {X:Cx} {e:Expr} {t t':TE} (h:PE X e t) (w:∀ σ H Q,t' σ H Q->t σ H Q):PE X e t':=fun pins s σ H Q I q=>h pins s σ H Q I (w σ H Q q)
theorem PT.weak {X:Cx} {e:Expr} {t t':TT} (h:PT X e t) (w:∀ σ H Q,t' σ H Q->t σ H Q):PT X e t':=fun pins s σ H Q I q=>h pins s σ H Q I (w σ H Q q)
theorem PA.weak {X:Cx} {e:List Expr} {t t':TA} (h:PA X e t) (w:∀ σ H Q,t' σ H Q->t σ H Q):PA X e t':=fun pos pins s σ H Q I q=>h pos pins s σ H Q I (w σ H Q q)
noncomputable def tT (G:Gx) (c:Ex):TT:=fun σ H Q=>∃ Φ η m r b,SR G Φ η σ H/\c η=some (m,r)/\tru r=some b/\∀ H',aS H H'->Q b H'
noncomputable def PVT (G:Gx) (X:Cx) (e:Expr) (c:Ex):Prop:=PT X e (tT G c)
noncomputable def frs (l:Vn) (Fs:Yf):Xf:=match l,Fs with
 | v :: l,F :: Fs=>match v.1 with
  | .fr=>F++frs l Fs
  | _=>frs l Fs
 | _,_=>[]
structure FpL (Φ:Fps) (η:VS.Env) (H:Hp) (l:Vn) (Fs:Yf):Prop where
 each:∀ (i:Nat) v F,l[i]?=some v->Fs[i]?=some F->Fp Φ η H v.1 F
 nd:(frs l Fs).Nodup
noncomputable def tEs (G:Gx) (c:Exs):TA:=fun σ H Q=>∃ Φ η l,SR G Φ η σ H/\c η=some l/\∀ vs H' Fs,aS H H'->RpL G H' vs (trees l) Fs->FpL Φ η H l Fs->Q vs H'
noncomputable def PVs (G:Gx) (X:Cx) (es:List Expr) (c:Exs):Prop:=PA X es (tEs G c)
section
variable {G:Gx} {X:Cx} {a b c:Expr} {ca cb cc:Ex} {pos:Pos}
theorem CJ {i j pos}:PV G X (.Constant (.int i) j pos) (eC (.int i)):=PE.weak wV fun σ H Q ⟨Φ,η,m,r,s,e,k⟩=>by
 cases (show some (Md.fr,T.int i)=some (m,r) from e)
 exact k _ _ _ (aS.refl _) (.int i) Fp.nil
theorem Dg {i j pos}:PV G X (.Constant (.bool i) j pos) (eC (.bl i)):=PE.weak Di fun σ H Q ⟨Φ,η,m,r,s,e,k⟩=>by
 cases (show some (Md.fr,T.bl i)=some (m,r) from e)
 exact k _ _ _ (aS.refl _) (.bl i) Fp.nil
theorem C1 {j pos}:PV G X (.Constant .none j pos) (eC .non):=PE.weak BL fun σ H Q ⟨Φ,η,m,r,s,e,k⟩=>by
 cases (show some (Md.fr,T.non)=some (m,r) from e)
 exact k _ _ _ (aS.refl _) .non Fp.nil
theorem Bd {x:Str} {t:Tx} {j pos} (h:x=sx t:=by decide +kernel) (hl:i4 t:=by decide):PV G X (.Constant (.str x) j pos) (eC (.str t)):=PE.weak vm fun σ H Q ⟨Φ,η,m,r,s,e,k⟩=>by
 cases (show some (Md.fr,T.str t)=some (m,r) from e)
 subst h
 exact k _ _ _ (aS.refl _) (.str t hl) Fp.nil
theorem BX (i:Nat) {x:Str} {pos:Pos} (hN:X.N[i]?=some x:=by rfl) (hv:Vis X.env.scope x:=by first | exact Or.inl rfl | exact Or.inr (Or.inl rfl) | exact Or.inr (Or.inr rfl)) (hd:(x == ("__debug__" : Str))=false:=by decide)
  (hcd:(x == ("__classdict__" : Str))=false:=by decide):PV G X (.Name x pos) (ah i):=PE.weak (eI hN hv hd hcd) fun σ H Q ⟨Φ,η,m,r,s,e,k⟩=>by
 unfold ah at e
 split at e
 ·rename_i t h
  obtain ⟨v,h1,h2⟩:=s.rp _ _ h
  have e':VS.up .pu t=(m,r):=ZI e
  have er:t=r:=congrArg Prod.snd e'
  have em:(VS.up .pu t).1=m:=congrArg Prod.fst e'
  rw [← er,← em] at k
  refine ⟨v,h1,k v H (Φ i) (aS.refl _) h2 ?_⟩
  have f:Fp Φ η H .pu (Φ i):=fun a ha=>.inr ⟨i,_,h,ha⟩
  exact f.up h2
 ·rename_i t h
  obtain ⟨v,h1,h2⟩:=s.rp _ _ h
  cases e
  exact ⟨v,h1,k v H (Φ i) (aS.refl _) h2 fun a ha=>.inr (.inr ⟨i,_,h,ha⟩)⟩
 ·cases e
structure Two (G:Gx) (Φ:Fps) (η:VS.Env) (H0 H:Hp) (x y:Val) (u w:V) (F1 F2:Xf):Prop where
 same:aS H0 H
 r1:Rp G H u x.2 F1
 r2:Rp G H w y.2 F2
 f1:Fp Φ η H0 x.1 F1
 f2:Fp Φ η H0 y.1 F2
 nd:x.1=.fr->y.1=.fr->(F1++F2).Nodup
noncomputable def gn (G:Gx) (r:R2) (f:Val->Val->Vm):Prop:=∀ (Φ:Fps) (η:VS.Env) (H0 H:Hp) (x y:Val) (u w:V) (F1 F2:Xf) (m:Md) (t:T) (Q:VK),Two G Φ η H0 H x y u w F1 F2->f x y=some (m,t) →
 (∀ v H' F,aS H H'->Rp G H' v t F->Fp Φ η H0 m F->Q v H')->r u w H Q
theorem vG {σ:L2.St} {H:Hp} {Q:V->V->Hp->Prop} {Φ:Fps} {η:VS.Env} {x y:Val} (s:SR G Φ η σ H) (ea:ca η=some x) (eb:cb η=some y)
  (k:∀ u w H2 F1 F2,Two G Φ η H H2 x y u w F1 F2->Q u w H2):tE G ca σ H fun u H1=>tE G cb σ H1 fun w H2=>Q u w H2:=by
 refine ⟨Φ,η,x.1,x.2,s,ea,fun u H1 F1 e1 r1 f1=>⟨Φ,η,y.1,y.2,s.same e1,eb,fun w H2 F2 e2 r2 f2=>k u w H2 F1 F2 ⟨e1.trans e2,r1.same e2,r2,f1,f2.back e1,fun hx hy=>?_⟩⟩⟩
 rw [hx] at f1
 rw [hy] at f2
 refine ZJ.mpr ⟨f1.1,f2.1,fun a ha b hb z=>?_⟩
 subst z
 exact Mut.ne_none (r1.dom a ha) (f2.2 a hb)
theorem me {r:R2} {f:Val->Val->Vm} (ok:gn G r f) {σ:L2.St} {H:Hp} {Q:VK} (h:tE G (e2 f ca cb) σ H Q):tOp r (tE G ca) (tE G cb) σ H Q:=by
 obtain ⟨Φ,η,m,t,s,e,k⟩:=h
 unfold e2 at e
 obtain ⟨x,ea,e⟩:=Zz.mp e
 obtain ⟨y,eb,e⟩:=Zz.mp e
 exact vG s ea eb fun u w H2 F1 F2 tw=>ok Φ η H H2 x y u w F1 F2 m t Q tw e fun v H' F e1 r1 f1=>k v H' F (tw.same.trans e1) r1 f1
theorem nG {op:Operator} {r:R2} {f:Val->Val->Vm} (ho:OpR X (binaryOp op) r) (ok:gn G r f) (ha:PV G X a ca) (hb:PV G X b cb):PV G X (.BinOp a op b pos) (e2 f ca cb) :=
 PE.weak (C5 ho ha hb) fun σ H Q h=>me ok h
theorem Br {op:CmpOp} {r:R2} {f:Val->Val->Vm} (ho:OpR X (compareOp op) r) (ok:gn G r f) (ha:PV G X a ca) (hb:PV G X b cb) (hm:behindInMarks op b=false):PV G X (.Compare a [op] [b] pos) (e2 f ca cb) :=
 PE.weak (Ax ho ha hb hm) fun σ H Q h=>me ok h
noncomputable def Tells (f:Val->Val->Vm):Prop:=∀ x y m t,f x y=some (m,t)->∃ b,t=.bl b
theorem Rp.bl_inv {H:Hp} {v:V} {b:Bool} {F:Xf} (r:Rp G H v (.bl b) F):v=.bl b:=by cases r;rfl
theorem Rp.int_inv {H:Hp} {v:V} {b:Int} {F:Xf} (r:Rp G H v (.int b) F):v=.int b:=by cases r;rfl
theorem Rp.str_inv {H:Hp} {v:V} {b:Tx} {F:Xf} (r:Rp G H v (.str b) F):v=.str (sx b)/\i4 b:=by cases r with | str _ h=>exact ⟨rfl,h⟩
theorem ph {c:Ex} {t:TE} {σ:L2.St} {H:Hp} {Q:Bool->Hp->Prop} (h:tT G c σ H Q) (ht:∀ η m r,c η=some (m,r)->∃ b,r=.bl b) (w:∀ Q,tE G c σ H Q->t σ H Q):wG t σ H Q:=by
 obtain ⟨Φ,η,m,r,b,s,e,eb,k⟩:=h
 refine w _ ⟨Φ,η,m,r,s,e,fun v H' F e1 r1 f1=>?_⟩
 obtain ⟨b',er⟩:=ht η m r e
 rw [er] at eb r1
 cases (show some b'=some b from eb)
 exact ⟨_,r1.bl_inv,k H' e1⟩
theorem g8 {op:CmpOp} {r:R2} {f:Val->Val->Vm} (ho:OpR X (compareOp op) r) (ok:gn G r f) (ht:Tells f) (ha:PV G X a ca) (hb:PV G X b cb) (hm:behindInMarks op b=false):PVT G X (.Compare a [op] [b] pos) (e2 f ca cb) :=
 PT.weak (zD ho ha hb hm) fun σ H Q h=>ph h (fun η m r e=>by
  unfold e2 at e
  obtain ⟨x,_,e⟩:=Zz.mp e
  obtain ⟨y,_,e⟩:=Zz.mp e
  exact ht x y m r e) fun Q h=>me ok h
theorem bC {Φ:Fps} {η:VS.Env} {H0 H:Hp} {m:Md} {t:T} {v:V} {Q:VK} (k:∀ v H' F,aS H H'->Rp G H' v t F->Fp Φ η H0 m F->Q v H') (r:Rp G H v t []):Q v H:=k v H [] (aS.refl _) r Fp.nil
theorem cE {H:Hp} {p:Addr} {o:HO} (h:H p=none):aS H (upd H p o):=fun b o' e=>by rw [aA (bJ e h)];exact e
theorem Fp.new {Φ:Fps} {η:VS.Env} {H0:Hp} {p:Addr} {F:Xf} (h0:H0 p=none) (hp:p ∉ F):∀ {m:Md},Fp Φ η H0 m F->Fp Φ η H0 m (p :: F)
 | .fr,f=>⟨ZY.mpr ⟨hp,f.1⟩,fun a m=>(Zo.mp m).elim (fun e=>by rw [e];exact h0) (f.2 a)⟩
 | .pu,f=>fun a m=>(Zo.mp m).elim (fun e=>by rw [e];exact .inl h0) (f a)
 | .bo,f=>fun a m=>(Zo.mp m).elim (fun e=>by rw [e];exact .inl h0) (f a)
theorem oC {mj m:Md} {l:Vl} {t:T} (e:mkL mj l=some (m,t)):t=.lst l/\l.length<=gN/\m=(if fA l then .fr else mj):=by
 unfold mkL at e
 split at e
 ·rename_i h
  cases e
  exact ⟨rfl,h,rfl⟩
 ·cases e
theorem i3 {Φ:Fps} {η:VS.Env} {H0 H:Hp} {mj m:Md} {l:Vl} {t:T} {vs:List V} {Fs:Yf} {Q:VK} (same:aS H0 H) (e:mkL mj l=some (m,t)) (r:RpL G H vs l Fs) (f:Fp Φ η H0 mj Fs.flatten)
  (k:∀ v H' F,aS H H'->Rp G H' v t F->Fp Φ η H0 m F->Q v H'):∀ p,H p=none->Q (.ref p) (upd H p (.lst vs)):=by
 intro p hp
 obtain ⟨rfl,hl,rfl⟩:=oC e
 refine k _ _ _ (cE hp) (.lst aI (r.same (cE hp))) ?_
 have np:p ∉ Fs.flatten:=fun m=>Mut.ne_none (r.dom p m) hp
 by_cases hi:fA l=true
 ·rw [hi,Zs rfl]
  rw [r.imm hi] at np ⊢
  exact Fp.nil.new (same.free hp) np
 ·rw [Zp hi]
  exact f.new (same.free hp) np
theorem Two.join {Φ:Fps} {η:VS.Env} {H0 H:Hp} {x y:Val} {u w:V} {F1 F2:Xf} (tw:Two G Φ η H0 H x y u w F1 F2) {F:Xf} (hF:F.Sublist (F1++F2)):Fp Φ η H0 (x.1.join y.1) F:=by
 obtain ⟨same,r1,r2,f1,f2,nd⟩:=tw
 have split:∀ a∈F,a∈F1\/a∈F2:=fun a ha=>Zd.mp (hF.subset ha)
 obtain ⟨m1,x⟩:=x
 obtain ⟨m2,y⟩:=y
 have both:∀ {P:Addr->Prop},(∀ a∈F1,P a)->(∀ a∈F2,P a)->∀ a∈F,P a:=fun h1 h2 a ha=>(split a ha).elim (h1 a) (h2 a)
 cases m1 <;> cases m2
 ·exact ⟨(nd rfl rfl).sublist hF,both f1.2 f2.2⟩
 ·exact both (fun a ha=>.inl (f1.2 a ha)) f2
 ·exact both (fun a ha=>.inl (f1.2 a ha)) f2
 ·exact both f1 (fun a ha=>.inl (f2.2 a ha))
 ·exact both f1 f2
 ·exact both (f1.bo) f2
 ·exact both f1 (fun a ha=>.inl (f2.2 a ha))
 ·exact both f1 (f2.bo)
 ·exact both f1 f2
theorem gz:gN=sizeLine:=rfl
theorem fu (s:Tx):(sx s).length=s.length:=rfl
theorem BC (s t:Tx):sx s++sx t=sx (s++t):=by
 show Str.append (sx s) (sx t)=_
 simp [sx,Str.append]
theorem Rp.lst_inv {H:Hp} {v:V} {l:Vl} {F:Xf} (r:Rp G H v (.lst l) F):∃ a vs Fs,v=.ref a/\F=a :: Fs.flatten/\H a=some (.lst vs)/\RpL G H vs l Fs:=by
 cases r with
 | lst h q=>exact ⟨_,_,_,rfl,rfl,h,q⟩
theorem Rp.tup_inv {H:Hp} {v:V} {l:Vl} {F:Xf} (r:Rp G H v (.tup l) F):∃ a vs Fs,v=.ref a/\F=Fs.flatten/\H a=some (.tup vs)/\RpL G H vs l Fs:=by
 cases r with
 | tup h q=>exact ⟨_,_,_,rfl,rfl,h,q⟩
theorem Rp.scr_inv {H:Hp} {v:V} {l:Vq} {F:Xf} (r:Rp G H v (.scr l) F):∃ a,v=.ref a/\F=[]/\ku G.K H a l:=by
 cases r with
 | scr h=>exact ⟨_,rfl,rfl,h⟩
end
section
variable {G:Gx} {X:Cx}
noncomputable def Cr:R2:=fun x y H Q=>rI0 (fun i j=>.int (i+j)) x y H Q\/(∃ i j,x=.str i/\y=.str j/\i.length+j.length<=sizeLine/\Q (.str (i++j)) H)\/Dw x y H Q
theorem zo:OpR X (binaryOp .Add) Cr:=BW.or (q9.or CD)
theorem BU:gn G Cr bZ:=by
 intro Φ η H0 H x y u w F1 F2 m t Q tw e k
 have jn:=fun {F:Xf} (h:List.Sublist F (F1++F2))=>tw.join h
 obtain ⟨m1,x⟩:=x
 obtain ⟨m2,y⟩:=y
 obtain ⟨same,r1,r2,f1,f2,nd⟩:=tw
 unfold bZ at e
 split at e
 ·rename_i i _ j e1 e2
  cases e1
  cases e2
  cases e
  exact .inl ⟨_,_,r1.int_inv,r2.int_inv,bC k (.int _)⟩
 ·rename_i s _ s' e1 e2
  cases e1
  cases e2
  split at e
  ·rename_i hl
   cases e
   refine .inr (.inl ⟨_,_,r1.str_inv.1,r2.str_inv.1,by rw [fu,fu,← gz];exact hl,?_⟩)
   rw [BC]
   exact bC k (.str _ ⟨by rw [Zu];exact hl,fun c hc=>(Zd.mp hc).elim (r1.str_inv.2.2 c) (r2.str_inv.2.2 c)⟩)
  ·cases e
 ·rename_i s _ s' e1 e2
  cases e1
  cases e2
  obtain ⟨a,vs,Fs,rfl,rfl,ha,ra⟩:=r1.lst_inv
  obtain ⟨b,us,Gs,rfl,rfl,hb,rb⟩:=r2.lst_inv
  obtain ⟨_,hl,_⟩:=oC e
  refine .inr (.inr ⟨a,b,vs,us,rfl,rfl,ha,hb,?_,i3 same e (ra.append rb) (jn ?_) k⟩)
  ·rw [Zu] at hl
   rw [ra.len.1,rb.len.1,← gz]
   exact hl
  ·rw [Z5]
   exact (YR _ _).append (YR _ _)
 ·cases e
theorem Ce:gn G (rI0 fun i j=>.int (i - j)) qk:=by
 intro Φ η H0 H x y u w F1 F2 m t Q tw e k
 obtain ⟨m1,x⟩:=x
 obtain ⟨m2,y⟩:=y
 obtain ⟨same,r1,r2,f1,f2,nd⟩:=tw
 unfold qk at e
 split at e
 ·rename_i e1 e2
  cases e1
  cases e2
  cases e
  exact ⟨_,_,r1.int_inv,r2.int_inv,bC k (.int _)⟩
 ·cases e
theorem zF:gn G (rI Dm fun i j=>.int (i / j)) gf:=by
 intro Φ η H0 H x y u w F1 F2 m t Q tw e k
 obtain ⟨m1,x⟩:=x
 obtain ⟨m2,y⟩:=y
 obtain ⟨same,r1,r2,f1,f2,nd⟩:=tw
 unfold gf at e
 split at e
 ·rename_i e1 e2
  cases e1
  cases e2
  split at e
  ·rename_i h
   cases e
   exact ⟨_,_,r1.int_inv,r2.int_inv,h,bC k (.int _)⟩
  ·cases e
 ·cases e
theorem BJ:gn G (rI (fun _ j=>0 < j) fun i j=>.int (i % j)) oMod:=by
 intro Φ η H0 H x y u w F1 F2 m t Q tw e k
 obtain ⟨m1,x⟩:=x
 obtain ⟨m2,y⟩:=y
 obtain ⟨same,r1,r2,f1,f2,nd⟩:=tw
 unfold oMod at e
 split at e
 ·rename_i e1 e2
  cases e1
  cases e2
  split at e
  ·rename_i h
   cases e
   exact ⟨_,_,r1.int_inv,r2.int_inv,h,bC k (.int _)⟩
  ·cases e
 ·cases e
theorem mf:∀ (s t:Tx),ltx s t=decide (s < t)
 | [],[]=>by simp [ltx]
 | [],_ :: _=>by simp [ltx]
 | _ :: _,[]=>by simp [ltx]
 | a :: s,b :: t=>by
  unfold ltx
  rw [mf s t]
  by_cases h1:a < b
  ·simp [h1,WW]
  ·by_cases h2:b < a
   ·have:¬ a=b:=by exact W1 h2
    simp [h1,h2,WW,this]
   ·have:a=b:=by lia
    subst this
    simp [WW]
noncomputable def rLt:R2:=fun x y H Q=>rI0 (fun i j=>.bl (decide (i < j))) x y H Q\/(∃ i j,x=.str i/\y=.str j/\Q (.bl (decide (i.cps.toList < j.cps.toList))) H)
theorem vB:OpR X (compareOp .Lt) rLt:=DL.or tX
theorem AL:gn G rLt oLt:=by
 intro Φ η H0 H x y u w F1 F2 m t Q tw e k
 obtain ⟨m1,x⟩:=x
 obtain ⟨m2,y⟩:=y
 obtain ⟨same,r1,r2,f1,f2,nd⟩:=tw
 unfold oLt at e
 split at e
 ·rename_i e1 e2
  cases e1
  cases e2
  cases e
  exact .inl ⟨_,_,r1.int_inv,r2.int_inv,bC k (.bl _)⟩
 ·rename_i s _ s' e1 e2
  cases e1
  cases e2
  cases e
  refine .inr ⟨_,_,r1.str_inv.1,r2.str_inv.1,?_⟩
  have:decide ((sx s).cps.toList < (sx s').cps.toList)=ltx s s':=by rw [mf];exact decide_eq_decide.mpr (by simp [sx])
  rw [this]
  exact bC k (.bl _)
 ·cases e
theorem kW:Tells oLt:=by
 intro x y m t e
 unfold oLt at e
 split at e <;> first | (cases e;exact ⟨_,rfl⟩) | cases e
theorem CG:B64=2 ^ 64:=rfl
theorem Cg:gn G (rI yg fun i j=>.int (i * j)) ft:=by
 intro Φ η H0 H x y u w F1 F2 m t Q tw e k
 obtain ⟨m1,x⟩:=x
 obtain ⟨m2,y⟩:=y
 obtain ⟨same,r1,r2,f1,f2,nd⟩:=tw
 unfold ft at e
 split at e
 ·rename_i e1 e2
  cases e1
  cases e2
  split at e
  ·rename_i h
   cases e
   refine ⟨_,_,r1.int_inv,r2.int_inv,?_,bC k (.int _)⟩
   rw [CG] at h
   exact h
  ·cases e
 ·cases e
theorem tZ:OpR X (compareOp .LtE) (fun x y H Q=>∃ i j,x=.str i/\y=.str j/\Q (.bl (!decide (j.cps.toList < i.cps.toList))) H):=by
 intro pins s σ H x y v u Q I rx ry h
 obtain ⟨i,j,rfl,rfl,q⟩:=h
 obtain ⟨t,rfl⟩:=rx
 obtain ⟨t',rfl⟩:=ry
 exact PySem.P.le_str ⟨.bl _,H,I,rfl,q⟩
noncomputable def rLe:R2:=fun x y H Q=>rI0 (fun i j=>.bl (decide (i<=j))) x y H Q\/(∃ i j,x=.str i/\y=.str j/\Q (.bl (!decide (j.cps.toList < i.cps.toList))) H)
theorem B4:OpR X (compareOp .LtE) rLe:=EJ.or tZ
theorem Ee:gn G rLe oLe:=by
 intro Φ η H0 H x y u w F1 F2 m t Q tw e k
 obtain ⟨m1,x⟩:=x
 obtain ⟨m2,y⟩:=y
 obtain ⟨same,r1,r2,f1,f2,nd⟩:=tw
 unfold oLe at e
 split at e
 ·rename_i e1 e2
  cases e1
  cases e2
  cases e
  exact .inl ⟨_,_,r1.int_inv,r2.int_inv,bC k (.bl _)⟩
 ·rename_i s _ s' e1 e2
  cases e1
  cases e2
  cases e
  refine .inr ⟨_,_,r1.str_inv.1,r2.str_inv.1,?_⟩
  have:decide ((sx s').cps.toList < (sx s).cps.toList)=ltx s' s:=by rw [mf];exact decide_eq_decide.mpr (by simp [sx])
  rw [this]
  exact bC k (.bl _)
 ·cases e
theorem u4:Tells oLe:=by
 intro x y m t e
 unfold oLe at e
 split at e <;> first | (cases e;exact ⟨_,rfl⟩) | cases e
theorem Bl {n:Nat} {i:Int}:ixP n i=ixN n i:=by
 unfold ixP ixN
 by_cases h:0<=i
 ·rw [Zs h,Zs h]
 ·rw [Zp h,Zp h]
  by_cases h2:0<=i+n
  ·rw [Zs h2,Zs (by lia)]
  ·rw [Zp h2,Zp (by lia)]
theorem lI {α:Type} {l:List α} {i:Int} {k:Nat} {x:α} (h1:ixP l.length i=some k) (h2:l[k]?=some x):atI l i=some x:=by
 unfold atI
 rw [← Bl,h1]
 exact h2
theorem eY {Fs:Yf} {F:Xf} {i:Nat} (h:Fs[i]?=some F):F.Sublist Fs.flatten:=by
 obtain ⟨hi,rfl⟩:=ZZ.mp h
 exact List.sublist_flatten_of_mem (Xc hi)
theorem Fp.sub {Φ:Fps} {η:VS.Env} {H:Hp} {F F':Xf} (h:F.Sublist F'):∀ {m:Md},Fp Φ η H m F'->Fp Φ η H m F
 | .fr,f=>⟨f.1.sublist h,fun a ha=>f.2 a (h.subset ha)⟩
 | .pu,f=>fun a ha=>f a (h.subset ha)
 | .bo,f=>fun a ha=>f a (h.subset ha)
theorem uU:gn G (rIx G.K) bq:=by
 intro Φ η H0 H x y u w F1 F2 m t Q tw e k
 obtain ⟨m1,x⟩:=x
 obtain ⟨m2,y⟩:=y
 obtain ⟨same,r1,r2,f1,f2,nd⟩:=tw
 unfold bq at e
 split at e
 ·rename_i m3 l m4 i e1 e2
  cases e1
  cases e2
  obtain ⟨j,h1,e⟩:=Zz.mp e
  obtain ⟨x,h2,e⟩:=Zm.mp e
  obtain ⟨a,vs,Fs,rfl,rfl,ha,ra⟩:=r1.lst_inv
  obtain ⟨v,F,g1,g2,g3⟩:=ra.get j h2
  refine .inl ⟨a,vs,i,v,rfl,r2.int_inv,SqL.of ha,lI (by rw [ra.len.1];exact h1) g1,?_⟩
  have f:=((f1.sub (YR _ _)).sub (eY g2)).up g3
  unfold VS.sub at e
  rw [e] at f
  have et:x=t:=congrArg Prod.snd e
  rw [et] at g3
  exact k v H F (aS.refl _) g3 f
 ·rename_i m3 l m4 i e1 e2
  cases e1
  cases e2
  obtain ⟨j,h1,e⟩:=Zz.mp e
  obtain ⟨x,h2,e⟩:=Zm.mp e
  obtain ⟨a,vs,Fs,rfl,rfl,ha,ra⟩:=r1.tup_inv
  obtain ⟨v,F,g1,g2,g3⟩:=ra.get j h2
  refine .inr (.inl ⟨a,vs,i,v,rfl,r2.int_inv,SqT.of ha,lI (by rw [ra.len.1];exact h1) g1,?_⟩)
  have f:=(f1.sub (eY g2)).up g3
  unfold VS.sub at e
  rw [e] at f
  have et:x=t:=congrArg Prod.snd e
  rw [et] at g3
  exact k v H F (aS.refl _) g3 f
 ·rename_i m3 l m4 i e1 e2
  cases e1
  cases e2
  obtain ⟨j,h1,e⟩:=Zz.mp e
  obtain ⟨x,h2,e⟩:=Zm.mp e
  cases e
  obtain ⟨a,rfl,rfl,sa⟩:=r1.scr_inv
  refine .inl ⟨a,l.map V.int,i,.int x,rfl,r2.int_inv,sa.seq,lI (by rw [Zv];exact h1) (by rw [Z1,h2];rfl),bC k (.int _)⟩
 ·rename_i m3 l m4 i e1 e2
  cases e1
  cases e2
  obtain ⟨j,h1,e⟩:=Zz.mp e
  obtain ⟨x,h2,e⟩:=Zm.mp e
  cases e
  obtain ⟨rfl,hl⟩:=r1.str_inv
  refine .inr (.inr ⟨sx l,i,x,rfl,r2.int_inv,by rw [fu,← gz];exact hl.1,lI (k:=j) (by simpa [sx] using h1) (by simpa [sx] using h2),?_⟩)
  exact bC k (.str [x] ⟨by show 1<=gN;decide,fun c hc=>by rw [Zj.mp hc];exact hl.2 x (YH h2)⟩)
 ·cases e
end
section
variable {G:Gx} {X:Cx} {a b c e:Expr} {es:List Expr} {ca cb cc:Ex} {cs:Exs} {pos p:Pos}
theorem rN {x:Addr}:∀ {l:Vn} {Fs:Yf},x∈frs l Fs->∃ (i:Nat) (v:Val) (F:Xf),l[i]?=some v/\v.1=.fr/\Fs[i]?=some F/\x∈F
 | [],_,h=>by simp [frs] at h
 | _ :: _,[],h=>by simp [frs] at h
 | v :: l,F :: Fs,h=>by
  have go:x∈frs l Fs->∃ (i:Nat) (u:Val) (F':Xf),(v :: l)[i]?=some u/\u.1=.fr/\(F :: Fs)[i]?=some F'/\x∈F':=fun m=>by
   obtain ⟨i,u,F',h1,h2,h3,h4⟩:=rN m
   exact ⟨i+1,u,F',by simpa using h1,h2,by simpa using h3,h4⟩
  unfold frs at h
  split at h
  ·rename_i hv
   rcases Zd.mp h with h | h
   ·exact ⟨0,v,F,rfl,hv,rfl,h⟩
   ·exact go h
  ·exact go h
theorem AB:PVs G X [] av:=PA.weak gZ fun σ H Q ⟨Φ,η,l,s,e,k⟩=>by
 cases (show some ([]:Vn)=some l from e)
 exact k [] H [] (aS.refl _) .nil ⟨fun i v F h=>by simp at h,by simp [frs]⟩
theorem uR (ha:PV G X e ca) (hr:PVs G X es cs) (hs:starEach (e :: es) X.env=(false,eval e X.env) :: starEach es X.env:=by rfl):PVs G X (e :: es) (af ca cs):=PA.weak (fI ha hr hs) fun σ H Q ⟨Φ,η,l,s,e,k⟩=>by
 unfold af at e
 obtain ⟨x,ea,e⟩:=Zz.mp e
 obtain ⟨xs,er,e⟩:=Zz.mp e
 cases e
 refine ⟨Φ,η,x.1,x.2,s,ea,fun v H1 F e1 r1 f1=>⟨Φ,η,xs,s.same e1,er,fun vs H2 Fs e2 r2 f2=>k (v :: vs) H2 (F :: Fs) (e1.trans e2) (.cons (r1.same e2) r2) ⟨fun i u F' h1 h2=>?_,?_⟩⟩⟩
 ·cases i with
  | zero =>
   cases (show some x=some u from h1)
   cases (show some F=some F' from h2)
   exact f1
  | succ i=>exact (f2.each i u F' (by simpa using h1) (by simpa using h2)).back e1
 ·unfold frs
  split
  ·rename_i hx
   rw [hx] at f1
   refine ZJ.mpr ⟨f1.1,f2.nd,fun y hy z hz q=>?_⟩
   subst q
   obtain ⟨i,u,F',h1,h2,h3,h4⟩:=rN hz
   have f:=f2.each i u F' h1 h3
   rw [h2] at f
   exact Mut.ne_none (r1.dom y hy) (f.2 y h4)
  ·exact f2.nd
theorem jF:∀ {l:Vn},bF l=.fr->∀ v∈l,v.1=.fr
 | [],_,v,h=>by simp at h
 | (m,t) :: r,e,v,h=>by
  have e':m.join (bF r)=.fr:=e
  have h1:m=.fr:=by
   revert e'
   cases m <;> cases bF r <;> simp [Md.join]
  have h2:bF r=.fr:=by
   revert e'
   cases m <;> cases bF r <;> simp [Md.join]
  rcases Zo.mp h with rfl | h
  ·exact h1
  ·exact jF h2 v h
theorem jR:∀ {l:Vn},bF l ≠ .bo->∀ v∈l,v.1 ≠ .bo
 | [],_,v,h=>by simp at h
 | (m,t) :: r,e,v,h=>by
  have e':m.join (bF r) ≠ .bo:=e
  have h1:m ≠ .bo:=by
   revert e'
   cases m <;> cases bF r <;> simp [Md.join]
  have h2:bF r ≠ .bo:=by
   revert e'
   cases m <;> cases bF r <;> simp [Md.join]
  rcases Zo.mp h with rfl | h
  ·exact h1
  ·exact jR h2 v h
theorem si:∀ {l:Vn} {Fs:Yf},l.length=Fs.length->(∀ v∈l,v.1=.fr)->frs l Fs=Fs.flatten
 | [],[],_,_=>rfl
 | [],_ :: _,h,_=>by simp at h
 | _ :: _,[],h,_=>by simp at h
 | v :: l,F :: Fs,h,q=>by
  unfold frs
  rw [q v Zw,si (by simpa using h) fun u hu=>q u (Zx _ hu)]
  rfl
theorem gg {x:Addr} {Fs:Yf} (h:x∈Fs.flatten):∃ (i:Nat) (F:Xf),Fs[i]?=some F/\x∈F:=by
 obtain ⟨F,hF,hx⟩:=Wh.mp h
 obtain ⟨i,hi⟩:=List.mem_iff_getElem?.mp hF
 exact ⟨i,F,hi,hx⟩
theorem FpL.join {Φ:Fps} {η:VS.Env} {H:Hp} {l:Vn} {Fs:Yf} (f:FpL Φ η H l Fs) (hl:l.length=Fs.length):Fp Φ η H (bF l) Fs.flatten:=by
 have at':∀ x∈Fs.flatten,∃ v F,v∈l/\x∈F/\Fp Φ η H v.1 F:=fun x hx=>by
  obtain ⟨i,F,hi,hxF⟩:=gg hx
  have:i < l.length:=by
   have:=(ZZ.mp hi).1
   lia
  exact ⟨l[i],F,Xc this,hxF,f.each i _ F (Za this) hi⟩
 cases e:bF l with
 | fr =>
  have al:=jF e
  refine ⟨by rw [← si hl al];exact f.nd,fun x hx=>?_⟩
  obtain ⟨v,F,hv,hxF,q⟩:=at' x hx
  rw [al v hv] at q
  exact q.2 x hxF
 | pu =>
  have al:=jR (l:=l) (by rw [e];decide)
  intro x hx
  obtain ⟨v,F,hv,hxF,q⟩:=at' x hx
  exact Fp.pu (al v hv) q x hxF
 | bo =>
  intro x hx
  obtain ⟨v,F,hv,hxF,q⟩:=at' x hx
  exact q.bo x hxF
structure Args (G:Gx) (Φ:Fps) (η:VS.Env) (H0 H:Hp) (l:Vn) (vs:List V) (Fs:Yf):Prop where
 same:aS H0 H
 rp:RpL G H vs (trees l) Fs
 fp:FpL Φ η H0 l Fs
theorem Args.len {Φ:Fps} {η:VS.Env} {H0 H:Hp} {l:Vn} {vs:List V} {Fs:Yf} (A:Args G Φ η H0 H l vs Fs):l.length=Fs.length:=by
 have:=A.rp.len.2
 simp [trees] at this
 exact Eq.symm this
noncomputable def hZ (G:Gx) (r:List V->Hp->VK->Prop) (f:Vn->Vm):Prop:=∀ (Φ:Fps) (η:VS.Env) (H0 H:Hp) (l:Vn) (vs:List V) (Fs:Yf) (m:Md) (t:T) (Q:VK),Args G Φ η H0 H l vs Fs->f l=some (m,t) →
 (∀ v H' F,aS H H'->Rp G H' v t F->Fp Φ η H0 m F->Q v H')->r vs H Q
theorem AW {r:List V->Hp->VK->Prop} {f:Vn->Vm} (ok:hZ G r f) {σ:L2.St} {H:Hp} {Q:VK} {η:VS.Env} {Φ:Fps} {l:Vn} {m:Md} {t:T} (s:SR G Φ η σ H) (el:cs η=some l) (e:f l=some (m,t))
  (k:∀ v H' F,aS H H'->Rp G H' v t F->Fp Φ η H m F->Q v H'):tEs G cs σ H fun vs H1=>r vs H1 Q :=
 ⟨Φ,η,l,s,el,fun vs H' Fs e1 r1 f1=>ok Φ η H H' l vs Fs m t Q ⟨e1,r1,f1⟩ e fun v H2 F e2 r2 f2=>k v H2 F (e1.trans e2) r2 f2⟩
theorem qy {r:List V->Hp->VK->Prop} {f:Vn->Vm} {id:String} {x:Str} (hc:eZ X (.builtin id) r) (ok:hZ G r f) (hg:Gl X x) (hm:X.mg x=none) (hv:bootBuiltins x=some (.builtin id)) (ha:PVs G X (e :: es) cs)
  (hn:x ≠ "__name__" := by decide) (hdb:(x == ("__debug__" : Str))=false:=by decide)
  (he:starEach (e :: es) X.env=(false,eval e X.env) :: starEach es X.env:=by rfl) (hpl:(backTo pos (starEach es X.env)).any (·.1)=false:=by rfl):PV G X (.Call (.Name x p) (e :: es) [] pos) (eN f cs) :=
 PE.weak (p6 hc hg hm hv ha hn hdb he hpl) fun σ H Q ⟨Φ,η,m,t,s,e,k⟩=>by
  unfold eN at e
  obtain ⟨l,el,e⟩:=Zz.mp e
  exact AW ok s el e k
theorem jV {r:List V->Hp->VK->Prop} {f:Vn->Vm} {Ty:String} {x:Str} (hc:eZ X (.type Ty) r) (ok:hZ G r f) (hg:Gl X x) (hm:X.mg x=none) (hv:bootBuiltins x=some (.type Ty)) (ha:PVs G X (e :: es) cs)
  (hn:x ≠ "__name__" := by decide) (hdb:(x == ("__debug__" : Str))=false:=by decide)
  (he:starEach (e :: es) X.env=(false,eval e X.env) :: starEach es X.env:=by rfl) (hpl:(backTo pos (starEach es X.env)).any (·.1)=false:=by rfl):PV G X (.Call (.Name x p) (e :: es) [] pos) (eN f cs) :=
 PE.weak (tL hc hg hm hv ha hn hdb he hpl) fun σ H Q ⟨Φ,η,m,t,s,e,k⟩=>by
  unfold eN at e
  obtain ⟨l,el,e⟩:=Zz.mp e
  exact AW ok s el e k
theorem Ba (h:PVs G X es cs):PV G X (.List es pos) (eO cs):=PE.weak (oB h) fun σ H Q ⟨Φ,η,m,t,s,e,k⟩=>by
 unfold eO at e
 obtain ⟨l,el,e⟩:=Zz.mp e
 refine ⟨Φ,η,l,s,el,fun vs H' Fs e1 r1 f1=>?_⟩
 have A:Args G Φ η H H' l vs Fs:=⟨e1,r1,f1⟩
 obtain ⟨_,hl,_⟩:=oC e
 refine ⟨by rw [r1.len.1,← gz];exact hl,i3 e1 e r1 (f1.join A.len) fun v H2 F e2 r2 f2=>k v H2 F (e1.trans e2) r2 f2⟩
theorem BE {x1} (h:PVs G X es cs):PV G X (.Tuple es x1 pos) (jT cs):=PE.weak (C0 h) fun σ H Q ⟨Φ,η,m,t,s,e,k⟩=>by
 unfold jT at e
 obtain ⟨l,el,e⟩:=Zz.mp e
 refine ⟨Φ,η,l,s,el,fun vs H' Fs e1 r1 f1=>?_⟩
 have A:Args G Φ η H H' l vs Fs:=⟨e1,r1,f1⟩
 unfold qz at e
 split at e
 ·rename_i hl
  cases e
  refine ⟨by rw [r1.len.1,← gz,trees,Zv];exact hl,fun q hq=>?_⟩
  have r2:Rp G (upd H' q (.tup vs)) (.ref q) (.tup (trees l)) Fs.flatten:=.tup aI (r1.same (cE hq))
  exact k _ _ _ (e1.trans (cE hq)) r2 (Fp.up (f1.join A.len) r2)
 ·cases e
theorem yO {H:Hp} {v:V} {t:T} {F:Xf} {k:Bool} (r:Rp G H v t F) (h:tru t=some k):BF G.K v H k:=by
 cases r with
 | non=>cases h;rfl
 | bl b=>cases h;rfl
 | int i=>cases h;rfl
 | str s hl =>
  cases h
  refine ⟨by rw [fu,← gz];exact hl.1,?_⟩
  rw [fu]
  cases s with
  | nil=>rfl
  | cons a r =>
   have:((List.length (a :: r):Int) != 0)=true:=by simp;lia
   rw [this]
   rfl
 | scr h'=>cases h
 | tup h' q =>
  cases h
  refine .inr (.inl ⟨_,SqT.of h',?_⟩)
  have:=q.len.1
  rename_i vs ts _
  cases vs <;> cases ts <;> simp_all
 | lst h' q =>
  cases h
  refine .inl ⟨_,SqL.of h',?_⟩
  have:=q.len.1
  rename_i vs ts _
  cases vs <;> cases ts <;> simp_all
 | dct h' hl q =>
  cases h
  refine .inr (.inr ⟨_,h',?_⟩)
  have:=q.len.1
  rename_i ks vs ts _
  cases ks <;> cases vs <;> cases ts <;> simp_all
 | dctT h' hl q=>cases h
 | dctN h' hl n q=>cases h
 | obj h' hl q=>cases h
theorem AD (h:PV G X a ca) (hK:X.K=G.K:=by rfl) (he:∀ whole,isTrue a X.env whole=(do let v ← whole;standAt a.pos;holding [v] (truthy v)):=by intro _;rfl):PVT G X a ca :=
 PT.weak (xy h he) fun σ H Q ⟨Φ,η,m,r,b,s,e,eb,k⟩=>⟨Φ,η,m,r,s,e,fun v H' F e1 r1 f1=>⟨b,by rw [hK];exact yO r1 eb,k H' e1⟩⟩
noncomputable def PVW (G:Gx) (X:Cx) (e:Expr) (c:Ex):Prop:=PW X e (tT G c)
theorem PW.weak {X:Cx} {e:Expr} {t t':TT} (h:PW X e t) (w:∀ σ H Q,t' σ H Q->t σ H Q):PW X e t':=fun wh pins s σ H Q I q=>h wh pins s σ H Q I (w σ H Q q)
theorem PVW.pvt (h:PVW G X e ca):PVT G X e ca:=PW.pt h
variable {rest:List Expr}
theorem vN (ha:PVT G X a ca):PVW G X (.BoolOp .And [a] pos) ca:=Aw ha
theorem zv (ha:PVT G X a ca):PVW G X (.BoolOp .Or [a] pos) ca:=BY ha
theorem qm {η:VS.Env} {m:Md} {r:T} (e:iI ca cb η=some (m,r)):(∃ n,ca η=some (n,.bl true)/\cb η=some (m,r))\/(∃ n,ca η=some (n,.bl false)/\m=.fr/\r=.bl false):=by
 unfold iI at e
 obtain ⟨⟨n,x⟩,ea,e⟩:=Zz.mp e
 split at e
 ·rename_i h
  cases (show x=.bl true from h)
  exact .inl ⟨n,ea,e⟩
 ·rename_i h
  cases (show x=.bl false from h)
  cases e
  exact .inr ⟨n,ea,rfl,rfl⟩
 ·cases e
theorem yV {η:VS.Env} {m:Md} {r:T} (e:eOr ca cb η=some (m,r)):(∃ n,ca η=some (n,.bl false)/\cb η=some (m,r))\/(∃ n,ca η=some (n,.bl true)/\m=.fr/\r=.bl true):=by
 unfold eOr at e
 obtain ⟨⟨n,x⟩,ea,e⟩:=Zz.mp e
 split at e
 ·rename_i h
  cases (show x=.bl true from h)
  cases e
  exact .inr ⟨n,ea,rfl,rfl⟩
 ·rename_i h
  cases (show x=.bl false from h)
  exact .inl ⟨n,ea,e⟩
 ·cases e
theorem zi (ha:PVT G X a ca) (hb:PVW G X (.BoolOp .And (b :: rest) pos) cb):PVW G X (.BoolOp .And (a :: b :: rest) pos) (iI ca cb) :=
 PW.weak (CV ha hb) fun σ H Q ⟨Φ,η,m,r,k,s,e,eb,q⟩=>by
  rcases qm e with ⟨n,ea,e2⟩ | ⟨n,ea,rfl,rfl⟩
  ·refine ⟨Φ,η,n,_,true,s,ea,rfl,fun H' e1=>?_⟩
   refine AC ?_
   exact ⟨Φ,η,m,r,k,s.same e1,e2,eb,fun H2 e2=>q H2 (e1.trans e2)⟩
  ·refine ⟨Φ,η,n,_,false,s,ea,rfl,fun H' e1=>?_⟩
   refine Af ?_
   cases eb
   exact q H' e1
theorem Bc (ha:PVT G X a ca) (hb:PVW G X (.BoolOp .Or (b :: rest) pos) cb):PVW G X (.BoolOp .Or (a :: b :: rest) pos) (eOr ca cb) :=
 PW.weak (DH ha hb) fun σ H Q ⟨Φ,η,m,r,k,s,e,eb,q⟩=>by
  rcases yV e with ⟨n,ea,e2⟩ | ⟨n,ea,rfl,rfl⟩
  ·refine ⟨Φ,η,n,_,false,s,ea,rfl,fun H' e1=>?_⟩
   refine Af ?_
   exact ⟨Φ,η,m,r,k,s.same e1,e2,eb,fun H2 e2=>q H2 (e1.trans e2)⟩
  ·refine ⟨Φ,η,n,_,true,s,ea,rfl,fun H' e1=>?_⟩
   refine AC ?_
   cases eb
   exact q H' e1
theorem oS {η:VS.Env} {m:Md} {r:T} (e:gq ca η=some (m,r)):∃ n b,ca η=some (n,.bl b)/\m=.fr/\r=.bl (!b):=by
 unfold gq at e
 obtain ⟨⟨n,x⟩,ea,e⟩:=Zz.mp e
 split at e
 ·rename_i b h
  cases (show x=.bl b from h)
  cases e
  exact ⟨n,b,ea,rfl,rfl⟩
 ·cases e
theorem zj (ha:PVT G X a ca):PVT G X (.UnaryOp .Not a pos) (gq ca):=PT.weak (BO ha) fun σ H Q ⟨Φ,η,m,r,k,s,e,eb,q⟩=>by
 obtain ⟨n,b,ea,rfl,rfl⟩:=oS e
 cases eb
 exact ⟨Φ,η,n,_,b,s,ea,rfl,fun H' e1=>q H' e1⟩
theorem A7 (ha:PV G X a ca):PV G X (.UnaryOp .Not a pos) (gq ca):=PE.weak (Bw ha) fun σ H Q ⟨Φ,η,m,r,s,e,q⟩=>by
 obtain ⟨n,b,ea,rfl,rfl⟩:=oS e
 exact ⟨Φ,η,n,_,s,ea,fun v H' F e1 r1 f1=>⟨b,r1.bl_inv,q _ H' _ e1 (.bl _) Fp.nil⟩⟩
theorem BM {op} (h:PV G X a ca):PV G X (.BoolOp op [a] pos) ca:=Bs h
theorem Bf (ha:PV G X a ca) (hb:PV G X (.BoolOp .And (b :: rest) pos) cb):PV G X (.BoolOp .And (a :: b :: rest) pos) (iI ca cb) :=
 PE.weak (CT ha hb) fun σ H Q ⟨Φ,η,m,r,s,e,q⟩=>by
  rcases qm e with ⟨n,ea,e2⟩ | ⟨n,ea,rfl,rfl⟩
  ·refine ⟨Φ,η,n,_,s,ea,fun v H' F e1 r1 f1=>⟨true,r1.bl_inv,?_⟩⟩
   refine AC ?_
   exact ⟨Φ,η,m,r,s.same e1,e2,fun v H2 F e2 r2 f2=>q v H2 F (e1.trans e2) r2 (f2.back e1)⟩
  ·refine ⟨Φ,η,n,_,s,ea,fun v H' F e1 r1 f1=>⟨false,r1.bl_inv,?_⟩⟩
   refine Af ?_
   exact q _ H' _ e1 (.bl _) Fp.nil
theorem yw {H:Hp} {v:V} {t:T} {F:Xf} (r:Rp G H v t F):decide (v=.non)=isN t:=by
 cases r <;> simp [isN]
theorem Et {t:TE} {c:Ex} {σ:L2.St} {H:Hp} {Q:Bool->Hp->Prop} (h:tT G c σ H Q) (ht:∀ η m r,c η=some (m,r)->∃ b,r=.bl b) (w:∀ Q,tE G c σ H Q->t σ H Q):tB t σ H Q:=by
 obtain ⟨Φ,η,m,r,b,s,e,eb,k⟩:=h
 refine w _ ⟨Φ,η,m,r,s,e,fun v H' F e1 r1 f1=>?_⟩
 obtain ⟨b',er⟩:=ht η m r e
 rw [er] at eb r1
 cases (show some b'=some b from eb)
 exact ⟨_,r1.bl_inv,k H' e1⟩
end
section
variable {G:Gx} {X:Cx} {a b c e:Expr} {es:List Expr} {ca cb cc:Ex} {cs:Exs} {pos p:Pos}
theorem RpL.one {H:Hp} {vs:List V} {t:T} {Fs:Yf} (r:RpL G H vs [t] Fs):∃ v F,vs=[v]/\Fs=[F]/\Rp G H v t F:=by
 cases r with
 | cons r q=>cases q;exact ⟨_,_,rfl,rfl,r⟩
theorem RpL.two {H:Hp} {vs:List V} {t t':T} {Fs:Yf} (r:RpL G H vs [t,t'] Fs):∃ v v' F F',vs=[v,v']/\Fs=[F,F']/\Rp G H v t F/\Rp G H v' t' F':=by
 cases r with
 | cons r q =>
  obtain ⟨v',F',rfl,rfl,r'⟩:=q.one
  exact ⟨_,_,_,_,rfl,rfl,r,r'⟩
noncomputable def Dp (K:Xs):List V->Hp->VK->Prop:=fun xs H Q=>(∃ x n,xs=[x]/\D9 K x H n/\Q (.int n) H)\/(∃ a kvs,xs=[V.ref a]/\H a=some (.dK kvs)/\Q (.int kvs.length) H)
theorem rB:eZ X (.builtin "len") (fun xs H Q=>∃ a kvs,xs=[V.ref a]/\H a=some (.dK kvs)/\Q (.int kvs.length) H):=by
 intro pins s σ H xs us Q I r h
 obtain ⟨a,kvs,rfl,ha,q⟩:=h
 obtain ⟨u,rfl,ru⟩:=vals1 r
 cases ru
 exact DY I (.inl ha) fun t s' I'=>⟨.int kvs.length,H,I',⟨t,rfl⟩,q⟩
theorem tY:eZ X (.builtin "len") (Dp X.K):=uX.or rB
theorem CP:hZ G (Dp G.K) fz:=by
 intro Φ η H0 H l vs Fs m t Q A e k
 refine L2.fR fun P_ k_=>?_
 unfold fz at e
 split at e
 ·rename_i x
  obtain ⟨mx,x⟩:=x
  obtain ⟨n,en,e⟩:=Zm.mp e
  cases e
  obtain ⟨v,F,rfl,rfl,r⟩:=(show RpL G H vs [x] Fs from A.rp).one
  have fin:Q (.int (n:Int)) H:=bC k (.int _)
  cases r with
  | non=>cases en
  | bl b=>cases en
  | int i=>cases en
  | str s hl =>
   cases en
   refine k_ ?_
   exact .inl ⟨_,_,rfl,⟨by rw [fu,← gz];exact hl.1,rfl⟩,by rw [fu];exact fin⟩
  | scr h =>
   cases en
   refine k_ ?_
   refine .inl ⟨_,_,rfl,.inl ⟨_,h.seq,rfl⟩,?_⟩
   rw [Zv]
   exact fin
  | tup h q =>
   cases en
   refine k_ ?_
   refine .inl ⟨_,_,rfl,.inr ⟨_,SqT.of h,rfl⟩,?_⟩
   rw [q.len.1]
   exact fin
  | lst h q =>
   cases en
   refine k_ ?_
   refine .inl ⟨_,_,rfl,.inl ⟨_,SqL.of h,rfl⟩,?_⟩
   rw [q.len.1]
   exact fin
  | dct h hl q =>
   cases en
   refine k_ ?_
   refine .inr ⟨_,_,rfl,h,?_⟩
   rename_i ks ws ts _
   have e1:=q.len.1
   rw [Yb,Zv] at fin
   rw [Yb,e1]
   exact fin
  | dctT h hl q=>cases en
  | dctN h hl n q=>cases en
  | obj h hl q=>cases en
 ·cases e
theorem Ab:hZ G (fun xs H Q=>∃ i j,xs=[.int i,.int j]/\Q (.int (if j < i then j else i)) H) mO:=by
 intro Φ η H0 H l vs Fs m t Q A e k
 unfold mO at e
 split at e
 ·rename_i _ i _ j
  cases e
  obtain ⟨v,v',F,F',rfl,rfl,r,r'⟩:=(show RpL G H vs [.int i,.int j] Fs from A.rp).two
  exact ⟨i,j,by rw [r.int_inv,r'.int_inv],bC k (.int _)⟩
 ·cases e
noncomputable def AO (K:Xs):List V->Hp->VK->Prop:=fun xs H Q=>∃ p ys,xs=[.ref p]/\(SqL K H p ys\/SqT K H p ys)/\∀ l,H l=none->Q (.ref l) (upd H l (.lst ys))
theorem sS:hZ G (AO G.K) AK:=by
 intro Φ η H0 H l vs Fs m t Q A e k
 unfold AK at e
 split at e
 ·rename_i mx x
  obtain ⟨v,F,rfl,rfl,rx⟩:=(show RpL G H vs [.lst x] Fs from A.rp).one
  obtain ⟨a,ys,Gs,rfl,rfl,ha,ra⟩:=rx.lst_inv
  have f:=A.fp.each 0 _ _ rfl rfl
  exact ⟨a,ys,rfl,.inl (SqL.of ha),i3 A.same e ra (f.sub (YR _ _)) k⟩
 ·rename_i mx x
  obtain ⟨v,F,rfl,rfl,rx⟩:=(show RpL G H vs [.tup x] Fs from A.rp).one
  obtain ⟨a,ys,Gs,rfl,rfl,ha,ra⟩:=rx.tup_inv
  have f:=A.fp.each 0 _ _ rfl rfl
  exact ⟨a,ys,rfl,.inr (SqT.of ha),i3 A.same e ra f k⟩
 ·cases e
noncomputable def tO (G:Gx) (c:Option Ex):TO:=fun σ H Q=>∃ Φ η o,SR G Φ η σ H/\mV c η=some o/\∀ H',aS H H'->Q o H'
noncomputable def PVO (G:Gx) (X:Cx) (e:Option Expr) (c:Option Ex):Prop:=PO X e (tO G c)
theorem PO.weak {X:Cx} {e:Option Expr} {t t':TO} (h:PO X e t) (w:∀ σ H Q,t' σ H Q->t σ H Q):PO X e t':=fun pins s σ H Q I q=>h pins s σ H Q I (w σ H Q q)
theorem vV:PVO G X none none:=PO.weak Ap fun σ H Q ⟨Φ,η,o,s,e,k⟩=>by
 cases (show some (none:Option Int)=some o from e)
 exact k H (aS.refl _)
theorem vf (h:PV G X a ca):PVO G X (some a) (some ca):=PO.weak (Av h) fun σ H Q ⟨Φ,η,o,s,e,k⟩=>by
 obtain ⟨⟨m,y⟩,ea,e⟩:=Zz.mp (show (ca η).bind (fun y=>(int? y.2).map some)=some o from e)
 obtain ⟨i,ei,e⟩:=Zm.mp e
 cases e
 refine ⟨Φ,η,m,y,s,ea,fun v H' F e1 r1 f1=>?_⟩
 cases y with
 | int j =>
  cases ei
  exact ⟨_,r1.int_inv,k H' e1⟩
 | _=>cases ei
theorem kf {α:Type} (l:List α) (lo hi:Option Int):cut l lo hi=(l.drop (HT.sIx l.length 0 lo)).take (HT.sIx l.length l.length hi - HT.sIx l.length 0 lo):=by
 unfold cut
 cases lo <;> cases hi <;> rfl
theorem xK (lo hi:Option Int) (n:Nat):Builtin.Str.strSliceIndices lo hi 1 n=Builtin.Str.strSliceIndices (some ((min (HT.sIx n 0 lo) n:Nat):Int)) (some ((min (HT.sIx n n hi) n:Nat):Int)) 1 n:=by
 have e1:∀ k:Nat,¬ ((k:Int) < 0):=fun k=>by lia
 unfold Builtin.Str.strSliceIndices
 simp only [show (1:Int) > 0 by decide,if_true,e1,if_false]
 congr 1
 ·cases lo with
  | none=>simp only [HT.sIx];lia
  | some i =>
   simp only [HT.sIx]
   by_cases h:i < 0
   ·simp only [h,if_true];lia
   ·simp only [h,if_false];lia
 ·cases hi with
  | none=>simp only [HT.sIx];lia
  | some i =>
   simp only [HT.sIx]
   by_cases h:i < 0
   ·simp only [h,if_true];lia
   ·simp only [h,if_false];lia
theorem mq (s:Tx) (lo hi:Option Int):PySem.StrLaws.sliceText (sx s) lo hi=sx (cut s lo hi):=by
 have key:PySem.StrLaws.sliceText (sx s) lo hi=PySem.StrLaws.sliceText (sx s) (some ((min (HT.sIx s.length 0 lo) s.length:Nat):Int)) (some ((min (HT.sIx s.length s.length hi) s.length:Nat):Int)):=by
  unfold PySem.StrLaws.sliceText
  rw [fu,xK]
 rw [key]
 have hd:∀ a:Nat,s.drop (min a s.length)=s.drop a:=fun a=>by
  by_cases h:a<=s.length
  ·rw [Yv h]
  ·rw [XD (by exact YA h),YC (Zr _),YC (by exact YA h)]
 by_cases h:min (HT.sIx s.length 0 lo) s.length<=min (HT.sIx s.length s.length hi) s.length
 ·rw [PySem.StrLaws.sliceText_nat (sx s) h (by rw [fu];exact Nat.min_le_right _ _),kf]
  show (⟨_⟩:Str)=⟨_⟩
  congr 2
  show ((sx s).cps.toList.drop _).take _=_
  have:(sx s).cps.toList=s:=rfl
  rw [this,hd]
  by_cases h2:HT.sIx s.length 0 lo<=s.length
  ·rw [Yv h2]
   by_cases h3:HT.sIx s.length s.length hi<=s.length
   ·rw [Yv h3]
   ·rw [XD (by exact YA h3),ZK (by rw [ZQ];exact Zr _),ZK (by rw [ZQ];lia)]
  ·rw [YC (by exact YA h2)]
   simp
 ·have e0:cut s lo hi=[]:=by
   rw [kf]
   have:HT.sIx s.length s.length hi - HT.sIx s.length 0 lo=0:=by omega
   rw [this,List.take_zero]
  rw [e0]
  unfold PySem.StrLaws.sliceText
  have e2:Builtin.Str.strSliceIndices (some ((min (HT.sIx s.length 0 lo) s.length:Nat):Int)) (some ((min (HT.sIx s.length s.length hi) s.length:Nat):Int)) 1 (sx s).length=[]:=by
   have e1:∀ k:Nat,¬ ((k:Int) < 0):=fun k=>by lia
   unfold Builtin.Str.strSliceIndices sliceRange
   simp only [show (1:Int) > 0 by decide,if_true,e1,if_false,fu]
   rw [Zp (by omega)]
   rfl
  rw [e2]
  have:¬ ((1:Int) == 1 && ([]:Vr).length == (sx s).length)=true:=by
   rw [fu]
   simp
   lia
  rw [Zp this]
  rfl
noncomputable def D8:V->Option Int->Option Int->Hp->VK->Prop:=fun x lo hi H Q=>∃ z,x=.str z/\z.length<=sizeLine/\Q (.str (PySem.StrLaws.sliceText z lo hi)) H
theorem part_of {v:Value} {o:Option Int} (h:IsPart v o):∃ q:Option (Int×Tok),v=partValue q/\o=q.map (·.1):=by
 cases h with
 | none=>exact ⟨none,rfl,rfl⟩
 | int i t=>exact ⟨some (i,t),rfl,rfl⟩
theorem nZ {α β:Type} (f:α->Option β) (l:List α):(l.filterMap f).length<=l.length:=List.length_filterMap_le f l
theorem yo (lo hi:Option Int) (n:Nat):(Builtin.Str.strSliceIndices lo hi 1 n).length<=n:=by
 rw [xK]
 by_cases h:min (HT.sIx n 0 lo) n<=min (HT.sIx n n hi) n
 ·rw [PySem.StrLaws.strSliceIndices_plain h (by exact Nat.min_le_right _ _),Zv,Z0]
  lia
 ·have e1:∀ k:Nat,¬ ((k:Int) < 0):=fun k=>by lia
  unfold Builtin.Str.strSliceIndices sliceRange
  simp only [show (1:Int) > 0 by decide,if_true,e1,if_false]
  rw [Zp (by omega)]
  simp
theorem Bq:SlR X D8:=by
 intro pins s σ H x v vl vu lo hi sl Q I rx hs pl pu h
 obtain ⟨z,rfl,hz,q⟩:=h
 obtain ⟨t,rfl⟩:=rx
 obtain ⟨l,rfl,rfl⟩:=part_of pl
 obtain ⟨u,rfl,rfl⟩:=part_of pu
 refine ⟨"str",_,F.slot_str_getitem.lookup,typeIs_str s z t,wpAny_getItem_str_slice (l:=l) (u:=u) (st:=none) hs rfl ?_⟩
 unfold sliceMade
 split
 ·rename_i hc
  refine ⟨.str z,H,I,⟨t,rfl⟩,?_⟩
  have e:PySem.StrLaws.sliceText z (l.map (·.1)) (u.map (·.1))=z:=by
   unfold PySem.StrLaws.sliceText
   exact Zs hc
  rw [e] at q
  exact q
 ·rename_i hc
  refine ⟨ZW ?_ hz,.str _,H,I.tok _,⟨_,rfl⟩,?_⟩
  ·show (List.filterMap _ _).toArray.size<=_
   rw [Zc]
   exact ZW (nZ _ _) (yo _ _ _)
  ·have e:PySem.StrLaws.sliceText z (l.map (·.1)) (u.map (·.1))=⟨((slicePicked z l u none).filterMap (z.cps[·]?)).toArray⟩:=by
    unfold PySem.StrLaws.sliceText
    exact Zp hc
   rw [e] at q
   exact q
noncomputable def rSl (K:Xs):V->Option Int->Option Int->Hp->VK->Prop:=fun x lo hi H Q=>D8 x lo hi H Q\/Ew K x lo hi H Q
theorem Ff:SlR X (rSl X.K):=Bq.or An
theorem zV {α:Type} (l:List α) (lo hi:Option Int):(cut l lo hi).length<=l.length:=by
 rw [kf,ZR,ZQ]
 lia
theorem RpL.cut {H:Hp} {vs:List V} {ts:Vl} {Fs:Yf} (r:RpL G H vs ts Fs) (lo hi:Option Int):RpL G H (uB vs lo hi) (VS.cut ts lo hi) (VS.cut Fs lo hi):=by
 have h:=r.len
 rw [kf,kf,h.2]
 unfold uB
 rw [h.1]
 exact (r.drop _).take _
theorem sR {α:Type} (l:List α) (lo hi:Option Int):(VS.cut l lo hi).Sublist l:=by
 rw [kf]
 exact (List.take_sublist _ _).trans (List.drop_sublist _ _)
theorem wu {F G:Yf} (h:F.Sublist G):F.flatten.Sublist G.flatten:=by
 induction h with
 | slnil=>exact Wq _
 | cons a _ ih=>rw [Zf];exact ih.trans (List.sublist_append_right _ _)
 | cons_cons a _ ih=>rw [Zf,Zf];exact (Wq _).append ih
theorem wj {lo hi:Option Expr} {cl ch:Option Ex} {p2:Pos} (ha:PV G X a ca) (hl:PVO G X lo cl) (hh:PVO G X hi ch) (hK:X.K=G.K:=by rfl):PV G X (.Subscript a (.Slice lo hi none p2) pos) (eSl ca cl ch) :=
 PE.weak (wK Ff ha hl hh) fun σ H Q ⟨Φ,η,m,t,s,e,k⟩=>by
  unfold eSl at e
  obtain ⟨⟨mx,x⟩,ea,e'⟩:=Zz.mp e
  obtain ⟨l,el,e''⟩:=Zz.mp e'
  obtain ⟨h,eh,e4⟩:=Zz.mp e''
  clear e e' e''
  refine ⟨Φ,η,mx,x,s,ea,fun v H1 F e1 r1 f1=>⟨Φ,η,l,s.same e1,el,fun H2 e2=>⟨Φ,η,h,(s.same e1).same e2,eh,fun H3 e3=>?_⟩⟩⟩
  have e03:aS H H3:=(e1.trans e2).trans e3
  have r3:=(r1.same e2).same e3
  unfold oSl at e4
  split at e4
  ·rename_i m' z q
   cases q
   cases e4
   obtain ⟨rfl,hl⟩:=r3.str_inv
   refine .inl ⟨_,rfl,by rw [fu,← gz];exact hl.1,?_⟩
   rw [mq]
   exact k _ H3 _ e03 (.str _ ⟨ZW (zV _ _ _) hl.1,fun c hc=>hl.2 c ((sR _ _ _).subset hc)⟩) Fp.nil
  ·rename_i m' z q
   cases q
   obtain ⟨a',vs,Fs,rfl,rfl,ha',ra⟩:=r3.lst_inv
   refine .inr ⟨a',vs,rfl,by rw [hK];exact SqL.of ha',i3 e03 e4 (ra.cut l h) ((f1.sub (YR _ _)).sub (wu (sR _ _ _))) fun v H4 F e5 r4 f4=>k v H4 F (e03.trans e5) r4 f4⟩
  ·cases e4
noncomputable def tyS:Ty->String
 | .int => "int"
 | .str => "str"
 | .bool => "bool"
 | .list => "list"
 | .tuple => "tuple"
 | .dict => "dict"
noncomputable def rIs (K:Xs):List V->Hp->VK->Prop:=fun vs H Q=>∃ x c t b,vs=[x,.ty c]/\TyOf K H x t/\PySem.W.kitOne K t (.type c)=some b/\Q (.bl b) H
theorem yu:eZ X (.builtin "isinstance") (rIs X.K):=by
 intro pins s σ H xs us Q I r h
 obtain ⟨x,c,t,b,rfl,ty,e,q⟩:=h
 obtain ⟨u,w',rfl,r1,r2⟩:=vals2 r
 cases r2
 exact uI I r1 ty e fun tk=>⟨.bl b,H,I.tok _,rfl,q⟩
theorem yZ (K:Xs) (ty:Ty):(PySem.W.kitOne K (.type "NoneType") (.type (tyS ty))=some false)/\(PySem.W.kitOne K (.type "bool") (.type (tyS ty))=some (oR ty (.bl true)))/\(PySem.W.kitOne K (.type "int") (.type (tyS ty))=some (oR ty (.int 0))) ∧
  (PySem.W.kitOne K (.type "str") (.type (tyS ty))=some (oR ty (.str [])))/\(PySem.W.kitOne K (.type "list") (.type (tyS ty))=some (oR ty (.lst [])))/\(PySem.W.kitOne K (.type "tuple") (.type (tyS ty))=some (oR ty (.tup [])))/\(PySem.W.kitOne K (.type "dict") (.type (tyS ty))=some (oR ty (.dct 0 []))):=by
 cases ty <;> refine ⟨?_,?_,?_,?_,?_,?_,?_⟩ <;> kernel_rfl
theorem DS {H:Hp} {v:V} {t:T} {F:Xf} (ty:Ty) (r:Rp G H v t F) (h:rV t=true):∃ t',TyOf G.K H v t'/\PySem.W.kitOne G.K t' (.type (tyS ty))=some (oR ty t):=by
 obtain ⟨k1,k2,k3,k4,k5,k6,k7⟩:=yZ G.K ty
 cases r with
 | non=>exact ⟨_,.non,by rw [k1];cases ty <;> rfl⟩
 | bl b=>exact ⟨_,.bl b,by rw [k2];cases ty <;> rfl⟩
 | int i=>exact ⟨_,.int i,by rw [k3];cases ty <;> rfl⟩
 | str s _=>exact ⟨_,.str _,by rw [k4];cases ty <;> rfl⟩
 | scr _=>cases h
 | tup h' q=>exact ⟨_,.tup h',by rw [k6];cases ty <;> rfl⟩
 | lst h' q=>exact ⟨_,.lst h',by rw [k5];cases ty <;> rfl⟩
 | dct h' l q=>exact ⟨_,.dK h',by rw [k7];cases ty <;> rfl⟩
 | dctT h' l q=>exact ⟨_,.dT h',by rw [k7];cases ty <;> rfl⟩
 | dctN h' l n q=>simp at h
 | obj _ _ _=>cases h
theorem DM (ty:Ty) {x:Str} {p1 p2:Pos} (ha:PV G X a ca) (hg:Gl X "isinstance") (hm:X.mg "isinstance" = none) (hg2:Gl X x) (hm2:X.mg x=none) (hv:bootBuiltins x=some (.type (tyS ty))) (hK:X.K=G.K:=by rfl)
  (hn:x ≠ "__name__" := by decide) (hdb:(x == ("__debug__" : Str))=false:=by decide) (hs:starEach [a,.Name x p2] X.env=(false,eval a X.env) :: starEach [.Name x p2] X.env:=by rfl)
  (hs2:starEach [.Name x p2] X.env=(false,eval (.Name x p2) X.env) :: starEach [] X.env:=by rfl) (hpl:(backTo pos (starEach [Expr.Name x p2] X.env)).any (·.1)=false:=by rfl) :
  PV G X (.Call (.Name "isinstance" p1) [a,.Name x p2] [] pos) (eIs ty ca) :=
 PE.weak (p6 yu hg hm boot_isinstance (fI ha (fI (yk (v:=.ty (tyS ty)) hg2 hm2 hv rfl hn hdb) gZ hs2) hs) (by decide) rfl hs hpl) fun σ H Q ⟨Φ,η,m,t,s,e,k⟩=>by
  unfold eIs at e
  obtain ⟨⟨mx,y⟩,ea,e'⟩:=Zz.mp e
  split at e'
  ·rename_i hk
   cases e'
   refine ⟨Φ,η,mx,y,s,ea,fun v H' F e1 r1 f1=>?_⟩
   obtain ⟨t',h1,h2⟩:=DS ty r1 hk
   exact ⟨v,tyS ty,t',_,rfl,by rw [hK];exact h1,by rw [hK];exact h2,k _ H' _ e1 (.bl _) Fp.nil⟩
  ·cases e'
end
end VS
end
section
namespace VS
@[simp] noncomputable def oIx (x y:Val):Vm:=match x.2 with
 | .dct 0 l=>if il y.2 then (bN l y.2).map (sub x.1) else none
 | _=>bq x y
@[simp] noncomputable def flat:T->Bool
 | .non=>true
 | .bl _=>true
 | .int _=>true
 | .str _=>true
 | _=>false
@[simp] noncomputable def ml (x y:Val):Vm:=match y.2 with
 | .dct 0 l=>if il x.2 then some (.fr,.bl (bN l x.2).isSome) else none
 | .lst l=>if flat x.2 && l.all flat then some (.fr,.bl (l.any fun y=>eqT y x.2)) else none
 | .tup l=>if flat x.2 && l.all flat then some (.fr,.bl (l.any fun y=>eqT y x.2)) else none
 | _=>none
@[simp] noncomputable def fG (x y:Val):Vm:=match ml x y with
 | some (_,.bl b)=>some (.fr,.bl (!b))
 | _=>none
noncomputable def pm {α:Type} (f:T->Option (T×α)):List Ky->T->Option (T×α)
 | [],t=>f t
 | .fld k :: r,.obj c fs=>(fs.findIdx? fun p=>p.1 == k).bind fun i=>(fs[i]?).bind fun p=>(pm f r p.2).map fun z=>(.obj c (fs.set i (p.1,z.1)),z.2)
 | .at (.int i) :: r,.lst l=>(ixP l.length i).bind fun j=>(l[j]?).bind fun x=>(pm f r x).map fun z=>(.lst (l.set j z.1),z.2)
 | .at k :: r,.dct 0 l=>if il k then (l.findIdx? fun p=>eqT p.1 k).bind fun i=>(l[i]?).bind fun p=>(pm f r p.2).map fun z=>(.dct 0 (l.set i (p.1,z.1)),z.2) else none
 | _,_=>none
end VS
end
section
namespace VS
open PySem PySem.Spec PyProof.Rows L2
section
variable {G:Gx} {X:Cx} {a b c e:Expr} {es:List Expr} {ca cb cc:Ex} {cs:Exs} {pos p:Pos}
mutual
noncomputable def toP:T->PyData
 | .non=>.none
 | .bl b=>.bool b
 | .int i=>.int i
 | .str s=>.str (sx s)
 | .tup l=>.tuple (lY l)
 | .lst l=>.list (lY l)
 | _=>.none
noncomputable def lY:Vl->List PyData
 | []=>[]
 | t :: r=>toP t :: lY r
end
theorem Dv {s:Tx} (h:i4 s):PyData.strOk (sx s)=true:=by
 unfold PyData.strOk sx
 simp only [Array.all_eq_true,decide_eq_true_eq]
 intro i hi
 have:s.toArray[i]∈s:=by simp
 have:=h.2 _ this
 simpa using this
theorem wy {s t:Tx}:(sx s == sx t)=(s == t):=by
 rw [Bool.eq_iff_iff,beq_iff_eq,beq_iff_eq]
 constructor
 ·intro h
  have:(sx s).cps=(sx t).cps:=by rw [h]
  simpa [sx] using this
 ·intro h
  rw [h]
mutual
theorem n9:∀ (n k:Nat) (t u:T),eqD n t=true->eqD k u=true->PyData.eqv (toP t) (toP u)=eqT t u
 | n,k,t,u,h1,h2=>by
  cases t with
  | scr _=>cases n <;> simp at h1
  | dct _ _=>cases n <;> simp at h1
  | obj _ _=>cases n <;> simp at h1
  | tup l =>
   cases n with
   | zero=>simp at h1
   | succ n =>
    cases u with
    | tup r =>
     cases k with
     | zero=>simp at h2
     | succ k =>
      simp only [toP,PyData.eqv,eqT]
      exact kY n k l r (by simpa using h1) (by simpa using h2)
    | scr _=>cases k <;> simp at h2
    | dct _ _=>cases k <;> simp at h2
    | obj _ _=>cases k <;> simp at h2
    | _=>simp [toP,PyData.eqv,eqT]
  | lst l =>
   cases n with
   | zero=>simp at h1
   | succ n =>
    cases u with
    | lst r =>
     cases k with
     | zero=>simp at h2
     | succ k =>
      simp only [toP,PyData.eqv,eqT]
      exact kY n k l r (by simpa using h1) (by simpa using h2)
    | scr _=>cases k <;> simp at h2
    | dct _ _=>cases k <;> simp at h2
    | obj _ _=>cases k <;> simp at h2
    | _=>simp [toP,PyData.eqv,eqT]
  | str s =>
   cases u with
   | str r=>simp only [toP,PyData.eqv,eqT];exact wy
   | scr _=>cases k <;> simp at h2
   | dct _ _=>cases k <;> simp at h2
   | obj _ _=>cases k <;> simp at h2
   | _=>simp [toP,PyData.eqv,eqT]
  | _ =>
   cases u with
   | scr _=>cases k <;> simp at h2
   | dct _ _=>cases k <;> simp at h2
   | obj _ _=>cases k <;> simp at h2
   | _=>simp [toP,PyData.eqv,eqT]
theorem kY:∀ (n k:Nat) (l r:Vl),(∀ t∈l,eqD n t=true)->(∀ t∈r,eqD k t=true)->PyData.eqvAll (lY l) (lY r)=mG l r
 | _,_,[],[],_,_=>rfl
 | _,_,[],_ :: _,_,_=>rfl
 | _,_,_ :: _,[],_,_=>rfl
 | n,k,t :: l,u :: r,h1,h2=>by
  simp only [lY,PyData.eqvAll,mG]
  rw [n9 n k t u (h1 t Zw) (h2 u Zw),kY n k l r (fun x hx=>h1 x (Zx _ hx)) fun x hx=>h2 x (Zx _ hx)]
end
theorem Rp.tup_inv5 {H:Hp} {v:V} {ts:Vl} {F:Xf} (r:Rp G H v (.tup ts) F):∃ b vs Fs,v=.ref b/\H b=some (.tup vs)/\RpL G H vs ts Fs:=by
 cases r with
 | tup h q=>exact ⟨_,_,_,rfl,h,q⟩
theorem Rp.lst_inv5 {H:Hp} {v:V} {ts:Vl} {F:Xf} (r:Rp G H v (.lst ts) F):∃ b vs Fs,v=.ref b/\H b=some (.lst vs)/\RpL G H vs ts Fs:=by
 cases r with
 | lst h q=>exact ⟨_,_,_,rfl,h,q⟩
theorem jU {H:Hp} {s:Shared} {n:Nat} (rd:∀ {v:V} {t:T} {F:Xf} {u:Value},Rp G H v t F->RelV v u->eqD n t=true->∃ as,Reads s.heap u (toP t) as/\(toP t).canLay0=true/\(toP t).depth<=n):∀ {vs:List V} {ts:Vl} {Fs:Yf} {us:Xb},RpL G H vs ts Fs->aQ vs us->(∀ t∈ts,eqD n t=true) →
  ∃ as,ReadsAll s.heap us (lY ts) as/\PyData.canLayAll0 (lY ts)=true/\PyData.depthAll (lY ts)<=n
 | _,_,_,_,.nil,r,_=>by cases r;exact ⟨_,.nil,rfl,ZO _⟩
 | _,_,_,_,.cons p q,r,h=>by
  cases r with
  | cons r1 r2 =>
   obtain ⟨as,h1,h2,h3⟩:=rd p r1 (h _ Zw)
   obtain ⟨bs,g1,g2,g3⟩:=jU rd q r2 fun t ht=>h t (Zx _ ht)
   exact ⟨_,.cons h1 g1,by simp only [lY,PyData.canLayAll0,h2,g2,Bool.and_self],by simp only [lY,PyData.depthAll];lia⟩
theorem lO {h:Heap} {H:Hp} {v:V} {t:T} {F:Xf} {u:Value} {n:Nat} (r:Rp G H v t F) (ru:RelV v u) (hf:flat t=true):∃ as,Reads h u (toP t) as/\(toP t).canLay0=true/\(toP t).depth<=n:=by
 cases r with
 | non=>cases ru;exact ⟨_,.none,rfl,ZO _⟩
 | bl b=>cases ru;exact ⟨_,.bool b,rfl,ZO _⟩
 | int i=>obtain ⟨t,rfl⟩:=ru;exact ⟨_,.int i t,rfl,ZO _⟩
 | str s h=>obtain ⟨t,rfl⟩:=ru;exact ⟨_,.str _ t,Dv h,ZO _⟩
 | _=>cases hf
theorem jC {H:Hp} {pins:Yp} {σ:L2.St} {s:Shared} (I:Inv X pins σ H s) (n:Nat):∀ {v:V} {t:T} {F:Xf} {u:Value},Rp G H v t F->RelV v u->eqD n t=true->∃ as,Reads s.heap u (toP t) as/\(toP t).canLay0=true/\(toP t).depth<=n:=by
 induction n with
 | zero =>
  intro v t F u r ru h
  refine lO r ru ?_
  cases t <;> first | rfl | exact h
 | succ n ih =>
  intro v t F u r ru h
  cases t with
  | tup l =>
   obtain ⟨b,vs,Fs,rfl,e,q⟩:=Rp.tup_inv5 r
   cases ru
   obtain ⟨its,rv,tp,hz⟩:=I.tuple (SqT.of e)
   obtain ⟨as,h1,h2,h3⟩:=jU ih q rv (by simpa using h)
   obtain ⟨o,ho,hc,n',hd⟩:=tp
   exact ⟨_,.tuple ho hc hd (by simpa using h1),h2,by simp only [toP,PyData.depth];exact YB h3⟩
  | lst l =>
   obtain ⟨b,vs,Fs,rfl,e,q⟩:=Rp.lst_inv5 r
   cases ru
   obtain ⟨its,rv,pl,hz⟩:=I.list (SqL.of e)
   obtain ⟨as,h1,h2,h3⟩:=jU ih q rv (by simpa using h)
   obtain ⟨o,ho,hc,n',hd⟩:=pl.isList
   exact ⟨_,.list ho hc hd (by simpa using h1),h2,by simp only [toP,PyData.depth];exact YB h3⟩
  | scr _=>simp at h
  | dct _ _=>simp at h
  | obj _ _=>simp at h
  | _=>exact lO r ru rfl
noncomputable def zl (G:Gx) (neg:Bool):R2:=fun x y H Q=>∃ t u F F',Rp G H x t F/\Rp G H y u F'/\eqD 60 t=true/\eqD 60 u=true/\Q (.bl (if neg then !eqT t u else eqT t u)) H
theorem iX {d:PyData} (h:d.canLay0=true) (h2:d.depth<=60):SeqAt.shaped d=true:=by
 unfold SeqAt.shaped
 rw [h,Bool.true_and]
 exact decide_eq_true (by lia)
theorem vh (hu:X.A.units+64 < cLine):OpR X (compareOp .Eq) (zl G false):=by
 intro pins s σ H x y v u Q I rx ry h
 obtain ⟨t,w,F,F',r1,r2,h1,h2,q⟩:=h
 obtain ⟨as,a1,a2,a3⟩:=jC I 60 r1 rx h1
 obtain ⟨bs,b1,b2,b3⟩:=jC I 60 r2 ry h2
 refine eq_dataH a1 b1 (iX a2 a3) (iX b2 b3) hu ⟨.bl _,H,I,rfl,?_⟩
 rw [n9 60 60 t w h1 h2]
 exact q
theorem CW (hu:X.A.units+64 < cLine):OpR X (compareOp .NotEq) (zl G true):=by
 intro pins s σ H x y v u Q I rx ry h
 obtain ⟨t,w,F,F',r1,r2,h1,h2,q⟩:=h
 obtain ⟨as,a1,a2,a3⟩:=jC I 60 r1 rx h1
 obtain ⟨bs,b1,b2,b3⟩:=jC I 60 r2 ry h2
 refine ne_dataH a1 b1 (iX a2 a3) (iX b2 b3) hu ⟨.bl _,H,I,rfl,?_⟩
 rw [n9 60 60 t w h1 h2]
 exact q
theorem AQ:gn G (zl G false) oEq:=by
 intro Φ η H0 H x y u w F1 F2 m t Q tw e k
 unfold oEq at e
 split at e
 ·rename_i h
  cases e
  exact ⟨_,_,_,_,tw.r1,tw.r2,h.1,h.2,bC k (.bl _)⟩
 ·cases e
theorem C7:gn G (zl G true) oNe:=by
 intro Φ η H0 H x y u w F1 F2 m t Q tw e k
 unfold oNe at e
 split at e
 ·rename_i h
  cases e
  exact ⟨_,_,_,_,tw.r1,tw.r2,h.1,h.2,bC k (.bl _)⟩
 ·cases e
theorem tells_eq:Tells oEq:=by
 intro x y m t e
 unfold oEq at e
 split at e <;> first | (cases e;exact ⟨_,rfl⟩) | cases e
theorem wW:Tells oNe:=by
 intro x y m t e
 unfold oNe at e
 split at e <;> first | (cases e;exact ⟨_,rfl⟩) | cases e
end
structure Frm (Φ:Fps) (η:VS.Env) (H:Hp) (Φ':Fps) (η':VS.Env) (H':Hp):Prop where
 keep:∀ a o,H a=some o->¬ b5 Φ η a->H' a=some o/\¬ b5 Φ' η' a
 dom:∀ a,H a ≠ none->H' a ≠ none
 ow:∀ a,b5 Φ' η' a->b5 Φ η a\/H a=none
 pu:∀ a,dF Φ' η' a->dF Φ η a\/b5 Φ η a\/H a=none
 kept:Kept H H'
theorem Frm.refl (Φ:Fps) (η:VS.Env) (H:Hp):Frm Φ η H Φ η H:=⟨fun a o h n=>⟨h,n⟩,fun _ h=>h,fun _ h=>.inl h,fun _ h=>.inl h,Kept.refl H⟩
theorem Frm.none {Φ Φ':Fps} {η η':VS.Env} {H H':Hp} (f:Frm Φ η H Φ' η' H') {a:Addr} (h:H' a=none):H a=none:=by
 cases e:H a with
 | none=>rfl
 | some o=>exact absurd h (f.dom a (by rw [e];exact fun z=>nomatch z))
theorem Frm.trans {Φ Φ1 Φ2:Fps} {η η1 η2:VS.Env} {H H1 H2:Hp} (f:Frm Φ η H Φ1 η1 H1) (g:Frm Φ1 η1 H1 Φ2 η2 H2):Frm Φ η H Φ2 η2 H2 where
 keep:=fun a o h n=>let ⟨h1,n1⟩:=f.keep a o h n;g.keep a o h1 n1
 dom:=fun a h=>g.dom a (f.dom a h)
 ow:=fun a h=>by
  rcases g.ow a h with h | h
  ·exact f.ow a h
  ·exact .inr (f.none h)
 pu:=fun a h=>by
  rcases g.pu a h with h | h | h
  ·exact f.pu a h
  ·rcases f.ow a h with h | h
   ·exact .inr (.inl h)
   ·exact .inr (.inr h)
  ·exact .inr (.inr (f.none h))
 kept:=f.kept.trans g.kept
theorem Frm.same {Φ:Fps} {η:VS.Env} {H H':Hp} (e:aS H H'):Frm Φ η H Φ η H' :=
 ⟨fun a o h n=>⟨e a o h,n⟩,fun a h z=>h (e.free z),fun _ h=>.inl h,fun _ h=>.inl h,Kept.of e⟩
noncomputable def oK (Φ:Fps) (η:VS.Env) (H:Hp):Md->Xf->Prop
 | .fr,F=>F.Nodup/\∀ a∈F,H a=none\/b5 Φ η a
 | _,F=>∀ a∈F,H a=none\/dF Φ η a\/b5 Φ η a
theorem oK.back {Φ Φ1:Fps} {η η1:VS.Env} {H H1:Hp} (f:Frm Φ η H Φ1 η1 H1) {F:Xf}:∀ {m:Md},oK Φ1 η1 H1 m F->oK Φ η H m F
 | .fr,h=>⟨h.1,fun a ha=>(h.2 a ha).elim (fun z=>.inl (f.none z)) fun z=>(f.ow a z).elim .inr .inl⟩
 | .pu,h=>fun a ha=>by
  rcases h a ha with z | z | z
  ·exact .inl (f.none z)
  ·rcases f.pu a z with z | z | z
   ·exact .inr (.inl z)
   ·exact .inr (.inr z)
   ·exact .inl z
  ·exact (f.ow a z).elim (fun z=>.inr (.inr z)) .inl
 | .bo,h=>fun a ha=>by
  rcases h a ha with z | z | z
  ·exact .inl (f.none z)
  ·rcases f.pu a z with z | z | z
   ·exact .inr (.inl z)
   ·exact .inr (.inr z)
   ·exact .inl z
  ·exact (f.ow a z).elim (fun z=>.inr (.inr z)) .inl
noncomputable def Nx (G:Gx) (Φ:Fps) (η:VS.Env) (H:Hp) (η':VS.Env) (k:L2.St->Hp->Prop):Prop:=∀ Φ' σ' H',SR G Φ' η' σ' H'->Frm Φ η H Φ' η' H'->k σ' H'
noncomputable def sq (G:Gx) (Φ:Fps) (η:VS.Env) (H:Hp) (D:Ends):Out->Prop
 | .nx η'=>Nx G Φ η H η' D.nx
 | .bk η'=>Nx G Φ η H η' D.bk
 | .ct η'=>Nx G Φ η H η' D.ct
 | .rt v η'=>∀ u H' F Φ' σ',SR G Φ' η' σ' H'->Frm Φ η H Φ' η' H'->Rp G H' u v.2 F->oK Φ η H v.1 F->D.rt u H'
noncomputable def tS (G:Gx) (c:Sx):TS:=fun D σ H=>∃ Φ η o,SR G Φ η σ H/\c η=some o/\sq G Φ η H D o
noncomputable def PSV (G:Gx) (X:Cx) (st:Stmt) (c:Sx):Prop:=PS X st (tS G c)
noncomputable def fE (G:Gx) (X:Cx) (st:List Stmt) (c:Sx):Prop:=PSs X st (tS G c)
theorem PS.weak {X:Cx} {e:Stmt} {t t':TS} (h:PS X e t) (w:∀ D σ H,t' D σ H->t D σ H):PS X e t':=fun pins s σ H D I q=>h pins s σ H D I (w D σ H q)
theorem PSs.weak {X:Cx} {e:List Stmt} {t t':TS} (h:PSs X e t) (w:∀ D σ H,t' D σ H->t D σ H):PSs X e t':=fun pins s σ H D I q=>h pins s σ H D I (w D σ H q)
theorem sq.back {G:Gx} {Φ Φ1:Fps} {η η1:VS.Env} {H H1:Hp} {D:Ends} (f:Frm Φ η H Φ1 η1 H1):∀ {o:Out},sq G Φ η H D o->sq G Φ1 η1 H1 D o
 | .nx η',h=>fun Φ' σ' H' s g=>h Φ' σ' H' s (f.trans g)
 | .bk η',h=>fun Φ' σ' H' s g=>h Φ' σ' H' s (f.trans g)
 | .ct η',h=>fun Φ' σ' H' s g=>h Φ' σ' H' s (f.trans g)
 | .rt v η',h=>fun u H' F Φ' σ' s g r q=>h u H' F Φ' σ' s (f.trans g) r (q.back f)
section
variable {G:Gx} {X:Cx} {st:Stmt} {sts:List Stmt} {c c1 c2:Sx} {pos:Pos} {e:Expr} {ce:Ex}
theorem zZ:fE G X [] iF:=PSs.weak zz fun D σ H ⟨Φ,η,o,s,e,k⟩=>by
 cases (show some (Out.nx η)=some o from e)
 exact k Φ σ H s (Frm.refl _ _ _)
theorem vZ (h1:PSV G X st c1) (h2:fE G X sts c2):fE G X (st :: sts) (au c1 c2):=PSs.weak (xJ h1 h2) fun D σ H ⟨Φ,η,o,s,e,k⟩=>by
 unfold au at e
 obtain ⟨o1,e1,e2⟩:=Zz.mp e
 refine ⟨Φ,η,o1,s,e1,?_⟩
 cases o1 with
 | nx η1=>exact fun Φ' σ' H' s' f=>⟨Φ',η1,o,s',e2,k.back f⟩
 | rt v η1=>cases e2;exact k
 | bk η1=>cases e2;exact k
 | ct η1=>cases e2;exact k
theorem zq (h1:PSV G X st c1):fE G X [st] c1:=rW h1
theorem BP {t:Expr} {ct:Ex} {a b:List Stmt} (hc:PVT G X t ct) (ha:fE G X a c1) (hb:fE G X b c2):PSV G X (.If t a b pos) (sIf ct c1 c2):=PS.weak (DR hc ha hb) fun D σ H ⟨Φ,η,o,s,e,k⟩=>by
 unfold sIf at e
 obtain ⟨⟨m,x⟩,ec,e1⟩:=Zz.mp e
 obtain ⟨b',eb,e2⟩:=Zz.mp e1
 refine ⟨Φ,η,m,x,b',s,ec,eb,fun H' e3=>?_⟩
 cases b' with
 | true =>
  rw [Zs rfl] at e2
  exact AC ⟨Φ,η,o,s.same e3,e2,k.back (Frm.same e3)⟩
 | false =>
  rw [Zp Zi] at e2
  exact Af ⟨Φ,η,o,s.same e3,e2,k.back (Frm.same e3)⟩
theorem Fp.ret {Φ:Fps} {η:VS.Env} {H:Hp} {F:Xf}:∀ {m:Md},Fp Φ η H m F->oK Φ η H (match m with | .bo=>.pu | m=>m) F
 | .fr,f=>⟨f.1,fun a ha=>.inl (f.2 a ha)⟩
 | .pu,f=>fun a ha=>(f a ha).elim .inl fun z=>.inr (.inl z)
 | .bo,f=>f
theorem zf (he:PV G X e ce):PSV G X (.Return (some e) pos) (fH ce):=PS.weak (qM he) fun D σ H ⟨Φ,η,o,s,e,k⟩=>by
 unfold fH at e
 obtain ⟨⟨m,x⟩,ec,e1⟩:=Zz.mp e
 cases e1
 exact ⟨Φ,η,m,x,s,ec,fun v H' F e1 r1 f1=>k v H' F Φ σ (s.same e1) (Frm.same e1) r1 f1.ret⟩
theorem b9 {η:VS.Env} {i j:Nat} {c:Cell} (h:(η.set i none)[j]?=some (some c)):j ≠ i/\η[j]?=some (some c):=by
 rw [List.getElem?_set] at h
 split at h
 ·split at h <;> cases h
 ·rename_i n
  exact ⟨fun z=>n z.symm,h⟩
theorem SR.drop {Φ:Fps} {η:VS.Env} {σ:L2.St} {H:Hp} (s:SR G Φ η σ H) (i:Nat):SR G Φ (η.set i none) σ H :=
 ⟨by rw [Xq];exact s.len,fun j c h=>s.rp j c (b9 h).2,fun j t h=>s.nd j t (b9 h).2,fun j k t c h1 h2 n=>s.sep j k t c (b9 h1).2 (b9 h2).2 n⟩
theorem Frm.drop {Φ:Fps} {η:VS.Env} {H:Hp} (i:Nat):Frm Φ η H Φ (η.set i Option.none) H :=
 ⟨fun a o h n=>⟨h,fun ⟨j,t,h1,h2⟩=>n ⟨j,t,(b9 h1).2,h2⟩⟩,fun _ h=>h,fun a ⟨j,t,h1,h2⟩=>.inl ⟨j,t,(b9 h1).2,h2⟩,fun a ⟨j,t,h1,h2⟩=>.inl ⟨j,t,(b9 h1).2,h2⟩,Kept.refl H⟩
theorem xF (i:Nat) {x:Str} {p:Pos} (hN:X.N[i]?=some x:=by rfl) (hv:Vis X.env.scope x:=by first | exact Or.inl rfl | exact Or.inr (Or.inl rfl) | exact Or.inr (Or.inr rfl)) (hd:(x == ("__debug__" : Str))=false:=by decide)
  (hcd:(x == ("__classdict__" : Str))=false:=by decide):PSV G X (.Return (some (.Name x p)) pos) (gG i):=PS.weak (qM (eI hN hv hd hcd)) fun D σ H ⟨Φ,η,o,s,e,k⟩=>by
 unfold gG at e
 split at e
 ·rename_i t h
  obtain ⟨v,h1,h2⟩:=s.rp _ _ h
  cases e
  exact ⟨v,h1,k v H (Φ i) Φ σ (s.drop i) (Frm.drop i) h2 ⟨s.nd i t h,fun a ha=>.inr ⟨i,t,h,ha⟩⟩⟩
 ·rename_i t h
  obtain ⟨v,h1,h2⟩:=s.rp _ _ h
  cases e
  refine ⟨v,h1,k v H (Φ i) Φ σ s (Frm.refl _ _ _) h2 ?_⟩
  have f:Fp Φ η H .pu (Φ i):=fun a ha=>.inr ⟨i,t,h,ha⟩
  have f2:=(f.up h2).ret
  have:(match (VS.up .pu (ky (.pu t))).1 with | .bo=>Md.pu | m=>m)=(VS.up .pu t).1:=by
   show (match (VS.up .pu t).1 with | .bo=>Md.pu | m=>m)=_
   unfold VS.up
   split <;> (rename_i q;revert q;split <;> simp)
  rw [this] at f2
  exact f2
 ·cases e
noncomputable def i6 (Φ:Fps) (i:Nat) (F:Xf):Fps:=fun j=>if j=i then F else Φ j
theorem gv {Φ:Fps} {i:Nat} {F:Xf}:i6 Φ i F i=F:=Zs rfl
theorem gw {Φ:Fps} {i j:Nat} {F:Xf} (h:j ≠ i):i6 Φ i F j=Φ j:=Zp h
theorem hJ {η:VS.Env} {i j:Nat} {c c':Cell} (h:(η.set i (some c))[j]?=some (some c')):(j=i/\c'=c)\/(j ≠ i/\η[j]?=some (some c')):=by
 rw [List.getElem?_set] at h
 split at h
 ·rename_i e
  split at h
  ·exact .inl ⟨e.symm,(ZI (ZI h)).symm⟩
  ·cases h
 ·rename_i n
  exact .inr ⟨fun z=>n z.symm,h⟩
theorem SR.put {Φ:Fps} {η:VS.Env} {σ:L2.St} {H H':Hp} {i:Nat} {v:V} {c:Cell} {F:Xf} (s:SR G Φ η σ H) (hi:i < η.length) (r:Rp G H' v (ky c) F)
  (hk:∀ j c',j ≠ i->η[j]?=some (some c')->∀ w,Rp G H w (ky c') (Φ j)->Rp G H' w (ky c') (Φ j))
  (hnd:∀ t,c=.ow t->F.Nodup) (hown:∀ t,c=.ow t->∀ j c',j ≠ i->η[j]?=some (some c')->∀ a∈F,a ∉ Φ j) (hpu:∀ j t,j ≠ i->η[j]?=some (some (.ow t))->∀ a∈Φ j,a ∉ F) :
  SR G (i6 Φ i F) (η.set i (some c)) (σ.set i (some v)) H' where
 len:=by rw [Xq,Xq];exact s.len
 rp:=fun j c' h=>by
  rcases hJ h with ⟨rfl,rfl⟩ | ⟨n,h⟩
  ·exact ⟨v,by rw [YQ (by rw [← s.len];exact hi)],by rw [gv];exact r⟩
  ·obtain ⟨w,h1,h2⟩:=s.rp j c' h
   exact ⟨w,by rw [YU (YE n)];exact h1,by rw [gw n];exact hk j c' n h w h2⟩
 nd:=fun j t h=>by
  rcases hJ h with ⟨rfl,e⟩ | ⟨n,h⟩
  ·rw [gv];exact hnd t e.symm
  ·rw [gw n];exact s.nd j t h
 sep:=fun j k t c' h1 h2 n=>by
  rcases hJ h1 with ⟨rfl,e⟩ | ⟨n1,g1⟩
  ·rcases hJ h2 with ⟨rfl,e2⟩ | ⟨n2,g2⟩
   ·exact absurd rfl n
   ·rw [gv,gw n2]
    exact hown t e.symm k c' n2 g2
  ·rcases hJ h2 with ⟨rfl,e2⟩ | ⟨n2,g2⟩
   ·rw [gv,gw n1]
    exact hpu j t n1 g1
   ·rw [gw n1,gw n2]
    exact s.sep j k t c' g1 g2 n
theorem lW {Φ:Fps} {η:VS.Env} {i:Nat} {c:Cell} {F:Xf} {a:Addr} (h:b5 (i6 Φ i F) (η.set i (some c)) a):(∃ t,c=.ow t/\a∈F)\/b5 Φ η a:=by
 obtain ⟨j,t,h1,h2⟩:=h
 rcases hJ h1 with ⟨rfl,e⟩ | ⟨n,h1⟩
 ·rw [gv] at h2;exact .inl ⟨t,e.symm,h2⟩
 ·rw [gw n] at h2;exact .inr ⟨j,t,h1,h2⟩
theorem qG {Φ:Fps} {η:VS.Env} {i:Nat} {c:Cell} {F:Xf} {a:Addr} (h:dF (i6 Φ i F) (η.set i (some c)) a):(∃ t,c=.pu t/\a∈F)\/dF Φ η a:=by
 obtain ⟨j,t,h1,h2⟩:=h
 rcases hJ h1 with ⟨rfl,e⟩ | ⟨n,h1⟩
 ·rw [gv] at h2;exact .inl ⟨t,e.symm,h2⟩
 ·rw [gw n] at h2;exact .inr ⟨j,t,h1,h2⟩
theorem SR.ow_pu {Φ:Fps} {η:VS.Env} {σ:L2.St} {H:Hp} (s:SR G Φ η σ H) {a:Addr} (h:b5 Φ η a) (h':dF Φ η a):False:=by
 obtain ⟨j,t,h1,h2⟩:=h
 obtain ⟨k,u,g1,g2⟩:=h'
 have n:j ≠ k:=fun e=>by subst e;rw [h1] at g1;cases g1
 exact s.sep j k t _ h1 g1 n a h2 g2
theorem SR.val {Φ:Fps} {η:VS.Env} {σ:L2.St} {H H':Hp} {i:Nat} {v:V} {t:T} {m:Md} {F:Xf} {c:Cell} (s:SR G Φ η σ H) (hi:i < η.length) (e:aS H H') (r:Rp G H' v t F) (f:Fp Φ η H m F)
  (hc:(c=.pu t/\m ≠ .bo)\/(c=.ow t/\m=.fr)):SR G (i6 Φ i F) (η.set i (some c)) (σ.set i (some v)) H'/\Frm Φ η H (i6 Φ i F) (η.set i (some c)) H':=by
 have dom:∀ {a},H a=none->∀ j c',η[j]?=some (some c')->a ∉ Φ j:=fun {a} h j c' hj ha=>by
  obtain ⟨w,_,q⟩:=s.rp j c' hj
  exact Mut.ne_none (q.dom a ha) h
 have ct:ky c=t:=by rcases hc with ⟨rfl,_⟩ | ⟨rfl,_⟩ <;> rfl
 have fpu:∀ a∈F,H a=none\/dF Φ η a:=fun a ha=>by
  rcases hc with ⟨_,n⟩ | ⟨_,n⟩
  ·exact f.pu n a ha
  ·rw [n] at f;exact .inl (f.2 a ha)
 constructor
 ·refine s.put hi (by rw [ct];exact r) (fun j c' n hj w q=>q.same e) (fun u hu=>?_) (fun u hu j c' n hj a ha=>?_) fun j u n hj a ha hF=>?_
  ·rcases hc with ⟨h,_⟩ | ⟨_,h⟩
   ·rw [h] at hu;cases hu
   ·rw [h] at f;exact f.1
  ·rcases hc with ⟨h,_⟩ | ⟨_,h⟩
   ·rw [h] at hu;cases hu
   ·rw [h] at f;exact dom (f.2 a ha) j c' hj
  ·rcases fpu a hF with z | z
   ·exact dom z j _ hj ha
   ·exact s.ow_pu ⟨j,u,hj,ha⟩ z
 ·refine ⟨fun a o h n=>⟨e a o h,fun z=>?_⟩,fun a h z=>h (e.free z),fun a h=>?_,fun a h=>?_,Kept.of e⟩
  ·rcases lW z with ⟨u,hu,ha⟩ | z
   ·rcases hc with ⟨h',_⟩ | ⟨_,h'⟩
    ·rw [h'] at hu;cases hu
    ·rw [h'] at f
     rw [f.2 a ha] at h;cases h
   ·exact n z
  ·rcases lW h with ⟨u,hu,ha⟩ | z
   ·rcases hc with ⟨h',_⟩ | ⟨_,h'⟩
    ·rw [h'] at hu;cases hu
    ·rw [h'] at f
     exact .inr (f.2 a ha)
   ·exact .inl z
  ·rcases qG h with ⟨u,hu,ha⟩ | z
   ·exact (fpu a ha).elim (fun z=>.inr (.inr z)) .inl
   ·exact .inl z
theorem ye {i:Nat} {x:Str} {pos':Pos} (he:PV G X e ce) (hN:X.N.Nodup) (hi:X.N[i]?=some x:=by rfl) (hx:Loc X.env.scope x:=by first | exact Or.inl rfl | exact Or.inr rfl)
  (hs:swapsWith e (some (.Name x pos')) pos.line X.env=pure false:=by rfl) (hf:X.fn x=true\/X.env.scope.names.lookup x=some .local:=by first | exact .inl rfl | exact .inr rfl) :
  PSV G X (.Assign [.Name x pos'] e pos) (hU i ce):=PS.weak (vM hN hi hx he hs hf) fun D σ H ⟨Φ,η,o,s,e,k⟩=>by
 unfold hU at e
 obtain ⟨⟨m,t⟩,ec,e1⟩:=Zz.mp e
 obtain ⟨c,eC,e2⟩:=Zz.mp e1
 split at e2
 ·rename_i hl
  cases e2
  refine ⟨Φ,η,m,t,s,ec,fun v H' F e3 r3 f3=>?_⟩
  obtain ⟨q1,q2⟩:=s.val (c:=c) hl e3 r3 f3 (by
   unfold cellOf at eC
   cases m with
   | fr =>
    simp only [Option.some.injEq] at eC
    split at eC
    ·exact .inr ⟨eC.symm,rfl⟩
    ·exact .inl ⟨eC.symm,by decide⟩
   | pu=>cases eC;exact .inl ⟨rfl,by decide⟩
   | bo=>cases eC)
  exact k _ _ H' q1 q2
 ·cases e2
theorem wg {i:Nat} {x:Str} {pos':Pos} (he:PV G X e ce) (hN:X.N.Nodup) (hi:X.N[i]?=some x:=by rfl) (hx:Loc X.env.scope x:=by first | exact Or.inl rfl | exact Or.inr rfl)
  (hs:swapsWith e (some (.Name x pos')) pos.line X.env=pure false:=by rfl) (hf:X.fn x=true\/X.env.scope.names.lookup x=some .local:=by first | exact .inl rfl | exact .inr rfl) :
  PSV G X (.Assign [.Name x pos'] e pos) (aN i ce):=PS.weak (vM hN hi hx he hs hf) fun D σ H ⟨Φ,η,o,s,e,k⟩=>by
 unfold aN at e
 obtain ⟨⟨m,t⟩,ec,e1⟩:=Zz.mp e
 split at e1
 ·cases e1
 ·rename_i hm
  split at e1
  ·rename_i hl
   cases e1
   refine ⟨Φ,η,m,t,s,ec,fun v H' F e3 r3 f3=>?_⟩
   obtain ⟨q1,q2⟩:=s.val (c:=.pu t) hl e3 r3 f3 (.inl ⟨rfl,hm⟩)
   exact k _ _ H' q1 q2
  ·cases e1
theorem SR.frz {Φ:Fps} {η:VS.Env} {σ:L2.St} {H:Hp} {i:Nat} {t:T} (s:SR G Φ η σ H) (h:η[i]?=some (some (.ow t))):SR G Φ (η.set i (some (.pu t))) σ H/\Frm Φ η H Φ (η.set i (some (.pu t))) H:=by
 have back:∀ {j c},(η.set i (some (.pu t)))[j]?=some (some c)->∃ c',η[j]?=some (some c')/\ky c'=ky c/\∀ u,c=.ow u->c'=.ow u:=fun {j c} hj=>by
  rcases hJ hj with ⟨rfl,rfl⟩ | ⟨n,hj⟩
  ·exact ⟨.ow t,h,rfl,fun u hu=>nomatch hu⟩
  ·exact ⟨c,hj,rfl,fun u hu=>hu⟩
 refine ⟨⟨by rw [Xq];exact s.len,fun j c hj=>?_,fun j u hj=>?_,fun j k u c h1 h2 n=>?_⟩,⟨fun a o ha n=>⟨ha,fun ⟨j,u,h1,h2⟩=>?_⟩,fun _ h=>h,fun a ⟨j,u,h1,h2⟩=>?_,fun a ⟨j,u,h1,h2⟩=>?_,Kept.refl H⟩⟩
 ·obtain ⟨c',h1,h2,_⟩:=back hj
  obtain ⟨v,g1,g2⟩:=s.rp j c' h1
  exact ⟨v,g1,by rw [← h2];exact g2⟩
 ·obtain ⟨c',h1,_,h3⟩:=back hj
  rw [h3 u rfl] at h1
  exact s.nd j u h1
 ·obtain ⟨c1,g1,_,g3⟩:=back h1
  obtain ⟨c2,k1,_,_⟩:=back h2
  rw [g3 u rfl] at g1
  exact s.sep j k u c2 g1 k1 n
 ·obtain ⟨c1,g1,_,g3⟩:=back h1
  rw [g3 u rfl] at g1
  exact n ⟨j,u,g1,h2⟩
 ·obtain ⟨c1,g1,_,g3⟩:=back h1
  rw [g3 u rfl] at g1
  exact .inl ⟨j,u,g1,h2⟩
 ·rcases hJ h1 with ⟨rfl,_⟩ | ⟨n,h1⟩
  ·exact .inr (.inl ⟨j,t,h,h2⟩)
  ·exact .inl ⟨j,u,h1,h2⟩
theorem zA (i:Nat) (h:fE G X sts c):fE G X sts (au (wY i) c):=PSs.weak h fun D σ H ⟨Φ,η,o,s,e,k⟩=>by
 unfold au at e
 obtain ⟨o1,e1,e2⟩:=Zz.mp e
 unfold wY at e1
 split at e1
 ·rename_i t ht
  cases e1
  obtain ⟨q1,q2⟩:=s.frz ht
  exact ⟨Φ,_,o,q1,e2,k.back q2⟩
 ·cases e1
  exact ⟨Φ,η,o,s,e2,k⟩
 ·cases e1
end
section
variable {G:Gx} {X:Cx} {st:Stmt} {sts:List Stmt} {c c1 c2:Sx} {pos:Pos} {e:Expr} {es:List Expr} {ce:Ex} {cs:Exs}
structure Chg (G:Gx) (H:Hp) (v:V) (F:Xf) (t':T) (H2:Hp) (F':Xf):Prop where
 kept:Kept H H2
 keep:∀ b o,b ∉ F->H b=some o->H2 b=some o
 dom:∀ b,H b ≠ none->H2 b ≠ none
 rp:Rp G H2 v t' F'
 nd:F'.Nodup
 sub:∀ a∈F',a∈F\/H a=none
theorem SR.mut {Φ:Fps} {η:VS.Env} {σ:L2.St} {H H2:Hp} {i:Nat} {v:V} {t t':T} {F':Xf} (s:SR G Φ η σ H) (hi:η[i]?=some (some (.ow t))) (hv:σ[i]?=some (some v)) (g:Chg G H v (Φ i) t' H2 F') :
  SR G (i6 Φ i F') (η.set i (some (.ow t'))) σ H2/\Frm Φ η H (i6 Φ i F') (η.set i (some (.ow t'))) H2:=by
 have hl:i < η.length:=(ZZ.mp hi).1
 have off:∀ j c',j ≠ i->η[j]?=some (some c')->∀ a∈Φ j,a ∉ Φ i:=fun j c' n hj a ha ha'=>s.sep i j t c' hi hj (YE n) a ha' ha
 have es:σ.set i (some v)=σ:=by
  obtain ⟨h,e⟩:=ZZ.mp hv
  rw [← e]
  exact List.set_getElem_self h
 have new:∀ a∈F',∀ j c',j ≠ i->η[j]?=some (some c')->a ∉ Φ j:=fun a ha j c' n hj ha'=>by
  rcases g.sub a ha with z | z
  ·exact off j c' n hj a ha' z
  ·obtain ⟨w,_,q⟩:=s.rp j c' hj
   exact Mut.ne_none (q.dom a ha') z
 constructor
 ·have:=s.put (c:=.ow t') (F:=F') (H':=H2) (v:=v) hl g.rp (fun j c' n hj w q=>q.keep g.kept fun a ha o ho=>g.keep a o (off j c' n hj a ha) ho) (fun _ _=>g.nd) (fun u hu j c' n hj a ha=>new a ha j c' n hj) fun j u n hj a ha ha'=>new a ha' j _ n hj ha
  rw [es] at this
  exact this
 ·refine ⟨fun a o h n=>⟨g.keep a o (fun z=>n ⟨i,t,hi,z⟩) h,fun z=>?_⟩,g.dom,fun a h=>?_,fun a h=>?_,g.kept⟩
  ·rcases lW z with ⟨u,_,ha⟩ | z
   ·rcases g.sub a ha with z | z
    ·exact n ⟨i,t,hi,z⟩
    ·rw [z] at h;cases h
   ·exact n z
  ·rcases lW h with ⟨u,_,ha⟩ | z
   ·rcases g.sub a ha with z | z
    ·exact .inl ⟨i,t,hi,z⟩
    ·exact .inr z
   ·exact .inl z
  ·rcases qG h with ⟨u,hu,ha⟩ | z
   ·cases hu
   ·exact .inl z
noncomputable def AN (G:Gx) (r:V->List V->Hp->VK->Prop) (f:T->Vn->Option (T×Val)):Prop:=∀ (Φ:Fps) (η:VS.Env) (H H1:Hp) (v:V) (t t':T) (F:Xf) (l:Vn) (vs:List V) (Fs:Yf) (x:Val) (Q:VK),
 Rp G H v t F->F.Nodup->Args G Φ η H H1 l vs Fs->f t l=some (t',x)->(∀ u H2 F',Chg G H v F t' H2 F'->Q u H2)->r v vs H1 Q
theorem wa {T' id:String} {name x:Str} {r:V->List V->Hp->VK->Prop} {f:T->Vn->Option (T×Val)} {apos cpos p1:Pos} (i:Nat) (pa:PlainAttrs T') (slot:Slot T' name id) (hty:typeOf (.builtin id)=pure (.type "method_descriptor")) (hm:MtR X id r) (ok:AN G r f)
  (hT:∀ H v t F l z,Rp G H v t F->f t l=some z->tyV G.K T' v H) (ha:PVs G X (e :: es) cs) (hK:X.K=G.K:=by rfl)
  (hN:X.N[i]?=some x:=by rfl) (hv:Vis X.env.scope x:=by first | exact Or.inl rfl | exact Or.inr (Or.inl rfl) | exact Or.inr (Or.inr rfl)) (hd:(x == ("__debug__" : Str))=false:=by decide)
  (hcd:(x == ("__classdict__" : Str))=false:=by decide)
  (hbase:attributeBase (.Name x p1) name X.env (eval (.Name x p1) X.env)=eval (.Name x p1) X.env:=by rfl)
  (hfew:((backTo cpos (starEach (e :: es) X.env)).all (fun x=>!x.1) && (backToKw cpos (keywordEach [] X.env)).all (fun x=>x.1.isSome)
   && decide ((e :: es).length+([]:List Keyword).length+(if ([]:List Keyword).isEmpty then 0 else 1) < 30))=true:=by rfl)
  (hline:(apos.endLine == cpos.line)=true:=by rfl) (hs:starEach (e :: es) X.env=(false,eval e X.env) :: starEach es X.env:=by rfl) (hplain:(backTo cpos (starEach es X.env)).any (·.1)=false:=by rfl)
  (hsw:swapsWith (.Call (.Attribute (.Name x p1) name apos) (e :: es) [] cpos) none pos.line X.env=pure false:=by rfl) :
  PSV G X (.Expr (.Call (.Attribute (.Name x p1) name apos) (e :: es) [] cpos) pos) (sX (j5 i [] f cs)) :=
 PS.weak (iU (nr pa slot hty hm (eI hN hv hd hcd) ha hbase hfew hline hs hplain) hsw) fun D σ H ⟨Φ,η,o,s,e,k⟩=>by
  unfold sX j5 at e
  obtain ⟨⟨x',η'⟩,e1,e2⟩:=Zm.mp e
  split at e1
  ·rename_i t ht
   obtain ⟨ks,ek,e3⟩:=Zz.mp e1
   cases (show some ([]:List Ky)=some ks from ek)
   obtain ⟨l,el,e4⟩:=Zz.mp e3
   obtain ⟨⟨t',x2⟩,e5,e6⟩:=Zm.mp e4
   cases e6
   cases e2
   obtain ⟨v,h1,h2⟩:=s.rp _ _ ht
   have e7:f t l=some (t',x'):=e5
   refine ⟨v,h1,by rw [hK];exact hT H v t _ l _ h2 e7,Φ,η,l,s,el,fun vs H' Fs q1 q2 q3=>?_⟩
   refine ok Φ η H H' v t t' (Φ i) l vs Fs x' _ h2 (s.nd i t ht) ⟨q1,q2,q3⟩ e7 fun u H2 F' g=>?_
   obtain ⟨w1,w2⟩:=s.mut ht h1 g
   exact k _ σ H2 w1 w2
  ·cases e1
theorem Chg.upd {H H1:Hp} {v:V} {F:Xf} {a:Addr} {o:HO} {t':T} {F':Xf} (e:aS H H1) (ha:a∈F) (hm:Mut (H1 a)) (r:Rp G (upd H1 a o) v t' F') (nd:F'.Nodup) (sub:∀ a∈F',a∈F\/H a=none):Chg G H v F t' (upd H1 a o) F' :=
 ⟨(Kept.of e).trans (Kept.upd (.inl hm)),fun b o' hb h=>by rw [aA (fun z=>hb (by rw [z];exact ha))];exact e b o' h,
  fun b h z=>by
   by_cases q:b=a
   ·subst q;rw [aI] at z;cases z
   ·rw [aA q] at z;exact h (e.free z),r,nd,sub⟩
theorem RpL.off {H:Hp} {vs:List V} {ts:Vl} {Fs:Yf} {a:Addr} {o:HO} (r:RpL G H vs ts Fs) (hm:Mut (H a)) (h:a ∉ Fs.flatten):RpL G (upd H a o) vs ts Fs :=
 r.keep (Kept.upd (.inl hm)) fun b hb o' ho=>by rw [aA (fun z=>h (by rw [← z];exact hb))];exact ho
theorem Aa {v:Val} {t:T} (h:fit v=some t):v=(.fr,t):=by
 obtain ⟨m,x⟩:=v
 unfold fit at h
 cases m <;> first | (cases h;rfl) | cases h
theorem gH:AN G kI aV:=by
 intro Φ η H H1 v t t' F l vs Fs x Q r nd A e k
 unfold aV at e
 split at e
 ·rename_i ts y
  obtain ⟨z,ez,e1⟩:=Zz.mp e
  have ey:=Aa ez
  subst ey
  split at e1
  ·rename_i hl
   cases e1
   obtain ⟨a,us,Gs,rfl,rfl,ha,ra⟩:=r.lst_inv
   obtain ⟨w,Fw,rfl,rfl,rw'⟩:=(show RpL G H1 vs [z] Fs from A.rp).one
   have fw:Fp Φ η H .fr Fw:=A.fp.each 0 _ _ rfl rfl
   have ha1:H1 a=some (.lst us):=A.same a _ ha
   have m1:Mut (H1 a):=by rw [ha1];exact True.intro
   have na:a ∉ Gs.flatten:=(ZY.mp nd).1
   have nw:a ∉ Fw:=fun z=>by rw [fw.2 a z] at ha;cases ha
   refine ⟨a,us,w,rfl,rfl,ha1,by rw [ra.len.1];exact hl,k _ _ (a :: (Gs++[Fw]).flatten) ?_⟩
   have off:∀ b∈Gs.flatten,b ∉ Fw:=fun b hb hw=>Mut.ne_none (ra.dom b hb) (fw.2 b hw)
   refine Chg.upd A.same Zw m1 (.lst aI (((ra.same A.same).off m1 na).append (.cons (rw'.keep (Kept.upd (.inl m1)) fun b hb o ho=>by rw [aA (fun z=>nw (by rw [← z];exact hb))];exact ho) .nil))) ?_ ?_
   ·rw [Z5]
    refine ZY.mpr ⟨fun m=>?_,ZJ.mpr ⟨(ZY.mp nd).2,by simpa using fw.1,fun b hb c hc z=>?_⟩⟩
    ·rcases Zd.mp m with m | m
     ·exact na m
     ·exact nw (by simpa using m)
    ·subst z;exact off b hb (by simpa using hc)
   ·intro b hb
    rcases Zo.mp hb with rfl | hb
    ·exact .inl Zw
    ·rw [Z5] at hb
     rcases Zd.mp hb with hb | hb
     ·exact .inl (Zx _ hb)
     ·exact .inr (fw.2 b (by simpa using hb))
  ·cases e1
 ·cases e
theorem va {H:Hp} {v:V} {ts:Vl} {F:Xf} (r:Rp G H v (.lst ts) F):tyV G.K "list" v H:=by
 obtain ⟨a,us,Gs,rfl,rfl,ha,ra⟩:=r.lst_inv
 exact .inl ⟨rfl,_,SqL.of ha⟩
theorem ff {H:Hp} {v:V} {t:T} {F:Xf} {l:Vn} {z:T×Val} (r:Rp G H v t F) (h:aV t l=some z):tyV G.K "list" v H:=by
 unfold aV at h
 split at h
 ·exact va r
 ·cases h
end
structure ItOk (G:Gx) (J:It) (l:Vl) (C:Xf) (H:Hp):Prop where
 run:∀ H2,Kept H H2->(∀ a∈C,∀ o,H a=some o->H2 a=some o) →
  (∀ (i:Nat) (t:T),l[i]?=some t->J.go i H2/\∀ x H3,J.yld i H2 x H3->aS H2 H3/\∃ F,Rp G H3 x t F/\∀ a∈F,a∈C\/H2 a=none)/\∀ (i:Nat),l.length<=i->J.stop i H2
 dom:∀ a∈C,H a ≠ none
noncomputable def FpC (Φ:Fps) (η:VS.Env) (H:Hp) (m:Md) (C:Xf):Prop:=∀ a∈C,H a=none\/dF Φ η a\/(m=.bo/\b5 Φ η a)
theorem Fp.c {Φ:Fps} {η:VS.Env} {H:Hp} {F:Xf}:∀ {m:Md},Fp Φ η H m F->FpC Φ η H m F
 | .fr,f=>fun a ha=>.inl (f.2 a ha)
 | .pu,f=>fun a ha=>(f a ha).imp id .inl
 | .bo,f=>fun a ha=>(f a ha).imp id fun z=>z.imp id fun z=>⟨rfl,z⟩
noncomputable def tI (G:Gx) (c:Its):TI:=fun σ H R=>∃ Φ η m l,SR G Φ η σ H/\c η=some (m,l)/\∀ J H' C,aS H H'->ItOk G J l C H'->FpC Φ η H m C->R J H'
noncomputable def PVI (G:Gx) (X:Cx) (tg iter:Expr) (c:Its):Prop:=PI X tg iter (tI G c)
theorem PI.weak {X:Cx} {tg e:Expr} {t t':TI} (h:PI X tg e t) (w:∀ σ H Q,t' σ H Q->t σ H Q):PI X tg e t':=fun pins s σ H Q I q=>h pins s σ H Q I (w σ H Q q)
section
variable {G:Gx} {X:Cx} {tg e a b:Expr} {es:List Expr} {ca cb:Ex} {cs:Exs} {pos p:Pos}
theorem vw (H:Hp) (lo:Int) (n:Nat):ItOk G (Itr lo n) (rng lo n) [] H:=by
 refine ⟨fun H2 _ _=>⟨fun i t h=>?_,fun i h=>(by simpa [rng] using h:n<=i)⟩,fun a h=>by simp at h⟩
 unfold rng at h
 rw [Z1] at h
 obtain ⟨k,hk,e⟩:=Zm.mp h
 obtain ⟨hlt,e2⟩:=ZZ.mp hk
 rw [Z0] at hlt
 have ek:i=k:=by simpa using e2
 subst ek
 refine ⟨hlt,fun x H3 ⟨e3,e4⟩=>?_⟩
 subst e3
 subst e4
 rw [← e]
 exact ⟨aS.refl _,[],.int _,fun a h=>by simp at h⟩
theorem rj (ha:PV G X a ca) (hg:Gl X "range") (hm:X.mg "range" = none) (hs:starEach [a] X.env=(false,eval a X.env) :: starEach [] X.env:=by rfl) (hs':starEach [a] X.env=[(false,eval a X.env)]:=by rfl):PVI G X tg (.Call (.Name "range" p) [a] [] pos) (cw ca) :=
 PI.weak (t9 hg hm (fI ha gZ hs) hs') fun σ H R ⟨Φ,η,m,l,s,e,k⟩=>by
  unfold cw at e
  obtain ⟨⟨mx,x⟩,ea,e1⟩:=Zz.mp e
  obtain ⟨j,ej,e2⟩:=Zz.mp e1
  split at e2
  ·rename_i hj
   cases e2
   refine ⟨Φ,η,mx,x,s,ea,fun v H' F e3 r3 f3=>?_⟩
   cases x with
   | int j' =>
    cases ej
    refine ⟨j,by rw [r3.int_inv],?_,?_,k _ H' [] e3 (vw H' 0 j.toNat) fun a h=>by simp at h⟩
    ·have:=hj.1;unfold B62 at this;lia
    ·have:=hj.2;unfold B62 at this;lia
   | _=>cases ej
  ·cases e2
noncomputable def FG (K:Xs) (tl:TE):TI:=fun σ H R=>tl σ H fun x H1=>(∃ a,x=.ref a/\(∃ xs,SqL K H1 a xs)/\R (Itl K a) H1)\/(∃ a,x=.ref a/\(∃ xs,SqT K H1 a xs)/\R (Itt K a) H1)
theorem Cq {l:Expr} {tl:TE} (hl:PE X l tl):PI X tg l (FG X.K tl):=by
 intro pins s σ H R I h
 refine thn (hl pins s σ H _ I h) fun v s1 ⟨x,H1,I1,r1,q1⟩=>?_
 rcases q1 with ⟨a,e,⟨xs,hq⟩,q⟩ | ⟨a,e,⟨xs,hq⟩,q⟩
 ·subst e
  cases r1
  obtain ⟨its,rv,p,hz⟩:=I1.list hq
  refine wpAny_pyIter_list p.isList ?_
  refine ⟨s1.heap.objs.size,[s1.heap.objs.size],_,_,H1,rfl,I1.kept (t':=s1.toks) fun b o e=>Ze _ e,mK a _,⟨_,ZV _ rfl,rfl,rfl⟩,fun b hb=>?_,q⟩
  have e:b=s1.heap.objs.size:=by simpa using hb
  subst e
  exact I1.fpOk (Zr _) (I1.hok.fresh (Zr _))
 ·subst e
  cases r1
  obtain ⟨its,rv,p,hz⟩:=I1.tuple hq
  refine wpAny_pyIter_tuple (show s1.heap.IsTuple a its.toArray from p) ?_
  refine ⟨s1.heap.objs.size,[s1.heap.objs.size],_,_,H1,rfl,I1.kept (t':=s1.toks) fun b o e=>Ze _ e,lS a _,⟨_,ZV _ rfl,rfl,rfl⟩,fun b hb=>?_,q⟩
  have e:b=s1.heap.objs.size:=by simpa using hb
  subst e
  exact I1.fpOk (Zr _) (I1.hok.fresh (Zr _))
theorem fP {Fs:Yf} {i:Nat} {F:Xf} (h:Fs[i]?=some F) {a:Addr} (ha:a∈F):a∈Fs.flatten:=(eY h).subset ha
theorem yT {H:Hp} {a:Addr} {vs:List V} {ts:Vl} {Fs:Yf} (K:Xs) (ha:H a=some (.lst vs)) (r:RpL G H vs ts Fs):ItOk G (Itl K a) ts (a :: Fs.flatten) H:=by
 refine ⟨fun H2 k c=>?_,fun b hb=>?_⟩
 ·have ha2:H2 a=some (.lst vs):=c a Zw _ ha
  have r2:RpL G H2 vs ts Fs:=r.keep k fun b hb o ho=>c b (Zx _ hb) o ho
  refine ⟨fun i t h=>?_,fun i h=>⟨vs,SqL.of ha2,by rw [r.len.1];exact h⟩⟩
  obtain ⟨v,F,h1,h2,h3⟩:=r2.get i h
  refine ⟨⟨vs,v,SqL.of ha2,h1⟩,fun x H3 ⟨e1,e2⟩=>?_⟩
  subst e1
  have ex:=e2 vs (SqL.of ha2)
  rw [h1] at ex
  cases ex
  exact ⟨aS.refl _,F,h3,fun b hb=>.inl (Zx _ (fP h2 hb))⟩
 ·rcases Zo.mp hb with rfl | hb
  ·rw [ha];exact fun z=>nomatch z
  ·exact Mut.ne_none (r.dom b hb)
theorem B7 {H:Hp} {a:Addr} {vs:List V} {ts:Vl} {Fs:Yf} (K:Xs) (ha:H a=some (.tup vs)) (r:RpL G H vs ts Fs):ItOk G (Itt K a) ts Fs.flatten H:=by
 refine ⟨fun H2 k c=>?_,fun b hb=>Mut.ne_none (r.dom b hb)⟩
 have ha2:H2 a=some (.tup vs):=k.tup a _ ha
 have r2:RpL G H2 vs ts Fs:=r.keep k fun b hb o ho=>c b hb o ho
 refine ⟨fun i t h=>?_,fun i h=>⟨vs,SqT.of ha2,by rw [r.len.1];exact h⟩⟩
 obtain ⟨v,F,h1,h2,h3⟩:=r2.get i h
 refine ⟨⟨vs,v,SqT.of ha2,h1⟩,fun x H3 ⟨e1,e2⟩=>?_⟩
 subst e1
 have ex:=e2 vs (SqT.of ha2)
 rw [h1] at ex
 cases ex
 exact ⟨aS.refl _,F,h3,fun b hb=>.inl (fP h2 hb)⟩
noncomputable def tG (G:Gx) (g:Tg):TG:=fun v σ H Q=>∃ Φ η t F η',SR G Φ η σ H/\Rp G H v t F/\(∀ a∈F,¬ b5 Φ η a)/\g t η=some η' ∧
 ∀ Φ' σ',SR G Φ' η' σ' H->(∀ a,b5 Φ' η' a->b5 Φ η a)->(∀ a,dF Φ' η' a->dF Φ η a\/a∈F)->Q σ' H
noncomputable def tGs (G:Gx) (gs:List Tg):TGs:=fun vs σ H Q=>∃ Φ η ts Fs η',SR G Φ η σ H/\RpL G H vs ts Fs/\(∀ a∈Fs.flatten,¬ b5 Φ η a)/\q0 gs ts η=some η' ∧
 ∀ Φ' σ',SR G Φ' η' σ' H->(∀ a,b5 Φ' η' a->b5 Φ η a)->(∀ a,dF Φ' η' a->dF Φ η a\/a∈Fs.flatten)->Q σ' H
noncomputable def PVG (G:Gx) (X:Cx) (e:Expr) (g:Tg):Prop:=PG X e (tG G g)
noncomputable def pD (G:Gx) (X:Cx) (e:List Expr) (g:List Tg):Prop:=PGs X e (tGs G g)
theorem PG.weak {X:Cx} {e:Expr} {t t':TG} (h:PG X e t) (w:∀ v σ H Q,t' v σ H Q->t v σ H Q):PG X e t':=fun pins s σ H v u Q I r q=>h pins s σ H v u Q I r (w v σ H Q q)
theorem PGs.weak {X:Cx} {e:List Expr} {t t':TGs} (h:PGs X e t) (w:∀ v σ H Q,t' v σ H Q->t v σ H Q):PGs X e t':=fun pins s σ H v u Q I r q=>h pins s σ H v u Q I r (w v σ H Q q)
theorem xD (i:Nat) {x:Str} (hN:X.N.Nodup) (hi:X.N[i]?=some x:=by rfl) (hx:Loc X.env.scope x:=by first | exact Or.inl rfl | exact Or.inr rfl)
  (hf:X.fn x=true\/X.env.scope.names.lookup x=some .local:=by first | exact .inl rfl | exact .inr rfl):PVG G X (.Name x pos) (bg i):=PG.weak (oF hN hi hx hf) fun v σ H Q ⟨Φ,η,t,F,η',s,r,no,e,k⟩=>by
 unfold bg at e
 split at e
 ·rename_i hl
  cases e
  refine k (i6 Φ i F) (σ.set i (some v)) (s.put (c:=.pu t) hl r (fun j c' n hj w q=>q) (fun u hu=>nomatch hu) (fun u hu=>nomatch hu) fun j u n hj a ha ha'=>no a ha' ⟨j,u,hj,ha⟩) (fun a h=>?_) fun a h=>?_
  ·rcases lW h with ⟨u,hu,_⟩ | z
   ·cases hu
   ·exact z
  ·rcases qG h with ⟨u,hu,ha⟩ | z
   ·exact .inr ha
   ·exact .inl z
 ·cases e
theorem u9:pD G X [] []:=PGs.weak yW fun v σ H Q ⟨Φ,η,ts,Fs,η',s,r,no,e,k⟩=>by
 cases r with
 | nil =>
  cases (show some η=some η' from e)
  exact ⟨rfl,k Φ σ s (fun _ h=>h) fun _ h=>.inl h⟩
 | cons r q=>cases (show (none:Option VS.Env)=some η' from e)
theorem t5 {g:Tg} {gs:List Tg} (h1:PVG G X e g) (h2:pD G X es gs) (hs:(assignEach (e :: es) X.env).map (·.2)=assign e X.env :: (assignEach es X.env).map (·.2):=by rfl):pD G X (e :: es) (g :: gs) :=
 PGs.weak (xX h1 h2 hs) fun v σ H Q ⟨Φ,η,ts,Fs,η',s,r,no,e,k⟩=>by
  cases r with
  | nil=>cases (show (none:Option VS.Env)=some η' from e)
  | cons r q =>
   rename_i v' t' F' vs' ts' Fs'
   obtain ⟨η1,e1,e2⟩:=Zz.mp e
   refine ⟨_,_,rfl,Φ,η,_,_,η1,s,r,fun a ha=>no a (by rw [Zf];exact Y6 _ ha),e1,fun Φ1 σ1 s1 o1 p1=>?_⟩
   refine ⟨Φ1,η1,_,_,η',s1,q,fun a ha z=>no a (by rw [Zf];exact Z2 _ ha) (o1 a z),e2,fun Φ2 σ2 s2 o2 p2=>k Φ2 σ2 s2 (fun a h=>o1 a (o2 a h)) fun a h=>?_⟩
   rcases p2 a h with h | h
   ·rcases p1 a h with h | h
    ·exact .inl h
    ·exact .inr (by rw [Zf];exact Y6 _ h)
   ·exact .inr (by rw [Zf];exact Z2 _ h)
theorem pJ:∀ {gs:List Tg} {ts:Vl} {η η':VS.Env},q0 gs ts η=some η'->ts.length=gs.length
 | [],[],_,_,_=>rfl
 | [],_ :: _,_,_,h=>by simp [q0] at h
 | _ :: _,[],_,_,h=>by simp [q0] at h
 | g :: gs,t :: ts,η,η',h=>by
  obtain ⟨η1,_,e2⟩:=Zz.mp (show (g t η).bind (fun η'=>q0 gs ts η')=some η' from h)
  simp [pJ e2]
theorem yP {gs:List Tg} {k:Nat} (hc:X.calm=true) (h:pD G X es gs) (hn:(assignEach es X.env).length=gs.length:=by rfl) (hst:(assignEach es X.env).findIdx? (·.1)=none:=by rfl) (hK:X.K=G.K:=by rfl):PVG G X (.Tuple es k pos) (jM gs) :=
 PG.weak (Bh (n:=gs.length) hc h hn hst) fun v σ H Q ⟨Φ,η,t,F,η',s,r,no,e,q⟩=>by
  unfold jM at e
  split at e
  ·rename_i l
   obtain ⟨a',vs,Fs,rfl,rfl,ha',ra⟩:=r.tup_inv
   exact ⟨a',vs,rfl,SqT.of ha',by rw [ra.len.1];exact pJ e,Φ,η,l,Fs,η',s,ra,no,e,q⟩
  ·cases e
theorem mZ {tgt:Tg} {body:Sx} {l:Vl} {η:VS.Env} {i:Nat} {t:T} (h:l[i]?=some t):l.drop i=t :: l.drop (i+1):=by
 obtain ⟨hi,e⟩:=ZZ.mp h
 rw [← e]
 exact Y4 hi
theorem yJ {iter:Expr} {body:List Stmt} {ci:Its} {g:Tg} {cb:Sx} (hp:PassesOwn (model X.prog X.w) X.A X.env X.xe) (hc:X.calm=true) (hi:PVI G X tg iter ci) (hg:PVG G X tg g) (hb:fE G X body cb)
  (hs:∀ x,foldedSetIterable iter X.env x=pure x:=by intro _;rfl):PSV G X (.For tg iter body [] pos) (dG g ci cb):=PS.weak (wI hp hc hi hg hb hs) fun D σ H ⟨Φ,η,o,s,e,k⟩=>by
 unfold dG at e
 obtain ⟨⟨m,l⟩,el,e1⟩:=Zz.mp e
 dsimp only at e1
 split at e1
 ·rename_i hm
  have hm':m ≠ .bo:=fun z=>by rw [z] at hm;cases hm
  refine ⟨Φ,η,m,l,s,el,fun J H' C e2 ok fc=>?_⟩
  have cno:∀ a∈C,¬ b5 Φ η a:=fun a ha z=>by
   rcases fc a ha with q | q | q
   ·exact Mut.ne_none (s.ow_dom z) q
   ·exact s.ow_pu z q
   ·exact hm' q.1
  refine ⟨fun i n σ2 H2=>n=l.length - i/\∃ Φ2 η2,SR G Φ2 η2 σ2 H2/\Frm Φ η H Φ2 η2 H2/\Kept H' H2/\(∀ a∈C,∀ o,H' a=some o->H2 a=some o/\¬ b5 Φ2 η2 a)/\forL g cb (l.drop i) η2=some o,
   ⟨l.length - 0,rfl,Φ,η,s.same e2,Frm.same e2,Kept.refl _,fun a ha o' ho=>⟨ho,cno a ha⟩,by rw [Xj];exact e1⟩,?_⟩
  rintro i n σ2 H2 ⟨rfl,Φ2,η2,s2,f2,kp,con,e3⟩
  obtain ⟨go,stop⟩:=ok.run H2 kp fun a ha o' ho=>(con a ha o' ho).1
  cases hit:l[i]? with
  | none =>
   have hl:l.length<=i:=YJ.mp hit
   left
   rw [YC hl] at e3
   cases (show some (Out.nx η2)=some o from e3)
   exact ⟨stop i hl,k Φ2 σ2 H2 s2 f2⟩
  | some t =>
   have hl:i < l.length:=(ZZ.mp hit).1
   right
   obtain ⟨g1,y1⟩:=go i t hit
   rw [mZ (tgt:=g) (body:=cb) (η:=η2) hit] at e3
   obtain ⟨η3,e4,e5⟩:=Zz.mp (show (g t η2).bind (fun η1=>(cb η1).bind fun o=>match o with
    | .nx η2=>forL g cb (l.drop (i+1)) η2
    | .ct η2=>forL g cb (l.drop (i+1)) η2
    | .bk η2=>some (.nx η2)
    | .rt v η2=>some (.rt v η2))=some o from e3)
   obtain ⟨o',e6,e7⟩:=Zz.mp e5
   refine ⟨g1,fun σ4 H4=>∃ Φ4 η4,SR G Φ4 η4 σ4 H4/\Frm Φ η H Φ4 η4 H4/\Kept H' H4/\(∀ a∈C,∀ o,H' a=some o->H4 a=some o/\¬ b5 Φ4 η4 a)/\forL g cb (l.drop (i+1)) η4=some o,fun σ4 H4 ⟨Φ4,η4,q⟩=>⟨l.length - (i+1),by omega,rfl,Φ4,η4,q⟩,fun x H3 yl=>?_⟩
   obtain ⟨e8,F,rF,hF⟩:=y1 x H3 yl
   have s3:=s2.same e8
   have noF:∀ a∈F,¬ b5 Φ2 η2 a:=fun a ha z=>by
    rcases hF a ha with q | q
    ·have hne:=ok.dom a q
     cases ho:H' a with
     | none=>exact hne ho
     | some o''=>exact (con a q o'' ho).2 z
    ·exact Mut.ne_none (s2.ow_dom z) q
   refine ⟨Φ2,η2,t,F,η3,s3,rF,noF,e4,fun Φ3 σ3 s4 o3 p3=>?_⟩
   have f3:Frm Φ η H Φ3 η3 H3:=⟨fun a o' h n=>let ⟨h1,n1⟩:=f2.keep a o' h n;⟨e8 a o' h1,fun z=>n1 (o3 a z)⟩,fun a h z=>f2.dom a h (e8.free z),fun a h=>f2.ow a (o3 a h),fun a h=>by
    rcases p3 a h with h | h
    ·exact f2.pu a h
    ·rcases hF a h with q | q
     ·rcases fc a q with q | q | q
      ·exact .inr (.inr q)
      ·exact .inl q
      ·exact .inr (.inl q.2)
     ·exact .inr (.inr (f2.none q)),f2.kept.trans (Kept.of e8)⟩
   have next:∀ {Φ4 η4 H4},Frm Φ3 η3 H3 Φ4 η4 H4->Kept H' H4/\∀ a∈C,∀ o,H' a=some o->H4 a=some o/\¬ b5 Φ4 η4 a:=fun fb =>
    ⟨(kp.trans (Kept.of e8)).trans fb.kept,fun a ha o' ho=>by
     obtain ⟨h1,n1⟩:=con a ha o' ho
     exact fb.keep a o' (e8 a o' h1) fun z=>n1 (o3 a z)⟩
   refine ⟨Φ3,η3,o',s4,e6,?_⟩
   cases o' with
   | nx η4=>exact fun Φ4 σ4 H4 s5 fb=>⟨Φ4,η4,s5,f3.trans fb,(next fb).1,(next fb).2,e7⟩
   | ct η4=>exact fun Φ4 σ4 H4 s5 fb=>⟨Φ4,η4,s5,f3.trans fb,(next fb).1,(next fb).2,e7⟩
   | bk η4 =>
    cases (show some (Out.nx η4)=some o from e7)
    exact fun Φ4 σ4 H4 s5 fb=>k Φ4 σ4 H4 s5 (f3.trans fb)
   | rt v η4 =>
    cases (show some (Out.rt v η4)=some o from e7)
    exact fun u H4 F4 Φ4 σ4 s5 fb r5 q5=>k u H4 F4 Φ4 σ4 s5 (f3.trans fb) r5 (q5.back f3)
 ·cases e1
end
noncomputable def EX (H:Hp) (Fs:Yf):Md->Xf->Prop
 | .fr,F=>F.Nodup/\∀ a∈F,H a=none
 | _,F=>∀ a∈F,H a=none\/a∈Fs.flatten
noncomputable def spF (G:Gx) (g:Fn):Sp:=fun vs H Q _=>∃ ts Fs m r,RpL G H vs ts Fs/\g ts=some (m,r)/\∀ v H' F,aS H H'->Rp G H' v r F->EX H Fs m F->Q v H'
section
variable {G:Gx} {X:Cx} {k:Nat} {f:Addr} {fd:FuncData} {ps:List Str} {x:Str} {p pos:Pos} {e:Expr} {es:List Expr} {cs:Exs} {g:Fn}
theorem call_of {σ:L2.St} {H:Hp} {Q:VK} {E:XK} (h:tE G (aL g cs) σ H Q):AJ (spF G g) [] E (tEs G cs) σ H Q:=by
 obtain ⟨Φ,η,m,t,s,e,kk⟩:=h
 unfold aL at e
 obtain ⟨l,el,e1⟩:=Zz.mp e
 obtain ⟨⟨n,r⟩,er,e2⟩:=Zz.mp e1
 refine ⟨Φ,η,l,s,el,fun vs H1 Fs q1 q2 q3=>?_⟩
 have A:Args G Φ η H H1 l vs Fs:=⟨q1,q2,q3⟩
 have jn:=q3.join A.len
 show spF G g (vs++[]) H1 Q E
 rw [ZG]
 refine ⟨trees l,Fs,n,r,q2,er,fun v H' F q4 q5 q6=>?_⟩
 have wide:(∀ a∈F,H1 a=none\/a∈Fs.flatten)->Fp Φ η H ((Md.pu).join (bF l)) F:=fun h=>by
  cases ej:bF l with
  | fr =>
   rw [ej] at jn
   exact fun a ha=>.inl ((h a ha).elim q1.free (jn.2 a))
  | pu =>
   rw [ej] at jn
   exact fun a ha=>(h a ha).elim (fun z=>.inl (q1.free z)) (jn a)
  | bo =>
   rw [ej] at jn
   exact fun a ha=>(h a ha).elim (fun z=>.inl (q1.free z)) (jn a)
 cases n with
 | fr =>
  cases e2
  exact kk v H' F (q1.trans q4) q5 ⟨q6.1,fun a ha=>q1.free (q6.2 a ha)⟩
 | pu =>
  cases e2
  exact kk v H' F (q1.trans q4) q5 (wide q6)
 | bo =>
  cases e2
  exact kk v H' F (q1.trans q4) q5 (wide q6)
theorem yE (F:FnOk X.prog X.w X.K X.mg X.base CX0 k f fd ps (spF G g)) (hr:Room k X.A) (hg:Gl X x) (hm:X.mg x=some (.ref f)) (hk:PySem.W.keepIn X.K (.ref f)=true) (hb:Binds X.K fd ps [])
  (ha:PVs G X (e :: es) cs) (hdb:(x == ("__debug__" : Str))=false:=by decide) (he:starEach (e :: es) X.env=(false,eval e X.env) :: starEach es X.env:=by rfl) (hpl:(backTo pos (starEach es X.env)).any (·.1)=false:=by rfl) :
  PV G X (.Call (.Name x p) (e :: es) [] pos) (aL g cs) :=
 PE.weak (Au F hr hg hm hk hb .nil Em ha hdb he hpl) fun σ H Q h=>call_of h
theorem vy {H:Hp} {vs:List V} {ts:Vl} {Fs:Yf} (r:RpL G H vs ts Fs) (n nv:Nat) (hv:nv=vs.length):SR G (fun i=>Fs.getD i []) (ts.map (fun t=>some (.pu t))++List.replicate (n - ts.length) none) (vs.map some++List.replicate (n - nv) none) H:=by
 subst hv
 have hl:=r.len
 have back:∀ {i:Nat} {c:Cell},(ts.map (fun t=>some (Cell.pu t))++List.replicate (n - ts.length) none)[i]?=some (some c)->∃ t,ts[i]?=some t/\c=.pu t:=fun {i c} h=>by
  by_cases hi:i < ts.length
  ·rw [Yl (by rw [Zv];exact hi),Z1] at h
   obtain ⟨t,h1,h2⟩:=Zm.mp h
   exact ⟨t,h1,(ZI h2).symm⟩
  ·rw [Yx (by rw [Zv];exact Xw hi),Xv] at h
   split at h <;> cases h
 refine ⟨by simp;lia,fun i c h=>?_,fun i t h=>?_,fun i j t c h=>?_⟩
 ·obtain ⟨t,h1,rfl⟩:=back h
  obtain ⟨v,F,g1,g2,g3⟩:=r.get i h1
  refine ⟨v,?_,?_⟩
  ·have:i < vs.length:=(ZZ.mp g1).1
   rw [Yl (by rw [Zv];exact this),Z1,g1]
   rfl
  ·show Rp G H v t (Fs.getD i [])
   rw [Z3,g2]
   exact g3
 ·obtain ⟨t',_,h2⟩:=back h
  cases h2
 ·obtain ⟨t',_,h2⟩:=back h
  cases h2
theorem iE {ts:Vl} {n:Nat} {Φ:Fps} {a:Addr}:¬ b5 Φ (ts.map (fun t=>some (Cell.pu t))++List.replicate n none) a:=by
 rintro ⟨i,t,h,_⟩
 by_cases hi:i < ts.length
 ·rw [Yl (by rw [Zv];exact hi),Z1] at h
  obtain ⟨t',_,h2⟩:=Zm.mp h
  cases h2
 ·rw [Yx (by rw [Zv];exact Xw hi),Xv] at h
  split at h <;> cases h
theorem oJ {H:Hp} {vs:List V} {ts:Vl} {Fs:Yf} {n:Nat} {a:Addr} (h:dF (fun i=>Fs.getD i []) (ts.map (fun t=>some (Cell.pu t))++List.replicate n none) a):a∈Fs.flatten:=by
 obtain ⟨i,t,_,h2⟩:=h
 simp only [Z3] at h2
 cases e:Fs[i]? with
 | none=>rw [e] at h2;simp at h2
 | some F=>rw [e] at h2;exact fP e h2
end
section
variable {G:Gx} {P:Program} {w:World} {K:Xs} {mg:Xg} {base:Heap}
theorem fnV {x qual:Str} {st:Stmt} {f:Addr} {fd:FuncData} {N ps:List Str} {k np nn:Nat} {c:Sx} (F:Fun K x qual st f fd) (S:FnScope N ps (ao st)) (hp:ps.length=np) (hn:N.length=nn)
  (hb:∀ (cdv:Value) (A:Around) (outer:List PySem.Env) (s:Shared) (H:Hp) (E:XK),Room k (A.deeper (envOfC qual (ao st) s.heap.objs.size f cdv))->fE G (mI CX0 P w K mg base N qual (ao st) f cdv A outer s H E).nox (aM st) c) :
  FnOk P w K mg base CX0 (k+1) f fd ps (spF G (fn np nn c)):=by
 refine F.ok S (fun vs H Q E h=>?_) fun cdv A outer s H vs Q E hr h=>⟨_,hb cdv A outer s H E hr,?_⟩
 ·obtain ⟨ts,Fs,m,r,h1,h2,_⟩:=h
  unfold fn at h2
  split at h2
  ·rename_i hl
   rw [h1.len.1,hl,hp]
  ·cases h2
 ·obtain ⟨ts,Fs,m,r,h1,h2,q⟩:=h
  unfold fn at h2
  split at h2
  ·rename_i hl
   obtain ⟨o,e1,e2⟩:=Zz.mp h2
   have s0:=vy h1 nn vs.length rfl
   rw [hl] at s0
   have e3:L2.start N vs=vs.map some++List.replicate (nn - vs.length) none:=by
    unfold L2.start
    rw [hn]
   rw [e3]
   refine ⟨_,_,o,s0,e1,?_⟩
   cases o with
   | nx η' =>
    cases e2
    intro Φ' σ' H' s' fr
    exact q .non H' [] (fun a o h=>(fr.keep a o h iE).1) .non ⟨Wv,fun a h=>by simp at h⟩
   | rt v η' =>
    cases e2
    intro u H' F' Φ' σ' s' fr r' rf
    refine q u H' F' (fun a o h=>(fr.keep a o h iE).1) r' ?_
    cases m with
    | fr=>exact ⟨rf.1,fun a ha=>(rf.2 a ha).elim id fun z=>absurd z iE⟩
    | pu=>exact fun a ha=>(rf a ha).elim .inl fun z=>z.elim (fun z=>.inr (oJ (H:=H) (vs:=vs) z)) fun z=>absurd z iE
    | bo=>exact fun a ha=>(rf a ha).elim .inl fun z=>z.elim (fun z=>.inr (oJ (H:=H) (vs:=vs) z)) fun z=>absurd z iE
   | bk η'=>cases e2
   | ct η'=>cases e2
  ·cases h2
end
end VS
end
section
namespace L2
open PySem PySem.Spec PyProof.Rows
theorem ka (env:Env):∀ (l:List (Str×NameKind)) (acc:List (Str×Addr)),(∀ y∈l,y.2=.free->∃ c,env.cells.lookup y.1=some c)->(∀ x c,acc.lookup x=some c->env.cells.lookup x=some c) →
  ∃ cl,(forIn l acc (fun x r=>if (x.snd == NameKind.free)=true then (do let a ← cellOf env x.fst;pure (ForInStep.yield ((x.fst,a) :: r))) else pure (ForInStep.yield r)):Sem (List (Str×Addr)))=pure cl ∧
   (∀ x c,cl.lookup x=some c->env.cells.lookup x=some c)/\(∀ x c,acc.lookup x=some c->∃ c',cl.lookup x=some c')/\∀ y∈l,y.2=.free->∃ c,cl.lookup y.1=some c
 | [],acc,_,ha=>⟨acc,rfl,ha,fun x c h=>⟨c,h⟩,fun y hy=>nomatch hy⟩
 | (n,k) :: l,acc,hf,ha=>by
  by_cases hk:k=.free
  ·subst hk
   obtain ⟨c,hc⟩:=hf (n,.free) Zw rfl
   have ec:cellOf env n=pure c:=by unfold cellOf;dsimp only at hc;rw [hc]
   have ha':∀ x c',((n,c) :: acc).lookup x=some c'->env.cells.lookup x=some c':=fun x c' h=>by
    rw [Y1] at h
    split at h
    ·rename_i hx
     have:x=n:=by simpa using hx
     rw [this,← h];exact hc
    ·exact ha x c' h
   obtain ⟨cl,h1,h2,h3,h4⟩:=ka env l ((n,c) :: acc) (fun y hy=>hf y (Zx _ hy)) ha'
   refine ⟨cl,?_,h2,fun x c' h=>?_,fun y hy hyf=>?_⟩
   ·rw [List.forIn_cons]
    dsimp only
    rw [Zs (show (NameKind.free == NameKind.free)=true from rfl),ec,pure_bind,pure_bind]
    exact h1
   ·by_cases hx:x=n
    ·exact h3 x c (by rw [Y1,hx];simp)
    ·refine h3 x c' ?_
     rw [Y1]
     have:(x == n)=false:=by simpa using hx
     rw [this];exact h
   ·rcases Zo.mp hy with rfl | hy
    ·exact h3 n c (by rw [Y1];simp)
    ·exact h4 y hy hyf
  ·obtain ⟨cl,h1,h2,h3,h4⟩:=ka env l acc (fun y hy=>hf y (Zx _ hy)) ha
   refine ⟨cl,?_,h2,h3,fun y hy hyf=>?_⟩
   ·rw [List.forIn_cons]
    dsimp only
    rw [Zp (by simpa using hk),pure_bind]
    exact h1
   ·rcases Zo.mp hy with rfl | hy
    ·exact absurd hyf hk
    ·exact h4 y hy hyf
theorem zC {sc:Scope} {env:Env} (hf:∀ y∈sc.names,y.2=.free->∃ c,env.cells.lookup y.1=some c) :
  ∃ cl,closureFor sc env=pure cl/\(∀ x c,cl.lookup x=some c->env.cells.lookup x=some c)/\∀ y∈sc.names,y.2=.free->∃ c,cl.lookup y.1=some c:=by
 obtain ⟨cl,h1,h2,_,h4⟩:=ka env sc.names [] hf (fun x c h=>nomatch h)
 refine ⟨cl,?_,h2,h4⟩
 simp only [closureFor]
 rw [h1]
 rfl
theorem gu {l:List (Str×NameKind)} {x:Str} {k:NameKind} (h:l.lookup x=some k):(x,k)∈l:=by
 induction l with
 | nil=>cases h
 | cons p l ih =>
  rw [Y1] at h
  split at h
  ·rename_i hx
   have e:x=p.1:=by simpa using hx
   cases h
   rw [e];exact Zw
  ·exact Zx _ (ih h)
theorem df {env:Env} {x:Str} {k:NameKind}:∀ {l:List (Str×NameKind)},(l.map fun (n,k)=>if (k == NameKind.free && env.scope.kind == .function && env.kindOf n == some .cell) then (n,NameKind.cell) else (n,k)).lookup x=some k →
  ∃ k0,l.lookup x=some k0/\(k=k0\/(k0=.free/\k=.cell))
 | [],h=>nomatch h
 | (n,k1) :: l,h=>by
  rw [Zt,Y1] at h
  by_cases hc:(k1 == NameKind.free && env.scope.kind == .function && env.kindOf n == some .cell)=true
  ·simp only [hc,if_true] at h
   rw [Y1]
   cases hx:x == n with
   | true =>
    rw [hx] at h
    have:k1=.free:=by
     have:=(X4.mp (X4.mp hc).1).1
     simpa using this
    exact ⟨k1,rfl,.inr ⟨this,(ZI h).symm⟩⟩
   | false=>rw [hx] at h;exact df h
  ·simp only [hc,if_false,Z4] at h
   rw [Y1]
   cases hx:x == n with
   | true=>rw [hx] at h;exact ⟨k1,rfl,.inl (ZI h).symm⟩
   | false=>rw [hx] at h;exact df h
noncomputable def aW (X:Cx) (N:List Str) (sc:Scope) (cl:List (Str×Addr)) (C:Addr) (s:Shared) (H:Hp) (fp:Xf):Cx :=
 { X with N:=N,s₀:=s,H₀:=H,env:=compEnvC sc cl C X.env,outer:=X.stack,ex:=fp,fn:=fun _=>false,pn:=[],xe:=fun _ _=>False }
noncomputable def jB (env:Env) (sc:Scope):Bool:=sc.kind == .function && sc.names.all fun y=>match y.2 with
 | .cell=>false
 | .local=>sc.names.lookup y.1 == some .local
 | .free=>env.kindOf y.1 == some .cell || env.kindOf y.1 == some .free
 | _=>true
noncomputable def iO (sc:Scope):List Str->List Str->Bool
 | [],[]=>true
 | a :: as,b :: bs=>((a == b && sc.names.lookup a == some .free) || sc.names.lookup a == none || sc.names.lookup a == some .globalImplicit) && iO sc as bs
 | _,_=>false
theorem sA {sc:Scope}:∀ {as bs:List Str},iO sc as bs=true->as.length=bs.length/\∀ (i:Nat) (x:Str),as[i]?=some x->(bs[i]?=some x/\sc.names.lookup x=some .free)\/sc.names.lookup x=none\/sc.names.lookup x=some .globalImplicit
 | [],[],_=>⟨rfl,fun i x h=>by simp at h⟩
 | a :: as,b :: bs,h=>by
  simp only [iO,Yq] at h
  obtain ⟨h1,h2⟩:=h
  obtain ⟨l,r⟩:=sA h2
  refine ⟨by simp [l],fun i x e=>?_⟩
  cases i with
  | zero =>
   have:a=x:=by simpa using e
   subst this
   simp only [Bool.or_eq_true,Yq] at h1
   rcases h1 with (⟨z1,z2⟩ | z) | z
   ·exact .inl ⟨by simpa using (by simpa using z1:a=b).symm,by simpa using z2⟩
   ·exact .inr (.inl (by simpa using z))
   ·exact .inr (.inr (by simpa using z))
  | succ i=>simpa using r i x (by simpa using e)
 | [],_ :: _,h=>by simp [iO] at h
 | _ :: _,[],h=>by simp [iO] at h
section
variable {X:Cx} {pins:Yp} {σ:St} {H:Hp} {s:Shared}
theorem Inv.block {N:List Str} {sc:Scope} {cl:List (Str×Addr)} {C D:Addr} {fp:Xf} {k:Nat} {h1:Heap} {t:Nat} {m:Xg} (I:Inv X pins σ H s) (hsc:jB X.env sc=true) (hnm:iO sc (N.drop k) X.N=true) (hNl:k<=N.length)
  (hc1:∀ x c,cl.lookup x=some c->X.env.cells.lookup x=some c) (hc2:∀ y∈sc.names,y.2=.free->∃ c,cl.lookup y.1=some c) (hfp:∀ b∈fp,jf X pins H b) (hD:s.heap.objs.size<=D) (hC:s.heap.objs.size<=C) (hDC:D ≠ C) (hfC:C ∉ fp)
  (keep:∀ b u,s.heap.get? b=some u->h1.get? b=some u) (hns:h1.Ns C m) (hDo:h1.get? D=some { cls:=.type "list",data:=.seq ([]:Xb).toArray 0 }) :
  Inv (aW X N sc cl C s H fp) [] (List.replicate k none++σ) (upd H D (.lst [])) { s with heap:=h1,toks:=t }:=by
 unfold jB at hsc
 rw [Yq,Yw] at hsc
 obtain ⟨hk,hall⟩:=hsc
 have hkind:sc.kind=.function:=by simpa using hk
 obtain ⟨hlen,hat⟩:=sA hnm
 have hcell:∀ y∈sc.names,y.2 ≠ .cell:=fun y hy e=>by have:=hall y hy;rw [e] at this;cases this
 have frees:∀ x k',(relabel sc X.env).names.lookup x=some k'->k'=.cell\/k'=.free->sc.names.lookup x=some .free:=fun x k' h hk'=>by
  obtain ⟨k0,h0,hk0⟩:=df h
  rcases hk0 with e | ⟨e,_⟩
  ·subst e
   rcases hk' with e | e
   ·subst e;exact absurd rfl (hcell _ (gu h0))
   ·subst e;exact h0
  ·subst e;exact h0
 have hHD:H D=none:=I.hok.fresh hD
 have hHC:H C=none:=I.hok.fresh hC
 refine ⟨⟨I.mod,hkind,I.ok.glob,I.ok.blt,hC,fun x y c e1 e2=>I.ok.inj x y c (hc1 x c e1) (hc1 y c e2),fun x hx=>?_,fun x c e=>(nomatch e),I.ok.hd,I.ok.frames,.inl rfl,fun b hb=>⟨fun (e:b=C)=>hfC (e ▸ hb),fun x c e=>(hfp b hb).2.2.2.2.1 x c (hc1 x c e)⟩,
  I.bs,ZW I.ok.bsz I.sz,fun b o e hb=>?_,fun b hb hb'=>?_,I.stack,I.stkFree⟩,rfl,I.bare,Un.laid keep hD hHD,⟨m,hns,fun i x v e1 e2 e3=>?_⟩,fun x c e=>?_,?_,fun x c e=>?_,fun p hp=>(nomatch hp),I.hok.laid keep hD ?_,?_⟩
 ·have h:∃ k',(relabel sc X.env).names.lookup x=some k'/\(k'=.cell\/k'=.free):=by
   rcases hx with e | e
   ·exact ⟨_,e,.inl rfl⟩
   ·exact ⟨_,e,.inr rfl⟩
  obtain ⟨k',h1',h2'⟩:=h
  exact hc2 _ (gu (frees x k' h1' h2')) rfl
 ·have hb':b∈fp:=hb
  rcases (hfp b hb').2.2.2.1 with z | z
  ·exact I.ok.noex b o e z
  ·exact absurd (ZA (ZU e) (ZW I.ok.bsz z)) (Xp _)
 ·have hb0:b∈frs X.stack:=hb'
  rcases Zo.mp (I.stkSub b hb0) with z | z
  ·exact (hfp b hb).2.1 z
  ·exact (hfp b hb).2.2.1 z
 ·
  have hik:k<=i:=by
   rcases Wy i k with z | z
   ·rw [Yl (by simpa using z),Xv] at e2
    split at e2 <;> cases e2
   ·exact z
  rw [Yx (by simpa using hik),Y2] at e2
  have e1':(N.drop k)[i - k]?=some x:=by
   rw [List.getElem?_drop,show k+(i - k)=i by exact W4 hik];exact e1
  have vis:sc.names.lookup x=some .free->∃ k',(relabel sc X.env).names.lookup x=some k'/\(k'=.cell\/k'=.free):=fun h0=>by
   have e3':Vis (relabel sc X.env) x:=e3
   rcases e3' with z | z | z
   ·obtain ⟨k0,h1',h2'⟩:=df z
    rw [h0] at h1';cases h1'
    rcases h2' with q | ⟨_,q⟩ <;> cases q
   ·exact ⟨_,z,.inl rfl⟩
   ·exact ⟨_,z,.inr rfl⟩
  have no:∀ k0,sc.names.lookup x=some k0->∃ k',(relabel sc X.env).names.lookup x=some k'->True:=fun _ _=>⟨.local,fun _=>trivial⟩
  rcases hat _ x e1' with ⟨hX,h0⟩ | h0 | h0
  ·obtain ⟨k',hk1,hk2⟩:=vis h0
   have hf:=hall _ (gu h0)
   have hf':X.env.kindOf x=some .cell\/X.env.kindOf x=some .free:=by
    simpa using hf
   obtain ⟨mX,hnX,hlX⟩:=I.loc
   have visX:Vis X.env.scope x:=hf'.elim (fun z=>.inr (.inl z)) fun z=>.inr (.inr z)
   obtain ⟨u,r,l⟩:=hlX _ x v hX e2 visX
   refine ⟨u,r,.inr ⟨?_,?_⟩⟩
   ·rcases hk2 with z | z
    ·subst z;exact .inl hk1
    ·subst z;exact .inr hk1
   ·obtain ⟨c,hc⟩:=hc2 _ (gu h0) rfl
    refine ⟨c,hc,?_⟩
    rcases l with ⟨z,_⟩ | ⟨_,c',hc',hcell'⟩
    ·rcases hf' with q | q <;> (rw [z] at q;cases q)
    ·have:=hc1 x c hc
     rw [hc'] at this;cases this
     exact hcell'.keeps keep
  ·have e3':Vis (relabel sc X.env) x:=e3
   rcases e3' with z | z | z <;> (obtain ⟨k0,z1,_⟩:=df z;rw [h0] at z1;cases z1)
  ·have e3':Vis (relabel sc X.env) x:=e3
   rcases e3' with z | z | z <;> (obtain ⟨k0,z1,z2⟩:=df z;rw [h0] at z1;cases z1;rcases z2 with q | ⟨q,_⟩ <;> cases q)
 ·obtain ⟨v,z⟩:=I.cell x c (hc1 x c e)
  exact ⟨v,z.keeps keep⟩
 ·show upd H D (.lst []) C=none
  rw [aA (YE hDC)];exact hHC
 ·obtain ⟨v,z⟩:=I.cell x c (hc1 x c e)
  rw [aA (ZL (ZA z.lt hD))]
  exact I.freeC x c (hc1 x c e)
 ·exact ⟨ZO _,[],0,.nil,hDo⟩
 ·show (List.replicate k none++σ).length=N.length
  rw [Zu,Y2,I.len,← hlen,ZQ]
  exact W4 hNl
noncomputable def xr (X:Cx) (ifs:List Expr) (t:TT):Prop :=
 ∀ (pins:Yp) (s:Shared) (σ:St) (H:Hp) (Q:Bool->Hp->Prop),Inv X pins σ H s->t σ H Q →
  wpAny (model X.prog X.w) X.A (forIn ifs true fun c r=>if r=true then (do let ok ← isTrue c X.env (eval c X.env);pure (ForInStep.yield ok)) else pure (ForInStep.yield r)) (TP X pins σ Q) X.xe s
theorem lF:xr X [] (fun σ H Q=>Q true H):=fun pins s σ H Q I q=>Zq ⟨H,I,q⟩
theorem vI {c:Expr} {t:TT} (h:PT X c t):xr X [c] t:=fun pins s σ H Q I q=>by
 rw [List.forIn_cons,Zs rfl]
 refine Zy (Zy (thn (h pins s σ H Q I q) fun b s1 q1=>Zq ?_))
 exact Zq q1
section
variable {prog:Program} {w:World} {A:Around} {R:Result->Shared->Prop}
theorem pd {elt target iter:Expr} {ifs:List Expr} {scope:Scope} {pos:Pos} {it acc:Value} {env:Env} {s:Shared} (I:Nat->Shared->Prop)
  (turn:∀ n s,I n s->wpAny (model prog w) A (pyNext it) (fun r s₁=>match r with
   | none=>R (.ok .next) s₁
   | some v=>wpAny (model prog w) A (letOwnedTupleGo target it v) (fun _ s₀=>wpAny (model prog w) A (assign target env v) (fun _ s₂ =>
     wpAny (model prog w) A (forIn ifs true fun c r=>if r=true then (do let ok ← isTrue c env (eval c env);pure (ForInStep.yield ok)) else pure (ForInStep.yield r)) (fun ok s₃ =>
      if ok=true then wpAny (model prog w) A (eval elt env) (fun x s₄ =>
       wpAny (model prog w) A (call (.builtin "list.append") [acc,x]) (fun _ s₅=>∃ m,m < n/\I m s₅) (fun _ _=>False) s₄) (fun _ _=>False) s₃
      else ∃ m,m < n/\I m s₃) (fun _ _=>False) s₂) (fun _ _=>False) s₀) (fun _ _=>False) s₁) (fun _ _=>False) s)
  (n:Nat) (h:I n s) :
  codeAny (model prog w) A (.compLoop (.ListComp elt [⟨target,iter,ifs,0⟩] scope pos) 0 it acc env) R s:=by
 refine codeAny_loop rfl I (fun n s hI=>?_) n h
 show wpAny _ A ((compTurn (.ListComp elt [⟨target,iter,ifs,0⟩] scope pos) 0 it acc env).onRaise (fun x=>do noteFrame x env;theTreesLotGoes x)) _ _ s
 refine wpAny_noted ?_
 rw [compTurn_list]
 refine Zy (wpAny_standAt (Zy (YT (turn n s hI) (fun r s₁ h₁=>?_) fun _ _ h'=>h'.elim)))
 cases r with
 | none=>exact Zq h₁
 | some v =>
  refine Zy (YT h₁ (fun _ s₀ h₀=>?_) fun _ _ h'=>h'.elim)
  refine Zy (YT h₀ (fun _ s₂ h₂=>Zy (YT h₂ (fun ok s₃ h₃=>?_) fun _ _ h'=>h'.elim)) fun _ _ h'=>h'.elim)
  cases ok with
  | false=>exact Zq ⟨rfl,h₃⟩
  | true =>
   rw [Zs rfl] at h₃
   exact Zy (Zy (YT h₃ (fun x s₄ h₄=>Zy (YT h₄ (fun _ s₅ h₅=>Zq (Zq ⟨rfl,h₅⟩)) fun _ _ h'=>h'.elim)) fun _ _ h'=>h'.elim))
end
noncomputable def sG (k:Nat) (wi:TI) (g:TG) (tc:TT) (te:TE) (σ:St) (H:Hp) (Q:VK):Prop:=wi σ H fun J H1=>∀ D,H1 D=none->∃ W:Nat->Nat->St->Hp->Prop,
 (∃ m,W 0 m (List.replicate k none++σ) (upd H1 D (.lst [])))/\∀ i m σ' H',W i m σ' H'->(J.stop i H'/\Q (.ref D) H')\/(J.go i H'/\∀ x H2,J.yld i H' x H2->g x σ' H2 fun σ3 H3=>tc σ3 H3 fun b H4 =>
  if b=true then te σ3 H4 fun y H5=>∃ ys,H5 D=some (.lst ys)/\ys.length < sizeLine/\∃ m',m' < m/\W (i+1) m' σ3 (upd H5 D (.lst (ys++[y]))) else ∃ m',m' < m/\W (i+1) m' σ3 H4)
theorem m8 {elt tg iter:Expr} {ifs:List Expr} {sc:Scope} {pos pos':Pos} {N:List Str} {k:Nat} {wi:TI} {g:TG} {tc:TT} {te:TE} {use:Option (Value->Sem Unit)} {QQ:Yy} {Q:VK} (hcalm:X.calm=true) (hi:PI X tg iter wi) (hsc:jB X.env sc=true)
  (hnm:iO sc (N.drop k) X.N=true) (hNl:k<=N.length) (hin:∀ cl C s H fp,PG (aW X N sc cl C s H fp) tg g/\xr (aW X N sc cl C s H fp) ifs tc/\PE (aW X N sc cl C s H fp) elt te)
  (hs:∀ x,foldedSetIterable iter X.env x=pure x) (I:Inv X pins σ H s) (h:sG k wi g tc te σ H Q)
  (hq:∀ s' H' D C m,Inv X pins σ H' s'->Q (.ref D) H'->s'.heap.Ns C m->jf X pins H' C->compPost (model X.prog X.w) X.A X.xe use QQ (.ref D) C (.ok .next) s') :
  wpAny (model X.prog X.w) X.A (comprehension (.ListComp elt [⟨tg,iter,ifs,0⟩] sc pos) sc X.env pos' (newList []) false (eval iter X.env) use) QQ X.xe s:=by
 have hsc':=hsc
 unfold jB at hsc'
 rw [Yq,Yw] at hsc'
 obtain ⟨hk,hall⟩:=hsc'
 have hkind:sc.kind=.function:=by simpa using hk
 have hcell:∀ y∈sc.names,y.2 ≠ .cell:=fun y hy e=>by have:=hall y hy;rw [e] at this;cases this
 have hnames:∀ y∈sc.names,y.2=.local->sc.names.lookup y.1=some .local:=fun y hy e=>by
  have:=hall y hy
  rw [e] at this
  simpa using this
 obtain ⟨cl,hcl,hc1,hc2⟩:=zC (sc:=sc) (env:=X.env) fun y hy e=>I.ok.has y.1 (by
  have:=hall y hy
  rw [e] at this
  simpa using this)
 refine wpAny_comprehension_free (use:=use) rfl hs hcl hkind hnames (thn (hi pins s σ H _ I h) fun v s1 h1=>thn h1 fun itv s2 h2=>?_)
 obtain ⟨it,fp,tn,J,H2,e,I2,T,st2,f2,hW⟩:=h2
 subst e
 refine Wb (wpAny_newFunctionEnv hcell (by intro y hy;simp at hy) (fun h₁ hns₁ hsb₁=>?_) hkind)
 dsimp only at hns₁ hsb₁ ⊢
 generalize hP:s2.heap.push { cls:=.type "list",dict:=none,data:=.seq ([]:Xb).toArray }=P at hns₁ hsb₁ ⊢
 have hCs:P.objs.size=s2.heap.objs.size+1:=by rw [← hP,Heap.size_push]
 have old:∀ b o,s2.heap.get? b=some o->h₁.get? b=some o:=fun b o e =>
  hsb₁.extBut b o (by rw [hCs];exact ZL (W2 (ZU e))) (Ze _ (hP ▸ Ze _ e))
 have hDC:s2.heap.objs.size ≠ P.objs.size:=by rw [hCs];exact ZL (Vu _)
 have hDo:h₁.get? s2.heap.objs.size=some { cls:=.type "list",data:=.seq ([]:Xb).toArray 0 }:=hsb₁.extBut _ _ hDC (Ze _ (hP ▸ ZV _ rfl))
 have hCle:s2.heap.objs.size<=P.objs.size:=by rw [hCs];exact Nat.le_succ _
 have lt_fp:∀ b∈fp,b < s2.heap.objs.size:=fun b hb=>let ⟨o,ho,_⟩:=T.obj 0 _ st2 b hb;ZU ho
 have hfC:P.objs.size ∉ fp:=fun hb=>absurd (ZA (lt_fp _ hb) hCle) (Xp _)
 have IY:=I2.block (N:=N) (sc:=sc) (cl:=cl) (C:=P.objs.size) (D:=s2.heap.objs.size) (fp:=fp) (k:=k) (t:=s2.toks+([]:List (Str×Value)).length) hsc hnm hNl hc1 hc2 f2 (Zr _) hCle hDC hfC old hns₁ hDo
 obtain ⟨hG,hT,hE⟩:=hin cl P.objs.size s2 H2 fp
 generalize hY:aW X N sc cl P.objs.size s2 H2 fp=Y at IY hG hT hE
 have hYm:Y.prog=X.prog/\Y.w=X.w/\Y.K=X.K/\Y.A=X.A/\Y.env=compEnvC sc cl P.objs.size X.env/\Y.calm=X.calm/\(Y.xe=fun _ _=>False):=by rw [← hY];exact ⟨rfl,rfl,rfl,rfl,rfl,rfl,rfl⟩
 obtain ⟨y1,y2,y3,y4,y5,y6,y7⟩:=hYm
 have stat:∀ {H':Hp},(∀ b∈fp,H' b=none)->∀ b∈fp,jf Y [] H' b:=fun {H'} hn b hb=>by
  rw [← hY]
  refine ⟨hn b hb,fun (e:b=P.objs.size)=>hfC (e ▸ hb),fun hb'=>?_,.inl hb,fun x c e=>(f2 b hb).2.2.2.2.1 x c (hc1 x c e),fun p hp=>(nomatch hp)⟩
  rcases Zo.mp (I2.stkSub b hb') with z | z
  ·exact (f2 b hb).2.1 z
  ·exact (f2 b hb).2.2.1 z
 obtain ⟨W,⟨m0,w0⟩,turn⟩:=hW s2.heap.objs.size (I2.hok.fresh (Zr _))
 have hfp0:∀ b∈fp,upd H2 s2.heap.objs.size (.lst []) b=none:=fun b hb=>by rw [aA (ZL (lt_fp b hb))];exact (f2 b hb).1
 have st3:tn 0 h₁:=T.keep _ _ _ st2 fun b _ o e=>old b o e
 have loop:codeAny (model X.prog X.w) X.A (.compLoop (.ListComp elt [⟨tg,iter,ifs,0⟩] sc pos) 0 (.ref it) (.ref s2.heap.objs.size) (compEnvC sc cl P.objs.size X.env)) (compPost (model X.prog X.w) X.A X.xe use QQ (.ref s2.heap.objs.size) P.objs.size)
   { s2 with heap:=h₁,toks:=s2.toks+([]:List (Str×Value)).length }:=by
  refine pd (fun n s'=>∃ i σ' H',Inv Y [] σ' H' s'/\tn i s'.heap/\(∀ b∈fp,H' b=none)/\W i n σ' H') ?_ m0 ⟨0,_,_,IY,st3,hfp0,w0⟩
  rintro n s3 ⟨i,σ3,H3,I3,st3,fr3,w3⟩
  rcases turn i n σ3 H3 w3 with ⟨stop,qn⟩ | ⟨go,step⟩
  ·have q:=T.done Y y1 y2 y3 (y6.trans hcalm) i [] s3 σ3 H3 (fun _ _=>False) I3 (stat fr3) st3 stop
   rw [y4] at q
   refine thn q fun r s4 ⟨hr,I4⟩=>?_
   subst hr
   have IX:Inv X pins σ H3 s4:=by
    have b4:=I4.base
    have o4:=I4.os
    have k4:=I4.hok
    rw [← hY] at b4 o4 k4
    refine I2.call' (ch:=fp) o4 b4 k4 I4.bare fun b hb=>?_
    exact ⟨(f2 b hb).2.2.2.1,(f2 b hb).2.1,(f2 b hb).2.2.2.2.1,(f2 b hb).2.2.2.2.2⟩
   obtain ⟨mC,hmC,_⟩:=I4.loc
   have f4:=I4.free
   rw [y5] at hmC f4
   exact hq s4 H3 _ P.objs.size mC IX qn hmC (I2.fpOk hCle f4)
  ·have q:=T.item Y y1 y2 y3 (y6.trans hcalm) i [] s3 σ3 H3 (fun _ _=>False) I3 (stat fr3) st3 go
   rw [y4] at q
   refine thn q fun r s4 ⟨u,hr,h4⟩=>?_
   subst hr
   refine thn h4 fun _ s5 ⟨x,H5,I5,r5,yl5,st5,fr5⟩=>?_
   have I5':=I5.pinned (stat fr5) (T.obj _ _ st5)
   have again:∀ {σ7:St} {H7:Hp} {s7:Shared} {m:Nat},Inv Y ([]++lU fp s5.heap) σ7 H7 s7->W (i+1) m σ7 H7->∃ i σ' H',Inv Y [] σ' H' s7/\tn i s7.heap/\(∀ b∈fp,H' b=none)/\W i m σ' H':=fun {σ7 H7 s7 m} I7 w7=>by
    refine ⟨i+1,σ7,H7,I7.unpinned,T.keep _ _ _ st5 fun b hb o e=>(I7.pin (b,o) (Z2 _ (Z2 _ (gM hb e)))).1,fun b hb=>?_,w7⟩
    obtain ⟨o,e,d⟩:=T.obj _ _ st5 b hb
    exact (I7.pin (b,o) (Z2 _ (Z2 _ (gM hb e)))).2.1
   have qa:=hG _ s5 σ3 H5 x u _ I5' r5 (step x H5 yl5)
   rw [y1,y2,y4,y5,y7] at qa
   refine thn qa fun _ s6 ⟨σ6,H6,I6,q6⟩=>?_
   have qt:=hT _ s6 σ6 H6 _ I6 q6
   rw [y1,y2,y4,y5,y7] at qt
   refine thn qt fun b s7 ⟨H7,I7,q7⟩=>?_
   cases b with
   | false =>
    rw [Zp Zi] at q7 ⊢
    obtain ⟨m',hm,w7⟩:=q7
    exact ⟨m',hm,again I7 w7⟩
   | true =>
    rw [Zs rfl] at q7 ⊢
    have qe:=hE _ s7 σ6 H7 _ I7 q7
    rw [y1,y2,y4,y5,y7] at qe
    refine thn qe fun yv s8 ⟨y,H8,I8,r8,ys,hD8,hl8,m',hm,w8⟩=>?_
    have qp:=fN (X:=Y) _ s8 σ6 H8 (.ref s2.heap.objs.size) [y] (.ref s2.heap.objs.size) [yv] (fun _ H9=>W (i+1) m' σ6 H9) I8 rfl (.cons r8 .nil) ⟨_,ys,y,rfl,rfl,hD8,hl8,w8⟩
    rw [y1,y2,y4,y7] at qp
    refine thn qp fun _ s9 ⟨_,H9,I9,_,w9⟩=>?_
    exact ⟨m',hm,again I9 w9⟩
 exact codeAny_compStart_list loop (T.self _ 0 _ _ _ st3 loop)
theorem oE {elt tg iter:Expr} {ifs:List Expr} {sc:Scope} {pos:Pos} {N:List Str} {k:Nat} {wi:TI} {g:TG} {tc:TT} {te:TE} (hcalm:X.calm=true) (hi:PI X tg iter wi) (hsc:jB X.env sc=true)
  (hnm:iO sc (N.drop k) X.N=true) (hNl:k<=N.length) (hin:∀ cl C s H fp,PG (aW X N sc cl C s H fp) tg g/\xr (aW X N sc cl C s H fp) ifs tc/\PE (aW X N sc cl C s H fp) elt te)
  (hs:∀ x,foldedSetIterable iter X.env x=pure x:=by intro _;rfl):PE X (.ListComp elt [⟨tg,iter,ifs,0⟩] sc pos) (sG k wi g tc te):=by
 intro pins s σ H Q I h
 rw [eval_ListComp]
 refine m8 (use:=none) hcalm hi hsc hnm hNl hin hs I h fun s' H' D C m I' q hn f=>⟨m,hn,fun h' hs'=>?_⟩
 exact ⟨.ref D,H',I'.turned (it:=C) (t':=s'.toks) (fun b o hb e=>hs'.extBut b o hb e) f.1 f.2.1 f.2.2.2.1 f.2.2.2.2.1 f.2.2.2.2.2,rfl,q⟩
theorem qB {elt tg iter:Expr} {ifs:List Expr} {sc:Scope} {pos pos' spos:Pos} {N:List Str} {k i:Nat} {x:Str} {wi:TI} {g:TG} {tc:TT} {te:TE} (hN:X.N.Nodup) (hiN:X.N[i]?=some x) (hx:Loc X.env.scope x) (hcalm:X.calm=true) (hi:PI X tg iter wi) (hsc:jB X.env sc=true)
  (hnm:iO sc (N.drop k) X.N=true) (hNl:k<=N.length) (hin:∀ cl C s H fp,PG (aW X N sc cl C s H fp) tg g/\xr (aW X N sc cl C s H fp) ifs tc/\PE (aW X N sc cl C s H fp) elt te)
  (hsw:swapsWith (.ListComp elt [⟨tg,iter,ifs,0⟩] sc pos) (some (.Name x pos')) spos.line X.env=pure true)
  (hf:X.fn x=true\/X.env.scope.names.lookup x=some .local) (hs:∀ x,foldedSetIterable iter X.env x=pure x:=by intro _;rfl) :
  PS X (.Assign [.Name x pos'] (.ListComp elt [⟨tg,iter,ifs,0⟩] sc pos) spos) (fun D σ H=>sG k wi g tc te σ H fun v H1=>D.nx (σ.set i (some v)) H1):=by
 intro pins s σ H D I h
 rw [exec_Assign_Name_used _ _ _ _ hsw]
 refine Zy (wpAny_standAt (Zy ?_))
 show wpAny _ X.A (do let _ ← comprehension (.ListComp elt [⟨tg,iter,ifs,0⟩] sc pos) sc X.env _ (newList []) false (eval iter X.env) (some (assign (.Name x pos') X.env))) _ _ s
 refine Zy (YT (m8 (use:=some (assign (.Name x pos') X.env)) (QQ:=fun _ s'=>SP X pins D .next s') hcalm hi hsc hnm hNl hin hs I h fun s' H' D' C m I' q hn f=>?_) (fun _ s' hq=>Zq (Zq hq)) fun _ _ e=>e)
 show wpAny _ X.A (assign (.Name x pos') X.env (.ref D')) _ _ _
 refine wpAny_assign_Name (mQ I' hN hiN hx (v:=.ref D') rfl (fun s2 I2 ⟨a,hsb,ha⟩=>?_) hf)
 have hCa:C ≠ a:=fun e=>by
  rcases ha with z | z
  ·exact f.2.1 (e.trans z)
  ·exact f.2.2.2.2.1 x a z e.symm
 refine ⟨m,hn.sameBut hsb hCa,fun h' hs'=>⟨_,H',?_,q⟩⟩
 exact I2.turned (it:=C) (t':=s2.toks) (fun b o hb e=>hs'.extBut b o hb e) f.1 f.2.1 f.2.2.2.1 f.2.2.2.2.1 f.2.2.2.2.2
end
end L2
end
section
namespace VS
open PySem PySem.Spec PyProof.Rows L2
noncomputable def qx (k:Nat) (g:Tg):Prop:=∀ t η η',g t η=some η'->η'.length=η.length/\∀ i,k<=i->η'[i]?=η[i]?
theorem jE {k i:Nat} (h:i < k):qx k (bg i):=fun t η η' e=>by
 unfold bg at e
 split at e
 ·cases e
  exact ⟨by simp,fun j hj=>by rw [YU (by lia)]⟩
 ·cases e
theorem sN:∀ (l:Vl) {i:Nat} {t:T},fA l=true->l[i]?=some t->imm t=true
 | [],_,_,_,h=>by simp at h
 | x :: l,0,t,h,e=>by
  simp only [fA,Yq] at h
  simp at e;rw [← e];exact h.1
 | x :: l,i+1,t,h,e=>by
  simp only [fA,Yq] at h
  exact sN l h.2 (by simpa using e)
noncomputable def tC (G:Gx):Option Ex->TT
 | none=>fun σ H Q=>Q true H
 | some c=>tT G c
section
variable {G:Gx} {Φ:Fps} {η:VS.Env} {σ:L2.St} {H:Hp} {k:Nat}
theorem jx {i:Nat} {c:Cell}:(List.replicate k none++η)[i]?=some (some c) ↔ k<=i/\η[i - k]?=some (some c):=by
 rcases Wy i k with h | h
 ·rw [Yl (by simpa using h),Xv]
  constructor
  ·intro e;split at e <;> cases e
  ·intro ⟨e,_⟩;lia
 ·rw [Yx (by simpa using h),Y2]
  exact ⟨fun e=>⟨h,e⟩,fun e=>e.2⟩
theorem xZ {a:Addr}:b5 (fun i=>Φ (i - k)) (List.replicate k none++η) a ↔ b5 Φ η a:=by
 constructor
 ·rintro ⟨j,t,h1,h2⟩
  exact ⟨j - k,t,(jx.mp h1).2,h2⟩
 ·rintro ⟨j,t,h1,h2⟩
  refine ⟨j+k,t,jx.mpr ⟨YM _ _,by rw [Ww];exact h1⟩,?_⟩
  show a∈Φ (j+k - k)
  rw [Ww];exact h2
theorem vF {a:Addr}:dF (fun i=>Φ (i - k)) (List.replicate k none++η) a ↔ dF Φ η a:=by
 constructor
 ·rintro ⟨j,t,h1,h2⟩
  exact ⟨j - k,t,(jx.mp h1).2,h2⟩
 ·rintro ⟨j,t,h1,h2⟩
  refine ⟨j+k,t,jx.mpr ⟨YM _ _,by rw [Ww];exact h1⟩,?_⟩
  show a∈Φ (j+k - k)
  rw [Ww];exact h2
theorem SR.sh (s:SR G Φ η σ H):SR G (fun i=>Φ (i - k)) (List.replicate k none++η) (List.replicate k none++σ) H:=by
 refine ⟨by simp [s.len],fun i c h=>?_,fun i t h=>?_,fun i j t c h1 h2 n=>?_⟩
 ·obtain ⟨h1,h2⟩:=jx.mp h
  obtain ⟨v,g1,g2⟩:=s.rp _ c h2
  refine ⟨v,?_,g2⟩
  rw [Yx (by simpa using h1),Y2]
  exact g1
 ·exact s.nd _ t (jx.mp h).2
 ·obtain ⟨a1,a2⟩:=jx.mp h1
  obtain ⟨b1,b2⟩:=jx.mp h2
  exact s.sep _ _ t c a2 b2 (by lia)
theorem SR.less {η':VS.Env} (s:SR G Φ η' σ H) (hl:η.length=η'.length) (h:∀ (i:Nat) c,η[i]?=some (some c)->η'[i]?=some (some c)):SR G Φ η σ H :=
 ⟨hl.trans s.len,fun i c e=>s.rp i c (h i c e),fun i t e=>s.nd i t (h i _ e),fun i j t c e1 e2 n=>s.sep i j t c (h i _ e1) (h j _ e2) n⟩
theorem SR.off {D:Addr} {o:HO} (s:SR G Φ η σ H) (m:Mut (H D)\/H D=none) (n1:¬ dF Φ η D) (n2:¬ b5 Φ η D):SR G Φ η σ (upd H D o):=by
 refine ⟨s.len,fun i c e=>?_,s.nd,s.sep⟩
 obtain ⟨v,g1,g2⟩:=s.rp i c e
 refine ⟨v,g1,g2.keep (Kept.upd m) fun b hb o' ho=>?_⟩
 rw [aA fun z=>?_]
 ·exact ho
 ·subst z
  cases c with
  | pu t=>exact n1 ⟨i,t,e,hb⟩
  | ow t=>exact n2 ⟨i,t,e,hb⟩
theorem kX:∀ (l:Vn) (v:Val),bF (l++[v])=(bF l).join v.1
 | [],(m,t)=>by cases m <;> rfl
 | (m,t) :: l,v=>by
  show m.join (bF (l++[v]))=(m.join (bF l)).join v.1
  rw [kX l v]
  generalize bF l=q
  generalize v.1=r
  cases m <;> cases q <;> cases r <;> rfl
theorem Fp.join2 {m n:Md} {F F':Xf} (f:Fp Φ η H m F) (g:Fp Φ η H n F') (d:n=.fr->∀ a∈F,a ∉ F'):Fp Φ η H (m.join n) (F++F'):=by
 have both:∀ {P:Addr->Prop},(∀ a∈F,P a)->(∀ a∈F',P a)->∀ a∈F++F',P a:=fun p q a h=>(Zd.mp h).elim (p a) (q a)
 cases m <;> cases n
 ·exact ⟨ZJ.mpr ⟨f.1,g.1,fun a ha b hb e=>d rfl a ha (e ▸ hb)⟩,both f.2 g.2⟩
 ·exact both (fun a ha=>.inl (f.2 a ha)) g
 ·exact both (fun a ha=>.inl (f.2 a ha)) g
 ·exact both f fun a ha=>.inl (g.2 a ha)
 ·exact both f g
 ·exact both (fun a ha=>(f a ha).imp id .inl) g
 ·exact both f fun a ha=>.inl (g.2 a ha)
 ·exact both f fun a ha=>(g a ha).imp id .inl
 ·exact both f g
theorem Fp.cons1 {m:Md} {F:Xf} {D:Addr} (f:Fp Φ η H m F) (h:H D=none) (d:D ∉ F):Fp Φ η H m (D :: F):=by
 have all:∀ {P:Addr->Prop},P D->(∀ a∈F,P a)->∀ a∈D :: F,P a:=fun p q a ha=>(Zo.mp ha).elim (fun e=>e ▸ p) (q a)
 cases m
 ·exact ⟨ZY.mpr ⟨d,f.1⟩,all h f.2⟩
 ·exact all (.inl h) f
 ·exact all (.inl h) f
end
section
variable {G:Gx} {k:Nat} {tg:Tg} {ci:Its} {cond:Option Ex} {ce:Ex}
noncomputable def CI (G:Gx) (Φ:Fps) (η η0:VS.Env) (H H1:Hp) (D:Addr) (l:Vl) (all:Vn) (tg:Tg) (cond:Option Ex) (ce:Ex) (i n:Nat) (σ':L2.St) (H':Hp):Prop:=n=l.length - i/\∃ Φ1 vs Fs xs rest,SR G Φ1 η0 σ' H'/\(∀ a,b5 Φ1 η0 a->b5 Φ η a)/\(∀ a,dF Φ1 η0 a->H a=none\/dF Φ η a)/\¬ dF Φ1 η0 D/\¬ b5 Φ1 η0 D/\Kept H1 H' ∧
     (∀ a o,a ≠ D->H1 a=some o->H' a=some o)/\H' D=some (.lst xs)/\RpL G H' xs (trees vs) Fs/\D ∉ Fs.flatten/\Fp Φ η H (bF vs) Fs.flatten/\i7 tg cond ce η0 (l.drop i)=some rest/\vs++rest=all
theorem ou {σ:L2.St} {H:Hp} {Q:VK} (hin:qx k tg) (h:tE G (dX k tg ci cond ce) σ H Q):sG k (tI G ci) (tG G tg) (tC G cond) (tE G ce) σ H Q:=by
 refine L2.fR fun P_ k_=>?_
 obtain ⟨Φ,η,m,r,s,e,kq⟩:=h
 unfold dX at e
 obtain ⟨⟨mi,l⟩,el,e1⟩:=Zz.mp e
 dsimp only at e1
 split at e1
 ·rename_i hok
  obtain ⟨all,ea,e2⟩:=Zz.mp e1
  unfold mkL at e2
  split at e2
  ·rename_i hlen
   cases e2
   refine k_ ?_
   refine ⟨Φ,η,mi,l,s,el,fun J H1 C e3 ok fc D hD=>?_⟩
   have hHD:H D=none:=e3.free hD
   let η0:VS.Env:=List.replicate k none++η
   have good:∀ {t:T} {i:Nat} {H' H2:Hp} {v:V} {F:Xf},l[i]?=some t->Rp G H2 v t F->(∀ a,H1 a ≠ none->H' a ≠ none)->(∀ a∈F,a∈C\/H' a=none)->∀ a∈F,(H a=none\/dF Φ η a)/\¬ b5 Φ η a:=fun {t i H' H2 v F} hi rF keep hF a ha=>by
    have dom:∀ {b},H b ≠ none->H' b ≠ none:=fun {b} hb=>keep b fun z=>hb (e3.free z)
    rcases hF a ha with z | z
    ·rcases fc a z with q | q | ⟨q,w⟩
     ·exact ⟨.inl q,fun w=>Mut.ne_none (s.ow_dom w) q⟩
     ·exact ⟨.inr q,fun w=>s.ow_pu w q⟩
     ·subst q
      have:imm t=true:=by
       exact sN l hok hi
      rw [rF.imm this] at ha
      simp at ha
    ·have hz:H a=none:=Classical.byContradiction fun q=>dom q z
     exact ⟨.inl hz,fun w=>Mut.ne_none (s.ow_dom w) hz⟩
   refine ⟨CI G Φ η η0 H H1 D l all tg cond ce,?_,?_⟩
   ·refine ⟨l.length - 0,rfl,fun i=>Φ (i - k),[],[],[],all,?_,fun a h=>xZ.mp h,fun a h=>.inr (vF.mp h),fun h=>?_,fun h=>?_,Kept.upd (.inr hD),fun a o n h=>by rw [aA n];exact h,aI,.nil,by simp,Fp.nil,by rw [Xj];exact ea,rfl⟩
    ·exact ((s.same e3).sh).off (.inr hD) (fun h=>Mut.ne_none (s.pu_dom (vF.mp h)) hHD) fun h=>Mut.ne_none (s.ow_dom (xZ.mp h)) hHD
    ·exact Mut.ne_none (s.pu_dom (vF.mp h)) hHD
    ·exact Mut.ne_none (s.ow_dom (xZ.mp h)) hHD
   ·intro i n σ' H' hh_
    refine L2.fR fun P_ k_=>?_
    obtain ⟨rfl,Φ1,vs,Fs,xs,rest,s1,ow1,pu1,np1,no1,kp,old,hD',rp,nD,fp,er,ev⟩:=hh_
    refine k_ ?_
    have keepdom:∀ a,H1 a ≠ none->H' a ≠ none:=fun a ha z=>by
     by_cases q:a=D
     ·subst q;rw [hD'] at z;cases z
     ·cases e:H1 a with
      | none=>exact ha e
      | some o=>rw [old a o q e] at z;cases z
    refine L2.fR fun P_ k_=>?_
    obtain ⟨go,stop⟩:=ok.run H' kp fun a ha o ho=>old a o (fun z=>ok.dom a ha (z ▸ hD)) ho
    cases hit:l[i]? with
    | none =>
     have hl:l.length<=i:=YJ.mp hit
     refine k_ ?_
     left
     refine ⟨stop i hl,?_⟩
     rw [YC hl] at er
     cases (show some ([]:Vn)=some rest from er)
     rw [ZG] at ev
     subst ev
     refine kq (.ref D) H' (D :: Fs.flatten) (fun a o h=>old a o (fun z=>by rw [z,hHD] at h;cases h) (e3 a o h)) (.lst hD' rp) ?_
     by_cases hi:fA (trees vs)=true
     ·rw [Zs hi,rp.imm hi]
      exact ⟨by simp,fun a ha=>by rw [Zj.mp ha];exact hHD⟩
     ·rw [Zp hi]
      exact fp.cons1 hHD nD
    | some t =>
     have hl:i < l.length:=(ZZ.mp hit).1
     obtain ⟨g1,y1⟩:=go i t hit
     refine k_ ?_
     right
     refine ⟨g1,fun x H2 yl=>?_⟩
     refine L2.fR fun P_ k_=>?_
     obtain ⟨e8,F,rF,hF⟩:=y1 x H2 yl
     rw [mZ (tgt:=tg) (body:=iF) (η:=η) hit] at er
     rw [i7] at er
     obtain ⟨η3,e4,e5⟩:=Zz.mp er
     obtain ⟨b,eb,e6⟩:=Zz.mp e5
     have gd:=good hit rF keepdom hF
     have s2:=s1.same e8
     have DF:D ∉ F:=fun h=>by
      rcases hF D h with z | z
      ·exact ok.dom D z hD
      ·rw [hD'] at z;cases z
     refine k_ ?_
     refine ⟨Φ1,η0,t,F,η3,s2,rF,fun a ha z=>(gd a ha).2 (ow1 a z),e4,fun Φ3 σ3 s3 o3 p3=>?_⟩
     obtain ⟨tl,tsame⟩:=hin t η0 η3 e4
     have low:∀ j c,η0[j]?=some (some c)->η3[j]?=some (some c):=fun j c h=>by rw [tsame j (jx.mp h).1];exact h
     have pu3:∀ a,dF Φ3 η3 a->H a=none\/dF Φ η a:=fun a h=>(p3 a h).elim (pu1 a) fun h=>(gd a h).1
     have ow3:∀ a,b5 Φ3 η3 a->b5 Φ η a:=fun a h=>ow1 a (o3 a h)
     have np3:¬ dF Φ3 η3 D:=fun h=>(p3 D h).elim np1 DF
     have no3:¬ b5 Φ3 η3 D:=fun h=>no1 (o3 D h)
     have pul:∀ a,dF Φ3 η0 a->dF Φ3 η3 a:=fun a ⟨j,u,h1,h2⟩=>⟨j,u,low j _ h1,h2⟩
     have owl:∀ a,b5 Φ3 η0 a->b5 Φ3 η3 a:=fun a ⟨j,u,h1,h2⟩=>⟨j,u,low j _ h1,h2⟩
     have rest':∀ H4,aS H2 H4->(if b=true then tE G ce σ3 H4 fun y H5=>∃ ys,H5 D=some (.lst ys)/\ys.length < sizeLine/\∃ m',m' < l.length - i/\CI G Φ η η0 H H1 D l all tg cond ce (i+1) m' σ3 (upd H5 D (.lst (ys++[y]))) else ∃ m',m' < l.length - i/\CI G Φ η η0 H H1 D l all tg cond ce (i+1) m' σ3 H4):=fun H4 e9=>by
      have eo:∀ {H5},aS H4 H5->∀ a o,H' a=some o->H5 a=some o:=fun {H5} e10 a o h=>e10 a o (e9 a o (e8 a o h))
      cases b with
      | false =>
       rw [Zp Zi] at e6 ⊢
       have same:=eo (aS.refl H4)
       exact ⟨_,by lia,rfl,Φ3,vs,Fs,xs,rest,(s3.same e9).less (by rw [tl]) low,fun a h=>ow3 a (owl a h),fun a h=>pu3 a (pul a h),fun h=>np3 (pul D h),fun h=>no3 (owl D h),kp.trans ((Kept.of e8).trans (Kept.of e9)),fun a o n h=>same a o (old a o n h),same D _ hD',rp.same (aS.trans e8 e9),nD,fp,e6,ev⟩
      | true =>
       rw [Zs rfl] at e6 ⊢
       obtain ⟨⟨mv,tv⟩,ece,e7⟩:=Zz.mp e6
       obtain ⟨rest1,er1,e7'⟩:=Zm.mp e7
       refine ⟨Φ3,η3,mv,tv,s3.same e9,ece,fun y H5 Fy e10 ry fy=>?_⟩
       have same:=eo e10
       have hD5:=same D _ hD'
       have mD5:Mut (H5 D):=by rw [hD5];exact True.intro
       have hD4:H4 D=some (.lst xs):=e9 D _ (e8 D _ hD')
       have none4:∀ a,H4 a=none->H a=none:=fun a h=>Classical.byContradiction fun q=>keepdom a (fun z=>q (e3.free z)) (e8.free (e9.free h))
       have fyo:Fp Φ η H mv Fy:=by
        cases mv with
        | fr=>exact ⟨fy.1,fun a ha=>none4 a (fy.2 a ha)⟩
        | pu=>exact fun a ha=>(fy a ha).elim (fun z=>.inl (none4 a z)) (pu3 a)
        | bo=>exact fun a ha=>(fy a ha).elim (fun z=>.inl (none4 a z)) fun z=>z.elim (fun z=>(pu3 a z).imp id .inl) fun z=>.inr (.inr (ow3 a z))
       have DFy:D ∉ Fy:=fun h=>by
        cases mv with
        | fr=>have:=fy.2 D h;rw [hD4] at this;cases this
        | pu=>exact (fy D h).elim (fun z=>by rw [hD4] at z;cases z) np3
        | bo=>exact (fy D h).elim (fun z=>by rw [hD4] at z;cases z) fun z=>z.elim np3 no3
       have rp5:RpL G H5 xs (trees vs) Fs:=rp.same ((e8.trans e9).trans e10)
       have lenx:xs.length=vs.length:=by rw [rp.len.1];simp
       have lenv:vs.length < all.length:=by rw [← ev,← e7'];simp
       refine ⟨xs,hD5,?_,_,by lia,rfl,Φ3,vs++[(mv,tv)],Fs++[Fy],xs++[y],rest1,(((s3.same e9).same e10).off (.inl mD5) np3 no3).less (by rw [tl]) low,fun a h=>ow3 a (owl a h),fun a h=>pu3 a (pul a h),fun h=>np3 (pul D h),fun h=>no3 (owl D h),?_,fun a o n h=>?_,aI,?_,?_,?_,er1,?_⟩
       ·have hlen':all.length<=gN:=by simpa using hlen
        have:sizeLine=gN:=rfl
        lia
       ·exact (kp.trans ((Kept.of e8).trans ((Kept.of e9).trans (Kept.of e10)))).trans (Kept.upd (.inl mD5))
       ·rw [aA n];exact same a o (old a o n h)
       ·have:trees (vs++[(mv,tv)])=trees vs++[tv]:=by simp
        rw [this]
        exact (rp5.off mD5 nD).append (.cons (ry.keep (Kept.upd (.inl mD5)) fun b hb o ho=>by rw [aA (fun z=>DFy (by rw [← z];exact hb))];exact ho) .nil)
       ·rw [Z5]
        intro h
        rcases Zd.mp h with z | z
        ·exact nD z
        ·exact DFy (by simpa using z)
       ·rw [Z5,kX]
        have:([Fy]:Yf).flatten=Fy:=by simp
        rw [this]
        refine fp.join2 fyo fun hm a ha hb=>?_
        subst hm
        have h4:=fy.2 a hb
        have:Mut (H4 a):=(rp.same (e8.trans e9)).dom a ha
        rw [h4] at this;exact this
       ·rw [Zl,← ev,← e7'];rfl
     cases cond with
     | none =>
      cases (show some true=some b from eb)
      exact rest' H2 (aS.refl H2)
     | some c =>
      obtain ⟨⟨mc,xc⟩,ec1,ec2⟩:=Zz.mp eb
      exact ⟨Φ3,η3,mc,xc,b,s3,ec1,ec2,fun H4 e9=>rest' H4 e9⟩
  ·cases e2
 ·cases e1
end
section
variable {G:Gx} {X:Cx} {elt tg iter c:Expr} {sc:Scope} {pos pos' spos:Pos} {N:List Str} {k i:Nat} {x:Str} {ci:Its} {g:Tg} {cc ce:Ex}
theorem yY (k:Nat) (N:List Str) (hcalm:X.calm=true) (hi:PVI G X tg iter ci) (hin:qx k g) (hg:∀ cl C s H fp,PVG G (aW X N sc cl C s H fp) tg g) (he:∀ cl C s H fp,PV G (aW X N sc cl C s H fp) elt ce)
  (hsc:jB X.env sc=true:=by rfl) (hnm:iO sc (N.drop k) X.N=true:=by rfl) (hNl:k<=N.length:=by decide) (hs:∀ x,foldedSetIterable iter X.env x=pure x:=by intro _;rfl) :
  PV G X (.ListComp elt [⟨tg,iter,[],0⟩] sc pos) (dX k g ci none ce) :=
 PE.weak (oE hcalm hi hsc hnm hNl (fun cl C s H fp=>⟨hg cl C s H fp,lF,he cl C s H fp⟩) hs) fun σ H Q h=>ou (cond:=none) hin h
theorem uj (k:Nat) (N:List Str) (hcalm:X.calm=true) (hi:PVI G X tg iter ci) (hin:qx k g) (hg:∀ cl C s H fp,PVG G (aW X N sc cl C s H fp) tg g) (hc:∀ cl C s H fp,PVT G (aW X N sc cl C s H fp) c cc) (he:∀ cl C s H fp,PV G (aW X N sc cl C s H fp) elt ce)
  (hsc:jB X.env sc=true:=by rfl) (hnm:iO sc (N.drop k) X.N=true:=by rfl) (hNl:k<=N.length:=by decide) (hs:∀ x,foldedSetIterable iter X.env x=pure x:=by intro _;rfl) :
  PV G X (.ListComp elt [⟨tg,iter,[c],0⟩] sc pos) (dX k g ci (some cc) ce) :=
 PE.weak (oE hcalm hi hsc hnm hNl (fun cl C s H fp=>⟨hg cl C s H fp,vI (hc cl C s H fp),he cl C s H fp⟩) hs) fun σ H Q h=>ou (cond:=some cc) hin h
theorem CA {D:Ends} {σ:L2.St} {H:Hp} {ce:Ex} (h:tS G (hU i ce) D σ H):tE G ce σ H fun v H1=>D.nx (σ.set i (some v)) H1:=by
 refine L2.fR fun P_ k_=>?_
 obtain ⟨Φ,η,o,s,e,k⟩:=h
 unfold hU at e
 obtain ⟨⟨m,t⟩,ec,e1⟩:=Zz.mp e
 obtain ⟨c,eC,e2⟩:=Zz.mp e1
 refine k_ ?_
 split at e2
 ·rename_i hl
  cases e2
  refine ⟨Φ,η,m,t,s,ec,fun v H' F e3 r3 f3=>?_⟩
  obtain ⟨q1,q2⟩:=s.val (c:=c) hl e3 r3 f3 (by
   unfold cellOf at eC
   cases m with
   | fr =>
    simp only [Option.some.injEq] at eC
    split at eC
    ·exact .inr ⟨eC.symm,rfl⟩
    ·exact .inl ⟨eC.symm,by decide⟩
   | pu=>cases eC;exact .inl ⟨rfl,by decide⟩
   | bo=>cases eC)
  exact k _ _ H' q1 q2
 ·cases e2
theorem yq {D:Ends} {σ:L2.St} {H:Hp} {ce:Ex} (h:tS G (aN i ce) D σ H):tE G ce σ H fun v H1=>D.nx (σ.set i (some v)) H1:=by
 refine L2.fR fun P_ k_=>?_
 obtain ⟨Φ,η,o,s,e,k⟩:=h
 unfold aN at e
 obtain ⟨⟨m,t⟩,ec,e1⟩:=Zz.mp e
 refine k_ ?_
 split at e1
 ·cases e1
 ·rename_i hm
  split at e1
  ·rename_i hl
   cases e1
   refine ⟨Φ,η,m,t,s,ec,fun v H' F e3 r3 f3=>?_⟩
   obtain ⟨q1,q2⟩:=s.val (c:=.pu t) hl e3 r3 f3 (.inl ⟨rfl,hm⟩)
   exact k _ _ H' q1 q2
  ·cases e1
theorem vY (k:Nat) (N:List Str) {cS:Sx} (hS:∀ D σ H,tS G cS D σ H->tE G (dX k g ci none ce) σ H fun v H1=>D.nx (σ.set i (some v)) H1) (hcalm:X.calm=true) (hi:PVI G X tg iter ci) (hin:qx k g) (hg:∀ cl C s H fp,PVG G (aW X N sc cl C s H fp) tg g)
  (he:∀ cl C s H fp,PV G (aW X N sc cl C s H fp) elt ce) (hN:X.N.Nodup) (hiN:X.N[i]?=some x:=by rfl) (hx:Loc X.env.scope x:=by first | exact Or.inl rfl | exact Or.inr rfl)
  (hsc:jB X.env sc=true:=by rfl) (hnm:iO sc (N.drop k) X.N=true:=by rfl) (hNl:k<=N.length:=by decide) (hsw:swapsWith (.ListComp elt [⟨tg,iter,[],0⟩] sc pos) (some (.Name x pos')) spos.line X.env=pure true:=by rfl)
  (hf:X.fn x=true\/X.env.scope.names.lookup x=some .local:=by first | exact .inl rfl | exact .inr rfl) (hs:∀ x,foldedSetIterable iter X.env x=pure x:=by intro _;rfl) :
  PSV G X (.Assign [.Name x pos'] (.ListComp elt [⟨tg,iter,[],0⟩] sc pos) spos) cS :=
 PS.weak (qB hN hiN hx hcalm hi hsc hnm hNl (fun cl C s H fp=>⟨hg cl C s H fp,lF,he cl C s H fp⟩) hsw hf hs) fun D σ H h=>ou (cond:=none) hin (hS D σ H h)
end
end VS
end
section
namespace L2
open PySem PySem.Spec PyProof.Rows
noncomputable def Ite (K:Xs) (a:Addr):It :=
 ⟨fun i H=>∃ xs x,SqL K H a xs/\xs[i]?=some x,fun i H v H'=>∃ p x,H p=none/\v=.ref p/\H'=upd H p (.tup [.int i,x])/\∀ xs,SqL K H a xs->xs[i]?=some x,fun i H=>∃ xs,SqL K H a xs/\xs.length<=i⟩
theorem uA {P:Program} {w:World} {K:Xs} {elts:List Expr} {n:Nat} {pos:Pos} (a e it:Addr) (hne:e ≠ it):Turn P w K (.Tuple elts n pos) (Ite K a) [e,it] e (fun i h=>(∃ old,IsEnum h e it i old)/\h.IsListIter it a i) where
 mem:=by simp
 obj:=fun i h st b hb=>by
  obtain ⟨⟨old,he⟩,o,ho,c,d⟩:=st
  rcases Zo.mp hb with rfl | hb
  ·exact ⟨_,he,fun v z=>by cases (show Data.fields _=Data.cell v from z)⟩
  ·rw [Zj.mp hb]
   exact ⟨o,ho,fun v z=>by rw [d] at z;cases z⟩
 keep:=fun i h h' st k=>⟨let ⟨old,he⟩:=st.1;⟨old,k e (by simp) _ he⟩,st.2.at fun o x=>k it (by simp) o x⟩
 item:=by
  intro X hP hw hK hc i pins s σ H E I hf st hg
  subst hP hw hK
  obtain ⟨xs,x,hq,hx⟩:=hg
  obtain ⟨its,rv,p,hz⟩:=I.list hq
  obtain ⟨u,hu,ru⟩:=rv.get hx
  obtain ⟨⟨old,he⟩,hit⟩:=st
  refine wpAny_pyNext_enum_item he hit p.isList (x:=u) (by simpa using hu) hne fun h1 ho hit1 hT hsz hk=>⟨_,rfl,?_⟩
  refine wpAny_letOwnedTupleGo_enum ho fun h2 he2 hs2=>?_
  have hs2:Heap.SameBut e h1 h2:=hs2
  have ltE:e < s.heap.objs.size:=ZU he
  have ltI:it < s.heap.objs.size:=let ⟨_,z,_⟩:=hit;ZU z
  have hHT:H s.heap.objs.size=none:=I.hok.fresh (Zr _)
  have kk:∀ b o,b ∉ [e,it]->s.heap.get? b=some o->h2.get? b=some o:=fun b o hb q=>by
   have h1b:b ≠ e:=fun z=>hb (by simp [z])
   have h2b:b ≠ it:=fun z=>hb (by simp [z])
   exact (hs2.2 b h1b).trans (hk b o h1b h2b q)
  have hT2:h2.get? s.heap.objs.size=some { cls:=.type "tuple",data:=.seq #[.int i s.toks,u] }:=(hs2.2 _ (W1 ltE)).trans hT
  have nfp:∀ b o,H b=some o->b ∉ [e,it]:=fun b o q hb=>by rw [(hf b hb).1] at q;cases q
  have lt:∀ b o,s.heap.get? b=some o->b ≠ s.heap.objs.size:=fun b o q=>ZL (ZU q)
  have up:∀ b o,H b=some o->upd H s.heap.objs.size (.tup [.int i,x]) b=some o:=fun b o q=>by rw [aA (bJ q hHT)];exact q
  have hok2:HOk X.prog X.w (upd H s.heap.objs.size (.tup [.int i,x])) h2:=fun b ob q=>by
   by_cases hb:b=s.heap.objs.size
   ·subst hb
    rw [aI] at q
    cases q
    exact ⟨by show 2<=sizeLine;decide,[.int i s.toks,u],.cons ⟨_,rfl⟩ (.cons ru .nil),NoD.of hT2 rfl,⟨_,hT2,rfl,_,rfl⟩⟩
   ·rw [aA hb] at q
    refine (I.hok b ob q).stay (fun c v hc' r=>kk c v ?_ r) (fun c r=>up c _ r) fun c ys r=>up c _ r
    rcases hc' with z | z
    ·rw [z];exact nfp b ob q
    ·exact nfp c _ z
  refine ⟨.ref s.heap.objs.size,upd H s.heap.objs.size (.tup [.int i,x]),?_,rfl,⟨_,x,hHT,rfl,rfl,fun ys hy=>by rw [I.list_inj hy hq];exact hx⟩,⟨⟨u,by simpa using he2⟩,hit1.at fun o y=>(hs2.2 it hne.symm).trans y⟩,fun b hb=>?_⟩
  ·show Inv X pins σ _ { s with heap:=h2,gens:=s.gens,drawn:=s.drawn,toks:=s.toks+1 }
   refine I.step (g':=s.gens) (d':=s.drawn) (t':=s.toks+1) (ch:=[e,it]) (fun b hb=>?_) (fun b o _ _ hc' q _=>kk b o hc' q) (fun b o _ _ hc' q _=>⟨o.slots,kk b o hc' q⟩) (fun b o _ q r=>by rw [aA (lt b o q)];exact r) (fun b o hc' q=>⟨o,kk b o hc' q⟩)
    (fun b ys q=>up b _ q) (fun b o v q=>up b _ q) (fun b ps q=>⟨#[],by rw [up b _ q];simp⟩) (fun m hm=>?_) hok2 I.bare
   ·obtain ⟨f0,f1,f2,f3,f4,f5⟩:=hf b hb
    exact ⟨f3,f1,f4,f5⟩
   ·obtain ⟨o,es,ep,ho',r⟩:=hm
    refine ⟨o,es,ep,kk _ o (fun z=>?_) ho',r⟩
    exact (hf _ z).2.1 rfl
  ·have:b ≠ s.heap.objs.size:=by
    rcases Zo.mp hb with rfl | hb
    ·exact ZL ltE
    ·rw [Zj.mp hb];exact ZL ltI
   rw [aA this]
   exact (hf b hb).1
 done:=by
  intro X hP hw hK hc i pins s σ H E I hf st hg
  subst hP hw hK
  obtain ⟨xs,hq,hx⟩:=hg
  obtain ⟨its,rv,p,hz⟩:=I.list hq
  obtain ⟨⟨old,he⟩,hit⟩:=st
  obtain ⟨f0,f1,f2,f3,f4,f5⟩:=hf it (by simp)
  have hl:=rv.length
  exact wpAny_pyNext_enum_end (I.ok.hd hc) he hit p.isList (by simp;lia) fun h' eb=>⟨rfl,I.turned (t':=s.toks) (fun b o hb q=>eb b o hb q) f0 f1 f3 f4 f5⟩
 self:=fun _ _ _ _ _ st h=>let ⟨_,he⟩:=st.1;wpAny_pyIter_enum he h
section
variable {X:Cx} {tg a:Expr} {ta:TA} {p pos:Pos}
noncomputable def EO (K:Xs) (ta:TA):TI:=fun σ H R=>ta σ H fun vs H1=>∃ l,vs=[.ref l]/\(∃ xs,SqL K H1 l xs)/\R (Ite K l) H1
theorem Ad {elts:List Expr} {n:Nat} {tpos:Pos} (hg:Gl X "enumerate") (hm:X.mg "enumerate" = none) (ha:PA X [a] ta) (hs:starEach [a] X.env=[(false,eval a X.env)]:=by rfl):PI X (.Tuple elts n tpos) (.Call (.Name "enumerate" p) [a] [] pos) (EO X.K ta):=by
 intro pins s σ H R I h
 refine Call_ (j3 I hg hm boot_enumerate (X9 (thn (ha pos pins s σ H _ I h) fun us s1 ⟨vs,H1,I1,r1,q1⟩=>?_) hs rfl))
 obtain ⟨l,e,⟨xs,hq⟩,q⟩:=q1
 subst e
 cases r1 with
 | cons r rr =>
  cases rr
  cases r
  obtain ⟨its,rv,pl,hz⟩:=I1.list hq
  refine call_enumerate_list pl.isList fun h' he hit hsz hk=>?_
  refine wpAny_pyIter_enum he ?_
  refine ⟨_,_,_,_,H1,rfl,I1.kept (t':=s1.toks) hk,uA l (s1.heap.objs.size+1) s1.heap.objs.size (Nat.succ_ne_self _),⟨⟨_,he⟩,hit⟩,fun b hb=>?_,q⟩
  have hb':s1.heap.objs.size<=b:=by
   rcases Zo.mp hb with rfl | hb
   ·exact ZM _ _
   ·rw [Zj.mp hb];exact Zr _
  exact I1.fpOk hb' (I1.hok.fresh hb')
end
end L2
namespace VS
open PySem PySem.Spec PyProof.Rows L2
section
variable {G:Gx} {X:Cx} {a:Expr} {ca:Ex} {pos p tpos:Pos} {elts:List Expr} {n:Nat}
theorem oH:∀ (l:Vl) (k i:Nat) {t:T},(dq k l)[i]?=some t->∃ x,l[i]?=some x/\t=.tup [.int ((k+i:Nat):Int),x]
 | [],_,_,_,h=>by simp [dq] at h
 | x :: l,k,0,t,h=>by
  simp [dq] at h
  exact ⟨x,rfl,by rw [← h];rfl⟩
 | x :: l,k,i+1,t,h=>by
  obtain ⟨y,h1,h2⟩:=oH l (k+1) i (by simpa [dq] using h)
  refine ⟨y,by simpa using h1,?_⟩
  rw [h2,show k+1+i=k+(i+1) by lia]
theorem m7:∀ (l:Vl) (k:Nat),(dq k l).length=l.length
 | [],_=>rfl
 | x :: l,k=>by simp [dq,m7 l (k+1)]
theorem zQ {H:Hp} {a:Addr} {vs:List V} {ts:Vl} {Fs:Yf} (K:Xs) (ha:H a=some (.lst vs)) (r:RpL G H vs ts Fs):ItOk G (Ite K a) (dq 0 ts) (a :: Fs.flatten) H:=by
 refine ⟨fun H2 k c=>?_,fun b hb=>?_⟩
 ·have ha2:H2 a=some (.lst vs):=c a Zw _ ha
  have r2:RpL G H2 vs ts Fs:=r.keep k fun b hb o ho=>c b (Zx _ hb) o ho
  refine ⟨fun i t h=>?_,fun i h=>⟨vs,SqL.of ha2,by rw [m7] at h;rw [r.len.1];exact h⟩⟩
  obtain ⟨y,hy,et⟩:=oH ts 0 i h
  rw [Xu] at et
  obtain ⟨v,F,h1,h2,h3⟩:=r2.get i hy
  refine ⟨⟨vs,v,SqL.of ha2,h1⟩,fun x H3 ⟨p,z,hp,e1,e2,e3⟩=>?_⟩
  subst e1 e2
  have ex:=e3 vs (SqL.of ha2)
  rw [h1] at ex
  cases ex
  have sm:aS H2 (upd H2 p (.tup [.int i,v])):=fun b o q=>by rw [aA (bJ q hp)];exact q
  refine ⟨sm,F,?_,fun b hb=>.inl (Zx _ (fP h2 hb))⟩
  rw [et]
  have:F=([[],F]:Yf).flatten:=by simp
  rw [this]
  exact .tup aI (.cons (.int _) (.cons (h3.same sm) .nil))
 ·rcases Zo.mp hb with rfl | hb
  ·rw [ha];exact fun z=>nomatch z
  ·exact Mut.ne_none (r.dom b hb)
theorem vo (ha:PV G X a ca) (hg:Gl X "enumerate") (hm:X.mg "enumerate" = none) (hs:starEach [a] X.env=(false,eval a X.env) :: starEach [] X.env:=by rfl) (hs':starEach [a] X.env=[(false,eval a X.env)]:=by rfl) :
  PVI G X (.Tuple elts n tpos) (.Call (.Name "enumerate" p) [a] [] pos) (ir ca) :=
 PI.weak (Ad hg hm (fI ha gZ hs) hs') fun σ H R ⟨Φ,η,m,l,s,e,k⟩=>by
  unfold ir at e
  obtain ⟨⟨mx,x⟩,ea,e1⟩:=Zz.mp e
  refine ⟨Φ,η,mx,x,s,ea,fun v H' F e3 r3 f3=>?_⟩
  cases x with
  | lst ts =>
   cases e1
   obtain ⟨a',vs,Fs,rfl,rfl,ha',ra⟩:=r3.lst_inv
   exact ⟨a',rfl,⟨vs,SqL.of ha'⟩,k _ H' _ e3 (zQ X.K ha' ra) f3.c⟩
  | _=>cases e1
end
noncomputable instance {s:Tx}:Decidable (i4 s):=inferInstanceAs (Decidable (_/\_))
section
variable {G:Gx} {X:Cx} {a b c e:Expr} {es:List Expr} {ca cb cc:Ex} {cs:Exs} {pos p p1 p2 apos cpos:Pos} {k k':Nat}
theorem w_add (ha:PV G X a ca) (hb:PV G X b cb):PV G X (.BinOp a .Add b pos) (e2 bZ ca cb):=nG zo BU ha hb
theorem w_sub (ha:PV G X a ca) (hb:PV G X b cb):PV G X (.BinOp a .Sub b pos) (e2 qk ca cb):=nG BV Ce ha hb
theorem w_mul (ha:PV G X a ca) (hb:PV G X b cb):PV G X (.BinOp a .Mult b pos) (e2 ft ca cb):=nG CB Cg ha hb
theorem Bg (ha:PV G X a ca) (hb:PV G X b cb):PV G X (.BinOp a .FloorDiv b pos) (e2 gf ca cb):=nG zr zF ha hb
theorem w_mod (ha:PV G X a ca) (hb:PV G X b cb):PV G X (.BinOp a .Mod b pos) (e2 oMod ca cb):=nG Cz BJ ha hb
theorem DT (ha:PV G X a ca) (hb:PV G X b cb):PVT G X (.Compare a [.Lt] [b] pos) (e2 oLt ca cb):=g8 vB AL kW ha hb (kj _)
theorem w_eq (hr:Room k X.A) (ha:PV G X a ca) (hb:PV G X b cb):PV G X (.Compare a [.Eq] [b] pos) (e2 oEq ca cb):=Br (vh hr.units) AQ ha hb (kj _)
theorem D2 (hr:Room k X.A) (ha:PV G X a ca) (hb:PV G X b cb):PVT G X (.Compare a [.Eq] [b] pos) (e2 oEq ca cb):=g8 (vh hr.units) AQ tells_eq ha hb (kj _)
theorem Eo (hr:Room k X.A) (ha:PV G X a ca) (hb:PV G X b cb):PVT G X (.Compare a [.NotEq] [b] pos) (e2 oNe ca cb):=g8 (CW hr.units) C7 wW ha hb (kj _)
theorem D5 (ha:PV G X a ca) (hb:PV G X b cb) (hs:fF b:=by intro _ _;rfl) (hK:X.K=G.K:=by rfl):PV G X (.Subscript a b pos) (e2 bq ca cb) :=
 PE.weak (rL vi ha hb hs) fun σ H Q h=>by rw [hK];exact me uU h
theorem Ei (hm:X.mg "len" = none) (ha:PVs G X [e] cs) (hg:Gl X "len" := by rfl) (hK:X.K=G.K:=by rfl) (he:starEach [e] X.env=(false,eval e X.env) :: starEach [] X.env:=by rfl):PV G X (.Call (.Name "len" p) [e] [] pos) (eN fz cs) :=
 qy (hK ▸ tY) CP hg hm PySem.boot_len ha (he:=he) (hpl:=rfl)
theorem BK:bootBuiltins ("min" : Str)=some (.builtin "min"):=by decide +kernel
theorem zm:bootBuiltins ("list" : Str)=some (.type "list"):=by decide +kernel
theorem Cs (hm:X.mg "min" = none) (ha:PVs G X [a,b] cs) (hc:X.calm=true:=by rfl) (hg:Gl X "min" := by rfl) (he:starEach [a,b] X.env=(false,eval a X.env) :: starEach [b] X.env:=by rfl) (hpl:(backTo pos (starEach [b] X.env)).any (·.1)=false:=by rfl):PV G X (.Call (.Name "min" p) [a,b] [] pos) (eN mO cs) :=
 qy (tW hc) Ab hg hm BK ha (he:=he) (hpl:=hpl)
noncomputable def tyN:Ty->Str
 | .int => "int" | .str => "str" | .bool => "bool" | .list => "list" | .tuple => "tuple" | .dict => "dict"
theorem Es (t:Ty):bootBuiltins (tyN t)=some (.type (tyS t)):=by cases t <;> decide +kernel
theorem w_is (t:Ty) (hm:X.mg "isinstance" = none) (hm2:X.mg (tyN t)=none) (ha:PV G X a ca) (hg:Gl X "isinstance" := by rfl) (hg2:Gl X (tyN t):=by rfl) (hK:X.K=G.K:=by rfl)
  (hs:starEach [a,.Name (tyN t) p2] X.env=(false,eval a X.env) :: starEach [.Name (tyN t) p2] X.env:=by rfl):PV G X (.Call (.Name "isinstance" p1) [a,.Name (tyN t) p2] [] pos) (eIs t ca) :=
 DM t ha hg hm hg2 hm2 (Es t) hK (by cases t <;> decide) (by cases t <;> decide) hs rfl rfl
theorem xo (i:Nat) {x:Str} (ha:PVs G X [e] cs) (hK:X.K=G.K:=by rfl)
  (hN:X.N[i]?=some x:=by rfl) (hv:Vis X.env.scope x:=by first | exact Or.inl rfl | exact Or.inr (Or.inl rfl) | exact Or.inr (Or.inr rfl)) (hd:(x == ("__debug__" : Str))=false:=by decide)
  (hcd:(x == ("__classdict__" : Str))=false:=by decide) (hfew:((backTo cpos (starEach [e] X.env)).all (fun x=>!x.1) && (backToKw cpos (keywordEach [] X.env)).all (fun x=>x.1.isSome)
   && decide ([e].length+([]:List Keyword).length+(if ([]:List Keyword).isEmpty then 0 else 1) < 30))=true:=by rfl)
  (hline:(apos.endLine == cpos.line)=true:=by rfl) (hs:starEach [e] X.env=(false,eval e X.env) :: starEach [] X.env:=by rfl) :
  PSV G X (.Expr (.Call (.Attribute (.Name x p1) "append" apos) [e] [] cpos) pos) (sX (j5 i [] aV cs)) :=
 wa i Xy Y9 Y8 fN gH (fun H v t F l z r h=>ff r h) ha hK hN hv hd hcd rfl hfew hline hs rfl rfl
end
structure FnAt (P:Program) (w:World) (K:Xs) (mg:Xg) (base:Heap) (k:Nat) (x:Str) (ps:List Str) (G:Gx) (g:Fn):Prop where
 ex:∃ f fd,FnOk P w K mg base CX0 k f fd ps (spF G g)/\mg x=some (.ref f)/\PySem.W.keepIn K (.ref f)=true/\Binds K fd ps []
section
variable {G:Gx} {X:Cx} {e:Expr} {es:List Expr} {cs:Exs} {pos p:Pos} {k k':Nat} {x:Str} {ps:List Str} {g:Fn}
theorem CO (F:FnAt X.prog X.w X.K X.mg X.base k x ps G g) (hr:Room k' X.A) (ha:PVs G X (e :: es) cs) (hk:k<=k':=by decide) (hg:Gl X x:=by rfl) (hdb:(x == ("__debug__" : Str))=false:=by decide)
  (he:starEach (e :: es) X.env=(false,eval e X.env) :: starEach es X.env:=by rfl) (hpl:(backTo pos (starEach es X.env)).any (·.1)=false:=by rfl) :
  PV G X (.Call (.Name x p) (e :: es) [] pos) (aL g cs):=by
 obtain ⟨f,fd,h1,h2,h3,h4⟩:=F.ex
 exact yE h1 (hr.mono hk) hg h2 h3 h4 ha hdb he hpl
end
section
variable {G:Gx} {P:Program} {w:World} {K:Xs} {mg:Xg} {base:Heap}
theorem Ea {x:Str} {st:Stmt} {f:Addr} {fd:FuncData} {N ps:List Str} {k np nn:Nat} {c:Sx} (F:Fun K x x st f fd) (hm:mg x=some (.ref f)) (S:FnScope N ps (ao st)) (hp:ps.length=np) (hn:N.length=nn)
  (hbd:∀ (kV doc pm:Value) (an:Option Addr) (cdv ct:Value) (us:Xb),us.length=ps.length->bindArgs (PySem.W.fnOf x x (aT st) (aM st) (ao st) .none kV doc pm an cdv ct) ⟨us,[]⟩=pure (ps.zip us))
  (hb:∀ (cdv:Value) (A:Around) (outer:List PySem.Env) (s:Shared) (H:Hp) (E:XK),Room k (A.deeper (envOfC x (ao st) s.heap.objs.size f cdv))->fE G (mI CX0 P w K mg base N x (ao st) f cdv A outer s H E).nox (aM st) c) :
  FnAt P w K mg base (k+1) x ps G (fn np nn c) :=
 ⟨f,fd,fnV F S hp hn hb,hm,F.kp,F.binds hbd⟩
end
end VS
end
section
namespace L2
open PySem PySem.Spec PyProof.Rows
noncomputable def Its (x:Str):It:=⟨fun i _=>i < x.cps.size,fun i H v H'=>H'=H/\∃ c,x.cps[i]?=some c/\v=.str ⟨#[c]⟩,fun i _=>x.cps.size<=i⟩
theorem mP {P:Program} {w:World} {K:Xs} {tg:Expr} (x:Str) (t:Tok) (it:Addr) (ty:String) (hn:["enumerate", "zip", "dict_itemiterator", "dict_reverseitemiterator", "odict_iterator", "itertools.zip_longest", "itertools.pairwise"].contains ty=false)
  (W:∀ A:Around,A.handled=none->Walks P w A it [it] [it] x.cps.size (fun i v=>∃ c u,x.cps[i]?=some c/\v=.str ⟨#[c]⟩ u) (fun i h=>h.IsStrIter it ty x t i)) (hend:∀ (A:Around),A.handled=none->∀ (i:Nat) (s:Shared) (Q:Vy->Shared->Prop) (E:Yy),s.heap.IsStrIter it ty x t i->x.cps[i]?=none->(∀ h',Heap.ExtBut it s.heap h'->Q none { s with heap:=h' })->wpAny (model P w) A (pyNext (.ref it)) Q E s)
  (hself:∀ (A:Around) (i:Nat) (s:Shared) (Q:Yy) (E:Yy),s.heap.IsStrIter it ty x t i->Q (.ref it) s->wpAny (model P w) A (pyIter (.ref it)) Q E s) :
  Turn P w K tg (Its x) [it] it (fun i h=>h.IsStrIter it ty x t i) where
 mem:=by simp
 obj:=fun i h st b hb=>by
  rw [Zj.mp hb]
  obtain ⟨o,e,c,d⟩:=st
  exact ⟨o,e,fun v z=>by rw [d] at z;cases z⟩
 keep:=fun i h h' st k=>let ⟨o,e,r⟩:=st;⟨o,k it (by simp) o e,r⟩
 item:=by
  intro X hP hw hK hc i pins s σ H E I hf st hg
  subst hP hw hK
  obtain ⟨f0,f1,f2,f3,f4,f5⟩:=hf it (by simp)
  refine (W X.A (I.ok.hd hc)).item i s _ _ hg st fun v h' tk hv st' kk=>?_
  obtain ⟨c,u,hc',rfl⟩:=hv
  have I1:Inv X pins σ H { s with heap:=h',toks:=tk }:=I.turned (fun b o hb e=>kk b o (by simpa using hb) e) f0 f1 f3 f4 f5
  obtain ⟨o,e,c1,d⟩:=id st'
  exact ⟨_,rfl,qv (s:={ s with heap:=h',toks:=tk }) e c1 d hn ⟨.str ⟨#[c]⟩,H,I1,⟨u,rfl⟩,⟨rfl,c,hc',rfl⟩,st',fun b hb=>(hf b hb).1⟩⟩
 done:=by
  intro X hP hw hK hc i pins s σ H E I hf st hg
  subst hP hw hK
  obtain ⟨f0,f1,f2,f3,f4,f5⟩:=hf it (by simp)
  have hx:x.cps.size<=i:=hg
  exact hend X.A (I.ok.hd hc) i s _ _ st (by simp [hx]) fun h' eb=>⟨rfl,I.turned (t':=s.toks) (fun b o hb e=>eb b o hb e) f0 f1 f3 f4 f5⟩
 self:=fun A i s Q E st h=>hself A i s Q E st h
theorem vU {P:Program} {w:World} {K:Xs} {tg:Expr} (x:Str) (t:Tok) (it:Addr):Turn P w K tg (Its x) [it] it (fun i h=>h.IsStrIter it (strIterType x) x t i):=by
 cases ha:x.cps.all (· < 128)
 ·have e:strIterType x = "str_iterator" := by simp [strIterType,ha]
  rw [e]
  exact mP x t it "str_iterator" rfl (fun A hA=>Walks.strWide hA it x t) (fun A hA i s Q E st hx q=>wpAny_pyNext_wide_end hA st hx q) fun A i s Q E st q=>wpAny_pyIter_striter_wide st q
 ·have e:strIterType x = "str_ascii_iterator" := by simp [strIterType,ha]
  rw [e]
  exact mP x t it "str_ascii_iterator" rfl (fun A hA=>Walks.strAscii hA it x t) (fun A hA i s Q E st hx q=>wpAny_pyNext_ascii_end hA st hx q) fun A i s Q E st q=>wpAny_pyIter_striter_ascii st q
section
variable {X:Cx} {tg l a b c:Expr} {tl ta tb tc:TE} {pos:Pos}
noncomputable def Ep (K:Xs) (tl:TE):TI:=fun σ H R=>tl σ H fun x H1=>(∃ a,x=.ref a/\(∃ xs,SqL K H1 a xs)/\R (Itl K a) H1)\/(∃ a,x=.ref a/\(∃ xs,SqT K H1 a xs)/\R (Itt K a) H1)\/∃ z,x=.str z/\R (Its z) H1
theorem yy (hl:PE X l tl):PI X tg l (Ep X.K tl):=by
 intro pins s σ H R I h
 refine thn (hl pins s σ H _ I h) fun v s1 ⟨x,H1,I1,r1,q1⟩=>?_
 have fp1:∀ b∈[s1.heap.objs.size],jf X pins H1 b:=fun b hb=>by
  rw [Zj.mp hb]
  exact I1.fpOk (Zr _) (I1.hok.fresh (Zr _))
 rcases q1 with ⟨a,e,⟨xs,hq⟩,q⟩ | ⟨a,e,⟨xs,hq⟩,q⟩ | ⟨z,e,q⟩
 ·subst e
  cases r1
  obtain ⟨its,rv,p,hz⟩:=I1.list hq
  exact wpAny_pyIter_list p.isList ⟨s1.heap.objs.size,[s1.heap.objs.size],_,_,H1,rfl,I1.kept (t':=s1.toks) fun b o e=>Ze _ e,mK a _,⟨_,ZV _ rfl,rfl,rfl⟩,fp1,q⟩
 ·subst e
  cases r1
  obtain ⟨its,rv,p,hz⟩:=I1.tuple hq
  exact wpAny_pyIter_tuple (show s1.heap.IsTuple a its.toArray from p) ⟨s1.heap.objs.size,[s1.heap.objs.size],_,_,H1,rfl,I1.kept (t':=s1.toks) fun b o e=>Ze _ e,lS a _,⟨_,ZV _ rfl,rfl,rfl⟩,fp1,q⟩
 ·subst e
  obtain ⟨t,rfl⟩:=r1
  exact wpAny_pyIter_strU ⟨s1.heap.objs.size,[s1.heap.objs.size],_,_,H1,rfl,I1.kept (t':=s1.toks) fun b o e=>Ze _ e,vU z t _,⟨_,ZV _ rfl,rfl,rfl⟩,fp1,q⟩
theorem um:OpR X (compareOp .Gt) (fun x y H Q=>∃ i j,x=.str i/\y=.str j/\Q (.bl (decide (j.cps.toList < i.cps.toList))) H):=by
 intro pins s σ H x y v u Q I rx ry h
 obtain ⟨i,j,rfl,rfl,q⟩:=h
 obtain ⟨t,rfl⟩:=rx
 obtain ⟨t',rfl⟩:=ry
 exact PySem.P.gt_str ⟨.bl _,H,I,rfl,q⟩
theorem uH:OpR X (compareOp .GtE) (fun x y H Q=>∃ i j,x=.str i/\y=.str j/\Q (.bl (!decide (i.cps.toList < j.cps.toList))) H):=by
 intro pins s σ H x y v u Q I rx ry h
 obtain ⟨i,j,rfl,rfl,q⟩:=h
 obtain ⟨t,rfl⟩:=rx
 obtain ⟨t',rfl⟩:=ry
 exact PySem.P.ge_str ⟨.bl _,H,I,rfl,q⟩
end
end L2
end
section
namespace VS
open PySem PySem.Spec PyProof.Rows L2
section
variable {G:Gx} {X:Cx} {a b c e tg:Expr} {es:List Expr} {ca cb cc:Ex} {cs:Exs} {pos p p1 p2 apos cpos:Pos} {k k':Nat}
theorem C2 (H:Hp) (s:Tx) (ok:i4 s):ItOk G (L2.Its (sx s)) (s.map fun c=>T.str [c]) [] H:=by
 have sz:(sx s).cps.size=s.length:=rfl
 refine ⟨fun H2 _ _=>⟨fun i t h=>?_,fun i h=>(by rw [Zv] at h;show (sx s).cps.size<=i;lia)⟩,fun a h=>by simp at h⟩
 rw [Z1] at h
 obtain ⟨c,hc,rfl⟩:=Zm.mp h
 refine ⟨(by show i < (sx s).cps.size;have:=(ZZ.mp hc).1;lia),fun x H3 ⟨e1,c',hc',e2⟩=>?_⟩
 subst e1
 have:c'=c:=by
  have h1:(sx s).cps[i]?=some c:=by simp [sx,hc]
  rw [h1] at hc';exact (ZI hc').symm
 subst this
 rw [e2]
 exact ⟨aS.refl _,[],.str [c'] ⟨(by show 1<=gN;decide),fun d hd=>by rw [Zj.mp hd];exact ok.2 c' (YH hc)⟩,fun a h=>by simp at h⟩
theorem AF (ha:PV G X a ca) (hK:X.K=G.K:=by rfl):PVI G X tg a (fS ca) :=
 PI.weak (yy ha) fun σ H R ⟨Φ,η,m,l,s,e,k⟩=>by
  unfold fS at e
  obtain ⟨⟨mx,x⟩,ea,e1⟩:=Zz.mp e
  refine ⟨Φ,η,mx,x,s,ea,fun v H' F e3 r3 f3=>?_⟩
  cases x with
  | lst ts =>
   cases e1
   obtain ⟨a',vs,Fs,rfl,rfl,ha',ra⟩:=r3.lst_inv
   exact .inl ⟨a',rfl,⟨vs,SqL.of ha'⟩,k _ H' _ e3 (yT X.K ha' ra) f3.c⟩
  | tup ts =>
   cases e1
   obtain ⟨a',vs,Fs,rfl,rfl,ha',ra⟩:=r3.tup_inv
   exact .inr (.inl ⟨a',rfl,⟨vs,SqT.of ha'⟩,k _ H' _ e3 (B7 X.K ha' ra) f3.c⟩)
  | str z =>
   cases e1
   obtain ⟨rfl,ok⟩:=r3.str_inv
   exact .inr (.inr ⟨_,rfl,k _ H' [] e3 (C2 H' z ok) fun a h=>by simp at h⟩)
  | _=>cases e1
theorem wH:bootBuiltins ("tuple" : Str)=some (.type "tuple"):=by decide +kernel
theorem wm:hZ G (fun xs H Q=>∃ p ys,xs=[.ref p]/\((SqL G.K H p ys/\∀ l,H l=none->Q (.ref l) (upd H l (.tup ys)))\/(SqT G.K H p ys/\Q (.ref p) H))) gy:=by
 intro Φ η H0 H l vs Fs m t Q A e k
 unfold gy at e
 split at e
 ·rename_i mx x
  split at e
  ·rename_i hl
   cases e
   obtain ⟨v,F,rfl,rfl,rx⟩:=(show RpL G H vs [.lst x] Fs from A.rp).one
   obtain ⟨a,ys,Gs,rfl,rfl,ha,ra⟩:=rx.lst_inv
   have f:=(A.fp.each 0 _ _ rfl rfl).sub (YR _ _)
   refine ⟨a,ys,rfl,.inl ⟨SqL.of ha,fun q hq=>?_⟩⟩
   have sm:aS H (upd H q (.tup ys)):=cE hq
   have r:Rp G (upd H q (.tup ys)) (.ref q) (.tup x) Gs.flatten:=.tup aI (ra.same sm)
   exact k _ _ _ sm r (f.up r)
  ·cases e
 ·cases e
theorem zp (hm:X.mg "tuple" = none) (ha:PVs G X [e] cs) (hg:Gl X "tuple" := by rfl) (hK:X.K=G.K:=by rfl) (he:starEach [e] X.env=(false,eval e X.env) :: starEach [] X.env:=by rfl):PV G X (.Call (.Name "tuple" p) [e] [] pos) (eN gy cs) :=
 jV mD (hK ▸ wm) hg hm wH ha (he:=he) (hpl:=rfl)
noncomputable def rGt:R2:=fun x y H Q=>rI0 (fun i j=>.bl (decide (j < i))) x y H Q\/(∃ i j,x=.str i/\y=.str j/\Q (.bl (decide (j.cps.toList < i.cps.toList))) H)
noncomputable def rGe:R2:=fun x y H Q=>rI0 (fun i j=>.bl (decide (j<=i))) x y H Q\/(∃ i j,x=.str i/\y=.str j/\Q (.bl (!decide (i.cps.toList < j.cps.toList))) H)
theorem wU (s t:Tx):decide ((sx s).cps.toList < (sx t).cps.toList)=ltx s t:=by rw [mf];exact decide_eq_decide.mpr (by simp [sx])
theorem El:gn G rGt oGt:=by
 intro Φ η H0 H x y u w F1 F2 m t Q tw e k
 obtain ⟨m1,x⟩:=x
 obtain ⟨m2,y⟩:=y
 obtain ⟨same,r1,r2,f1,f2,nd⟩:=tw
 unfold oGt oLt at e
 split at e
 ·rename_i e1 e2
  cases e1
  cases e2
  cases e
  exact .inl ⟨_,_,r1.int_inv,r2.int_inv,bC k (.bl _)⟩
 ·rename_i s _ s' e1 e2
  cases e1
  cases e2
  cases e
  refine .inr ⟨_,_,r1.str_inv.1,r2.str_inv.1,?_⟩
  rw [wU]
  exact bC k (.bl _)
 ·cases e
theorem D1:gn G rGe oGe:=by
 intro Φ η H0 H x y u w F1 F2 m t Q tw e k
 obtain ⟨m1,x⟩:=x
 obtain ⟨m2,y⟩:=y
 obtain ⟨same,r1,r2,f1,f2,nd⟩:=tw
 unfold oGe oLe at e
 split at e
 ·rename_i e1 e2
  cases e1
  cases e2
  cases e
  exact .inl ⟨_,_,r1.int_inv,r2.int_inv,bC k (.bl _)⟩
 ·rename_i s _ s' e1 e2
  cases e1
  cases e2
  cases e
  refine .inr ⟨_,_,r1.str_inv.1,r2.str_inv.1,?_⟩
  rw [wU]
  exact bC k (.bl _)
 ·cases e
theorem xq:Tells oGt:=fun x y m t e=>kW y x m t e
theorem xO:Tells oGe:=fun x y m t e=>u4 y x m t e
theorem Er (ha:PV G X a ca) (hb:PV G X b cb):PVT G X (.Compare a [.Gt] [b] pos) (e2 oGt ca cb):=g8 (r:=rGt) (Dq.or um) El xq ha hb (kj _)
theorem Ey (ha:PV G X a ca) (hb:PV G X b cb):PVT G X (.Compare a [.GtE] [b] pos) (e2 oGe ca cb):=g8 (r:=rGe) (DC.or uH) D1 xO ha hb (kj _)
theorem wZ {r r':R2} {f g:Val->Val->Vm} (ok:gn G r f) (ok':gn G r' g) {σ:L2.St} {H:Hp} {Q:VK} (h:tE G (ij f g ca cb cc) σ H Q):vn r r' (tE G ca) (tE G cb) (tE G cc) σ H Q:=by
 obtain ⟨Φ,η,m,t,s,e,k⟩:=h
 unfold ij at e
 obtain ⟨x,ea,e⟩:=Zz.mp e
 obtain ⟨y,eb,e⟩:=Zz.mp e
 obtain ⟨⟨mz,z⟩,ez,e⟩:=Zz.mp e
 refine vG s ea eb fun u w H2 F1 F2 tw=>ok Φ η H H2 x y u w F1 F2 mz z _ tw ez fun v H3 F e1 r1 f1=>?_
 cases z with
 | bl q =>
  refine ⟨q,r1.bl_inv,?_⟩
  cases q with
  | false =>
   cases e
   rw [Zp Zi]
   exact k _ H3 [] (tw.same.trans e1) (.bl false) Fp.nil
  | true =>
   rw [Zs rfl]
   obtain ⟨z2,ec,e⟩:=Zz.mp (show (cc η).bind (fun z=>g y z)=some (m,t) from e)
   have sm:=tw.same.trans e1
   refine ⟨Φ,η,z2.1,z2.2,s.same sm,ec,fun w2 H4 F4 e4 r4 f4=>?_⟩
   refine ok' Φ η H H4 y z2 w w2 F2 F4 m t Q ⟨sm.trans e4,(tw.r2.same e1).same e4,r4,tw.f2,f4.back sm,fun hx hy=>?_⟩ e fun v' H5 F5 e5 r5 f5=>k v' H5 F5 ((sm.trans e4).trans e5) r5 f5
   have f2:=tw.f2
   rw [hx] at f2
   rw [hy] at f4
   refine ZJ.mpr ⟨f2.1,f4.1,fun a ha b hb z=>?_⟩
   subst z
   exact Mut.ne_none ((tw.r2.same e1).dom a ha) (f4.2 a hb)
 | _=>cases e
end
end VS
end
section
namespace L2
open PySem PySem.Spec PyProof.Rows
section
variable {X:Cx}
theorem tU {α:Type} (l:List α) (n:Nat):∀ acc:List α,List.foldl (fun x1 x2=>x1++x2) acc.toArray (List.replicate n l.toArray)=(acc++(List.replicate n l).flatten).toArray:=by
 induction n with
 | zero=>intro acc;simp
 | succ n ih =>
  intro acc
  rw [X8,XU]
  have e:acc.toArray++l.toArray=(acc++l).toArray:=by simp
  rw [e,ih (acc++l),X8,Zf,Zl]
theorem zN:OpR X (binaryOp .Mult) (fun x y H Q=>∃ (l:Vr) (k:Int),x=.str ⟨l.toArray⟩/\y=.int k/\-(2 ^ 62)<=k/\k < 2 ^ 62/\l.length * k.toNat<=sizeLine/\Q (.str ⟨(List.replicate k.toNat l).flatten.toArray⟩) H):=by
 intro pins s σ H x y v u Q I rx ry h
 obtain ⟨l,k,rfl,rfl,h1,h2,hz,q⟩:=h
 obtain ⟨t,rfl⟩:=rx
 obtain ⟨t',rfl⟩:=ry
 have hlen:(⟨l.toArray⟩:Str).length=l.length:=rfl
 refine PySem.P.mul_str ?_ ?_ ?_ ?_
 ·rw [Bool.or_eq_false_iff]
  exact ⟨decide_eq_false (by lia),decide_eq_false (by lia)⟩
 ·intro h3 _ hh
  rw [hlen] at hh
  have hk:0 < k:=by lia
  have:(l.length:Int) * k<=16777216:=by
   have hz':l.length * k.toNat<=16777216:=hz
   have:((l.length * k.toNat:Nat):Int)<=16777216:=by lia
   rw [Int.natCast_mul] at this
   rwa [Int.toNat_of_nonneg (by lia)] at this
  have h5:(l.length:Int) * k<=2 ^ 63 - 1:=by lia
  have:=(Int.le_ediv_iff_mul_le hk).mpr h5
  lia
 ·intro _ _
  rw [hlen]
  exact decide_eq_false (by show ¬ _ > _;exact Nat.not_lt.mpr hz)
 ·by_cases h3:k < 1
  ·rw [Zs h3]
   have e:k.toNat=0:=by lia
   rw [e] at q
   exact ⟨by decide,⟨.str ⟨#[]⟩,H,I.tok _,⟨_,rfl⟩,q⟩⟩
  ·rw [Zp h3]
   split
   ·rename_i hc
    have e:(List.replicate k.toNat l).flatten=l:=by
     rw [Bool.or_eq_true] at hc
     rcases hc with hc | hc
     ·have:k=1:=by simpa using hc
      subst this
      show (List.replicate 1 l).flatten=l
      simp
     ·have:l=[]:=by
       rw [hlen] at hc
       exact X1 (by simpa using hc)
      subst this
      simp
    rw [e] at q
    exact ⟨.str ⟨l.toArray⟩,H,I,⟨t,rfl⟩,q⟩
   ·have e:=tU l k.toNat []
    rw [Yr] at e
    rw [show (⟨l.toArray⟩:Str).cps=l.toArray from rfl,e]
    refine ⟨?_,⟨.str ⟨(List.replicate k.toNat l).flatten.toArray⟩,H,I.tok _,⟨s.toks,rfl⟩,q⟩⟩
    have hl:=len_rep l k.toNat
    show (⟨(List.replicate k.toNat l).flatten.toArray⟩:Str).length<=sizeLine
    show ((List.replicate k.toNat l).flatten.toArray).size<=sizeLine
    rw [Zc,hl,Nat.mul_comm]
    exact hz
end
end L2
namespace VS
open PySem PySem.Spec PyProof.Rows L2
section
variable {G:Gx} {X:Cx} {a b c e tg:Expr} {es:List Expr} {ca cb cc:Ex} {cs:Exs} {pos p p1 p2 apos cpos:Pos} {k k':Nat}
theorem yH:gn G (fun x y H Q=>∃ (l:Vr) (k:Int),x=.str ⟨l.toArray⟩/\y=.int k/\-(2 ^ 62)<=k/\k < 2 ^ 62/\l.length * k.toNat<=sizeLine/\Q (.str ⟨(List.replicate k.toNat l).flatten.toArray⟩) H) lq:=by
 intro Φ η H0 H x y u w F1 F2 m t Q tw e k
 obtain ⟨m1,x⟩:=x
 obtain ⟨m2,y⟩:=y
 obtain ⟨same,r1,r2,f1,f2,nd⟩:=tw
 unfold lq at e
 split at e
 ·rename_i _ ts _ j e1 e2
  cases e1
  cases e2
  split at e
  ·rename_i hc
   cases e
   have b1:=hc.2.1
   have b2:=hc.2.2
   unfold B62 at b1 b2
   refine ⟨ts,j,r1.str_inv.1,r2.int_inv,by lia,by lia,hc.1,bC k (.str _ ⟨?_,fun c hc'=>?_⟩)⟩
   ·rw [len_rep,Nat.mul_comm];exact hc.1
   ·obtain ⟨x,hx,hcx⟩:=Wh.mp hc'
    rw [(List.mem_replicate.mp hx).2] at hcx
    exact r1.str_inv.2.2 c hcx
  ·cases e
 ·cases e
theorem BZ (ha:PV G X a ca) (hb:PV G X b cb):PV G X (.BinOp a .Mult b pos) (e2 lq ca cb):=nG zN yH ha hb
theorem Ci:PV G X (.Dict [] [] pos) (ly 0 []):=PE.weak vD fun σ H Q ⟨Φ,η,m,t,s,e,k⟩=>by
 cases (show some (Md.fr,T.dct 0 [])=some (m,t) from e)
 intro q hq
 have:Rp G (upd H q (.dK [])) (.ref q) (.dct 0 ((([]:List Key).map aO).zip [])) (q :: ([]:Yf).flatten):=.dct aI rfl .nil
 exact k _ _ [q] (cE hq) this ⟨by simp,fun b hb=>by rw [Zj.mp hb];exact hq⟩
end
section
variable {G:Gx} {X:Cx} {a b c e tg:Expr} {es:List Expr} {ca cb cc ce:Ex} {cs:Exs} {pos p p1 p2 apos cpos pos':Pos} {k k':Nat}
theorem tF {body:List Stmt} {cb:Sx} (hp:PassesOwn (model X.prog X.w) X.A X.env X.xe) (hc:PVT G X c cc) (hb:fE G X body cb):PSV G X (.While c body [] pos) (qN cc cb) :=
 PS.weak (wB hp hc hb) fun D σ H ⟨Φ,η,o,s,e,k⟩=>by
  refine ⟨fun n σ2 H2=>∃ Φ2 η2,SR G Φ2 η2 σ2 H2/\Frm Φ η H Φ2 η2 H2/\ef cc cb n η2=some o,⟨EI,Φ,η,s,Frm.refl Φ η H,e⟩,?_⟩
  rintro n σ2 H2 ⟨Φ2,η2,s2,f2,e2⟩
  cases n with
  | zero=>cases (show (none:Option Out)=some o from e2)
  | succ n =>
   rw [ef] at e2
   obtain ⟨⟨mx,x⟩,ex,e3⟩:=Zz.mp e2
   obtain ⟨t,et,e4⟩:=Zz.mp e3
   refine ⟨Φ2,η2,mx,x,t,s2,ex,et,fun H3 sm=>?_⟩
   have s3:=s2.same sm
   have f3:Frm Φ η H Φ2 η2 H3:=f2.trans (Frm.same sm)
   cases t with
   | false =>
    rw [Zp Zi] at e4
    cases e4
    show if false=true then _ else _
    rw [Zp Zi]
    exact k Φ2 σ2 H3 s3 f3
   | true =>
    rw [Zs rfl] at e4
    show if true=true then _ else _
    rw [Zs rfl]
    obtain ⟨o',e5,e6⟩:=Zz.mp e4
    refine ⟨fun σ4 H4=>∃ Φ4 η4,SR G Φ4 η4 σ4 H4/\Frm Φ η H Φ4 η4 H4/\ef cc cb n η4=some o,fun σ4 H4 q=>⟨n,Vu n,q⟩,Φ2,η2,o',s3,e5,?_⟩
    cases o' with
    | nx η4=>exact fun Φ4 σ4 H4 s5 fb=>⟨Φ4,η4,s5,f3.trans fb,e6⟩
    | ct η4=>exact fun Φ4 σ4 H4 s5 fb=>⟨Φ4,η4,s5,f3.trans fb,e6⟩
    | bk η4 =>
     cases (show some (Out.nx η4)=some o from e6)
     exact fun Φ4 σ4 H4 s5 fb=>k Φ4 σ4 H4 s5 (f3.trans fb)
    | rt v η4 =>
     cases (show some (Out.rt v η4)=some o from e6)
     exact fun u H4 F4 Φ4 σ4 s5 fb r5 q5=>k u H4 F4 Φ4 σ4 s5 (f3.trans fb) r5 (q5.back f3)
noncomputable def sNo:Sx:=fun _=>none
theorem CM {st:Stmt}:PSV G X st sNo:=fun pins s σ H D I ⟨_,_,_,_,e,_⟩=>nomatch (show (none:Option Out)=some _ from e)
theorem iT {H:Hp} {v:V} {l:List (T×T)} {F:Xf} (r:Rp G H v (.dct 0 l) F):∃ (a:Addr) (ks:List Key) (vs:List V) (ts:Vl) (Fs:Yf),v=.ref a/\F=a :: Fs.flatten/\H a=some (.dK (ks.zip vs))/\ks.length=vs.length/\l=(ks.map aO).zip ts/\RpL G H vs ts Fs:=by
 cases r with
 | dct h hl q=>exact ⟨_,_,_,_,_,rfl,rfl,h,hl,rfl,q⟩
theorem gh {H:Hp} {v:V} {t:T} {F:Xf} (r:Rp G H v t F) (h:il t=true):∃ k:Key,v=kV k/\t=aO k:=by
 cases t with
 | int i=>exact ⟨.inl i,r.int_inv,rfl⟩
 | str s=>exact ⟨.inr (sx s),r.str_inv.1,by simp [aO,sx]⟩
 | _=>cases h
theorem kH {H:Hp} {k:Key}:∀ {ks:List Key} {vs:List V} {ts:Vl} {Fs:Yf},ks.length=vs.length->RpL G H vs ts Fs →
  (bN ((ks.map aO).zip ts) (aO k)=none/\cC (ks.zip vs) k=none)\/∃ (i:Nat) (v:V) (t:T) (F:Xf),bN ((ks.map aO).zip ts) (aO k)=some t/\cC (ks.zip vs) k=some v/\vs[i]?=some v/\Fs[i]?=some F/\Rp G H v t F
 | [],[],_,_,_,.nil=>.inl ⟨rfl,rfl⟩
 | k' :: ks,v :: vs,_,_,hl,.cons (t:=t) (F:=F) (ts:=ts) (Fs:=Fs) r q=>by
  have e:eqT (aO k') (aO k)=decide (k'=k):=by
   rw [Bool.eq_iff_iff,decide_eq_true_eq]
   cases k with
   | inl i=>cases k' <;> simp [aO]
   | inr x =>
    obtain ⟨⟨x⟩⟩:=x
    cases k' with
    | inl j=>simp [aO]
    | inr y=>obtain ⟨⟨y⟩⟩:=y;simp [aO]
  by_cases hk:k'=k
  ·refine .inr ⟨0,v,t,F,?_,b8 hk,rfl,rfl,r⟩
   have e':eqT (aO k') (aO k)=true:=by rw [e];exact decide_eq_true hk
   simp only [bN,Zt,ZF,Yt,e']
   rfl
  ·have h1:bN (((k' :: ks).map aO).zip (t :: ts)) (aO k)=bN ((ks.map aO).zip ts) (aO k):=by
    have e':eqT (aO k') (aO k)=false:=by rw [e];exact decide_eq_false hk
    simp only [bN,Zt,ZF,Yt,e']
   have h2:cC ((k' :: ks).zip (v :: vs)) k=cC (ks.zip vs) k:=by simp [cC,hk]
   rw [h1,h2]
   rcases kH (k:=k) (by simpa using hl) q with h | ⟨i,v',t',F',a1,a2,a3,a4,a5⟩
   ·exact .inl h
   ·exact .inr ⟨i+1,v',t',F',a1,a2,by simpa using a3,by simpa using a4,a5⟩
theorem zu (hu:X.A.units+1 < cLine):IxR X (fun x y H Q=>∃ a v,x=.ref a/\ji H a y (some v)/\Q v H):=by
 intro value slice pins s σ H x y v u Q I rx ry h hs
 obtain ⟨a,w,rfl,g,q⟩:=h
 cases rx
 have hT:=o8 I g
 unfold subscriptTail
 refine Zy ?_
 rw [getitemInPython_of_ne hT.not_modules]
 refine Zy (Xl hT PySem.F.slot_dict_getitem.lookup ?_)
 have fin:wpAny (model X.prog X.w) X.A (subscripted slice false (.ref a) u) (fun r s₃=>wpAny (model X.prog X.w) X.A (letTemporaryGo value (.ref a) r >>= fun _=>pure r) (EP X pins σ Q) X.xe s₃) X.xe s:=by
  rw [hs]
  exact wpAny_operating (tH hu I g ry fun w' s3 I3 rw'=>Zy (wpAny_letTemporaryGo (Zq ⟨w,H,I3,rw',q⟩)))
 first
  | exact Zq (Zy fin)
  | exact Zy (Zq (Zy fin))
  | exact Zy fin
noncomputable def E2 (K:Xs):R2:=fun x y H Q=>rIx K x y H Q\/∃ a v,x=.ref a/\ji H a y (some v)/\Q v H
theorem Ek:gn G (E2 G.K) oIx:=by
 intro Φ η H0 H x y u w F1 F2 m t Q tw e k
 obtain ⟨m1,x⟩:=x
 by_cases hd:∃ l,x=.dct 0 l
 ·obtain ⟨l,rfl⟩:=hd
  simp only [oIx] at e
  split at e
  ·rename_i hk
   obtain ⟨t',e1,e2⟩:=Zm.mp e
   obtain ⟨a,ks,vs,ts,Fs,rfl,rfl,ha,hl,rfl,q⟩:=iT tw.r1
   obtain ⟨kk,rfl,ek⟩:=gh tw.r2 hk
   rw [ek] at e1
   rcases kH (k:=kk) hl q with ⟨h1,_⟩ | ⟨i,v,t2,F,a1,a2,a3,a4,a5⟩
   ·rw [h1] at e1;cases e1
   ·rw [a1] at e1
    cases e1
    cases e2
    refine .inr ⟨a,v,rfl,by rw [← a2];exact ji.k ha,?_⟩
    have f:=((tw.f1.sub (YR _ _)).sub (eY a4)).up a5
    exact k v H F (aS.refl _) a5 f
  ·cases e
 ·have e':bq (m1,x) y=some (m,t):=by
   simp only [oIx] at e
   split at e
   ·rename_i l hx
    exact absurd ⟨_,rfl⟩ hd
   ·exact e
  exact .inl (uU Φ η H0 H (m1,x) y u w F1 F2 m t Q tw e' k)
theorem EY (hr:Room k X.A) (ha:PV G X a ca) (hb:PV G X b cb) (hs:fF b:=by intro _ _;rfl) (hK:X.K=G.K:=by rfl):PV G X (.Subscript a b pos) (e2 oIx ca cb) :=
 PE.weak (rL (IxR.or vi (zu (su hr))) ha hb hs) fun σ H Q h=>by rw [hK];exact me Ek h
noncomputable def fV:T->V
 | .bl b=>.bl b
 | .int i=>.int i
 | .str s=>.str (sx s)
 | _=>.non
theorem AI {H:Hp} {v:V} {t:T} {F:Xf} (r:Rp G H v t F) (h:flat t=true):v=fV t/\fC v=true:=by
 cases r with
 | non=>exact ⟨rfl,rfl⟩
 | bl b=>exact ⟨rfl,rfl⟩
 | int i=>exact ⟨rfl,rfl⟩
 | str s hl=>exact ⟨rfl,rfl⟩
 | _=>cases h
theorem Dr:∀ {t u:T},flat t=true->flat u=true->eqV (fV t) (fV u)=eqT t u
 | .non,.non,_,_=>rfl
 | .non,.bl _,_,_=>rfl
 | .non,.int _,_,_=>rfl
 | .non,.str _,_,_=>rfl
 | .bl _,.non,_,_=>rfl
 | .bl _,.bl _,_,_=>rfl
 | .bl _,.int _,_,_=>rfl
 | .bl _,.str _,_,_=>rfl
 | .int _,.non,_,_=>rfl
 | .int _,.bl _,_,_=>rfl
 | .int _,.int _,_,_=>rfl
 | .int _,.str _,_,_=>rfl
 | .str _,.non,_,_=>rfl
 | .str _,.bl _,_,_=>rfl
 | .str _,.int _,_,_=>rfl
 | .str _,.str _,_,_=>wy
theorem xW {H:Hp} {v w:V} {t u:T} {F F':Xf} (r:Rp G H v t F) (r':Rp G H w u F') (h1:flat t=true) (h2:flat u=true):eqV v w=eqT t u/\fC v=true/\fC w=true:=by
 obtain ⟨e1,f1⟩:=AI r h1
 obtain ⟨e2,f2⟩:=AI r' h2
 refine ⟨?_,f1,f2⟩
 rw [e1,e2]
 exact Dr h1 h2
theorem nV {H:Hp} {x:V} {t:T} {F:Xf} (r:Rp G H x t F) (hx:flat t=true):∀ {vs:List V} {ts:Vl} {Fs:Yf},RpL G H vs ts Fs->ts.all flat=true->vs.all fC=true/\inV x vs=ts.any fun y=>eqT y t
 | _,_,_,.nil,_=>⟨rfl,rfl⟩
 | _,_,_,.cons r' q,h=>by
  rw [XX,Yq] at h
  obtain ⟨h1,h2⟩:=nV r hx q h.2
  obtain ⟨e1,e2,e3⟩:=xW r' r h.1 hx
  refine ⟨by rw [XX,e2,h1];rfl,?_⟩
  unfold inV at h2 ⊢
  rw [Xz,Xz,h2,e1]
noncomputable def DO (K:Xs):R2:=fun x y H Q=>rIn K false x y H Q\/∃ a o,y=.ref a/\ji H a x o/\Q (.bl o.isSome) H
noncomputable def rK (K:Xs):R2:=fun x y H Q=>rIn K true x y H Q\/∃ a o,y=.ref a/\ji H a x o/\Q (.bl (!o.isSome)) H
theorem yN (hu:X.A.units+1 < cLine):OpR X (compareOp .In) (fun x y H Q=>∃ a o,y=.ref a/\ji H a x o/\Q (.bl o.isSome) H):=by
 intro pins s σ H x y v u Q I rx ry h
 obtain ⟨a,o,rfl,g,q⟩:=h
 cases ry
 exact FD hu I g rx fun s3 I3=>⟨.bl o.isSome,H,I3,rfl,q⟩
theorem uV (hu:X.A.units+1 < cLine):OpR X (compareOp .NotIn) (fun x y H Q=>∃ a o,y=.ref a/\ji H a x o/\Q (.bl (!o.isSome)) H):=by
 intro pins s σ H x y v u Q I rx ry h
 obtain ⟨a,o,rfl,g,q⟩:=h
 cases ry
 exact yr hu I g rx fun s3 I3=>⟨.bl (!o.isSome),H,I3,rfl,q⟩
theorem pY {Φ:Fps} {η:VS.Env} {H0 H:Hp} {x y:Val} {u w:V} {F1 F2:Xf} {m:Md} {t:T} (tw:Two G Φ η H0 H x y u w F1 F2) (e:ml x y=some (m,t)) :
  ∃ b,m=.fr/\t=.bl b/\((∃ p xs,w=.ref p/\(SqL G.K H p xs\/SqT G.K H p xs)/\fC u=true/\xs.all fC=true/\inV u xs=b)\/∃ a o,w=.ref a/\ji H a u o/\o.isSome=b):=by
 obtain ⟨m2,y⟩:=y
 simp only [ml] at e
 split at e
 ·split at e
  ·rename_i hk
   cases e
   obtain ⟨a,ks,vs,ts,Fs,rfl,rfl,ha,hl,rfl,q⟩:=iT tw.r2
   obtain ⟨kk,rfl,ek⟩:=gh tw.r1 hk
   refine ⟨_,rfl,rfl,.inr ⟨a,cC (ks.zip vs) kk,rfl,ji.k ha,?_⟩⟩
   rw [ek]
   rcases kH (k:=kk) hl q with ⟨h1,h2⟩ | ⟨i,v,t2,F,a1,a2,_⟩
   ·rw [h1,h2];rfl
   ·rw [a1,a2];rfl
  ·cases e
 ·split at e
  ·rename_i hk
   cases e
   rw [Yq] at hk
   obtain ⟨a,vs,Fs,rfl,rfl,ha,ra⟩:=tw.r2.lst_inv
   obtain ⟨h1,h2⟩:=nV tw.r1 hk.1 ra hk.2
   have hf:fC u=true:=(xW tw.r1 tw.r1 hk.1 hk.1).2.1
   exact ⟨_,rfl,rfl,.inl ⟨a,vs,rfl,.inl (SqL.of ha),hf,h1,h2⟩⟩
  ·cases e
 ·split at e
  ·rename_i hk
   cases e
   rw [Yq] at hk
   obtain ⟨a,vs,Fs,rfl,rfl,ha,ra⟩:=tw.r2.tup_inv
   obtain ⟨h1,h2⟩:=nV tw.r1 hk.1 ra hk.2
   have hf:fC u=true:=(xW tw.r1 tw.r1 hk.1 hk.1).2.1
   exact ⟨_,rfl,rfl,.inl ⟨a,vs,rfl,.inr (SqT.of ha),hf,h1,h2⟩⟩
  ·cases e
 ·cases e
theorem Ej:gn G (DO G.K) ml:=by
 intro Φ η H0 H x y u w F1 F2 m t Q tw e k
 obtain ⟨b,rfl,rfl,h⟩:=pY tw e
 rcases h with ⟨p,xs,rfl,hq,f1,f2,hb⟩ | ⟨a,o,rfl,g,hb⟩
 ·refine .inl ⟨p,xs,rfl,hq,f1,f2,?_⟩
  rw [hb]
  exact bC k (.bl b)
 ·refine .inr ⟨a,o,rfl,g,?_⟩
  rw [hb]
  exact bC k (.bl b)
theorem Cv:gn G (rK G.K) fG:=by
 intro Φ η H0 H x y u w F1 F2 m t Q tw e k
 unfold fG at e
 split at e
 ·rename_i m' b' e'
  cases e
  obtain ⟨b,rfl,hb',h⟩:=pY tw e'
  cases hb'
  rcases h with ⟨p,xs,rfl,hq,f1,f2,hb⟩ | ⟨a,o,rfl,g,hb⟩
  ·refine .inl ⟨p,xs,rfl,hq,f1,f2,?_⟩
   rw [hb]
   exact bC k (.bl (!b'))
  ·refine .inr ⟨a,o,rfl,g,?_⟩
   rw [hb]
   exact bC k (.bl (!b'))
 ·cases e
theorem vp:Tells ml:=by
 intro x y m t e
 simp only [ml] at e
 split at e
 all_goals first | (split at e <;> first | (cases e;exact ⟨_,rfl⟩) | cases e) | cases e
theorem uN:Tells fG:=by
 intro x y m t e
 unfold fG at e
 split at e
 ·cases e;exact ⟨_,rfl⟩
 ·cases e
theorem D3 (hr:Room k X.A) (ha:PV G X a ca) (hb:PV G X b cb) (hm:behindInMarks .In b=false:=by with_unfolding_all rfl) (hK:X.K=G.K:=by rfl):PVT G X (.Compare a [.In] [b] pos) (e2 ml ca cb):=g8 (r:=DO X.K) (ud.or (yN (su hr))) (hK ▸ Ej) vp ha hb hm
theorem BG (hr:Room k X.A) (ha:PV G X a ca) (hb:PV G X b cb) (hm:behindInMarks .NotIn b=false:=by with_unfolding_all rfl) (hK:X.K=G.K:=by rfl):PVT G X (.Compare a [.NotIn] [b] pos) (e2 fG ca cb):=g8 (r:=rK X.K) (oq.or (uV (su hr))) (hK ▸ Cv) uN ha hb hm
end
end VS
end
section
open PySem PyProof.Rows
namespace TS
noncomputable def nQ:Bool->Keyed->Array Keyed->Nat->Nat->Nat->StateT SortSt Sem (Option Nat):=sortPriv% PySem.Builtin.gallop
noncomputable def lP:Array Keyed->Array Keyed->StateT SortSt Sem (Array Keyed):=sortPriv% PySem.Builtin.mergeLo
noncomputable def ma:Array Keyed->Array Keyed->StateT SortSt Sem (Array Keyed):=sortPriv% PySem.Builtin.mergeHi
theorem all2 {A0 A1:Type} {P:A0×A1->Prop} (h:∀ a0 a1,P (a0,a1)):∀ x,P x:=fun (a0,a1)=>h a0 a1
theorem ik {A0 A1 A2:Type} {P:A0×A1×A2->Prop} (h:∀ a0 a1 a2,P (a0,a1,a2)):∀ x,P x:=fun (a0,a1,a2)=>h a0 a1 a2
theorem uJ {A0 A1 A2 A3 A4:Type} {P:A0×A1×A2×A3×A4->Prop} (h:∀ a0 a1 a2 a3 a4,P (a0,a1,a2,a3,a4)):∀ x,P x:=fun (a0,a1,a2,a3,a4)=>h a0 a1 a2 a3 a4
theorem p8 {A0 A1 A2 A3 A4 A5:Type} {P:A0×A1×A2×A3×A4×A5->Prop} (h:∀ a0 a1 a2 a3 a4 a5,P (a0,a1,a2,a3,a4,a5)):∀ x,P x:=fun (a0,a1,a2,a3,a4,a5)=>h a0 a1 a2 a3 a4 a5
theorem zy {A0 A1 A2 A3 A4 A5 A6:Type} {P:A0×A1×A2×A3×A4×A5×A6->Prop} (h:∀ a0 a1 a2 a3 a4 a5 a6,P (a0,a1,a2,a3,a4,a5,a6)):∀ x,P x:=fun (a0,a1,a2,a3,a4,a5,a6)=>h a0 a1 a2 a3 a4 a5 a6
variable {prog:Program} {w:World} {A:Around} {E:Yy} {s:Shared}
structure Cmp (prog:Program) (w:World) (A:Around) (E:Yy) (s:Shared) (κ:SortKind) (G:Keyed->Prop) (r:Keyed->Keyed->Bool):Prop where
 run:∀ (st:SortSt) (x y:Keyed) (Q:Option Bool->SortSt->Prop),kindOf st=κ->G x->G y->Q (some (r x y)) st->wpS (model prog w) A E s (lt' x y) Q st
 asym:∀ x y,G x->G y->r x y=true->r y x=false
 trans:∀ x y z,G x->G y->G z->r y x=false->r z y=false->r z x=false
variable {κ:SortKind} {G:Keyed->Prop} {r:Keyed->Keyed->Bool}
noncomputable def le (r:Keyed->Keyed->Bool) (x y:Keyed):Prop:=r y x=false
theorem dY {arr:Array Keyed} {i:Nat} {Q:Keyed->SortSt->Prop} {st:SortSt} (hi:i < arr.size) (h:Q arr[i] st):wpS (model prog w) A E s (elem' arr i) Q st:=by
 rw [elem'_eq,getElem?_pos arr i hi]
 exact Zk h
noncomputable def bey (r:Keyed->Keyed->Bool) (left:Bool) (key x:Keyed):Bool:=if left then r x key else !(r key x)
noncomputable def bf (left:Bool) (key:Keyed) (arr:Array Keyed) (i:Nat):StateT SortSt Sem (Option Bool):=do
 let x ← elem' arr i
 if left=true then lt' x key else do
  let l ← lt' key x
  pure (Option.map (fun x=>!x) l)
theorem jq (C:Cmp prog w A E s κ G r) {left:Bool} {key:Keyed} {arr:Array Keyed} {i:Nat} {Q:Option Bool->SortSt->Prop} {st:SortSt} (hk:kindOf st=κ) (gk:G key) (ga:∀ x∈arr,G x)
  (hi:i < arr.size) (h:Q (some (bey r left key arr[i])) st) :
  wpS (model prog w) A E s (bf left key arr i) Q st:=by
 unfold bf
 refine Zb (dY hi ?_)
 have g:=ga _ (Zh hi)
 cases left with
 | true=>exact C.run st _ _ _ hk g gk h
 | false=>exact Zb (C.run st _ _ _ hk gk g (Zk h))
theorem rG (C:Cmp prog w A E s κ G r) {left:Bool} {key:Keyed} {arr:Array Keyed} {base n hint:Nat} {Q:Option Nat->SortSt->Prop} {st:SortSt} (hk:kindOf st=κ) (gk:G key) (ga:∀ x∈arr,G x)
  (hb:base+n<=arr.size) (hh:hint < n) (mono:∀ i j (hi:base+i < arr.size) (hj:base+j < arr.size),i<=j->j < n->bey r left key arr[base+j]=true->bey r left key arr[base+i]=true)
  (h:∀ k,k<=n->(∀ i (hi:base+i < arr.size),i < k->bey r left key arr[base+i]=true)->(∀ i (hi:base+i < arr.size),k<=i->i < n->bey r left key arr[base+i]=false)->Q (some k) st) :
  wpS (model prog w) A E s (nQ left key arr base n hint) Q st:=by
 obtain ⟨f,fe⟩:∃ f:Nat->Bool,∀ i (hi:base+i < arr.size),f i=bey r left key arr[base+i]:=⟨fun i=>if hi:base+i < arr.size then bey r left key arr[base+i] else false,fun i hi=>dif_pos hi⟩
 have fm:∀ i j,i<=j->j < n->f j=true->f i=true:=fun i j hij hj e=>by
  rw [fe j (by lia)] at e
  rw [fe i (by lia)]
  exact mono i j (by lia) (by lia) hij hj e
 have fin:∀ k,k<=n->(∀ i,i < k->f i=true)->(∀ i,k<=i->i < n->f i=false)->Q (some k) st:=fun k h1 h2 h3 =>
  h k h1 (fun i hi hik=>by rw [← fe i hi];exact h2 i hik) fun i hi h4 h5=>by rw [← fe i hi];exact h3 i h4 h5
 clear h mono
 unfold nQ
 change wpS (model prog w) A E s (_ >>= _) Q st
 dsimp only
 have h0:base+hint < arr.size:=by lia
 refine Zb (jq C hk gk ga h0 ?_)
 dsimp only
 rw [← fe _ h0]
 cases e0:f hint with
 | true =>
  rw [Zs rfl]
  refine Zb (Y7 (Yj
   (I:=fun x c st'=>st=st'/\c.1=none/\f (hint+c.2.1)=true/\c.2.1 < c.2.2/\hint+c.2.1 < n/\x < c.2.2)
   (Q:=fun c st'=>st=st'/\c.1=none/\f (hint+c.2.1)=true/\c.2.1 < c.2.2/\hint+c.2.1 < n/\(hint+c.2.2 < n->f (hint+c.2.2)=false)) ?step1 ?fin1 ?init1) ?post1)
  case init1=>exact ⟨rfl,rfl,e0,by decide,by dsimp only;omega,by decide⟩
  case fin1 =>
   refine ik fun c1 c2 c3=>?_
   rintro st' ⟨rfl,e1,g1,g2,g3,g4⟩
   dsimp only at *
   exact ⟨rfl,e1,g1,g2,g3,fun z=>by (try dsimp only at z);lia⟩
  case step1 =>
   intro x
   refine ik fun c1 c2 c3=>?_
   rintro st' _ hx ⟨rfl,e1,g1,g2,g3,g4⟩
   dsimp only at *
   split
   ·exact Zk ⟨rfl,rfl,g1,g2,g3,fun z=>by (try dsimp only at z);lia⟩
   ·have hm:base+(hint+c3) < arr.size:=by lia
    refine Zb (jq C hk gk ga hm ?_)
    dsimp only
    rw [← fe _ hm]
    cases e:f (hint+c3) with
    | true=>exact Zk ⟨rfl,rfl,e,by dsimp only;lia,by dsimp only;lia,by dsimp only;lia⟩
    | false=>exact Zk ⟨rfl,rfl,g1,g2,g3,fun _=>e⟩
  case post1 =>
   refine ik fun c1 c2 c3=>?_
   rintro st' ⟨rfl,e1,g1,g2,g3,g4⟩
   dsimp only at *
   subst e1
   dsimp only
   have h1:hint+c2+1<=hint+min c3 (n - hint):=by omega
   have h2:hint+min c3 (n - hint)<=n:=by omega
   have h3:∀ i,i < hint+c2+1->f i=true:=fun i hi=>fm i _ (by exact Ye hi) (by omega) g1
   have h4:∀ i,hint+min c3 (n - hint)<=i->i < n->f i=false:=fun i hi hn=>by
    cases e2:f i with
    | false=>rfl
    | true =>
     have:=g4 (by lia)
     rw [fm _ i (by lia) hn e2] at this;cases this
   clear g1 g2 g3 g4
   refine Zb (Y7 (Yj
    (I:=fun x c st'=>st=st'/\c.1=none/\c.2.1<=c.2.2/\c.2.2<=n/\(∀ i,i < c.2.1->f i=true)/\(∀ i,c.2.2<=i->i < n->f i=false)/\c.2.2 - c.2.1+x<=n)
    (Q:=fun c st'=>st=st'/\c.1=none/\c.2.1=c.2.2/\c.2.2<=n/\(∀ i,i < c.2.1->f i=true)/\(∀ i,c.2.2<=i->i < n->f i=false)) ?step ?fin ?init) ?post)
   case init=>exact ⟨rfl,rfl,h1,h2,h3,h4,by (try dsimp only);omega⟩
   case fin =>
    refine ik fun c1 c2 c3=>?_
    rintro st' ⟨rfl,e1,g1,g2,g3,g4,g5⟩
    try dsimp only at *
    exact ⟨rfl,e1,by (try dsimp only at *);lia,g2,g3,g4⟩
   case step =>
    intro x
    refine ik fun c1 c2 c3=>?_
    rintro st' _ hx ⟨rfl,e1,g1,g2,g3,g4,g5⟩
    try dsimp only at *
    split
    ·exact Zk ⟨rfl,rfl,by (try dsimp only at *);lia,g2,g3,g4⟩
    ·have hm:base+(c2+(c3 - c2) / 2) < arr.size:=by lia
     refine Zb (jq C hk gk ga hm ?_)
     try dsimp only
     rw [← fe _ hm]
     cases e:f (c2+(c3 - c2) / 2) with
     | true =>
      rw [Zs rfl]
      exact Zk ⟨rfl,rfl,by (try dsimp only);lia,g2,fun i hi=>fm i _ (by (try dsimp only at hi);exact Ye hi) (by lia) e,g4,by (try dsimp only);lia⟩
     | false =>
      rw [Zp Zi]
      refine Zk ⟨rfl,rfl,by (try dsimp only);exact ZM _ _,by (try dsimp only);lia,g3,fun i hi hn=>?_,by (try dsimp only);omega⟩
      try dsimp only at hi
      cases e2:f i with
      | false=>rfl
      | true=>rw [fm _ i hi hn e2] at e;cases e
   case post =>
    refine ik fun c1 c2 c3=>?_
    rintro st' ⟨rfl,e1,g1,g2,g3,g4⟩
    try dsimp only at *
    subst e1
    exact Zk (fin c3 g2 (fun i hi=>g3 i (by lia)) g4)
 | false =>
  rw [Zp Zi]
  refine Zb (Y7 (Yj
   (I:=fun x c st'=>st=st'/\c.1=none/\f (hint - c.2.1)=false/\c.2.1 < c.2.2/\c.2.1<=hint/\x < c.2.2)
   (Q:=fun c st'=>st=st'/\c.1=none/\f (hint - c.2.1)=false/\c.2.1 < c.2.2/\c.2.1<=hint/\(c.2.2<=hint->f (hint - c.2.2)=true)) ?step1 ?fin1 ?init1) ?post1)
  case init1=>exact ⟨rfl,rfl,e0,by decide,by dsimp only;exact ZO _,by decide⟩
  case fin1 =>
   refine ik fun c1 c2 c3=>?_
   rintro st' ⟨rfl,e1,g1,g2,g3,g4⟩
   dsimp only at *
   exact ⟨rfl,e1,g1,g2,g3,fun z=>by (try dsimp only at z);lia⟩
  case step1 =>
   intro x
   refine ik fun c1 c2 c3=>?_
   rintro st' _ hx ⟨rfl,e1,g1,g2,g3,g4⟩
   dsimp only at *
   split
   ·exact Zk ⟨rfl,rfl,g1,g2,g3,fun z=>by (try dsimp only at z);lia⟩
   ·have hm:base+(hint - c3) < arr.size:=by lia
    refine Zb (jq C hk gk ga hm ?_)
    dsimp only
    rw [← fe _ hm]
    cases e:f (hint - c3) with
    | true=>exact Zk ⟨rfl,rfl,g1,g2,g3,fun _=>e⟩
    | false=>exact Zk ⟨rfl,rfl,e,by dsimp only;lia,by dsimp only;lia,by dsimp only;lia⟩
  case post1 =>
   refine ik fun c1 c2 c3=>?_
   rintro st' ⟨rfl,e1,g1,g2,g3,g4⟩
   dsimp only at *
   subst e1
   dsimp only
   have h1:hint+1 - min c3 (hint+1)<=hint - c2:=by omega
   have h2:hint - c2<=n:=by lia
   have h3:∀ i,i < hint+1 - min c3 (hint+1)->f i=true:=fun i hi=>fm i _ (by omega) (by omega) (g4 (by omega))
   have h4:∀ i,hint - c2<=i->i < n->f i=false:=fun i hi hn=>by
    cases e2:f i with
    | false=>rfl
    | true=>rw [fm _ i (by omega) hn e2] at g1;cases g1
   clear g1 g2 g3 g4
   refine Zb (Y7 (Yj
    (I:=fun x c st'=>st=st'/\c.1=none/\c.2.1<=c.2.2/\c.2.2<=n/\(∀ i,i < c.2.1->f i=true)/\(∀ i,c.2.2<=i->i < n->f i=false)/\c.2.2 - c.2.1+x<=n)
    (Q:=fun c st'=>st=st'/\c.1=none/\c.2.1=c.2.2/\c.2.2<=n/\(∀ i,i < c.2.1->f i=true)/\(∀ i,c.2.2<=i->i < n->f i=false)) ?step ?fin ?init) ?post)
   case init=>exact ⟨rfl,rfl,h1,h2,h3,h4,by (try dsimp only);omega⟩
   case fin =>
    refine ik fun c1 c2 c3=>?_
    rintro st' ⟨rfl,e1,g1,g2,g3,g4,g5⟩
    try dsimp only at *
    exact ⟨rfl,e1,by (try dsimp only at *);lia,g2,g3,g4⟩
   case step =>
    intro x
    refine ik fun c1 c2 c3=>?_
    rintro st' _ hx ⟨rfl,e1,g1,g2,g3,g4,g5⟩
    try dsimp only at *
    split
    ·exact Zk ⟨rfl,rfl,by (try dsimp only at *);lia,g2,g3,g4⟩
    ·have hm:base+(c2+(c3 - c2) / 2) < arr.size:=by lia
     refine Zb (jq C hk gk ga hm ?_)
     try dsimp only
     rw [← fe _ hm]
     cases e:f (c2+(c3 - c2) / 2) with
     | true =>
      rw [Zs rfl]
      exact Zk ⟨rfl,rfl,by (try dsimp only);lia,g2,fun i hi=>fm i _ (by (try dsimp only at hi);exact Ye hi) (by lia) e,g4,by (try dsimp only);lia⟩
     | false =>
      rw [Zp Zi]
      refine Zk ⟨rfl,rfl,by (try dsimp only);exact ZM _ _,by (try dsimp only);lia,g3,fun i hi hn=>?_,by (try dsimp only);omega⟩
      try dsimp only at hi
      cases e2:f i with
      | false=>rfl
      | true=>rw [fm _ i hi hn e2] at e;cases e
   case post =>
    refine ik fun c1 c2 c3=>?_
    rintro st' ⟨rfl,e1,g1,g2,g3,g4⟩
    try dsimp only at *
    subst e1
    exact Zk (fin c3 g2 (fun i hi=>g3 i (by lia)) g4)
end TS
end
section
open PySem PyProof.Rows
namespace TS
variable {prog:Program} {w:World} {A:Around} {E:Yy} {s:Shared} {κ:SortKind} {G:Keyed->Prop} {r:Keyed->Keyed->Bool}
theorem Cmp.refl (C:Cmp prog w A E s κ G r) {x:Keyed} (h:G x):le r x x:=by
 unfold le
 cases e:r x x with
 | false=>rfl
 | true=>exact absurd (C.asym x x h h e) (by rw [e];exact fun z=>nomatch z)
theorem Cmp.tr (C:Cmp prog w A E s κ G r) {x y z:Keyed} (hx:G x) (hy:G y) (hz:G z) (h1:le r x y) (h2:le r y z):le r x z:=C.trans x y z hx hy hz h1 h2
theorem Cmp.le_of (C:Cmp prog w A E s κ G r) {x y:Keyed} (hx:G x) (hy:G y) (h:r x y=true):le r x y:=C.asym x y hx hy h
noncomputable def Seg (r:Keyed->Keyed->Bool) (a:Array Keyed) (lo hi:Nat):Prop:=∀ i j (hi':i < a.size) (hj:j < a.size),lo<=i->i<=j->j < hi->le r a[i] a[j]
theorem gr (C:Cmp prog w A E s κ G r) {left:Bool} {key:Keyed} {arr:Array Keyed} {base n hint:Nat} {Q:Option Nat->SortSt->Prop} {st:SortSt} (hk:kindOf st=κ) (gk:G key) (ga:∀ x∈arr,G x)
  (hb:base+n<=arr.size) (hh:hint < n) (sg:Seg r arr base (base+n))
  (h:∀ k,k<=n->(∀ i (hi:i < arr.size),base<=i->i < base+k->le r arr[i] key)->(∀ i (hi:i < arr.size),base+k<=i->i < base+n->le r key arr[i])->Q (some k) st) :
  wpS (model prog w) A E s (nQ left key arr base n hint) Q st:=by
 have g:∀ i (hi:i < arr.size),G arr[i]:=fun i hi=>ga _ (Zh hi)
 refine rG C hk gk ga hb hh (fun i j hi hj hij hjn e=>?_) fun k h1 h2 h3=>h k h1 (fun i hi h4 h5=>?_) fun i hi h4 h5=>?_
 ·have s1:=sg (base+i) (base+j) hi hj (by exact ZM _ _) (by lia) (by lia)
  cases left with
  | true =>
   unfold bey at e ⊢
   rw [Zs rfl] at e ⊢
   cases e2:r arr[base+i] key with
   | true=>rfl
   | false=>rw [show r arr[base+j] key=false from C.tr gk (g _ hi) (g _ hj) e2 s1] at e;cases e
  | false =>
   unfold bey at e ⊢
   rw [Zp Zi] at e ⊢
   have e':r key arr[base+j]=false:=by simpa using e
   have:=C.tr (g _ hi) (g _ hj) gk s1 e'
   rw [show r key arr[base+i]=false from this]
   rfl
 ·have e:=h2 (i - base) (by lia) (by lia)
  have ei:base+(i - base)=i:=by exact W4 h4
  simp only [ei] at e
  cases left with
  | true =>
   unfold bey at e
   rw [Zs rfl] at e
   exact C.le_of (g _ hi) gk e
  | false =>
   unfold bey at e
   rw [Zp Zi] at e
   show r key arr[i]=false
   simpa using e
 ·have e:=h3 (i - base) (by lia) (by lia) (by omega)
  have ei:base+(i - base)=i:=by lia
  simp only [ei] at e
  cases left with
  | true =>
   unfold bey at e
   rw [Zs rfl] at e
   exact e
  | false =>
   unfold bey at e
   rw [Zp Zi] at e
   exact C.le_of gk (g _ hi) (by simpa using e)
theorem pX {a:Array Keyed} {i:Nat} {x:Keyed} (h:x∈a.toList.drop i):∃ j,∃ (hj:j < a.size),i<=j/\a[j]=x:=by
 obtain ⟨k,hk,e⟩:=Ys h
 rw [ZQ] at hk
 rw [Xm] at e
 have:i+k < a.size:=by simpa using (by omega:i+k < a.toList.length)
 exact ⟨i+k,this,by exact ZM _ _,by simpa using e⟩
theorem jH {a:Array Keyed} {i k:Nat} {x:Keyed} (h:x∈(a.toList.drop i).take k):∃ j,∃ (hj:j < a.size),i<=j/\j < i+k/\a[j]=x:=by
 obtain ⟨m,hm,e⟩:=Ys h
 rw [ZR,ZQ] at hm
 rw [Xn,Xm] at e
 have:i+m < a.size:=by simpa using (by omega:i+m < a.toList.length)
 exact ⟨i+m,this,by exact ZM _ _,by lia,by simpa using e⟩
theorem rY {a:Array Keyed} {i:Nat} (h:i < a.size):a.toList.drop i=a[i] :: a.toList.drop (i+1):=by
 have:i < a.toList.length:=by simpa using h
 rw [Y4 this]
 simp
theorem iA {a:Array Keyed} (h:Seg r a 0 a.size):a.toList.Pairwise (le r):=by
 rw [Y3]
 intro i j hi hj hij
 simpa using h i j (by simpa using hi) (by simpa using hj) (ZO _) (by exact ZS hij) (by simpa using hj)
theorem wx (C:Cmp prog w A E s κ G r) {a:Array Keyed} (ga:∀ x∈a,G x) (h:a.toList.Pairwise (le r)):Seg r a 0 a.size:=by
 intro i j hi hj _ hij _
 rcases Wy i j with hlt | hge
 ·have:=Y3.mp h i j (by simpa using hi) (by simpa using hj) hlt
  simpa using this
 ·have:i=j:=by exact Nat.le_antisymm hij hge
  subst this
  exact C.refl (ga _ (Zh hi))
structure MI (r:Keyed->Keyed->Bool) (a b out:Array Keyed) (ia ib:Nat):Prop where
 pm:(out.toList++(a.toList.drop ia++b.toList.drop ib)).Perm (a.toList++b.toList)
 so:out.toList.Pairwise (le r)
 la:∀ x∈out.toList,∀ y∈a.toList.drop ia,le r x y
 lb:∀ x∈out.toList,∀ y∈b.toList.drop ib,le r x y
noncomputable def MR (r:Keyed->Keyed->Bool) (a b res:Array Keyed):Prop:=res.toList.Perm (a.toList++b.toList)/\res.toList.Pairwise (le r)
theorem MI.size {a b out:Array Keyed} {ia ib:Nat} (m:MI r a b out ia ib) (h1:ia<=a.size) (h2:ib<=b.size):out.size+(a.size - ia)+(b.size - ib)=a.size+b.size:=by
 have:=m.pm.length_eq
 simp at this
 lia
theorem MI.appA {a b out:Array Keyed} {ia ib k:Nat} (m:MI r a b out ia ib) (sa:Seg r a 0 a.size) (hl:∀ i (hi:i < a.size),ia<=i->i < ia+k->∀ j (hj:j < b.size),ib<=j->le r a[i] b[j]) :
  MI r a b (out++a.extract ia (ia+k)) (ia+k) ib:=by
 have e1:(out++a.extract ia (ia+k)).toList=out.toList++(a.toList.drop ia).take k:=by
  simp [List.extract_eq_drop_take]
 have e2:a.toList.drop ia=(a.toList.drop ia).take k++a.toList.drop (ia+k):=by
  rw [← WS];exact (Yg _ _).symm
 have pa:(a.toList.drop ia).Pairwise (le r):=(iA sa).drop
 rw [e2,ZE] at pa
 refine ⟨?_,?_,?_,?_⟩
 ·rw [e1]
  have:=m.pm
  rw [e2] at this
  simpa [Zl] using this
 ·rw [e1,ZE]
  refine ⟨m.so,pa.1,fun x hx y hy=>m.la x hx y ?_⟩
  exact Yn hy
 ·rw [e1]
  intro x hx y hy
  rcases Zd.mp hx with hx | hx
  ·exact m.la x hx y (by rw [e2];exact Z2 _ hy)
  ·exact pa.2.2 x hx y hy
 ·rw [e1]
  intro x hx y hy
  rcases Zd.mp hx with hx | hx
  ·exact m.lb x hx y hy
  ·obtain ⟨i,hi,h1,h2,rfl⟩:=jH hx
   obtain ⟨j,hj,h3,rfl⟩:=pX hy
   exact hl i hi h1 h2 j hj h3
theorem MI.swap {a b out:Array Keyed} {ia ib:Nat} (m:MI r a b out ia ib):MI r b a out ib ia :=
 ⟨((YI.append_left _).trans m.pm).trans YI,m.so,m.lb,m.la⟩
theorem MI.appB {a b out:Array Keyed} {ia ib k:Nat} (m:MI r a b out ia ib) (sb:Seg r b 0 b.size) (hl:∀ i (hi:i < b.size),ib<=i->i < ib+k->∀ j (hj:j < a.size),ia<=j->le r b[i] a[j]) :
  MI r a b (out++b.extract ib (ib+k)) ia (ib+k):=(m.swap.appA sb hl).swap
theorem uS {a out:Array Keyed} {i:Nat} (h:i < a.size):out.push a[i]=out++a.extract i (i+1):=by
 apply Array.ext'
 have:(a.extract i (i+1)).toList=[a[i]]:=by
  have e:i < a.toList.length:=by simpa using h
  simp [List.extract_eq_drop_take,Y4 e]
 rw [Yh,this,W8]
theorem MI.pushA {a b out:Array Keyed} {ia ib:Nat} (m:MI r a b out ia ib) (sa:Seg r a 0 a.size) (h:ia < a.size) (hl:∀ j (hj:j < b.size),ib<=j->le r a[ia] b[j]):MI r a b (out.push a[ia]) (ia+1) ib:=by
 rw [uS h]
 refine m.appA sa fun i hi h1 h2 j hj h3=>?_
 have:i=ia:=by lia
 subst this
 exact hl j hj h3
theorem MI.pushB {a b out:Array Keyed} {ia ib:Nat} (m:MI r a b out ia ib) (sb:Seg r b 0 b.size) (h:ib < b.size) (hl:∀ j (hj:j < a.size),ia<=j->le r b[ib] a[j]):MI r a b (out.push b[ib]) ia (ib+1):=(m.swap.pushA sb h hl).swap
theorem kQ {a:Array Keyed} {i:Nat}:(a.extract i a.size).toList=a.toList.drop i:=by
 rw [X5,List.extract_eq_drop_take,ZK (by simp)]
theorem MI.fin {a b out:Array Keyed} {ia ib:Nat} (m:MI r a b out ia ib) (sa:Seg r a 0 a.size) (sb:Seg r b 0 b.size) (h:ia=a.size\/ib=b.size):MR r a b (out++a.extract ia a.size++b.extract ib b.size):=by
 have e:(out++a.extract ia a.size++b.extract ib b.size).toList=out.toList++(a.toList.drop ia++b.toList.drop ib):=by
  rw [Yh,Yh,kQ,kQ,Zl]
 refine ⟨by rw [e];exact m.pm,?_⟩
 rw [e,ZE]
 refine ⟨m.so,?_,fun x hx y hy=>?_⟩
 ·rcases h with h | h
  ·rw [YO (as:=a.toList) (by simp [h]),Yr]
   exact (iA sb).drop
  ·rw [YO (as:=b.toList) (by simp [h]),ZG]
   exact (iA sa).drop
 ·rcases Zd.mp hy with hy | hy
  ·exact m.la x hx y hy
  ·exact m.lb x hx y hy
theorem MI.last {a b out:Array Keyed} {ia ib:Nat} (m:MI r a b out ia ib) (sb:Seg r b 0 b.size) (h:ia+1=a.size) (hl:∀ j (hj:j < b.size),le r b[j] a[ia]):MR r a b (out++b.extract ib b.size++a.extract ia a.size):=by
 have e:(out++b.extract ib b.size++a.extract ia a.size).toList=out.toList++(b.toList.drop ib++a.toList.drop ia):=by
  rw [Yh,Yh,kQ,kQ,Zl]
 have e2:a.toList.drop ia=[a[ia]]:=by rw [rY (by omega),YO (by simp;lia)]
 refine ⟨by rw [e];exact (YI.append_left _).trans m.pm,?_⟩
 rw [e,ZE]
 refine ⟨m.so,?_,fun x hx y hy=>?_⟩
 ·rw [ZE]
  refine ⟨(iA sb).drop,by rw [e2];exact List.pairwise_singleton _ _,fun x hx y hy=>?_⟩
  rw [e2] at hy
  obtain ⟨j,hj,_,rfl⟩:=pX hx
  rw [Zj.mp hy]
  exact hl j hj
 ·rcases Zd.mp hy with hy | hy
  ·exact m.lb x hx y hy
  ·exact m.la x hx y hy
end TS
end
section
open PySem PyProof.Rows
namespace TS
variable {prog:Program} {w:World} {A:Around} {E:Yy} {s:Shared} {κ:SortKind} {G:Keyed->Prop} {r:Keyed->Keyed->Bool}
noncomputable def gC (st st':SortSt):Prop:=kindOf st'=kindOf st/\arrOf st'=arrOf st/\pendingOf st'=pendingOf st/\failedOf st'=failedOf st
noncomputable def eV:Nat->StateT SortSt Sem Unit:=sortPriv% PySem.Builtin.setMinGallop
theorem gP {g:Nat} {Q:Unit->SortSt->Prop} {st st0:SortSt} (hk:gC st0 st) (h:∀ st',gC st0 st'->Q () st'):wpS (model prog w) A E s (eV g) Q st:=by
 unfold eV
 exact X7 (h _ hk)
theorem gI {t:String} {Q:Unit->SortSt->Prop} {st:SortSt} (h:Q () st):wpS (model prog w) A E s (liftM (rule t)) Q st:=wpS_lift (XG ⟨rfl,h⟩)
theorem aC {α:Type} {c:Prop} [Decidable c] {x y:StateT SortSt Sem α} {Q:α->SortSt->Prop} {st:SortSt} (ht:c->wpS (model prog w) A E s x Q st) (hf:¬ c->wpS (model prog w) A E s y Q st) :
  wpS (model prog w) A E s (if c then x else y) Q st:=by
 by_cases hc:c
 ·rw [Zs hc];exact ht hc
 ·rw [Zp hc];exact hf hc
theorem sQ {α:Type} {c:Nat->Prop} [∀ n,Decidable (c n)] {B1 B2:Nat->StateT SortSt Sem α} {Q:α->SortSt->Prop} {st:SortSt} (e:∀ n,B1 n=B2 (n - 1)) (h:∀ n,wpS (model prog w) A E s (B2 n) Q st):∀ n,wpS (model prog w) A E s (if c n then B1 n else B2 n) Q st :=
 fun n=>aC (fun _=>by rw [e];exact h _) fun _=>h n
theorem bu {α:Type} {a:Array Keyed} {i:Nat} {c:Keyed->Prop} [∀ v,Decidable (c v)] {x y:Keyed->StateT SortSt Sem α} {Q:α->SortSt->Prop} {st:SortSt} (hi:i < a.size) (ht:c a[i]->wpS (model prog w) A E s (x a[i]) Q st) (hf:¬ c a[i]->wpS (model prog w) A E s (y a[i]) Q st) :
  wpS (model prog w) A E s (elem' a i >>= fun v=>if c v then x v else y v) Q st:=Zb (dY hi (aC ht hf))
theorem xH {α:Type} {c d:Prop} [Decidable c] [Decidable d] {x y z:StateT SortSt Sem α} {Q:α->SortSt->Prop} {st:SortSt} (h1:c->wpS (model prog w) A E s x Q st) (h2:¬ c->d->wpS (model prog w) A E s y Q st) (h3:¬ c->¬ d->wpS (model prog w) A E s z Q st) :
  wpS (model prog w) A E s (if c then x else if d then y else z) Q st:=aC h1 fun e=>aC (h2 e) (h3 e)
theorem iG {α β:Type} {a:Array Keyed} {i:Nat} {m:Keyed->StateT SortSt Sem β} {f:Keyed->β->StateT SortSt Sem α} {Q:α->SortSt->Prop} {st:SortSt} (hi:i < a.size) (h:wpS (model prog w) A E s (m a[i]) (fun v st'=>wpS (model prog w) A E s (f a[i] v) Q st') st) :
  wpS (model prog w) A E s (elem' a i >>= fun u=>m u >>= fun v=>f u v) Q st:=Zb (dY hi (Zb h))
structure MC (G:Keyed->Prop) (r:Keyed->Keyed->Bool) (a b:Array Keyed):Prop where
 ga:∀ x∈a,G x
 gb:∀ x∈b,G x
 sa:Seg r a 0 a.size
 sb:Seg r b 0 b.size
 na:0 < a.size
 nb:0 < b.size
 first:le r b[0] a[0]
 last:∀ j (hj:j < b.size),le r b[j] a[a.size - 1]
theorem MC.last' {a b:Array Keyed} (M:MC G r a b) {i:Nat} (hi:i < a.size) (h:i+1=a.size):∀ j (hj:j < b.size),le r b[j] a[i]:=by
 intro j hj
 have:=M.last j hj
 have e:a.size - 1=i:=by lia
 simpa [e] using this
theorem MC.bA (C:Cmp prog w A E s κ G r) {a b:Array Keyed} (M:MC G r a b) {i j:Nat} (hi:i < a.size) (hj:j < b.size) (h:le r b[j] a[i]):∀ k (hk:k < a.size),i<=k->le r b[j] a[k]:=fun k hk hik =>
 C.tr (M.gb _ (Zh hj)) (M.ga _ (Zh hi)) (M.ga _ (Zh hk)) h (M.sa i k hi hk (ZO _) hik hk)
theorem MC.aB (C:Cmp prog w A E s κ G r) {a b:Array Keyed} (M:MC G r a b) {i j:Nat} (hi:i < a.size) (hj:j < b.size) (h:le r a[i] b[j]):∀ k (hk:k < b.size),j<=k->le r a[i] b[k]:=fun k hk hik =>
 C.tr (M.ga _ (Zh hi)) (M.gb _ (Zh hj)) (M.gb _ (Zh hk)) h (M.sb j k hj hk (ZO _) hik hk)
theorem iY {a:Array Keyed} (h:Seg r a 0 a.size) (lo hi:Nat):Seg r a lo hi:=fun i j hi' hj h1 h2 h3=>h i j hi' hj (ZO _) h2 hj
theorem EK (C:Cmp prog w A E s κ G r) {a b:Array Keyed} {st:SortSt} {Q:Array Keyed->SortSt->Prop} (hk:kindOf st=κ) (M:MC G r a b) (h:∀ res st',gC st st'->MR r a b res->Q res st') :
  wpS (model prog w) A E s (lP a b) Q st:=by
 have hna:=M.na
 have hnb:=M.nb
 unfold lP
 change wpS (model prog w) A E s (_ >>= _) Q st
 dsimp only
 refine Zb (gI ?_)
 have m0:MI r a b #[] 0 0:=⟨by simp,by simp,by simp,by simp⟩
 have m1:MI r a b #[b[0]] 0 1:=m0.pushB M.sb M.nb fun j hj _=>M.bA C M.na M.nb M.first j hj (ZO _)
 have kp0:gC st st:=⟨rfl,rfl,rfl,rfl⟩
 refine bu M.nb (fun e=>?_) fun e1=>?_
 ·exact Zk (h _ _ kp0 (m1.fin M.sa M.sb (.inr (by simpa using e))))
 refine aC (fun e=>?_) fun e2=>?_
 ·exact Zk (h _ _ kp0 (m1.last M.sb (by simpa using e) (M.last' M.na (by simpa using e))))
 have e1':1 < b.size:=by simp at e1;lia
 have e2':0+1 < a.size:=by simp at e2;lia
 refine Zb (WV ?_)
 refine Zb (Y7 (Yj
  (I:=fun x c st'=>gC st st'/\c.1=none/\MI r a b c.2.1 c.2.2.1 c.2.2.2.1/\c.2.2.1+1 < a.size/\c.2.2.2.1 < b.size/\x < c.2.1.size)
  (Q:=fun c st'=>gC st st'/\∃ res,c.1=some res/\MR r a b res) ?step ?fin ?init) ?post)
 case init=>exact ⟨kp0,rfl,m1,e2',e1',by simp⟩
 case fin =>
  refine uJ fun c1 out ia ib mg st' hh=>?_
  have kp:=hh.1
  have q1:=hh.2.1
  have m:=hh.2.2.1
  have q2:=hh.2.2.2.1
  have q3:=hh.2.2.2.2.1
  have q4:=hh.2.2.2.2.2
  clear hh
  dsimp only at *
  have:=m.size (by lia) (by exact ZS q3)
  lia
 case post =>
  refine uJ fun c1 out ia ib mg=>?_
  rintro st' ⟨kp,res,q1,q2⟩
  dsimp only at *
  subst q1
  exact Zk (h _ _ kp q2)
 case step =>
  intro x
  refine uJ fun c1 out ia ib mg st' _ hx hh=>?_
  have kp:=hh.1
  have q1:=hh.2.1
  have m:=hh.2.2.1
  have q2:=hh.2.2.2.1
  have q3:=hh.2.2.2.2.1
  have q4:=hh.2.2.2.2.2
  clear hh
  dsimp only at *
  refine Zb (Y7 (Yj
   (I:=fun y c st'=>gC st st'/\c.1=none/\MI r a b c.2.1 c.2.2.1 c.2.2.2.1/\c.2.2.1+1 < a.size/\c.2.2.2.1 < b.size/\x+y < c.2.1.size)
   (Q:=fun c st'=>gC st st'/\((∃ res,c.1=some res/\MR r a b res)\/(c.1=none/\MI r a b c.2.1 c.2.2.1 c.2.2.2.1/\c.2.2.1+1 < a.size/\c.2.2.2.1 < b.size/\x+1 < c.2.1.size))) ?step2 ?fin2 ?init2) ?post2)
  case init2=>exact ⟨kp,rfl,m,q2,q3,by simpa using q4⟩
  case fin2 =>
   refine p8 fun c1 out ia ib ac bc st' hh=>?_
   have kp:=hh.1
   have q1:=hh.2.1
   have m:=hh.2.2.1
   have q2:=hh.2.2.2.1
   have q3:=hh.2.2.2.2.1
   have q4:=hh.2.2.2.2.2
   clear hh
   dsimp only at *
   exact ⟨kp,.inr ⟨q1,m,q2,q3,by (try dsimp only);lia⟩⟩
  case step2 =>
   intro y
   refine p8 fun c1 out ia ib ac bc st' _ hy hh=>?_
   have kp:=hh.1
   have q1:=hh.2.1
   have m:=hh.2.2.1
   have q2:=hh.2.2.2.1
   have q3:=hh.2.2.2.2.1
   have q4:=hh.2.2.2.2.2
   clear hh
   dsimp only at *
   have hia:ia < a.size:=by exact Y5 q2
   have gA:=M.ga _ (Zh hia)
   have gB:=M.gb _ (Zh q3)
   refine iG q3 (dY hia ?_)
   refine Zb (C.run _ _ _ _ (kp.1.trans hk) gB gA ?_)
   dsimp only
   cases e:r b[ib] a[ia] with
   | true =>
    rw [Zs rfl]
    have m2:=m.pushB M.sb q3 (M.bA C hia q3 (C.le_of gB gA e))
    refine bu q3 (fun e3=>?_) fun e3=>?_
    ·exact Zk ⟨kp,.inl ⟨_,rfl,m2.fin M.sa M.sb (.inr (by simpa using e3))⟩⟩
    ·have e3':ib+1 < b.size:=by simp at e3;lia
     refine aC (fun _=>?_) fun _=>?_
     ·exact Zk ⟨kp,.inr ⟨rfl,m2,q2,e3',by simp;lia⟩⟩
     ·exact Zk ⟨kp,rfl,m2,q2,e3',by simp;lia⟩
   | false =>
    rw [Zp Zi]
    have m2:=m.pushA M.sa hia (M.aB C hia q3 e)
    refine bu hia (fun e3=>?_) fun e3=>?_
    ·exact Zk ⟨kp,.inl ⟨_,rfl,m2.last M.sb (by simpa using e3) (M.last' (by omega) (by simpa using e3))⟩⟩
    ·have e3':ia+1+1 < a.size:=by simp at e3;lia
     refine aC (fun _=>?_) fun _=>?_
     ·exact Zk ⟨kp,.inr ⟨rfl,m2,e3',q3,by simp;lia⟩⟩
     ·exact Zk ⟨kp,rfl,m2,e3',q3,by simp;lia⟩
  case post2 =>
   refine p8 fun c1 out ia ib ac bc=>?_
   rintro st' ⟨kp,⟨res,q1,q2⟩ | ⟨q1,m,q2,q3,q4⟩⟩
   ·dsimp only at *
    subst q1
    exact Zk ⟨kp,res,rfl,q2⟩
   ·dsimp only at *
    subst q1
    dsimp only
    refine Zb (gI ?_)
    refine Zb (Y7 (Yj
     (I:=fun y c st'=>gC st st'/\c.1=none/\MI r a b c.2.1 c.2.2.1 c.2.2.2.1/\c.2.2.1+1 < a.size/\c.2.2.2.1 < b.size/\x+1 < c.2.1.size)
     (Q:=fun c st'=>gC st st'/\((∃ res,c.1=some res/\MR r a b res)\/(c.1=none/\MI r a b c.2.1 c.2.2.1 c.2.2.2.1/\c.2.2.1+1 < a.size/\c.2.2.2.1 < b.size/\x+1 < c.2.1.size))) ?step3 ?fin3 ?init3) ?post3)
    case init3=>exact ⟨kp,rfl,m,q2,q3,q4⟩
    case fin3 =>
     refine p8 fun c1 out ia ib ac bc st' hh=>?_
     have kp:=hh.1
     have q1:=hh.2.1
     have m:=hh.2.2.1
     have q2:=hh.2.2.2.1
     have q3:=hh.2.2.2.2.1
     have q4:=hh.2.2.2.2.2
     clear hh
     exact ⟨kp,.inr ⟨q1,m,q2,q3,q4⟩⟩
    case post3 =>
     refine zy fun c1 out ia ib mg ac bc=>?_
     rintro st' ⟨kp,⟨res,q1,q2⟩ | ⟨q1,m,q2,q3,q4⟩⟩
     ·dsimp only at *
      subst q1
      exact Zk ⟨kp,res,rfl,q2⟩
     ·dsimp only at *
      subst q1
      dsimp only
      exact Zb (gP kp fun st2 kp2=>Zk ⟨kp2,rfl,m,q2,q3,q4⟩)
    case step3 =>
     intro y
     refine zy fun c1 out ia ib mg ac bc st' _ hy hh=>?_
     have kp:=hh.1
     have q1:=hh.2.1
     have m:=hh.2.2.1
     have q2:=hh.2.2.2.1
     have q3:=hh.2.2.2.2.1
     have q4:=hh.2.2.2.2.2
     clear hh
     dsimp only at *
     have both:∀ {mg:Nat} {F:Unit->StateT SortSt Sem (ForInStep (Option (Array Keyed)×Array Keyed×Nat×Nat×Nat×Nat×Nat))} {P},(∀ st2,gC st st2->wpS (model prog w) A E s (F ()) P st2)->wpS (model prog w) A E s (eV mg >>= F) P st':=fun hF=>Zb (gP kp fun st2 kp2=>hF st2 kp2)
     revert mg
     refine sQ (fun _=>rfl) fun mg2=>?_
     refine both fun st2 kp2=>?_
     have hia:ia < a.size:=by exact Y5 q2
     have gB:=M.gb _ (Zh q3)
     refine iG q3 (gr C (kp2.1.trans hk) gB M.ga (by lia) (by exact W0 hia) (iY M.sa _ _) fun k hk1 hk2 hk3=>?_)
     dsimp only
     refine aC (fun e5=>?_) fun e5=>?_
     ·have m2:=m.appA (k:=k) M.sa (fun i hi h1 h2 j hj h3=>C.tr (M.ga _ (Zh hi)) gB (M.gb _ (Zh hj)) (hk2 i hi h1 h2) (M.sb _ j q3 hj (ZO _) h3 hj))
      refine xH (fun e6=>?_) (fun e6 e7=>?_) fun e6 e7=>?_
      ·exact Zk ⟨kp2,.inl ⟨_,rfl,m2.last M.sb (by simpa using e6) (M.last' (by simp at e6;lia) (by simpa using e6))⟩⟩
      ·exact Zk ⟨kp2,.inl ⟨_,rfl,m2.fin M.sa M.sb (.inl (by simpa using e7))⟩⟩
      have hA1:ia+k < a.size:=by simp at e6 e7;lia
      have hA2:ia+k+1 < a.size:=by simp at e6 e7;lia
      have hle:∀ j (hj:j < a.size),ia+k<=j->le r b[ib] a[j]:=fun j hj h=>hk3 j hj h (by lia)
      clear e6
      have m3:=m2.pushB M.sb q3 hle
      refine bu q3 (fun e4=>?_) fun e4=>?_
      ·exact Zk ⟨kp2,.inl ⟨_,rfl,m3.fin M.sa M.sb (.inr (by simpa using e4))⟩⟩
      have e4':ib+1 < b.size:=by simp at e4;lia
      refine iG hA1 (gr C (kp2.1.trans hk) (M.ga _ (Zh hA1)) M.gb (by lia) (by exact W0 e4') (iY M.sb _ _) fun k2 hl1 hl2 hl3=>?_)
      dsimp only
      have m4:=m3.appB (k:=k2) M.sb (fun i hi h1 h2 j hj h3=>C.tr (M.gb _ (Zh hi)) (M.ga _ (Zh hA1)) (M.ga _ (Zh hj)) (hl2 i hi h1 h2) (M.sa _ j hA1 hj (ZO _) h3 hj))
      refine aC (fun e5=>?_) fun e5=>?_
      ·refine aC (fun e6=>?_) fun e6=>?_
       ·exact Zk ⟨kp2,.inl ⟨_,rfl,m4.fin M.sa M.sb (.inr (by simpa using e6))⟩⟩
       have m5:=m4.pushA M.sa hA1 (fun j hj h=>hl3 j hj h (by omega))
       refine bu hA1 (fun e7=>?_) fun e7=>?_
       ·exact Zk ⟨kp2,.inl ⟨_,rfl,m5.last M.sb (by simpa using e7) (M.last' (by simp at e7;omega) (by simpa using e7))⟩⟩
       have e7':=e7
       simp at e7'
       refine aC (fun _=>?_) fun _=>?_
       ·exact Zk ⟨kp2,.inr ⟨rfl,m5,by (try dsimp only);lia,by (try dsimp only);(try simp at e6);lia,by simp;lia⟩⟩
       ·exact Zk ⟨kp2,rfl,m5,by (try dsimp only);lia,by (try dsimp only);(try simp at e6);lia,by simp;lia⟩
      ·have m5:=m3.pushA M.sa hA1 (fun j hj h=>hl3 j hj (by lia) (by omega))
       refine bu hA1 (fun e7=>?_) fun e7=>?_
       ·exact Zk ⟨kp2,.inl ⟨_,rfl,m5.last M.sb (by simpa using e7) (M.last' (by simp at e7;omega) (by simpa using e7))⟩⟩
       have e7':=e7
       simp at e7'
       refine aC (fun _=>?_) fun _=>?_
       ·exact Zk ⟨kp2,.inr ⟨rfl,m5,by (try dsimp only);lia,by (try dsimp only);(try simp at e6);omega,by simp;lia⟩⟩
       ·exact Zk ⟨kp2,rfl,m5,by (try dsimp only);lia,by (try dsimp only);(try simp at e6);omega,by simp;lia⟩
     ·have m2:=m
      have hA1:ia < a.size:=by omega
      have hle:∀ j (hj:j < a.size),ia<=j->le r b[ib] a[j]:=fun j hj h=>hk3 j hj (by lia) (by lia)
      have m3:=m2.pushB M.sb q3 hle
      refine bu q3 (fun e4=>?_) fun e4=>?_
      ·exact Zk ⟨kp2,.inl ⟨_,rfl,m3.fin M.sa M.sb (.inr (by simpa using e4))⟩⟩
      have e4':ib+1 < b.size:=by simp at e4;lia
      refine iG hA1 (gr C (kp2.1.trans hk) (M.ga _ (Zh hA1)) M.gb (by lia) (by exact W0 e4') (iY M.sb _ _) fun k2 hl1 hl2 hl3=>?_)
      dsimp only
      have m4:=m3.appB (k:=k2) M.sb (fun i hi h1 h2 j hj h3=>C.tr (M.gb _ (Zh hi)) (M.ga _ (Zh hA1)) (M.ga _ (Zh hj)) (hl2 i hi h1 h2) (M.sa _ j hA1 hj (ZO _) h3 hj))
      refine aC (fun e5=>?_) fun e5=>?_
      ·refine aC (fun e6=>?_) fun e6=>?_
       ·exact Zk ⟨kp2,.inl ⟨_,rfl,m4.fin M.sa M.sb (.inr (by simpa using e6))⟩⟩
       have m5:=m4.pushA M.sa hA1 (fun j hj h=>hl3 j hj h (by omega))
       refine bu hA1 (fun e7=>?_) fun e7=>?_
       ·exact Zk ⟨kp2,.inl ⟨_,rfl,m5.last M.sb (by simpa using e7) (M.last' (by simp at e7;omega) (by simpa using e7))⟩⟩
       have e7':=e7
       simp at e7'
       refine aC (fun _=>?_) fun _=>?_
       ·exact Zk ⟨kp2,.inr ⟨rfl,m5,by (try dsimp only);lia,by (try dsimp only);(try simp at e6);lia,by simp;lia⟩⟩
       ·exact Zk ⟨kp2,rfl,m5,by (try dsimp only);lia,by (try dsimp only);(try simp at e6);lia,by simp;lia⟩
      ·have m5:=m3.pushA M.sa hA1 (fun j hj h=>hl3 j hj (by lia) (by omega))
       refine bu hA1 (fun e7=>?_) fun e7=>?_
       ·exact Zk ⟨kp2,.inl ⟨_,rfl,m5.last M.sb (by simpa using e7) (M.last' (by simp at e7;omega) (by simpa using e7))⟩⟩
       have e7':=e7
       simp at e7'
       refine aC (fun _=>?_) fun _=>?_
       ·exact Zk ⟨kp2,.inr ⟨rfl,m5,by (try dsimp only);lia,by (try dsimp only);(try simp at e6);omega,by simp;lia⟩⟩
       ·exact Zk ⟨kp2,rfl,m5,by (try dsimp only);lia,by (try dsimp only);(try simp at e6);omega,by simp;lia⟩
end TS
end
section
open PySem PyProof.Rows
namespace TS
variable {prog:Program} {w:World} {A:Around} {E:Yy} {s:Shared} {κ:SortKind} {G:Keyed->Prop} {r:Keyed->Keyed->Bool}
theorem wO {a:Array Keyed} {n:Nat} {x:Keyed} (h:x∈a.toList.take n):∃ j,∃ (hj:j < a.size),j < n/\a[j]=x:=by
 obtain ⟨m,hm,e⟩:=Ys h
 rw [ZR] at hm
 rw [Xn] at e
 have:m < a.size:=by simpa using (by lia:m < a.toList.length)
 exact ⟨m,this,by lia,by simpa using e⟩
structure HI (r:Keyed->Keyed->Bool) (a b out:Array Keyed) (na nb:Nat):Prop where
 pm:(a.toList.take na++(b.toList.take nb++out.toList.reverse)).Perm (a.toList++b.toList)
 so:out.toList.reverse.Pairwise (le r)
 la:∀ x∈out.toList,∀ y∈a.toList.take na,le r y x
 lb:∀ x∈out.toList,∀ y∈b.toList.take nb,le r y x
theorem HI.size {a b out:Array Keyed} {na nb:Nat} (m:HI r a b out na nb) (h1:na<=a.size) (h2:nb<=b.size):out.size+na+nb=a.size+b.size:=by
 have:=m.pm.length_eq
 simp at this
 lia
theorem HI.appA {a b out:Array Keyed} {na nb k:Nat} (m:HI r a b out na nb) (sa:Seg r a 0 a.size) (hk:k<=na) (hl:∀ i (hi:i < a.size),k<=i->i < na->∀ j (hj:j < b.size),j < nb->le r b[j] a[i]) :
  HI r a b (out++(a.extract k na).reverse) k nb:=by
 have e1:(out++(a.extract k na).reverse).toList.reverse=(a.toList.drop k).take (na - k)++out.toList.reverse:=by
  simp [List.extract_eq_drop_take]
 have e2:a.toList.take na=a.toList.take k++(a.toList.drop k).take (na - k):=by
  rw [← Yg k (a.toList.take na),List.take_take,Wu,Yv hk]
 have pa:(a.toList.take na).Pairwise (le r):=(iA sa).take
 rw [e2,ZE] at pa
 have mem:∀ x,x∈(out++(a.extract k na).reverse).toList->x∈out.toList\/x∈(a.toList.drop k).take (na - k):=fun x hx=>by
  have:x∈(out++(a.extract k na).reverse).toList.reverse:=Y0.mpr hx
  rw [e1] at this
  rcases Zd.mp this with h | h
  ·exact .inr h
  ·exact .inl (Y0.mp h)
 refine ⟨?_,?_,?_,?_⟩
 ·rw [e1]
  have:=m.pm
  rw [e2] at this
  refine List.Perm.trans ?_ this
  rw [Zl]
  refine List.Perm.append_left _ ?_
  rw [← Zl,← Zl]
  exact List.Perm.append_right _ YI
 ·rw [e1,ZE]
  refine ⟨pa.2.1,m.so,fun x hx y hy=>m.la y (Y0.mp hy) x ?_⟩
  rw [e2]
  exact Z2 _ hx
 ·intro x hx y hy
  rcases mem x hx with hx | hx
  ·exact m.la x hx y (by rw [e2];exact Y6 _ hy)
  ·exact pa.2.2 y hy x hx
 ·intro x hx y hy
  rcases mem x hx with hx | hx
  ·exact m.lb x hx y hy
  ·obtain ⟨i,hi,h1,h2,rfl⟩:=jH hx
   obtain ⟨j,hj,h3,rfl⟩:=wO hy
   exact hl i hi h1 (by lia) j hj h3
theorem HI.swap {a b out:Array Keyed} {na nb:Nat} (m:HI r a b out na nb):HI r b a out nb na:=by
 refine ⟨?_,m.so,m.lb,m.la⟩
 refine List.Perm.trans ?_ (m.pm.trans YI)
 rw [← Zl,← Zl]
 exact List.Perm.append_right _ YI
theorem HI.appB {a b out:Array Keyed} {na nb k:Nat} (m:HI r a b out na nb) (sb:Seg r b 0 b.size) (hk:k<=nb) (hl:∀ i (hi:i < b.size),k<=i->i < nb->∀ j (hj:j < a.size),j < na->le r a[j] b[i]) :
  HI r a b (out++(b.extract k nb).reverse) na k:=(m.swap.appA sb hk hl).swap
theorem wc {a out:Array Keyed} {i:Nat} (h:i < a.size):out.push a[i]=out++(a.extract i (i+1)).reverse:=by
 apply Array.ext'
 have:(a.extract i (i+1)).toList=[a[i]]:=by
  have e:i < a.toList.length:=by simpa using h
  simp [List.extract_eq_drop_take,Y4 e]
 rw [Yh,WR,this,W8]
 rfl
theorem HI.pushA {a b out:Array Keyed} {na nb:Nat} (m:HI r a b out na nb) (sa:Seg r a 0 a.size) (h0:0 < na) (h:na - 1 < a.size) (hl:∀ j (hj:j < b.size),j < nb->le r b[j] a[na - 1]):HI r a b (out.push a[na - 1]) (na - 1) nb:=by
 rw [wc h]
 have e:na - 1+1=na:=by lia
 rw [e]
 refine m.appA sa (by exact YS _ _) fun i hi h1 h2 j hj h3=>?_
 have:i=na - 1:=by lia
 subst this
 exact hl j hj h3
theorem HI.pushB {a b out:Array Keyed} {na nb:Nat} (m:HI r a b out na nb) (sb:Seg r b 0 b.size) (h0:0 < nb) (h:nb - 1 < b.size) (hl:∀ j (hj:j < a.size),j < na->le r a[j] b[nb - 1]):HI r a b (out.push b[nb - 1]) na (nb - 1):=(m.swap.pushA sb h0 h hl).swap
theorem Aq {a:Array Keyed} {n:Nat}:(a.extract 0 n).toList=a.toList.take n:=by
 rw [X5,List.extract_eq_drop_take,Xj,Nat.sub_zero]
theorem HI.fin {a b out:Array Keyed} {na nb:Nat} (m:HI r a b out na nb) (sa:Seg r a 0 a.size) (sb:Seg r b 0 b.size) (h:na=0\/nb=0):MR r a b (a.extract 0 na++b.extract 0 nb++out.reverse):=by
 have e:(a.extract 0 na++b.extract 0 nb++out.reverse).toList=a.toList.take na++(b.toList.take nb++out.toList.reverse):=by
  rw [Yh,Yh,Aq,Aq,Zl,WR]
 refine ⟨by rw [e];exact m.pm,?_⟩
 rw [e,← Zl,ZE]
 refine ⟨?_,m.so,fun x hx y hy=>?_⟩
 ·rcases h with h | h
  ·subst h
   rw [List.take_zero,Yr]
   exact (iA sb).take
  ·subst h
   rw [List.take_zero,ZG]
   exact (iA sa).take
 ·rcases Zd.mp hx with hx | hx
  ·exact m.la y (Y0.mp hy) x hx
  ·exact m.lb y (Y0.mp hy) x hx
theorem HI.first {a b out:Array Keyed} {na nb:Nat} (m:HI r a b out na nb) (sa:Seg r a 0 a.size) (h:nb=1) (hb:0 < b.size) (hl:∀ j (hj:j < a.size),le r b[0] a[j]):MR r a b (b.extract 0 nb++a.extract 0 na++out.reverse):=by
 have e:(b.extract 0 nb++a.extract 0 na++out.reverse).toList=b.toList.take nb++(a.toList.take na++out.toList.reverse):=by
  rw [Yh,Yh,Aq,Aq,Zl,WR]
 have e2:b.toList.take nb=[b[0]]:=by
  subst h
  have:=rY hb
  rw [Xj] at this
  rw [this]
  rfl
 refine ⟨?_,?_⟩
 ·rw [e]
  exact m.swap.pm.trans YI
 rw [e,← Zl,ZE]
 refine ⟨?_,m.so,fun x hx y hy=>?_⟩
 ·rw [ZE]
  refine ⟨by rw [e2];exact List.pairwise_singleton _ _,(iA sa).take,fun x hx y hy=>?_⟩
  rw [e2] at hx
  obtain ⟨j,hj,_,rfl⟩:=wO hy
  rw [Zj.mp hx]
  exact hl j hj
 ·rcases Zd.mp hx with hx | hx
  ·exact m.lb y (Y0.mp hy) x hx
  ·exact m.la y (Y0.mp hy) x hx
theorem MC.first' (C:Cmp prog w A E s κ G r) {a b:Array Keyed} (M:MC G r a b):∀ j (hj:j < a.size),le r (b[0]'M.nb) a[j]:=fun j hj=>M.bA C M.na M.nb M.first j hj (ZO _)
theorem C4 (C:Cmp prog w A E s κ G r) {a b:Array Keyed} {st:SortSt} {Q:Array Keyed->SortSt->Prop} (hk:kindOf st=κ) (M:MC G r a b) (h:∀ res st',gC st st'->MR r a b res->Q res st') :
  wpS (model prog w) A E s (ma a b) Q st:=by
 have hna:=M.na
 have hnb:=M.nb
 unfold ma
 change wpS (model prog w) A E s (_ >>= _) Q st
 dsimp only
 have hl0:a.size - 1 < a.size:=by omega
 refine Zb (gI ?_)
 have m0:HI r a b #[] a.size b.size:=⟨by simp [ZK],by simp,by simp,by simp⟩
 have m1:HI r a b #[a[a.size - 1]] (a.size - 1) b.size:=m0.pushA M.sa hna hl0 fun j hj _=>M.last j hj
 have kp0:gC st st:=⟨rfl,rfl,rfl,rfl⟩
 refine bu hl0 (fun e=>?_) fun e1=>?_
 ·exact Zk (h _ _ kp0 (m1.fin M.sa M.sb (.inl (by simpa using e))))
 refine aC (fun e=>?_) fun e2=>?_
 ·exact Zk (h _ _ kp0 (m1.first M.sa (by simpa using e) M.nb (M.first' C)))
 have e1':0 < a.size - 1:=by simp at e1;exact Yo e1
 have e2':1 < b.size:=by simp at e2;lia
 refine Zb (WV ?_)
 refine Zb (Y7 (Yj
  (I:=fun x c st'=>gC st st'/\c.1=none/\HI r a b c.2.2.2.1 c.2.1 c.2.2.1/\0 < c.2.1/\c.2.1<=a.size/\1 < c.2.2.1/\c.2.2.1<=b.size/\x < c.2.2.2.1.size)
  (Q:=fun c st'=>gC st st'/\∃ res,c.1=some res/\MR r a b res) ?step ?fin ?init) ?post)
 case init=>exact ⟨kp0,rfl,m1,e1',by (try dsimp only);exact YS _ _,e2',Zr _,by simp⟩
 case fin =>
  refine uJ fun c1 na nb out mg st' hh=>?_
  have kp:=hh.1
  have q1:=hh.2.1
  have m:=hh.2.2.1
  have q2:=hh.2.2.2.1
  have q3:=hh.2.2.2.2.1
  have q5:=hh.2.2.2.2.2.1
  have q6:=hh.2.2.2.2.2.2.1
  have q4:=hh.2.2.2.2.2.2.2
  clear hh
  dsimp only at *
  have:=m.size (by omega) (by omega)
  lia
 case post =>
  refine uJ fun c1 na nb out mg=>?_
  rintro st' ⟨kp,res,q1,q2⟩
  dsimp only at *
  subst q1
  exact Zk (h _ _ kp q2)
 case step =>
  intro x
  refine uJ fun c1 na nb out mg st' _ hx hh=>?_
  have kp:=hh.1
  have q1:=hh.2.1
  have m:=hh.2.2.1
  have q2:=hh.2.2.2.1
  have q3:=hh.2.2.2.2.1
  have q5:=hh.2.2.2.2.2.1
  have q6:=hh.2.2.2.2.2.2.1
  have q4:=hh.2.2.2.2.2.2.2
  clear hh
  dsimp only at *
  refine Zb (Y7 (Yj
   (I:=fun y c st'=>gC st st'/\c.1=none/\HI r a b c.2.2.2.1 c.2.1 c.2.2.1/\0 < c.2.1/\c.2.1<=a.size/\1 < c.2.2.1/\c.2.2.1<=b.size/\x+y < c.2.2.2.1.size)
   (Q:=fun c st'=>gC st st'/\((∃ res,c.1=some res/\MR r a b res)\/(c.1=none/\HI r a b c.2.2.2.1 c.2.1 c.2.2.1/\0 < c.2.1/\c.2.1<=a.size/\1 < c.2.2.1/\c.2.2.1<=b.size/\x+1 < c.2.2.2.1.size))) ?step2 ?fin2 ?init2) ?post2)
  case init2=>exact ⟨kp,rfl,m,q2,q3,q5,q6,by simpa using q4⟩
  case fin2 =>
   refine p8 fun c1 na nb out ac bc st' hh=>?_
   have kp:=hh.1
   have q1:=hh.2.1
   have m:=hh.2.2.1
   have q2:=hh.2.2.2.1
   have q3:=hh.2.2.2.2.1
   have q5:=hh.2.2.2.2.2.1
   have q6:=hh.2.2.2.2.2.2.1
   have q4:=hh.2.2.2.2.2.2.2
   clear hh
   dsimp only at *
   exact ⟨kp,.inr ⟨q1,m,q2,q3,q5,q6,by (try dsimp only);lia⟩⟩
  case step2 =>
   intro y
   refine p8 fun c1 na nb out ac bc st' _ hy hh=>?_
   have kp:=hh.1
   have q1:=hh.2.1
   have m:=hh.2.2.1
   have q2:=hh.2.2.2.1
   have q3:=hh.2.2.2.2.1
   have q5:=hh.2.2.2.2.2.1
   have q6:=hh.2.2.2.2.2.2.1
   have q4:=hh.2.2.2.2.2.2.2
   clear hh
   dsimp only at *
   have hA1:na - 1 < a.size:=by lia
   have hB1:nb - 1 < b.size:=by lia
   have gA:=M.ga _ (Zh hA1)
   have gB:=M.gb _ (Zh hB1)
   refine iG hB1 (dY hA1 ?_)
   refine Zb (C.run _ _ _ _ (kp.1.trans hk) gB gA ?_)
   dsimp only
   cases e:r b[nb - 1] a[na - 1] with
   | true =>
    rw [Zs rfl]
    have m2:=m.pushA M.sa q2 hA1 (fun j hj hjn=>C.tr (M.gb _ (Zh hj)) gB gA (M.sb j _ hj hB1 (ZO _) (by lia) hB1) (C.le_of gB gA e))
    refine bu hA1 (fun e3=>?_) fun e3=>?_
    ·exact Zk ⟨kp,.inl ⟨_,rfl,m2.fin M.sa M.sb (.inl (by simpa using e3))⟩⟩
    ·have e3':0 < na - 1:=by simp at e3;exact Yo e3
     refine aC (fun _=>?_) fun _=>?_
     ·exact Zk ⟨kp,.inr ⟨rfl,m2,e3',by (try dsimp only);exact ZS hA1,q5,q6,by simp;lia⟩⟩
     ·exact Zk ⟨kp,rfl,m2,e3',by (try dsimp only);exact ZS hA1,q5,q6,by simp;lia⟩
   | false =>
    rw [Zp Zi]
    have m2:=m.pushB M.sb (by exact Y5 q5) hB1 (fun j hj hjn=>C.tr (M.ga _ (Zh hj)) gA gB (M.sa j _ hj hA1 (ZO _) (by lia) hA1) e)
    refine bu hB1 (fun e3=>?_) fun e3=>?_
    ·exact Zk ⟨kp,.inl ⟨_,rfl,m2.first M.sa (by simpa using e3) M.nb (M.first' C)⟩⟩
    ·have e3':1 < nb - 1:=by simp at e3;lia
     refine aC (fun _=>?_) fun _=>?_
     ·exact Zk ⟨kp,.inr ⟨rfl,m2,q2,q3,e3',by (try dsimp only);exact ZS hB1,by simp;lia⟩⟩
     ·exact Zk ⟨kp,rfl,m2,q2,q3,e3',by (try dsimp only);exact ZS hB1,by simp;lia⟩
  case post2 =>
   refine p8 fun c1 na nb out ac bc=>?_
   rintro st' ⟨kp,⟨res,q1,q2⟩ | ⟨q1,m,q2,q3,q5,q6,q4⟩⟩
   ·dsimp only at *
    subst q1
    exact Zk ⟨kp,res,rfl,q2⟩
   ·dsimp only at *
    subst q1
    dsimp only
    refine Zb (gI ?_)
    refine Zb (Y7 (Yj
     (I:=fun y c st'=>gC st st'/\c.1=none/\HI r a b c.2.2.2.1 c.2.1 c.2.2.1/\0 < c.2.1/\c.2.1<=a.size/\1 < c.2.2.1/\c.2.2.1<=b.size/\x+1 < c.2.2.2.1.size)
     (Q:=fun c st'=>gC st st'/\((∃ res,c.1=some res/\MR r a b res)\/(c.1=none/\HI r a b c.2.2.2.1 c.2.1 c.2.2.1/\0 < c.2.1/\c.2.1<=a.size/\1 < c.2.2.1/\c.2.2.1<=b.size/\x+1 < c.2.2.2.1.size))) ?step3 ?fin3 ?init3) ?post3)
    case init3=>exact ⟨kp,rfl,m,q2,q3,q5,q6,q4⟩
    case fin3 =>
     refine p8 fun c1 na nb out ac bc st' hh=>?_
     have kp:=hh.1
     have q1:=hh.2.1
     have m:=hh.2.2.1
     have q2:=hh.2.2.2.1
     have q3:=hh.2.2.2.2.1
     have q5:=hh.2.2.2.2.2.1
     have q6:=hh.2.2.2.2.2.2.1
     have q4:=hh.2.2.2.2.2.2.2
     clear hh
     exact ⟨kp,.inr ⟨q1,m,q2,q3,q5,q6,q4⟩⟩
    case post3 =>
     refine zy fun c1 na nb out mg ac bc=>?_
     rintro st' ⟨kp,⟨res,q1,q2⟩ | ⟨q1,m,q2,q3,q5,q6,q4⟩⟩
     ·dsimp only at *
      subst q1
      exact Zk ⟨kp,res,rfl,q2⟩
     ·dsimp only at *
      subst q1
      dsimp only
      exact Zb (gP kp fun st2 kp2=>Zk ⟨kp2,rfl,m,q2,q3,q5,q6,q4⟩)
    case step3 =>
     intro y
     refine zy fun c1 na nb out mg ac bc st' _ hy hh=>?_
     have kp:=hh.1
     have q1:=hh.2.1
     have m:=hh.2.2.1
     have q2:=hh.2.2.2.1
     have q3:=hh.2.2.2.2.1
     have q5:=hh.2.2.2.2.2.1
     have q6:=hh.2.2.2.2.2.2.1
     have q4:=hh.2.2.2.2.2.2.2
     clear hh
     dsimp only at *
     have both:∀ {mg:Nat} {F:Unit->StateT SortSt Sem (ForInStep (Option (Array Keyed)×Nat×Nat×Array Keyed×Nat×Nat×Nat))} {P},(∀ st2,gC st st2->wpS (model prog w) A E s (F ()) P st2)->wpS (model prog w) A E s (eV mg >>= F) P st':=fun hF=>Zb (gP kp fun st2 kp2=>hF st2 kp2)
     revert mg
     refine sQ (fun _=>rfl) fun mg2=>?_
     refine both fun st2 kp2=>?_
     have hB0:0 < nb:=by exact Y5 q5
     have hB1:nb - 1 < b.size:=by lia
     have gB:=M.gb _ (Zh hB1)
     refine iG hB1 (gr C (kp2.1.trans hk) gB M.ga (by lia) (by lia) (iY M.sa _ _) fun k hk1 hk2 hk3=>?_)
     dsimp only
     refine aC (fun e5=>?_) fun e5=>?_
     ·have m2:=m.appA (k:=k) M.sa (by omega) (fun i hi h1 h2 j hj h3=>C.tr (M.gb _ (Zh hj)) gB (M.ga _ (Zh hi)) (M.sb j _ hj hB1 (ZO _) (by lia) hB1) (hk3 i hi (by lia) (by lia)))
      refine aC (fun e7=>?_) fun e7=>?_
      ·exact Zk ⟨kp2,.inl ⟨_,rfl,m2.fin M.sa M.sb (.inl (by simpa using e7))⟩⟩
      have hA0:0 < k:=by simp at e7;exact Yo e7
      have hA1:k - 1 < a.size:=by lia
      have hle:∀ j (hj:j < a.size),j < k->le r a[j] b[nb - 1]:=fun j hj h=>hk2 j hj (ZO _) (by lia)
      clear e7
      have m3:=m2.pushB M.sb hB0 hB1 hle
      refine bu hB1 (fun e4=>?_) fun e4=>?_
      ·exact Zk ⟨kp2,.inl ⟨_,rfl,m3.first M.sa (by simpa using e4) M.nb (M.first' C)⟩⟩
      have e4':1 < nb - 1:=by simp at e4;lia
      refine iG hA1 (gr C (kp2.1.trans hk) (M.ga _ (Zh hA1)) M.gb (by lia) (by lia) (iY M.sb _ _) fun k2 hl1 hl2 hl3=>?_)
      dsimp only
      have m4:=m3.appB (k:=k2) M.sb (by omega) (fun i hi h1 h2 j hj h3=>C.tr (M.ga _ (Zh hj)) (M.ga _ (Zh hA1)) (M.gb _ (Zh hi)) (M.sa j _ hj hA1 (ZO _) (by lia) hA1) (hl3 i hi (by lia) (by lia)))
      refine aC (fun e5=>?_) fun e5=>?_
      ·refine aC (fun e6=>?_) fun e6=>?_
       ·exact Zk ⟨kp2,.inl ⟨_,rfl,m4.first M.sa (by simpa using e6) M.nb (M.first' C)⟩⟩
       refine aC (fun e8=>?_) fun e8=>?_
       ·exact Zk ⟨kp2,.inl ⟨_,rfl,m4.fin M.sa M.sb (.inr (by simpa using e8))⟩⟩
       have m5:=m4.pushA M.sa hA0 hA1 (fun j hj h=>hl2 j hj (ZO _) (by lia))
       refine bu hA1 (fun e7=>?_) fun e7=>?_
       ·exact Zk ⟨kp2,.inl ⟨_,rfl,m5.fin M.sa M.sb (.inl (by simpa using e7))⟩⟩
       have e7':=e7
       simp at e7'
       refine aC (fun _=>?_) fun _=>?_
       ·exact Zk ⟨kp2,.inr ⟨rfl,m5,by (try dsimp only);exact Yo e7',by (try dsimp only);exact ZS hA1,by (try dsimp only);(try simp at e6);(try simp at e8);lia,by (try dsimp only);(try simp at e6);lia,by simp;lia⟩⟩
       ·exact Zk ⟨kp2,rfl,m5,by (try dsimp only);exact Yo e7',by (try dsimp only);exact ZS hA1,by (try dsimp only);(try simp at e6);(try simp at e8);lia,by (try dsimp only);(try simp at e6);lia,by simp;lia⟩
      ·have m5:=m3.pushA M.sa hA0 hA1 (fun j hj h=>hl2 j hj (ZO _) (by lia))
       refine bu hA1 (fun e7=>?_) fun e7=>?_
       ·exact Zk ⟨kp2,.inl ⟨_,rfl,m5.fin M.sa M.sb (.inl (by simpa using e7))⟩⟩
       have e7':=e7
       simp at e7'
       refine aC (fun _=>?_) fun _=>?_
       ·exact Zk ⟨kp2,.inr ⟨rfl,m5,by (try dsimp only);exact Yo e7',by (try dsimp only);exact ZS hA1,by (try dsimp only);(try simp at e6);(try simp at e8);omega,by (try dsimp only);(try simp at e6);exact ZS hB1,by simp;lia⟩⟩
       ·exact Zk ⟨kp2,rfl,m5,by (try dsimp only);exact Yo e7',by (try dsimp only);exact ZS hA1,by (try dsimp only);(try simp at e6);(try simp at e8);omega,by (try dsimp only);(try simp at e6);exact ZS hB1,by simp;lia⟩
     ·have m2:=m
      have hA0:0 < na:=q2
      have hA1:na - 1 < a.size:=by lia
      have hle:∀ j (hj:j < a.size),j < na->le r a[j] b[nb - 1]:=fun j hj h=>hk2 j hj (ZO _) (by lia)
      have m3:=m2.pushB M.sb hB0 hB1 hle
      refine bu hB1 (fun e4=>?_) fun e4=>?_
      ·exact Zk ⟨kp2,.inl ⟨_,rfl,m3.first M.sa (by simpa using e4) M.nb (M.first' C)⟩⟩
      have e4':1 < nb - 1:=by simp at e4;lia
      refine iG hA1 (gr C (kp2.1.trans hk) (M.ga _ (Zh hA1)) M.gb (by lia) (by lia) (iY M.sb _ _) fun k2 hl1 hl2 hl3=>?_)
      dsimp only
      have m4:=m3.appB (k:=k2) M.sb (by omega) (fun i hi h1 h2 j hj h3=>C.tr (M.ga _ (Zh hj)) (M.ga _ (Zh hA1)) (M.gb _ (Zh hi)) (M.sa j _ hj hA1 (ZO _) (by lia) hA1) (hl3 i hi (by lia) (by lia)))
      refine aC (fun e5=>?_) fun e5=>?_
      ·refine aC (fun e6=>?_) fun e6=>?_
       ·exact Zk ⟨kp2,.inl ⟨_,rfl,m4.first M.sa (by simpa using e6) M.nb (M.first' C)⟩⟩
       refine aC (fun e8=>?_) fun e8=>?_
       ·exact Zk ⟨kp2,.inl ⟨_,rfl,m4.fin M.sa M.sb (.inr (by simpa using e8))⟩⟩
       have m5:=m4.pushA M.sa hA0 hA1 (fun j hj h=>hl2 j hj (ZO _) (by lia))
       refine bu hA1 (fun e7=>?_) fun e7=>?_
       ·exact Zk ⟨kp2,.inl ⟨_,rfl,m5.fin M.sa M.sb (.inl (by simpa using e7))⟩⟩
       have e7':=e7
       simp at e7'
       refine aC (fun _=>?_) fun _=>?_
       ·exact Zk ⟨kp2,.inr ⟨rfl,m5,by (try dsimp only);exact Yo e7',by (try dsimp only);exact ZS hA1,by (try dsimp only);(try simp at e6);(try simp at e8);lia,by (try dsimp only);(try simp at e6);lia,by simp;lia⟩⟩
       ·exact Zk ⟨kp2,rfl,m5,by (try dsimp only);exact Yo e7',by (try dsimp only);exact ZS hA1,by (try dsimp only);(try simp at e6);(try simp at e8);lia,by (try dsimp only);(try simp at e6);lia,by simp;lia⟩
      ·have m5:=m3.pushA M.sa hA0 hA1 (fun j hj h=>hl2 j hj (ZO _) (by lia))
       refine bu hA1 (fun e7=>?_) fun e7=>?_
       ·exact Zk ⟨kp2,.inl ⟨_,rfl,m5.fin M.sa M.sb (.inl (by simpa using e7))⟩⟩
       have e7':=e7
       simp at e7'
       refine aC (fun _=>?_) fun _=>?_
       ·exact Zk ⟨kp2,.inr ⟨rfl,m5,by (try dsimp only);exact Yo e7',by (try dsimp only);exact ZS hA1,by (try dsimp only);(try simp at e6);(try simp at e8);omega,by (try dsimp only);(try simp at e6);exact ZS hB1,by simp;lia⟩⟩
       ·exact Zk ⟨kp2,rfl,m5,by (try dsimp only);exact Yo e7',by (try dsimp only);exact ZS hA1,by (try dsimp only);(try simp at e6);(try simp at e8);omega,by (try dsimp only);(try simp at e6);exact ZS hB1,by simp;lia⟩
end TS
end
section
open PySem PyProof.Rows
namespace TS
variable {prog:Program} {w:World} {A:Around} {E:Yy} {s:Shared} {κ:SortKind} {G:Keyed->Prop} {r:Keyed->Keyed->Bool}
noncomputable def K (xs:Array Keyed) (i:Nat):Keyed:=(xs[i]?).getD (.none,.none)
theorem xb {xs:Array Keyed} {i:Nat} (h:i < xs.size):K xs i=xs[i]:=by unfold K;rw [getElem?_pos xs i h];rfl
noncomputable def Sg (r:Keyed->Keyed->Bool) (xs:Array Keyed) (lo hi:Nat):Prop:=∀ i j,lo<=i->i<=j->j < hi->le r (K xs i) (K xs j)
noncomputable def Ds (r:Keyed->Keyed->Bool) (xs:Array Keyed) (lo hi:Nat):Prop:=∀ i j,lo<=i->i<=j->j < hi->le r (K xs j) (K xs i)
theorem ko {xs:Array Keyed} {i j:Nat} (hj:j<=xs.size) (k:Nat):K (mirror xs i j ((j - i) / 2)) k=if i<=k/\k < j then K xs (i+j - 1 - k) else K xs k:=by
 unfold K
 rw [getElem?_mirror_all hj]
 split <;> rfl
theorem AH {xs:Array Keyed} {src d:Nat} (hs:src < xs.size) (hd:d<=src) (k:Nat):K (bubble xs src d) k=if k=src - d then K xs src else if src - d < k/\k<=src then K xs (k - 1) else K xs k:=by
 unfold K
 rw [getElem?_bubble hs d hd]
 split
 ·rfl
 ·split <;> rfl
structure Lc (lo:Nat) (st0 st:SortSt):Prop where
 kind:kindOf st=kindOf st0
 pend:pendingOf st=pendingOf st0
 fail:failedOf st=failedOf st0
 perm:(arrOf st).Perm (arrOf st0)
 pre:∀ j,j < lo->(arrOf st)[j]?=(arrOf st0)[j]?
theorem Lc.refl (lo:Nat) (st:SortSt):Lc lo st st:=⟨rfl,rfl,rfl,Array.Perm.refl _,fun _ _=>rfl⟩
theorem Lc.size {lo:Nat} {st0 st:SortSt} (L:Lc lo st0 st):(arrOf st).size=(arrOf st0).size:=L.perm.size_eq
theorem Lc.good {lo:Nat} {st0 st:SortSt} (L:Lc lo st0 st) (g:∀ x∈arrOf st0,G x) {i:Nat} (hi:i < (arrOf st0).size):G (K (arrOf st) i):=by
 rw [xb (by rw [L.size];exact hi)]
 refine g _ ?_
 have:(arrOf st)[i]'(by rw [L.size];exact hi)∈(arrOf st).toList:=by simp
 have:=(Xh.mp L.perm).mem_iff.mp this
 simpa using this
theorem Lc.arr {lo:Nat} {st0 st:SortSt} (L:Lc lo st0 st) {xs:Array Keyed} (hp:xs.Perm (arrOf st)) (hx:∀ j,j < lo->xs[j]?=(arrOf st)[j]?):Lc lo st0 (setArr st xs) :=
 ⟨L.kind,L.pend,L.fail,hp.trans L.perm,fun j hj=>(hx j hj).trans (L.pre j hj)⟩
theorem Lc.mir {lo:Nat} {st0 st:SortSt} (L:Lc lo st0 st) {i j:Nat} (hi:lo<=i) (hj:j<=(arrOf st0).size):Lc lo st0 (setArr st (mirror (arrOf st) i j ((j - i) / 2))) :=
 L.arr (mirror_perm _ _ _ _) fun k hk=>by rw [getElem?_mirror_all (by rw [L.size];exact hj),Zp (by lia)]
theorem j8 (C:Cmp prog w A E s κ G r) {lo:Nat} {st0 st:SortSt} (hk:kindOf st0=κ) (g:∀ x∈arrOf st0,G x) (L:Lc lo st0 st) {i j:Nat} {Q:Option Bool->SortSt->Prop} (hi:i < (arrOf st0).size) (hj:j < (arrOf st0).size)
  (h:Q (some (r (K (arrOf st) i) (K (arrOf st) j))) st):wpS (model prog w) A E s (ltAt' i j) Q st:=by
 have gi:=L.good g hi
 have gj:=L.good g hj
 have hi':i < (arrOf st).size:=by rw [L.size];exact hi
 have hj':j < (arrOf st).size:=by rw [L.size];exact hj
 rw [ltAt'_eq]
 refine Zb (WV ?_)
 refine Zb (dY hi' (Zb (dY hj' ?_)))
 rw [xb hi'] at gi h
 rw [xb hj'] at gj h
 exact C.run st _ _ _ (L.kind.trans hk) gi gj h
theorem Ds.mir (C:Cmp prog w A E s κ G r) {xs:Array Keyed} {lo hi i:Nat} (D:Ds r xs lo hi) (gx:∀ k,k < hi->G (K xs k)) (h1:lo<=i) (h2:hi<=xs.size) (h3:∀ k,i<=k->k < hi->le r (K xs k) (K xs (hi - 1))) :
  Ds r (mirror xs i hi ((hi - i) / 2)) lo hi:=fun p q hp hpq hq=>by
 rw [ko h2,ko h2]
 have eqv:∀ u v,i<=u->u < hi->i<=v->v < hi->le r (K xs u) (K xs v):=fun u v a b c d=>C.tr (gx u b) (gx _ (by lia)) (gx v d) (h3 u a b) (D v (hi - 1) (by exact ZW h1 c) (by lia) (by lia))
 split
 ·split
  ·exact eqv _ _ (by omega) (by omega) (by lia) (by omega)
  ·exact D p _ hp (by lia) (by omega)
 ·split
  ·lia
  ·exact D p q hp hpq hq
theorem Ds.rev {xs:Array Keyed} {lo hi:Nat} (D:Ds r xs lo hi) (h2:hi<=xs.size):Sg r (mirror xs lo hi ((hi - lo) / 2)) lo hi:=fun p q hp hpq hq=>by
 rw [ko h2,ko h2,Zs ⟨hp,by exact XR hpq hq⟩,Zs ⟨by exact ZW hp hpq,hq⟩]
 exact D _ _ (by omega) (by omega) (by omega)
theorem Sg.snoc (C:Cmp prog w A E s κ G r) {xs:Array Keyed} {lo n:Nat} (S:Sg r xs lo (lo+n)) (gx:∀ k,k<=lo+n->G (K xs k)) (h1:1<=n) (h:le r (K xs (lo+n - 1)) (K xs (lo+n))):Sg r xs lo (lo+n+1):=fun i j hi hij hj=>by
 by_cases e:j < lo+n
 ·exact S i j hi hij e
 ·have:j=lo+n:=by lia
  subst this
  by_cases e2:i=lo+n
  ·subst e2
   exact C.refl (gx _ (Zr _))
  ·exact C.tr (gx i (by omega)) (gx _ (by exact YS _ _)) (gx _ (Zr _)) (S i (lo+n - 1) hi (by lia) (by omega)) h
theorem Ds.snoc (C:Cmp prog w A E s κ G r) {xs:Array Keyed} {lo n:Nat} (S:Ds r xs lo (lo+n)) (gx:∀ k,k<=lo+n->G (K xs k)) (h1:1<=n) (h:le r (K xs (lo+n)) (K xs (lo+n - 1))):Ds r xs lo (lo+n+1):=fun i j hi hij hj=>by
 by_cases e:j < lo+n
 ·exact S i j hi hij e
 ·have:j=lo+n:=by lia
  subst this
  by_cases e2:i=lo+n
  ·subst e2
   exact C.refl (gx _ (Zr _))
  ·exact C.tr (gx _ (Zr _)) (gx _ (by exact YS _ _)) (gx i (by omega)) h (S i (lo+n - 1) hi (by lia) (by omega))
theorem kP {st:SortSt} {i j:Nat} {Q:Unit->SortSt->Prop} (h:Q () (setArr st (mirror (arrOf st) i j ((j - i) / 2)))):wpS (model prog w) A E s (reverseSlice' i j) Q st:=by
 rw [reverseSlice'_eq]
 exact X7 h
theorem oT {α:Type} {c:Prop} [Decidable c] {x R:StateT SortSt Sem α} {Q:α->SortSt->Prop} {P:SortSt->Prop} {st:SortSt} (D:∀ st1,P st1->wpS (model prog w) A E s R Q st1) (h2:¬ c->P st) (h1:c->(∀ st1,P st1->wpS (model prog w) A E s R Q st1)->wpS (model prog w) A E s x Q st):wpS (model prog w) A E s (if c then x else R) Q st :=
 aC (fun z=>h1 z D) fun z=>D st (h2 z)
theorem Bv (C:Cmp prog w A E s κ G r) {lo n:Nat} {st:SortSt} {Q:Option Nat->SortSt->Prop} (hk:kindOf st=κ) (g:∀ x∈arrOf st,G x) (h0:1<=n) (hn:lo+n<=(arrOf st).size)
  (h:∀ m st',Lc lo st st'->1<=m->m<=n->Sg r (arrOf st') lo (lo+m)->Q (some m) st'):wpS (model prog w) A E s (countRun' lo n) Q st:=by
 unfold countRun'
 change wpS (model prog w) A E s (_ >>= _) Q st
 dsimp only
 have L0:=Lc.refl lo st
 have n01:1<=1:=Zr _
 have s0:Sg r (arrOf st) lo (lo+1):=fun i j h1 h2 h3=>by
  have e1:i=lo:=by lia
  have e2:j=lo:=by lia
  subst e1 e2
  exact C.refl (L0.good g (by lia))
 refine Zb (Y7 (Yj
  (I:=fun x c st'=>Lc lo st st'/\c.1=none/\c.2=x/\1<=x/\Sg r (arrOf st') lo (lo+x))
  (Q:=fun c st'=>Lc lo st st'/\c.1=none/\1<=c.2/\c.2<=n/\Sg r (arrOf st') lo (lo+c.2)/\(c.2 < n->r (K (arrOf st') (lo+c.2)) (K (arrOf st') (lo+c.2 - 1))=true)) ?stepA ?finA ?initA) ?postA)
 case initA=>exact ⟨L0,rfl,rfl,n01,s0⟩
 case finA =>
  refine all2 fun c1 c2=>?_
  rintro st' ⟨L,q1,q2,q3,q4⟩
  dsimp only at *
  subst q2
  refine ⟨L,q1,by (try dsimp only);omega,by (try dsimp only);lia,q4,fun z=>?_⟩
  (try dsimp only at z)
  lia
 case stepA =>
  intro x
  refine all2 fun c1 c2=>?_
  rintro st' hx1 hx2 ⟨L,q1,q2,q3,q4⟩
  dsimp only at *
  subst q2
  refine Zb (j8 C hk g L (by lia) (by omega) ?_)
  dsimp only
  have gx:∀ k,k<=lo+c2->G (K (arrOf st') k):=fun k hk=>L.good g (by lia)
  cases e:r (K (arrOf st') (lo+c2)) (K (arrOf st') (lo+c2 - 1)) with
  | true=>exact Zk ⟨L,rfl,q3,by (try dsimp only);exact ZS hx2,q4,fun _=>e⟩
  | false=>exact Zk ⟨L,rfl,rfl,by exact YM _ _,Sg.snoc C q4 gx q3 e⟩
 case postA =>
  refine all2 fun c1 c2=>?_
  rintro st' ⟨L,q1,q2,q3,q4,q5⟩
  dsimp only at *
  subst q1
  dsimp only
  refine aC (fun e=>?_) fun e=>?_
  ·exact Zk (h c2 st' L q2 q3 q4)
  have e':c2 < n:=by simp at e;exact Nat.lt_of_le_of_ne q3 e
  have sm:=q5 e'
  have gx:∀ k,k<=lo+c2->G (K (arrOf st') k):=fun k hk=>L.good g (by lia)
  have le1:le r (K (arrOf st') (lo+c2)) (K (arrOf st') (lo+c2 - 1)):=C.le_of (gx _ (by exact Zr _)) (gx _ (by exact YS _ _)) sm
  have hsz:=L.size
  refine oT (P:=fun st1=>Lc lo st st1/\Ds r (arrOf st1) lo (lo+(c2+1))) ?D ?two ?one
  case one =>
   intro e3 Dk
   refine Zb (j8 C hk g L (by lia) (by lia) ?_)
   dsimp only
   cases e4:r (K (arrOf st') lo) (K (arrOf st') (lo+c2 - 1)) with
   | true=>exact Zk (h c2 st' L q2 q3 q4)
   | false =>
    rw [Zp Zi]
    refine Zb (kP ?_)
    have L1:=L.mir (i:=lo) (j:=lo+c2) (by exact Zr _) (by lia)
    have d0:Ds r (arrOf st') lo (lo+c2):=fun i j h1 h2 h3=>C.tr (gx j (by exact ZS h3)) (gx _ (by exact YS _ _)) (gx i (by lia)) (q4 j (lo+c2 - 1) (by exact ZW h1 h2) (by lia) (by omega))
     (C.tr (gx _ (by exact YS _ _)) (gx _ (by exact ZM _ _)) (gx i (by lia)) e4 (q4 lo i (by exact Zr _) h1 (by exact XR h2 h3)))
    have d2:=Ds.mir C d0 (fun k hk=>gx k (by exact ZS hk)) (i:=lo) (by exact Zr _) (by lia) (fun k h1 h2=>q4 k _ h1 (by lia) (by omega))
    have d1:=Ds.snoc C d2 (fun k hk=>L1.good g (by lia)) q2 (by
     rw [ko (by lia),ko (by lia),Zp (by lia),Zs (by omega)]
     exact C.tr (gx _ (by exact Zr _)) (gx _ (by exact YS _ _)) (gx _ (by omega)) le1 (d0 _ _ (by omega) (by omega) (by omega)))
    exact Dk _ ⟨L1,d1⟩
  case two =>
   intro e3
   have e5:c2=1:=by lia
   have d0:Ds r (arrOf st') lo (lo+c2):=fun i j h1 h2 h3=>by
    have e1:i=lo:=by lia
    have e2:j=lo:=by lia
    subst e1 e2
    exact C.refl (gx _ (by exact ZM _ _))
   have d1:=Ds.snoc C d0 gx q2 le1
   exact ⟨L,d1⟩
  case D =>
   rintro st' ⟨L1,d1⟩
   clear gx hsz
   refine Zb (gI ?_)
   refine Zb (Y7 (Yj
    (I:=fun x c st'=>Lc lo st st'/\c.1=none/\c.2.1=x/\c.2.2+1<=x/\Ds r (arrOf st') lo (lo+x)/\(∀ k,lo+x - (c.2.2+1)<=k->k < lo+x->le r (K (arrOf st') k) (K (arrOf st') (lo+x - 1))))
    (Q:=fun c st'=>Lc lo st st'/\c.1=none/\c.2.2+1<=c.2.1/\c.2.1<=n/\Ds r (arrOf st') lo (lo+c.2.1)/\(∀ k,lo+c.2.1 - (c.2.2+1)<=k->k < lo+c.2.1->le r (K (arrOf st') k) (K (arrOf st') (lo+c.2.1 - 1)))) ?stepD ?finD ?initD) ?postD)
   case initD =>
    refine ⟨L1,rfl,rfl,by (try dsimp only);exact YM _ _,d1,fun k h1 h2=>?_⟩
    (try dsimp only at h1 h2)
    have e:k=lo+(c2+1) - 1:=by lia
    subst e
    exact C.refl (L1.good g (by lia))
   case finD =>
    refine ik fun c1 c2' neq=>?_
    rintro st' ⟨L,q1,q2,q3,q4,q5⟩
    dsimp only at *
    subst q2
    exact ⟨L,q1,q3,by (try dsimp only);lia,q4,q5⟩
   case stepD =>
    intro x
    refine ik fun c1 c2' neq=>?_
    rintro st' hx1 hx2 ⟨L,q1,q2,q3,q4,q5⟩
    dsimp only at *
    subst q2
    refine Zb (j8 C hk g L (by lia) (by omega) ?_)
    dsimp only
    have gx:∀ k,k<=lo+c2'->G (K (arrOf st') k):=fun k hk=>L.good g (by lia)
    have hsz:=L.size
    cases e:r (K (arrOf st') (lo+c2')) (K (arrOf st') (lo+c2' - 1)) with
    | true =>
     rw [Zs rfl]
     have le1:le r (K (arrOf st') (lo+c2')) (K (arrOf st') (lo+c2' - 1)):=C.le_of (gx _ (by exact Zr _)) (gx _ (by exact YS _ _)) e
     refine aC (fun z=>?_) fun z=>?_
     ·refine Zb (kP ?_)
      have L2:=L.mir (i:=lo+c2' - (neq+1)) (j:=lo+c2') (by lia) (by lia)
      have d2:=Ds.mir C q4 (fun k hk=>gx k (by exact ZS hk)) (i:=lo+c2' - (neq+1)) (by lia) (by lia) q5
      refine Zk ⟨L2,rfl,rfl,by (try dsimp only);exact YM _ _,Ds.snoc C d2 (fun k hk=>L2.good g (by lia)) (by lia) ?_,fun k h1 h2=>?_⟩
      ·show le r (K (mirror _ _ _ _) _) (K (mirror _ _ _ _) _)
       rw [ko (by lia),ko (by lia),Zp (by lia),Zs (by omega)]
       exact C.tr (gx _ (by exact Zr _)) (gx _ (by exact YS _ _)) (gx _ (by omega)) le1 (q4 _ _ (by lia) (by omega) (by omega))
      ·(try dsimp only at h1 h2)
       have e:k=lo+(c2'+1) - 1:=by lia
       subst e
       exact C.refl (L2.good g (by lia))
     ·refine Zk ⟨L,rfl,rfl,by (try dsimp only);exact YM _ _,Ds.snoc C q4 gx (by lia) le1,fun k h1 h2=>?_⟩
      (try dsimp only at h1 h2)
      have e:k=lo+(c2'+1) - 1:=by lia
      subst e
      exact C.refl (L.good g (by lia))
    | false =>
     rw [Zp Zi]
     refine Zb (j8 C hk g L (by lia) (by lia) ?_)
     dsimp only
     cases e2:r (K (arrOf st') (lo+c2' - 1)) (K (arrOf st') (lo+c2')) with
     | true=>exact Zk ⟨L,rfl,q3,by (try dsimp only);exact ZS hx2,q4,q5⟩
     | false =>
      refine Zk ⟨L,rfl,rfl,by (try dsimp only);exact YB q3,Ds.snoc C q4 gx (by lia) e2,fun k h1 h2=>?_⟩
      (try dsimp only at h1 h2)
      have ee:lo+(c2'+1) - 1=lo+c2':=by lia
      rw [ee]
      by_cases ek:k=lo+c2'
      ·subst ek
       exact C.refl (gx _ (by exact Zr _))
      ·exact C.tr (gx _ (by lia)) (gx _ (by exact YS _ _)) (gx _ (by exact Zr _)) (q5 k (by lia) (by lia)) e
   case postD =>
    refine ik fun c1 c2' neq=>?_
    rintro st' ⟨L,q1,q3,q6,q4,q5⟩
    dsimp only at *
    subst q1
    dsimp only
    have gx:∀ k,k < lo+c2'->G (K (arrOf st') k):=fun k hk=>L.good g (by lia)
    have hsz:=L.size
    have n01:1<=c2':=by lia
    refine oT (P:=fun st1=>Lc lo st st1/\Ds r (arrOf st1) lo (lo+c2')) ?R ?two2 ?one2
    case one2 =>
     intro z Dk2
     refine Zb (kP ?_)
     have L2:=L.mir (i:=lo+c2' - (neq+1)) (j:=lo+c2') (by lia) (by lia)
     have d2:=Ds.mir C q4 gx (i:=lo+c2' - (neq+1)) (by lia) (by lia) q5
     exact Dk2 _ ⟨L2,d2⟩
    case two2=>exact fun _=>⟨L,q4⟩
    case R =>
     clear q4 q5 gx hsz L
     rintro st' ⟨L,q4⟩
     have hsz:=L.size
     refine Zb (kP ?_)
     have L0:=L.mir (i:=lo) (j:=lo+c2') (by exact Zr _) (by lia)
     have s0:=q4.rev (by lia)
     refine Zb (Y7 (Yj
      (I:=fun x c st'=>Lc lo st st'/\c.1=none/\c.2=x/\1<=x/\Sg r (arrOf st') lo (lo+x))
      (Q:=fun c st'=>Lc lo st st'/\c.1=none/\1<=c.2/\c.2<=n/\Sg r (arrOf st') lo (lo+c.2)/\(c.2 < n->r (K (arrOf st') (lo+c.2)) (K (arrOf st') (lo+c.2 - 1))=true)) ?stepA ?finA ?initA) ?postA)
     case initA=>exact ⟨L0,rfl,rfl,n01,s0⟩
     case finA =>
      refine all2 fun c1 c2=>?_
      rintro st' ⟨L,q1,q2,q3,q4⟩
      dsimp only at *
      subst q2
      refine ⟨L,q1,by (try dsimp only);omega,by (try dsimp only);lia,q4,fun z=>?_⟩
      (try dsimp only at z)
      lia
     case stepA =>
      intro x
      refine all2 fun c1 c2=>?_
      rintro st' hx1 hx2 ⟨L,q1,q2,q3,q4⟩
      dsimp only at *
      subst q2
      refine Zb (j8 C hk g L (by lia) (by lia) ?_)
      dsimp only
      have gx:∀ k,k<=lo+c2->G (K (arrOf st') k):=fun k hk=>L.good g (by lia)
      cases e:r (K (arrOf st') (lo+c2)) (K (arrOf st') (lo+c2 - 1)) with
      | true=>exact Zk ⟨L,rfl,q3,by (try dsimp only);exact ZS hx2,q4,fun _=>e⟩
      | false=>exact Zk ⟨L,rfl,rfl,by exact YM _ _,Sg.snoc C q4 gx q3 e⟩
     case postA =>
      refine all2 fun c1 c3=>?_
      rintro st' ⟨L,q1,q2,q3,q4,q5⟩
      dsimp only at *
      subst q1
      exact Zk (h c3 st' L q2 q3 q4)
end TS
end
section
open PySem PyProof.Rows
namespace TS
variable {prog:Program} {w:World} {A:Around} {E:Yy} {s:Shared} {κ:SortKind} {G:Keyed->Prop} {r:Keyed->Keyed->Bool}
theorem xk {st:SortSt} {i j:Nat} {Q:Unit->SortSt->Prop} (h:Q () (setArr st (bubble (arrOf st) i (i - j)))):wpS (model prog w) A E s (moveDown' i j) Q st:=by
 rw [moveDown'_eq]
 exact X7 h
theorem Lc.bub {lo:Nat} {st0 st:SortSt} (L:Lc lo st0 st) {i d:Nat} (hd:lo+d<=i) (hj:i < (arrOf st0).size):Lc lo st0 (setArr st (bubble (arrOf st) i d)) :=
 L.arr (bubble_perm _ _ _) fun k hk=>by rw [getElem?_bubble (by rw [L.size];exact hj) d (by lia),Zp (by lia),Zp (by lia)]
theorem Cp (C:Cmp prog w A E s κ G r) {lo n ok:Nat} {st:SortSt} {Q:Bool->SortSt->Prop} (hk:kindOf st=κ) (g:∀ x∈arrOf st,G x) (h0:1<=ok) (hok:ok<=n) (hn:lo+n<=(arrOf st).size) (S:Sg r (arrOf st) lo (lo+ok))
  (h:∀ st',Lc lo st st'->Sg r (arrOf st') lo (lo+n)->Q true st'):wpS (model prog w) A E s (binarySort' lo n ok) Q st:=by
 unfold binarySort'
 change wpS (model prog w) A E s (_ >>= _) Q st
 dsimp only
 have em:max ok 1=ok:=by lia
 rw [em]
 refine Zb (Y7 (Yj
  (I:=fun x c st'=>Lc lo st st'/\c.1=none/\Sg r (arrOf st') lo (lo+x))
  (Q:=fun c st'=>Lc lo st st'/\c.1=none/\Sg r (arrOf st') lo (lo+n)) ?step ?fin ?init) ?post)
 case init=>exact ⟨Lc.refl _ _,rfl,S⟩
 case fin =>
  refine all2 fun c1 c2=>?_
  rintro st' ⟨L,q1,q2⟩
  have e:max ok n=n:=by lia
  rw [e] at q2
  exact ⟨L,q1,q2⟩
 case post =>
  refine all2 fun c1 c2=>?_
  rintro st' ⟨L,q1,q2⟩
  dsimp only at *
  subst q1
  exact Zk (h st' L q2)
 case step =>
  intro k
  refine all2 fun c1 c2=>?_
  rintro st' hk1 hk2 ⟨L,q1,q2⟩
  dsimp only at *
  have hsz:=L.size
  have gx:∀ j,j<=lo+k->G (K (arrOf st') j):=fun j hj=>L.good g (by lia)
  refine Zb (Y7 (Yj
   (I:=fun x c st2=>st'=st2/\c.1=none/\c.2.1<=c.2.2/\c.2.2<=k/\c.2.2 - c.2.1+x<=k/\(∀ i,lo<=i->i < lo+c.2.1->le r (K (arrOf st') i) (K (arrOf st') (lo+k)))/\(∀ i,lo+c.2.2<=i->i < lo+k->le r (K (arrOf st') (lo+k)) (K (arrOf st') i)))
   (Q:=fun c st2=>st'=st2/\c.1=none/\c.2.1=c.2.2/\c.2.2<=k/\(∀ i,lo<=i->i < lo+c.2.1->le r (K (arrOf st') i) (K (arrOf st') (lo+k)))/\(∀ i,lo+c.2.2<=i->i < lo+k->le r (K (arrOf st') (lo+k)) (K (arrOf st') i))) ?step2 ?fin2 ?init2) ?post2)
  case init2=>exact ⟨rfl,rfl,by (try dsimp only);exact ZO _,by (try dsimp only);exact Zr _,by (try dsimp only);lia,fun i h1 h2=>by (try dsimp only at h2);lia,fun i h1 h2=>by (try dsimp only at h1);lia⟩
  case fin2 =>
   refine ik fun d1 l rr=>?_
   rintro st2 ⟨e,q3,q4,q5,q6,q7,q8⟩
   dsimp only at *
   exact ⟨e,q3,by (try dsimp only);lia,q5,q7,q8⟩
  case step2 =>
   intro x
   refine ik fun d1 l rr=>?_
   rintro st2 _ hx ⟨e,q3,q4,q5,q6,q7,q8⟩
   subst e
   dsimp only at *
   refine aC (fun z=>?_) fun z=>?_
   ·exact Zk ⟨rfl,rfl,by (try dsimp only);exact Nat.le_antisymm q4 z,q5,q7,q8⟩
   ·refine Zb (j8 C hk g L (by lia) (by lia) ?_)
    dsimp only
    cases e2:r (K (arrOf st') (lo+k)) (K (arrOf st') (lo+(l+rr) / 2)) with
    | true =>
     have l1:=C.le_of (gx _ (by exact Zr _)) (gx _ (by lia)) e2
     exact Zk ⟨rfl,rfl,by (try dsimp only);lia,by (try dsimp only);lia,by (try dsimp only);lia,q7,fun i h1 h2=>C.tr (gx _ (by exact Zr _)) (gx _ (by lia)) (gx _ (by exact ZS h2)) l1 (q2 _ i (by exact ZM _ _) h1 h2)⟩
    | false =>
     refine Zk ⟨rfl,rfl,by (try dsimp only);lia,by (try dsimp only);omega,by (try dsimp only);lia,fun i h1 h2=>?_,q8⟩
     (try dsimp only at h2)
     exact C.tr (gx _ (by lia)) (gx _ (by lia)) (gx _ (by exact Zr _)) (q2 i (lo+(l+rr) / 2) h1 (by lia) (by lia)) e2
  case post2 =>
   refine ik fun d1 l rr=>?_
   rintro st2 ⟨e,q3,q4,q5,q7,q8⟩
   subst e
   dsimp only at *
   subst q3
   dsimp only
   refine Zb (xk ?_)
   have ed:lo+k - (lo+l)=k - l:=by lia
   rw [ed]
   refine Zk ⟨L.bub (by lia) (by lia),rfl,fun i j h1 h2 h3=>?_⟩
   show le r (K (bubble _ _ _) i) (K (bubble _ _ _) j)
   rw [AH (by lia) (by lia),AH (by lia) (by lia)]
   by_cases c1:i=lo+k - (k - l)
   ·rw [Zs c1]
    by_cases c2:j=lo+k - (k - l)
    ·rw [Zs c2];exact C.refl (gx _ (by exact Zr _))
    ·rw [Zp c2,Zs (by omega)]
     exact q8 _ (by omega) (by lia)
   ·rw [Zp c1]
    by_cases c3:lo+k - (k - l) < i/\i<=lo+k
    ·rw [Zs c3]
     rw [Zp (by lia),Zs (by omega)]
     exact q2 _ _ (by omega) (by lia) (by lia)
    ·rw [Zp c3]
     by_cases c2:j=lo+k - (k - l)
     ·rw [Zs c2]
      exact q7 i h1 (by lia)
     ·rw [Zp c2]
      by_cases c4:lo+k - (k - l) < j/\j<=lo+k
      ·rw [Zs c4]
       exact q2 _ _ h1 (by omega) (by lia)
      ·rw [Zp c4]
       exact q2 _ _ h1 h2 (by omega)
theorem rO (base:Nat):∀ (l:List Keyed) (off:Nat) (arr:Array Keyed),base+off+l.length<=arr.size →
  ((l.zipIdx off).foldl (fun a x=>a.setIfInBounds (base+x.snd) x.fst) arr).toList=arr.toList.take (base+off)++l++arr.toList.drop (base+off+l.length)
 | [],off,arr,h=>by simp
 | x :: l,off,arr,h=>by
  rw [Xe,XU]
  rw [Zg] at h
  rw [rO base l (off+1) _ (by rw [Array.size_setIfInBounds];lia)]
  dsimp only
  have hl:base+off < arr.toList.length:=by simp;lia
  rw [Array.toList_setIfInBounds,List.set_eq_take_append_cons_drop,Zs hl]
  have e1:(arr.toList.take (base+off)++x :: arr.toList.drop (base+off+1)).take (base+(off+1))=arr.toList.take (base+off)++[x]:=by
   have:(arr.toList.take (base+off)).length=base+off:=by rw [ZR];lia
   rw [List.take_append,this,ZK (by rw [this];lia)]
   have:base+(off+1) - (base+off)=1:=by lia
   rw [this];rfl
  have e2:(arr.toList.take (base+off)++x :: arr.toList.drop (base+off+1)).drop (base+(off+1)+l.length)=arr.toList.drop (base+off+(l.length+1)):=by
   have:(arr.toList.take (base+off)).length=base+off:=by rw [ZR];lia
   rw [XB,this,YO (by rw [this];lia),Yr]
   have:base+(off+1)+l.length - (base+off)=l.length+1:=by lia
   rw [this,List.drop_succ_cons,WS]
   congr 1
   lia
  rw [e1,e2]
  simp
end TS
end
section
open PySem PyProof.Rows
namespace TS
variable {prog:Program} {w:World} {A:Around} {E:Yy} {s:Shared} {κ:SortKind} {G:Keyed->Prop} {r:Keyed->Keyed->Bool}
theorem gL {a:Array Keyed} {P X S:List Keyed} (e:a.toList=P++X++S) (j:Nat) (hj:j < X.length):∃ h:P.length+j < a.size,a[P.length+j]=X[j]:=by
 have hs:a.size=P.length+X.length+S.length:=by
  have:=congrArg List.length e
  simp at this
  lia
 have h:P.length+j < a.size:=by lia
 refine ⟨h,?_⟩
 have h1:a[P.length+j]?=X[j]?:=by
  rw [← Z8,e,Zl,Yx (by exact ZM _ _),YG,Yl hj]
 rw [getElem?_pos a _ h,getElem?_pos X _ hj] at h1
 exact ZI h1
theorem sL (C:Cmp prog w A E s κ G r) {a:Array Keyed} {P X S:List Keyed} (e:a.toList=P++X++S) (g:∀ x∈a,G x) (sx:X.Pairwise (le r)):Seg r a P.length (P.length+X.length):=by
 intro i j hi hj h1 h2 h3
 obtain ⟨i',rfl⟩:∃ i',i=P.length+i':=⟨i - P.length,by lia⟩
 obtain ⟨j',rfl⟩:∃ j',j=P.length+j':=⟨j - P.length,by lia⟩
 obtain ⟨_,e1⟩:=gL e i' (by lia)
 obtain ⟨_,e2⟩:=gL e j' (by lia)
 rcases Wy i' j' with hlt | hge
 ·rw [e1,e2]
  exact Y3.mp sx i' j' (by lia) (by lia) hlt
 ·have:i'=j':=by lia
  subst this
  exact C.refl (g _ (Zh hi))
theorem Bu (C:Cmp prog w A E s κ G r) {i pw pw2:Nat} {st:SortSt} {Q:Bool->SortSt->Prop} {P X Y S:List Keyed} (hk:kindOf st=κ) (g:∀ x∈arrOf st,G x) (hf:failedOf st=none)
  (e1:(arrOf st).toList=P++X++(Y++S)) (p1:(pendingOf st)[i]?=some (P.length,X.length,pw)) (p2:(pendingOf st)[i+1]?=some (P.length+X.length,Y.length,pw2))
  (sX:X.Pairwise (le r)) (sY:Y.Pairwise (le r)) (nX:0 < X.length) (nY:0 < Y.length)
  (h:∀ st' M,M.Perm (X++Y)->M.Pairwise (le r)->(arrOf st').toList=P++M++S->kindOf st'=kindOf st->failedOf st'=none →
   pendingOf st'=((pendingOf st).setIfInBounds i (P.length,X.length+Y.length,pw)).eraseIdxIfInBounds (i+1)->Q true st'):wpS (model prog w) A E s (mergeAt' i) Q st:=by
 have e2:(arrOf st).toList=(P++X)++Y++S:=by rw [e1];simp
 have hs:(arrOf st).size=P.length+X.length+Y.length+S.length:=by
  have:=congrArg List.length e1
  simp at this
  lia
 have gm:∀ x,x∈(arrOf st).toList->G x:=fun x hx=>g x (by simpa using hx)
 have gX:∀ x∈X,G x:=fun x hx=>gm x (by rw [e1];simp [hx])
 have gY:∀ x∈Y,G x:=fun x hx=>gm x (by rw [e1];simp [hx])
 have segX:=sL C e1 g sX
 have segY:=sL C e2 g sY
 rw [Zu] at segY
 obtain ⟨hb,eb⟩:=gL e2 0 nY
 simp only [Zu,Nat.add_zero] at hb eb
 obtain ⟨hl,el⟩:=gL e1 (X.length - 1) (by lia)
 have gb:G (arrOf st)[P.length+X.length]:=g _ (Zh hb)
 unfold mergeAt'
 change wpS (model prog w) A E s (_ >>= _) Q st
 dsimp only
 refine Zb (WV ?_)
 rw [show (sortPriv% PySem.Builtin.SortState.pending) st=pendingOf st from rfl,p1,p2]
 dsimp only
 refine Zb (show wpS _ _ _ _ (set _) _ _ from ?_)
 refine (show wpS (model prog w) A E s (modify (fun _=>SortSt.mk' (kindOf st) (arrOf st) (((pendingOf st).setIfInBounds i (P.length,X.length+Y.length,pw)).eraseIdxIfInBounds (i+1)) (gallopOf st) (failedOf st))) _ st from X7 ?_)
 refine Zb (dY hb ?_)
 refine Zb (gr C (hint:=0) (by exact hk) gb g (by show P.length+X.length<=(arrOf st).size;exact ZS hb) nX segX fun k hk1 hk2 hk3=>?_)
 dsimp only
 have z1:∀ x∈X.take k,le r x (arrOf st)[P.length+X.length]:=fun x hx=>by
  obtain ⟨j,hj,rfl⟩:=Ys hx
  rw [ZR] at hj
  obtain ⟨h1,e3⟩:=gL e1 j (by lia)
  rw [Xn,← e3]
  exact hk2 _ h1 (by exact ZM _ _) (by lia)
 have z2:∀ x∈X.drop k,le r (arrOf st)[P.length+X.length] x:=fun x hx=>by
  obtain ⟨j,hj,rfl⟩:=Ys hx
  rw [ZQ] at hj
  obtain ⟨h1,e3⟩:=gL e1 (k+j) (by lia)
  rw [Xm,← e3]
  exact hk3 _ h1 (by lia) (by lia)
 have b0Y:∀ y∈Y,le r (arrOf st)[P.length+X.length] y:=fun y hy=>by
  obtain ⟨j,hj,rfl⟩:=Ys hy
  obtain ⟨h1,e3⟩:=gL e2 j hj
  simp only [Zu] at h1 e3
  rw [← e3]
  exact segY _ _ hb h1 (by exact Zr _) (by exact ZM _ _) (by lia)
 refine aC (fun e3=>?_) fun e3=>?_
 ·have e3':X.length<=k:=by simp at e3;lia
  refine Zk (h _ (X++Y) (XH _) ?_ (by show (arrOf st).toList=_;rw [e1];simp) rfl hf rfl)
  rw [ZE]
  refine ⟨sX,sY,fun x hx y hy=>C.tr (gX x hx) gb (gY y hy) (z1 x (by rw [ZK e3'];exact hx)) (b0Y y hy)⟩
 have hk':k < X.length:=by simp at e3;lia
 have ei:P.length+k+(X.length - k) - 1=P.length+(X.length - 1):=by lia
 refine Zb (dY (show P.length+k+(X.length - k) - 1 < (arrOf st).size by omega) ?_)
 have elst:∀ (q:P.length+k+(X.length - k) - 1 < (arrOf st).size),(arrOf st)[P.length+k+(X.length - k) - 1]=X[X.length - 1]:=fun q=>by
  simp only [ei]
  exact el
 rw [elst]
 have gl:G X[X.length - 1]:=gX _ (Xc _)
 refine Zb (gr C (hint:=Y.length - 1) (by exact hk) gl g (by show P.length+X.length+Y.length<=(arrOf st).size;lia) (by lia) segY fun m hm1 hm2 hm3=>?_)
 dsimp only
 have y1:∀ x∈Y.take m,le r x X[X.length - 1]:=fun x hx=>by
  obtain ⟨j,hj,rfl⟩:=Ys hx
  rw [ZR] at hj
  obtain ⟨h1,e3⟩:=gL e2 j (by lia)
  simp only [Zu] at h1 e3
  rw [Xn,← e3]
  exact hm2 _ h1 (by exact ZM _ _) (by lia)
 have y2:∀ x∈Y.drop m,le r X[X.length - 1] x:=fun x hx=>by
  obtain ⟨j,hj,rfl⟩:=Ys hx
  rw [ZQ] at hj
  obtain ⟨h1,e3⟩:=gL e2 (m+j) (by lia)
  simp only [Zu] at h1 e3
  rw [Xm,← e3]
  exact hm3 _ h1 (by lia) (by lia)
 have xl:∀ x∈X,le r x X[X.length - 1]:=fun x hx=>by
  obtain ⟨j,hj,rfl⟩:=Ys hx
  rcases Wy j (X.length - 1) with hlt | hge
  ·exact Y3.mp sX j _ hj (by omega) hlt
  ·have:j=X.length - 1:=by omega
   subst this
   exact C.refl gl
 refine aC (fun e4=>?_) fun e4=>?_
 ·have e4':m=0:=by simpa using e4
  subst e4'
  refine Zk (h _ (X++Y) (XH _) ?_ (by show (arrOf st).toList=_;rw [e1];simp) rfl hf rfl)
  rw [ZE]
  exact ⟨sX,sY,fun x hx y hy=>C.tr (gX x hx) gl (gY y hy) (xl x hx) (y2 y hy)⟩
 have hm':0 < m:=by simp at e4;exact Yo e4
 have ex:((arrOf st).extract (P.length+k) (P.length+X.length)).toList=X.drop k:=by
  rw [X5,List.extract_eq_drop_take,e1,Zl,XB,YO (by exact ZM _ _),Yr]
  have:P.length+k - P.length=k:=by exact YG _ _
  rw [this,XB,Nat.sub_eq_zero_of_le (by omega:k<=X.length),Xj]
  rw [X0 (by rw [ZQ];lia),ZK (by rw [ZQ];lia)]
 have ey:((arrOf st).extract (P.length+X.length) (P.length+X.length+m)).toList=Y.take m:=by
  rw [X5,List.extract_eq_drop_take,e2,Zl,XB,YO (by simp),Yr]
  have:P.length+X.length - (P++X).length=0:=by simp
  rw [this,Xj]
  have:P.length+X.length+m - (P.length+X.length)=m:=by exact YG _ _
  rw [this,X0 (by omega)]
 obtain ⟨ax,hax⟩:∃ ax,ax=(arrOf st).extract (P.length+k) (P.length+X.length):=⟨_,rfl⟩
 obtain ⟨ay,hay⟩:∃ ay,ay=(arrOf st).extract (P.length+X.length) (P.length+X.length+m):=⟨_,rfl⟩
 rw [← hax] at ex
 rw [← hay] at ey
 have mx:∀ x,x∈ax->x∈X.drop k:=fun x hx=>by rw [← ex];simpa using hx
 have my:∀ x,x∈ay->x∈Y.take m:=fun x hx=>by rw [← ey];simpa using hx
 have szx:ax.size=X.length - k:=by have:=congrArg List.length ex;simpa using this
 have szy:ay.size=m:=by have:=congrArg List.length ey;simp at this;lia
 have gax:∀ x∈ax,G x:=fun x hx=>gX x (Ym (mx x hx))
 have gay:∀ x∈ay,G x:=fun x hx=>gY x (Yn (my x hx))
 have y0:∀ (q:0 < ay.size),ay[0]=(arrOf st)[P.length+X.length]:=fun q=>by
  rw [eb]
  have:ay[0]?=Y[0]?:=by rw [← Z8,ey,List.getElem?_take_of_lt hm']
  rw [getElem?_pos ay 0 q,getElem?_pos Y 0 nY] at this
  exact ZI this
 have xl0:∀ (q:ax.size - 1 < ax.size),ax[ax.size - 1]=X[X.length - 1]:=fun q=>by
  have:ax[ax.size - 1]?=X[X.length - 1]?:=by
   rw [← Z8,ex,List.getElem?_drop]
   congr 1
   lia
  rw [getElem?_pos ax _ q,getElem?_pos X _ (by omega)] at this
  exact ZI this
 have M:MC G r ax ay:=by
  refine ⟨gax,gay,wx C gax (by rw [ex];exact sX.drop),wx C gay (by rw [ey];exact sY.take),by lia,by lia,?_,fun j hj=>?_⟩
  ·rw [y0]
   exact z2 _ (mx _ (Zh _))
  ·rw [xl0]
   exact y1 _ (my _ (Zh hj))
 have fin:∀ (st1:SortSt) (res:Array Keyed),gC (SortSt.mk' (kindOf st) (arrOf st) (((pendingOf st).setIfInBounds i (P.length,X.length+Y.length,pw)).eraseIdxIfInBounds (i+1)) (gallopOf st) (failedOf st)) st1->MR r ax ay res →
   Q (failedOf st1).isNone (SortSt.mk' (kindOf st1) (res.toList.zipIdx.foldl (fun a x=>a.setIfInBounds (P.length+k+x.snd) x.fst) (arrOf st1)) (pendingOf st1) (gallopOf st1) (failedOf st1)):=fun st1 res kp mr=>by
  obtain ⟨k1,k2,k3,k4⟩:=kp
  have k4':failedOf st1=none:=k4.trans hf
  have k2':arrOf st1=arrOf st:=k2
  rw [k4']
  have hl:res.toList.length=X.length - k+m:=by
   rw [mr.1.length_eq,ex,ey]
   simp
   exact Yv hm1
  have mem:∀ x,x∈res.toList->x∈X.drop k\/x∈Y.take m:=fun x hx=>by
   have:=mr.1.mem_iff.mp hx
   rw [ex,ey] at this
   exact Zd.mp this
  have bk:=rO (P.length+k) res.toList 0 (arrOf st1) (by rw [k2'];omega)
  rw [k2',Nat.add_zero] at bk
  have t1:(arrOf st).toList.take (P.length+k)=P++X.take k:=by
   rw [e1,Zl,List.take_append,ZK (by exact ZM _ _),YG,X0 (by omega)]
  have t2:(arrOf st).toList.drop (P.length+k+res.toList.length)=Y.drop m++S:=by
   rw [e2,Zl,XB,YO (by rw [Zu];omega),Yr]
   have:P.length+k+res.toList.length - (P++X).length=m:=by rw [Zu];omega
   rw [this,List.drop_append_of_le_length (by omega)]
  refine h _ (X.take k++res.toList++Y.drop m) ?_ ?_ ?_ k1 rfl k3
  ·have p:(X.take k++(X.drop k++Y.take m)++Y.drop m)=X++Y:=by
    rw [← Zl,Yg,Zl,Yg]
   rw [← p]
   have:=mr.1
   rw [ex,ey] at this
   exact (this.append_left _).append_right _
  ·rw [ZE,ZE]
   refine ⟨⟨sX.take,mr.2,fun x hx y hy=>?_⟩,sY.drop,fun x hx y hy=>?_⟩
   ·rcases mem y hy with hy | hy
    ·have:=sX
     rw [← Yg k X,ZE] at this
     exact this.2.2 x hx y hy
    ·exact C.tr (gX _ (Yn hx)) gb (gY _ (Yn hy)) (z1 x hx) (b0Y y (Yn hy))
   ·rcases Zd.mp hx with hx | hx
    ·exact C.tr (gX _ (Yn hx)) gb (gY _ (Ym hy)) (z1 x hx) (b0Y y (Ym hy))
    ·rcases mem x hx with hx | hx
     ·exact C.tr (gX _ (Ym hx)) gl (gY _ (Ym hy)) (xl x (Ym hx)) (y2 y hy)
     ·have:=sY
      rw [← Yg m Y,ZE] at this
      exact this.2.2 x hx y hy
  ·show (List.foldl _ (arrOf st1) _).toList=_
   rw [k2',bk,t1,t2]
   simp
 refine aC (fun _=>?_) fun _=>?_
 ·refine Zb (?_:wpS (model prog w) A E s (lP ((arrOf st).extract (P.length+k) (P.length+X.length)) ((arrOf st).extract (P.length+X.length) (P.length+X.length+m))) _ _)
  rw [← hax,← hay]
  refine EK C (by exact hk) M fun res st1 kp mr=>?_
  exact Zb (X7 (Zb (WV (Zk (fin st1 res kp mr)))))
 ·refine Zb (?_:wpS (model prog w) A E s (ma ((arrOf st).extract (P.length+k) (P.length+X.length)) ((arrOf st).extract (P.length+X.length) (P.length+X.length+m))) _ _)
  rw [← hax,← hay]
  refine C4 C (by exact hk) M fun res st1 kp mr=>?_
  exact Zb (X7 (Zb (WV (Zk (fin st1 res kp mr)))))
end TS
end
section
open PySem PyProof.Rows
namespace TS
variable {prog:Program} {w:World} {A:Around} {E:Yy} {s:Shared} {κ:SortKind} {G:Keyed->Prop} {r:Keyed->Keyed->Bool}
noncomputable def i5:Nat->List (List Keyed)->List (Nat×Nat)
 | _,[]=>[]
 | o,R :: Rs=>(o,R.length) :: i5 (o+R.length) Rs
theorem iM:∀ (a b:List (List Keyed)) (o:Nat),i5 o (a++b)=i5 o a++i5 (o+a.flatten.length) b
 | [],b,o=>by simp [i5]
 | R :: a,b,o=>by
  show (o,R.length) :: i5 (o+R.length) (a++b)=(o,R.length) :: (i5 (o+R.length) a++_)
  rw [iM a b]
  simp [XY]
theorem iy:∀ (a:List (List Keyed)) (o:Nat),(i5 o a).length=a.length
 | [],o=>rfl
 | R :: a,o=>by show (i5 _ a).length+1=_;rw [iy a];rfl
theorem mT {α β:Type} (f:α->β):∀ (l:List α) (i:Nat),(l.eraseIdx i).map f=(l.map f).eraseIdx i
 | [],i=>rfl
 | x :: l,0=>rfl
 | x :: l,i+1=>by show f x :: (l.eraseIdx i).map f=f x :: (l.map f).eraseIdx i;rw [mT f l i]
structure RI (κ:SortKind) (r:Keyed->Keyed->Bool) (a₀:Array Keyed) (st:SortSt) (runs:List (List Keyed)) (rest:List Keyed):Prop where
 kind:kindOf st=κ
 fail:failedOf st=none
 arr:(arrOf st).toList=runs.flatten++rest
 pend:(pendingOf st).toList.map (fun p=>(p.1,p.2.1))=i5 0 runs
 ok:∀ R∈runs,0 < R.length/\R.Pairwise (le r)
 perm:(arrOf st).Perm a₀
theorem RI.good {a₀:Array Keyed} {st:SortSt} {runs:List (List Keyed)} {rest:List Keyed} (h:RI κ r a₀ st runs rest) (g:∀ x∈a₀,G x):∀ x∈arrOf st,G x:=fun x hx=>by
 have:x∈(arrOf st).toList:=by simpa using hx
 exact g x (by simpa using (Xh.mp h.perm).mem_iff.mp this)
theorem RI.psize {a₀:Array Keyed} {st:SortSt} {runs:List (List Keyed)} {rest:List Keyed} (h:RI κ r a₀ st runs rest):(pendingOf st).size=runs.length:=by
 have:=congrArg List.length h.pend
 rw [Zv,iy] at this
 simpa using this
theorem RI.at {a₀:Array Keyed} {st:SortSt} {pre post:List (List Keyed)} {X:List Keyed} {rest:List Keyed} (h:RI κ r a₀ st (pre++X :: post) rest):∃ pw,(pendingOf st)[pre.length]?=some (pre.flatten.length,X.length,pw):=by
 have e:((pendingOf st).toList.map (fun p=>(p.1,p.2.1)))[pre.length]?=some (pre.flatten.length,X.length):=by
  rw [h.pend,iM,Yx (by rw [iy];exact Zr _),iy,Nat.sub_self,Xu]
  rfl
 rw [Z1,Z8] at e
 obtain ⟨⟨a,b,c⟩,e1,e2⟩:=Zm.mp e
 injection e2 with e3 e4
 dsimp only at e3 e4
 exact ⟨c,by rw [e1,e3,e4]⟩
theorem pQ {α:Type}:∀ {l:List α} {i:Nat},i+1 < l.length->∃ pre X Y post,l=pre++X :: Y :: post/\pre.length=i
 | [],i,h=>by simp at h
 | [x],i,h=>by simp at h
 | x :: y :: l,0,h=>⟨[],x,y,l,rfl,rfl⟩
 | x :: y :: l,i+1,h=>by
  obtain ⟨pre,X,Y,post,e,hp⟩:=pQ (l:=y :: l) (i:=i) (by simp at h ⊢;omega)
  exact ⟨x :: pre,X,Y,post,by rw [e];rfl,by rw [Zg,hp]⟩
theorem RI.merge (C:Cmp prog w A E s κ G r) {a₀:Array Keyed} {st:SortSt} {runs:List (List Keyed)} {rest:List Keyed} {i:Nat} {Q:Bool->SortSt->Prop} (h:RI κ r a₀ st runs rest) (g:∀ x∈a₀,G x) (hi:i+1 < runs.length)
  (hq:∀ st' runs',RI κ r a₀ st' runs' rest->runs'.length+1=runs.length->runs'.flatten.length=runs.flatten.length->Q true st'):wpS (model prog w) A E s (mergeAt' i) Q st:=by
 obtain ⟨pre,X,Y,post,rfl,rfl⟩:=pQ hi
 obtain ⟨pw,p1⟩:=h.at
 have h':RI κ r a₀ st ((pre++[X])++Y :: post) rest:=by
  have e:(pre++[X])++Y :: post=pre++X :: Y :: post:=by simp
  rw [e];exact h
 obtain ⟨pw2,p2⟩:=h'.at
 have oX:=h.ok X (by simp)
 have oY:=h.ok Y (by simp)
 have p2':(pendingOf st)[pre.length+1]?=some (pre.flatten.length+X.length,Y.length,pw2):=by
  simpa using p2
 refine Bu C (P:=pre.flatten) (X:=X) (Y:=Y) (S:=post.flatten++rest) h.kind (h.good g) h.fail (by rw [h.arr];simp) p1 p2' oX.2 oY.2 oX.1 oY.1 fun st' M m1 m2 m3 m4 m5 m6=>?_
 have hl:=m1.length_eq
 rw [Zu] at hl
 refine hq st' (pre++M :: post) ⟨m4.trans h.kind,m5,by rw [m3];simp,?_,fun R hR=>?_,?_⟩ (by simp;exact XY _ _ _) (by simp;lia)
 ·rw [m6]
  have e0:(((pendingOf st).setIfInBounds pre.length (pre.flatten.length,X.length+Y.length,pw)).eraseIdxIfInBounds (pre.length+1)).toList=((pendingOf st).toList.set pre.length (pre.flatten.length,X.length+Y.length,pw)).eraseIdx (pre.length+1):=by
   simp
  rw [e0,mT,List.map_set,h.pend]
  show ((i5 0 (pre++X :: Y :: post)).set pre.length (pre.flatten.length,X.length+Y.length)).eraseIdx (pre.length+1)=i5 0 (pre++M :: post)
  rw [iM,iM]
  have ol:=iy pre 0
  have e1:∀ (u v t:List (Nat×Nat)) (x y z:Nat×Nat),u.length=pre.length->((u++x :: y :: t).set pre.length z).eraseIdx (pre.length+1)=u++z :: t:=fun u v t x y z hu=>by
   rw [List.set_append_right _ _ (by exact We hu),hu,Nat.sub_self,List.eraseIdx_append_of_length_le (by lia),hu]
   have:pre.length+1 - pre.length=1:=by exact YG _ _
   rw [this]
   rfl
  show ((i5 0 pre++(0+pre.flatten.length,X.length) :: (0+pre.flatten.length+X.length,Y.length) :: i5 (0+pre.flatten.length+X.length+Y.length) post).set _ _).eraseIdx _=i5 0 pre++(0+pre.flatten.length,M.length) :: i5 (0+pre.flatten.length+M.length) post
  rw [e1 _ [] _ _ _ _ ol,hl,Xu,XY]
 ·rcases Zd.mp hR with hR | hR
  ·exact h.ok R (by simp [hR])
  ·rcases Zo.mp hR with rfl | hR
   ·exact ⟨by lia,m2⟩
   ·exact h.ok R (by simp [hR])
 ·refine Array.Perm.trans ?_ h.perm
  rw [Xh,m3,h.arr]
  have e:(pre++X :: Y :: post).flatten++rest=pre.flatten++(X++Y)++(post.flatten++rest):=by simp
  rw [e]
  exact (m1.append_left _).append_right _
end TS
end
section
open PySem PyProof.Rows
namespace TS
variable {prog:Program} {w:World} {A:Around} {E:Yy} {s:Shared} {κ:SortKind} {G:Keyed->Prop} {r:Keyed->Keyed->Bool}
theorem RI.loc {a₀:Array Keyed} {st st2:SortSt} {runs:List (List Keyed)} {rest:List Keyed} (h:RI κ r a₀ st runs rest) (L:Lc runs.flatten.length st st2):RI κ r a₀ st2 runs ((arrOf st2).toList.drop runs.flatten.length):=by
 refine ⟨L.kind.trans h.kind,L.fail.trans h.fail,?_,by rw [L.pend];exact h.pend,h.ok,L.perm.trans h.perm⟩
 have e:(arrOf st2).toList.take runs.flatten.length=runs.flatten:=by
  have e2:(arrOf st).toList.take runs.flatten.length=runs.flatten:=by rw [h.arr,List.take_left]
  refine Eq.trans ?_ e2
  apply W7
  intro i
  rw [List.getElem?_take,List.getElem?_take]
  split
  ·rename_i hi
   rw [Z8,Z8]
   exact L.pre i hi
  ·rfl
 conv=>lhs;rw [← Yg runs.flatten.length (arrOf st2).toList,e]
theorem RI.push {a₀:Array Keyed} {st:SortSt} {runs:List (List Keyed)} {rest:List Keyed} {n lo:Nat} (h:RI κ r a₀ st runs rest) (hl:runs.flatten.length=lo) (h0:0 < n) (hn:n<=rest.length) (hp:(rest.take n).Pairwise (le r)) :
  RI κ r a₀ (setPending st ((pendingOf st).push (lo,n,0))) (runs++[rest.take n]) (rest.drop n):=by
 refine ⟨h.kind,h.fail,?_,?_,fun R hR=>?_,h.perm⟩
 ·show (arrOf st).toList=_
  rw [h.arr]
  simp
 ·show ((pendingOf st).push (lo,n,0)).toList.map _=_
  rw [W8,Yu,h.pend,iM,Xu,hl]
  show _++[(lo,n)]=_++[(lo,(rest.take n).length)]
  rw [ZR,Yv hn]
 ·rcases Zd.mp hR with hR | hR
  ·exact h.ok R hR
  ·rw [Zj.mp hR]
   exact ⟨by rw [ZR];lia,hp⟩
theorem se {α β:Type} (f:α->β) (g:α->α) (hg:∀ x,f (g x)=f x):∀ (l:List α) (i:Nat),(l.modify i g).map f=l.map f
 | [],i=>by simp
 | x :: l,0=>by simp [hg]
 | x :: l,i+1=>by simp [se f g hg l i]
theorem RI.mod {a₀:Array Keyed} {st:SortSt} {runs:List (List Keyed)} {rest:List Keyed} (h:RI κ r a₀ st runs rest) (i pw:Nat):RI κ r a₀ (setPending st ((pendingOf st).modify i fun x=>(x.1,x.2.1,pw))) runs rest :=
 ⟨h.kind,h.fail,h.arr,by
  show ((pendingOf st).modify i fun x=>(x.1,x.2.1,pw)).toList.map _=_
  rw [Array.toList_modify,se (fun p:Nat×Nat×Nat=>(p.1,p.2.1)) (fun x=>(x.1,x.2.1,pw)) (fun x=>rfl),h.pend],h.ok,h.perm⟩
theorem Sg.pw {xs:Array Keyed} {lo n:Nat} (h:Sg r xs lo (lo+n)) (hs:lo+n<=xs.size):((xs.toList.drop lo).take n).Pairwise (le r):=by
 rw [Y3]
 intro i j hi hj hij
 rw [ZR,ZQ] at hi hj
 rw [Xn,Xn,Xm,Xm]
 have:=h (lo+i) (lo+j) (by exact ZM _ _) (by lia) (by lia)
 rw [xb (by lia),xb (by lia)] at this
 simpa using this
theorem RI.size {a₀:Array Keyed} {st:SortSt} {runs:List (List Keyed)} {rest:List Keyed} (h:RI κ r a₀ st runs rest):runs.flatten.length+rest.length=a₀.size:=by
 have e:=congrArg List.length h.arr
 rw [Zu,YZ,h.perm.size_eq] at e
 exact e.symm
theorem zR {runs:List (List Keyed)} (h:∀ R∈runs,0 < R.length/\R.Pairwise (le r)):runs.length<=runs.flatten.length:=by
 induction runs with
 | nil=>exact Zr _
 | cons R Rs ih =>
  have h1:=(h R (Zw ..)).1
  have h2:=ih fun x hx=>h x (Zx _ hx)
  simp only [Zg,Zf,Zu]
  lia
theorem BD {c:Prop} [Decidable c] {a b n:Nat} (h1:a+1 < n) (h2:b+1 < n):(if c then a else b)+1 < n:=by
 split
 ·exact h1
 ·exact h2
theorem uC {α:Type} {a b d:Nat->Prop} {c:Nat->Prop} [∀ n,Decidable (c n)] {x R:Nat->StateT SortSt Sem α} {Q:α->SortSt->Prop} {P:Nat->SortSt->Prop} {st:SortSt} (D:∀ n st1,P n st1->wpS (model prog w) A E s (R n) Q st1) (h2:∀ m,a m->b m->d m->¬ c m->P m st)
  (h1:∀ m,a m->b m->d m->c m->(∀ n st1,P n st1->wpS (model prog w) A E s (R n) Q st1)->wpS (model prog w) A E s (x m) Q st):∀ m,a m->b m->d m->wpS (model prog w) A E s (if c m then x m else R m) Q st :=
 fun m p q z=>aC (fun y=>h1 m p q z y D) fun y=>D m st (h2 m p q z y)
theorem yn (C:Cmp prog w A E s κ G r) {a₀:Array Keyed} {st:SortSt} {Q:Unit->SortSt->Prop} (hk:kindOf st=κ) (g:∀ x∈a₀,G x) (ha:arrOf st=a₀) (hp:pendingOf st=#[]) (hf:failedOf st=none)
  (h:∀ st',(arrOf st').Perm a₀->failedOf st'=none->(arrOf st').toList.Pairwise (le r)->Q () st'):wpS (model prog w) A E s sortRuns' Q st:=by
 have R0:RI κ r a₀ st [] a₀.toList:=⟨hk,hf,by rw [ha];rfl,by rw [hp];rfl,fun R hR=>by simp at hR,by rw [ha]⟩
 unfold sortRuns'
 change wpS (model prog w) A E s (_ >>= _) Q st
 dsimp only
 refine Zb (WV ?_)
 have esz:((sortPriv% PySem.Builtin.SortState.a) st).size=a₀.size:=by rw [← ha]
 rw [esz]
 refine Zb (Y7 (Yj
  (I:=fun x c st'=>c.1=none/\∃ runs rest,RI κ r a₀ st' runs rest/\runs.flatten.length=c.2/\x<=c.2)
  (Q:=fun c st'=>c.1=none/\∃ runs,RI κ r a₀ st' runs []) ?step ?fin ?init) ?post)
 case init=>exact ⟨rfl,_,_,R0,rfl,Zr _⟩
 case fin =>
  refine all2 fun c1 lo=>?_
  rintro st' ⟨q1,runs,rest,R,hl,hx⟩
  dsimp only at *
  have:=R.size
  have e:rest=[]:=X1 (by lia)
  subst e
  exact ⟨q1,runs,R⟩
 case step =>
  intro x
  refine all2 fun c1 lo=>?_
  rintro st' _ hx ⟨q1,runs,rest,R,hl,hxl⟩
  dsimp only at *
  have hsz:=R.size
  refine aC (fun e=>?_) fun e=>?_
  ·have e:rest=[]:=X1 (by lia)
   subst e
   exact Zk ⟨rfl,runs,R⟩
  have asz:(arrOf st').size=a₀.size:=R.perm.size_eq
  refine Zb (Bv C R.kind (R.good g) (by lia) (by rw [asz];lia) fun m st2 L2 m1 m2 S2=>?_)
  dsimp only
  have I2:RI κ r a₀ st2 runs ((arrOf st2).toList.drop runs.flatten.length):=R.loc (by rw [hl];exact L2)
  have asz2:(arrOf st2).size=a₀.size:=I2.perm.size_eq
  revert m
  refine uC (P:=fun nn st3=>∃ rest3,RI κ r a₀ st3 runs rest3/\rest3.length=a₀.size - lo/\0 < nn/\nn<=rest3.length/\(rest3.take nn).Pairwise (le r)) ?D ?two ?one
  case one =>
   intro m m1 m2 S2 e2 Dk
   refine Zb (gI ?_)
   refine Zb (Cp C I2.kind (I2.good g) m1 (by omega) (by lia) S2 fun st3 L3 S3=>?_)
   refine aC (fun e=>absurd e (by decide)) fun _=>?_
   have I3':RI κ r a₀ st3 runs ((arrOf st3).toList.drop runs.flatten.length):=I2.loc (by rw [hl];exact L3)
   have asz3:(arrOf st3).size=a₀.size:=I3'.perm.size_eq
   obtain ⟨rest3,er3⟩:∃ l,l=(arrOf st3).toList.drop runs.flatten.length:=⟨_,rfl⟩
   have I3:RI κ r a₀ st3 runs rest3:=by rw [er3];exact I3'
   have hl3:=hl
   have h3l:rest3.length=a₀.size - lo:=by rw [er3,ZQ,YZ,asz3,hl]
   obtain ⟨n3,en3⟩:∃ n,n=min (a₀.size - lo) ((sortPriv% PySem.Builtin.minRun) a₀.size a₀.size 0):=⟨_,rfl⟩
   rw [← en3] at S3 ⊢
   have h30:0 < n3:=by lia
   have h3n:n3<=rest3.length:=by omega
   have h3p:(rest3.take n3).Pairwise (le r):=by rw [er3,hl];exact S3.pw (by lia)
   exact Dk n3 st3 ⟨rest3,I3,h3l,h30,h3n,h3p⟩
  case two =>
   intro m m1 m2 S2 e2
   obtain ⟨rest3,er3⟩:∃ l,l=(arrOf st2).toList.drop runs.flatten.length:=⟨_,rfl⟩
   have I3:RI κ r a₀ st2 runs rest3:=by rw [er3];exact I2
   have hl3:=hl
   have h3l:rest3.length=a₀.size - lo:=by rw [er3,ZQ,YZ,asz2,hl]
   have h30:0 < m:=by exact W3 m1
   have h3n:m<=rest3.length:=by lia
   have h3p:(rest3.take m).Pairwise (le r):=by rw [er3,hl];exact S2.pw (by lia)
   exact ⟨rest3,I3,h3l,h30,h3n,h3p⟩
  case D =>
   rintro nn st3 ⟨rest3,I3,h3l,h30,h3n,h3p⟩
   have hl3:=hl
   refine Zb (WV ?_)
   cases hb:(pendingOf st3).back? with
   | none =>
    dsimp only
    refine Zb (X7 ?_)
    refine Zk ⟨rfl,_,_,I3.push hl3 h30 h3n h3p,?_,by (try dsimp only);lia⟩
    rw [Z5,Zu,Wd,ZR]
    (try dsimp only)
    lia
   | some v =>
    obtain ⟨s1,n1,pw1⟩:=v
    dsimp only
    refine Zb (Y7 (Yj
     (I:=fun x c st'=>c.1=none/\∃ runs',RI κ r a₀ st' runs' rest3/\runs'.flatten.length=lo)
     (Q:=fun c st'=>c.1=none/\∃ runs',RI κ r a₀ st' runs' rest3/\runs'.flatten.length=lo) ?stepM ?finM ?initM) ?postM)
    case initM=>exact ⟨rfl,_,I3,hl3⟩
    case finM=>exact fun c st' h=>h
    case stepM =>
     intro x
     refine all2 fun c1 c2=>?_
     rintro st' _ hx ⟨q1,runs',R,hR⟩
     refine Zb (WV ?_)
     split
     ·rename_i a b c hh
      refine aC (fun _=>?_) fun _=>?_
      ·exact Zk ⟨rfl,runs',R,hR⟩
      ·have hp1:(pendingOf st').size > 1:=by
        by_cases z:(pendingOf st').size > 1
        ·exact z
        ·rw [Zp z] at hh;cases hh
       have hp2:=R.psize
       refine Zb (R.merge C g (show (pendingOf st').size - 2+1 < runs'.length by omega) fun st4 runs4 R4 l4 f4=>?_)
       refine aC (fun e=>absurd e (by decide)) fun _=>?_
       exact Zk ⟨rfl,runs4,R4,by rw [f4,hR]⟩
     ·exact Zk ⟨rfl,runs',R,hR⟩
    case postM =>
     refine all2 fun c1 c2=>?_
     rintro st' ⟨q1,runs',R,hR⟩
     dsimp only at *
     subst q1
     dsimp only
     refine Zb (X7 ?_)
     refine Zb (X7 ?_)
     refine Zk ⟨rfl,_,_,(R.mod _ _).push hR h30 h3n h3p,?_,by (try dsimp only);lia⟩
     rw [Z5,Zu,Wd,ZR]
     (try dsimp only)
     lia
 case post =>
  refine all2 fun c1 lo=>?_
  rintro st' ⟨q1,runs,R⟩
  dsimp only at *
  subst q1
  dsimp only
  have rl:=zR R.ok
  have hsz:=R.size
  simp only [YW,Nat.add_zero] at hsz
  refine Zb (Y7 (Yj
   (I:=fun x c st'=>c.1=none/\∃ runs,RI κ r a₀ st' runs []/\(runs.length<=1\/runs.length+x<=a₀.size))
   (Q:=fun c st'=>c.1=none/\∃ runs,RI κ r a₀ st' runs []/\runs.length<=1) ?step2 ?fin2 ?init2) ?post2)
  case init2=>exact ⟨rfl,runs,R,.inr (by lia)⟩
  case fin2 =>
   refine all2 fun c1 c2=>?_
   rintro st' ⟨q1,runs,R,hr⟩
   exact ⟨q1,runs,R,by lia⟩
  case step2 =>
   intro x
   refine all2 fun c1 c2=>?_
   rintro st' _ hx ⟨q1,runs,R,hr⟩
   have hp2:=R.psize
   refine Zb (WV ?_)
   refine aC (fun e=>?_) fun e=>?_
   ·exact Zk ⟨rfl,runs,R,by rw [← hp2];exact e⟩
   ·have e':1 < runs.length:=by rw [← hp2];exact Wi e
    refine Zb (R.merge C g ?_ fun st4 runs4 R4 l4 f4=>?_)
    ·exact BD (show (pendingOf st').size - 2 - 1+1 < _ by omega) (show (pendingOf st').size - 2+1 < _ by lia)
    ·refine aC (fun e=>absurd e (by decide)) fun _=>?_
     exact Zk ⟨rfl,runs4,R4,by lia⟩
  case post2 =>
   refine all2 fun c1 c2=>?_
   rintro st' ⟨q1,runs,R,hr⟩
   dsimp only at *
   subst q1
   refine Zk (h st' R.perm R.fail ?_)
   rw [R.arr,ZG]
   match runs,hr,R.ok with
   | [],_,_=>exact List.Pairwise.nil
   | [X],_,ok =>
    rw [Wd]
    exact (ok X (Zw ..)).2
   | X :: Y :: t,hr,_=>simp at hr
end TS
end
section
open PySem PyProof.Rows
namespace TS
variable {prog:Program} {w:World} {A:Around} {E:Yy} {s:Shared} {G:Keyed->Prop} {r:Keyed->Keyed->Bool}
noncomputable def gR (h:Heap) (a:Addr) (vs:Xb):Heap:=((h.update a (Obj.mapSeq fun _=>#[])).push (seqObj "tuple" vs.toArray 0)).push (seqObj "list" #[] 0)
theorem xt {h:Heap} {a:Addr} {vs:Xb} {o:Obj} (ha:a < h.objs.size) (g:(h.update a (Obj.mapSeq fun _=>#[])).get? a=some o):(gR h a vs).get? a=some o:=by
 have k1:a ≠ (h.update a (Obj.mapSeq fun _=>#[])).objs.size:=by rw [XO];exact ZL ha
 have k2:a ≠ ((h.update a (Obj.mapSeq fun _=>#[])).push (seqObj "tuple" vs.toArray 0)).objs.size:=by rw [Wn,XO];exact ZL (W2 ha)
 exact (X3 _ _ _ k2).trans ((X3 _ _ _ k1).trans g)
theorem nl {b n:Nat} (h:b < n) (k:Nat):b ≠ n+k:=ZL (ZA h (ZM _ _))
end TS
end
section
namespace L2
open PySem PySem.Spec PyProof.Rows TS
end L2
end
section
namespace VS
theorem oo {n k:Nat} (h:k < n):ixP n (k:Int)=some k:=by
 unfold ixP
 rw [Zs (by lia),Zs (by lia),YN]
mutual
theorem pN:∀ (n:Nat) (t:T),eqD n t=true->eqT t t=true
 | n,.non,_=>by simp
 | n,.bl _,_=>by simp
 | n,.int _,_=>by simp
 | n,.str _,_=>by simp
 | n+1,.tup l,h=>by
  simp only [eqD,Yw] at h
  simp only [eqT]
  exact jX n l h
 | n+1,.lst l,h=>by
  simp only [eqD,Yw] at h
  simp only [eqT]
  exact jX n l h
 | 0,.tup _,h=>by simp at h
 | 0,.lst _,h=>by simp at h
 | _,.scr _,h=>by simp at h
 | _,.dct _ _,h=>by simp at h
 | _,.obj _ _,h=>by simp at h
theorem jX:∀ (n:Nat) (l:Vl),(∀ t∈l,eqD n t=true)->mG l l=true
 | _,[],_=>rfl
 | n,t :: r,h=>by
  simp only [mG,Yq]
  exact ⟨pN n t (h t Zw),jX n r fun u hu=>h u (Zx _ hu)⟩
end
theorem oW {m n:Md} {t:T} (h:eqD 60 t=true):oNe (m,t) (n,t)=some (.fr,.bl false):=by
 show (if eqD 60 t/\eqD 60 t then some (Md.fr,T.bl (!eqT t t)) else none)=_
 rw [Zs ⟨h,h⟩,pN 60 t h]
 rfl
theorem wb {α:Type} (l:List α) (k:Nat):cut l none (some (k:Int))=l.take k:=by
 have h:¬ ((k:Int) < 0):=by lia
 by_cases h2:k<=l.length
 ·simp [cut,clip,h,Yv h2]
 ·rw [ZK (by lia)]
  simp [cut,clip,h,XD (YA h2)]
theorem jO {a:Ex} {η:Env} {m:Md} {l:Vl} (e:a η=some (m,.lst l)):fS a η=some (m,l):=by
 simp [fS,e]
theorem jA {tg:Tg} {it:Its} {body:Sx} {η:Env} {m:Md} {l:Vl} (e:it η=some (m,l)) (h:okF m=true):dG tg it body η=forL tg body l η:=by
 unfold dG
 rw [e]
 exact Zs h
theorem aP {g:Fn} {as:Exs} {η:Env} {xs:Vn} {t:T} (h:as η=some xs) (h2:g (trees xs)=some (.fr,t)):aL g as η=some (.fr,t):=by
 simp only [aL,h,Zn,h2]
theorem aJ {i:Nat} {e:Ex} {η:Env} {m:Md} {t:T} (h:e η=some (m,t)) (hm:m ≠ .bo) (hi:i < η.length):aN i e η=some (.nx (η.set i (some (.pu t)))):=by
 simp only [aN,h,Zn]
 cases m with
 | bo=>exact absurd rfl hm
 | _=>simp [hi]
theorem rJ {i:Nat} {e:Ex} {η:Env} {t:T} (h:e η=some (.fr,t)) (hm:AS t=true) (hi:i < η.length):hU i e η=some (.nx (η.set i (some (.ow t)))):=by
 simp only [hU,h,Zn,cellOf,hm,if_true,Zs hi]
theorem fX {a b:Sx} {η η':Env} (h:a η=some (.nx η')):au a b η=b η':=by simp only [au,h,Zn]
theorem pb {a b:Sx} {η η':Env} {v:Val} (h:a η=some (.rt v η')):au a b η=some (.rt v η'):=by simp only [au,h,Zn]
theorem vz {np nn:Nat} {body:Sx} {ts:Vl} {v:Val} (η:Env) {η':Env} (hl:ts.length=np) (he:ts.map (fun t=>some (Cell.pu t))++List.replicate (nn - np) none=η) (h:body η=some (.rt v η')):fn np nn body ts=some v:=by
 unfold fn
 rw [Zs hl,he,h]
 rfl
end VS
end
section
namespace VS
open PySem PySem.Spec PyProof.Rows L2
theorem vX (s:Tx):(sx s).cps.toList=s:=rfl
noncomputable def txB (s:Tx):Bool:=decide (s.length<=gN) && s.all (fun c=>decide (c < 1114112))
theorem Cn {s:Tx} (h:txB s=true):i4 s:=by
 unfold txB at h
 simp at h
 exact h
section
variable {G:Gx} {X:Cx} {e:Expr} {cs:Exs} {p pos:Pos}
theorem qK {H:Hp}:∀ {ss:List Tx},(∀ s∈ss,i4 s)->RpL G H (ss.map fun s=>V.str (sx s)) (ss.map T.str) (ss.map fun _=>[])
 | [],_=>.nil
 | s :: ss,h=>.cons (.str s (h s (Zw ..))) (qK fun x hx=>h x (Zx _ hx))
theorem pF {α β:Type}:∀ (l:List α),(l.map fun _=>([]:List β)).flatten=[]
 | []=>rfl
 | _ :: l=>by simp
theorem keys_str:∀ {ks:List Key} {ss:List Tx},strs? (ks.map aO)=some ss->ks=(ss.map sx).map Sum.inr
 | [],_,e=>by cases e;rfl
 | .inl i :: ks,_,e=>by cases e
 | .inr x :: ks,ss,e=>by
  simp only [Zt,aO,strs?] at e
  obtain ⟨ss',e1,e2⟩:=Zm.mp e
  subst e2
  rw [keys_str e1]
  simp [sx]
theorem ug:bootBuiltins ("sorted" : Str)=some (.builtin "sorted"):=by decide +kernel
end
end VS
end
section
namespace VS
open PySem PySem.Builtin.Str PySem.StrLaws
end VS
end
section
namespace VS
open PySem PySem.Spec PyProof.Rows L2
end VS
end
section
namespace ST
open PySem PySem.Spec PyProof.Rows
variable {prog:Program} {w:World} {A:Around} {E:Yy} {s:Shared}
end ST
end
section
namespace ST
open PySem PySem.Spec PyProof.Rows
variable {prog:Program} {w:World} {A:Around} {E:Yy} {s:Shared}
theorem DW {Q:PySem.Fin->Shared->Prop} {E':Yy} (hh:A.handled=none) (h:∀ (h':Heap) (x:Addr),(∀ b o,s.heap.get? b=some o->h'.get? b=some o)->(∃ o,h'.get? x=some o/\o.cls=.type "StopIteration")->E' (.ref x) { s with heap:=h' }) :
  wpAny (model prog w) A (newExc (.type "StopIteration") [] >>= fun e=>raiseNew e) Q E' s:=by
 simp only [newExc,newTuple]
 refine Zy (Zy (Wb (Zy (m:=firstArgMember _ _) (wpAny_of_eq (a:=Value.none) (by first | rfl | (simp only [firstArgMember];rfl)) (Wb ?_ (by size_fits)))) (by size_fits)))
 simp only [raiseNew]
 refine Zy (wpAny_handled ?_)
 rw [hh]
 exact Zy (Zq (wpAny_throw (h _ _ (fun b o e=>Ze _ (Ze _ e)) ⟨_,ZV _ rfl,rfl⟩)))
end ST
end
section
namespace ST
open PySem PySem.Spec PyProof.Rows
variable {prog:Program} {w:World} {A:Around} {E:Yy} {s:Shared}
end ST
end
section
namespace L2
open PySem PySem.Spec PyProof.Rows TS
end L2
namespace VS
open PySem PySem.Spec PyProof.Rows L2
section
variable {G:Gx}
theorem rX {Fs:Yf} {i j:Nat} {F F':Xf} (nd:Fs.flatten.Nodup) (hi:Fs[i]?=some F) (hj:Fs[j]?=some F') (n:i ≠ j) {a:Addr} (ha:a∈F):a ∉ F':=by
 intro hb
 induction Fs generalizing i j with
 | nil=>simp at hi
 | cons G Gs ih =>
  rw [Zf,ZJ] at nd
  cases i with
  | zero =>
   simp at hi;subst hi
   cases j with
   | zero=>exact n rfl
   | succ j=>exact nd.2.2 a ha a (fP (by simpa using hj) hb) rfl
  | succ i =>
   cases j with
   | zero =>
    simp at hj;subst hj
    exact nd.2.2 a hb a (fP (by simpa using hi) ha) rfl
   | succ j=>exact ih nd.2.1 (by simpa using hi) (by simpa using hj) (by lia)
theorem gW {Fs:Yf} {j:Nat} {F':Xf} {a:Addr} (h:a∈(Fs.set j F').flatten):a∈F'\/∃ i F,i ≠ j/\Fs[i]?=some F/\a∈F:=by
 obtain ⟨i,F,h1,h2⟩:=gg h
 by_cases e:i=j
 ·subst e
  rw [List.getElem?_set_self' ] at h1
  cases q:Fs[i]? with
  | none=>rw [q] at h1;cases h1
  | some _=>rw [q] at h1;cases h1;exact .inl h2
 ·rw [YU (YE e)] at h1
  exact .inr ⟨i,F,e,h1,h2⟩
theorem iK:∀ {Fs:Yf} {j:Nat} {F':Xf},Fs.flatten.Nodup->F'.Nodup->(∀ i F,i ≠ j->Fs[i]?=some F->∀ a∈F,a ∉ F')->(Fs.set j F').flatten.Nodup
 | [],_,_,h,_,_=>by simpa using h
 | G :: Gs,0,F',h,h',d=>by
  rw [Zf,ZJ] at h
  rw [List.set_cons_zero,Zf,ZJ]
  refine ⟨h',h.2.1,fun a ha b hb e=>?_⟩
  subst e
  obtain ⟨i,F,h1,h2⟩:=gg hb
  exact d (i+1) F (by lia) (by simpa using h1) a h2 ha
 | G :: Gs,j+1,F',h,h',d=>by
  rw [Zf,ZJ] at h
  rw [List.set_cons_succ,Zf,ZJ]
  refine ⟨h.1,iK h.2.1 h' fun i F n hi=>d (i+1) F (by lia) (by simpa using hi),fun a ha b hb e=>?_⟩
  subst e
  rcases gW hb with z | ⟨i,F,n,h1,h2⟩
  ·exact d 0 G (by lia) rfl a ha z
  ·exact h.2.2 a ha a (fP h1 h2) rfl
theorem RpL.each {H H2:Hp}:∀ {vs:List V} {ts:Vl} {Fs:Yf},RpL G H vs ts Fs->(∀ (i:Nat) v t F,vs[i]?=some v->ts[i]?=some t->Fs[i]?=some F->Rp G H v t F->Rp G H2 v t F)->RpL G H2 vs ts Fs
 | _,_,_,.nil,_=>.nil
 | _,_,_,.cons r q,k=>.cons (k 0 _ _ _ rfl rfl rfl r) (RpL.each q fun i v t F a b c d=>k (i+1) v t F (by simpa using a) (by simpa using b) (by simpa using c) d)
theorem RpL.setAt {H H2:Hp}:∀ {vs:List V} {ts:Vl} {Fs:Yf} {j:Nat} {u:V} {x':T} {F':Xf},RpL G H vs ts Fs->vs[j]?=some u->Rp G H2 u x' F'->(∀ (i:Nat) v t F,i ≠ j->vs[i]?=some v->ts[i]?=some t->Fs[i]?=some F->Rp G H v t F->Rp G H2 v t F)->RpL G H2 vs (ts.set j x') (Fs.set j F')
 | _,_,_,_,_,_,_,.nil,h,_,_=>by simp at h
 | _,_,_,0,_,_,_,.cons r q,h,r',k=>by
  simp at h;subst h
  exact .cons r' (RpL.each q fun i v t F a b c d=>k (i+1) v t F (by lia) (by simpa using a) (by simpa using b) (by simpa using c) d)
 | _,_,_,j+1,_,_,_,.cons r q,h,r',k=>.cons (k 0 _ _ _ (by lia) rfl rfl rfl r) (RpL.setAt q (by simpa using h) r' fun i v t F n a b c d=>k (i+1) v t F (by lia) (by simpa using a) (by simpa using b) (by simpa using c) d)
theorem kN {H H2:Hp} {a:Addr} {o:HO} {vs:List V} {ts:Vl} {Fs:Yf} {j:Nat} {u:V} {x':T} {Fj Fj':Xf} (ha:H a=some o) (ra:RpL G H vs ts Fs) (nd:(a :: Fs.flatten).Nodup) (hu:vs[j]?=some u) (hF:Fs[j]?=some Fj)
  (g:Chg G H u Fj x' H2 Fj'):H2 a=some o/\RpL G H2 vs (ts.set j x') (Fs.set j Fj')/\(a :: (Fs.set j Fj').flatten).Nodup/\(∀ b∈a :: (Fs.set j Fj').flatten,b∈a :: Fs.flatten\/H b=none)/\∀ b o,b ∉ a :: Fs.flatten->H b=some o->H2 b=some o:=by
 rw [ZY] at nd
 have subF:∀ b∈Fj,b∈Fs.flatten:=fun b hb=>fP hF hb
 have dis:∀ i F,i ≠ j->Fs[i]?=some F->∀ b∈F,b ∉ Fj':=fun i F n hi b hb hb'=>by
  rcases g.sub b hb' with z | z
  ·exact rX nd.2 hi hF n hb z
  ·exact Mut.ne_none (ra.dom b (fP hi hb)) z
 refine ⟨g.keep a o (fun z=>nd.1 (subF a z)) ha,ra.setAt hu g.rp (fun i v t F n h1 h2 h3 r=>r.keep g.kept fun b hb o' ho=>g.keep b o' (rX nd.2 h3 hF n hb) ho),?_,fun b hb=>?_,fun b o' hb ho=>g.keep b o' (fun z=>hb (Zx _ (subF b z))) ho⟩
 ·rw [ZY]
  refine ⟨fun h=>?_,iK nd.2 g.nd dis⟩
  rcases gW h with z | ⟨i,F,n,h1,h2⟩
  ·rcases g.sub a z with z | z
   ·exact nd.1 (subF a z)
   ·rw [ha] at z;cases z
  ·exact nd.1 (fP h1 h2)
 ·rcases Zo.mp hb with rfl | hb
  ·exact .inl Zw
  ·rcases gW hb with z | ⟨i,F,n,h1,h2⟩
   ·rcases g.sub b z with z | z
    ·exact .inl (Zx _ (subF b z))
    ·exact .inr z
   ·exact .inl (Zx _ (fP h1 h2))
theorem og {α β:Type}:∀ (as:List α) (bs:List β) (i:Nat) (a:α) (y:β),as[i]?=some a->(as.zip bs).set i (a,y)=as.zip (bs.set i y)
 | [],_,_,_,_,h=>by simp at h
 | a :: as,[],i,_,_,_=>by cases i <;> simp
 | a :: as,b :: bs,0,_,y,h=>by simp at h;subst h;rfl
 | a :: as,b :: bs,i+1,_,y,h=>by
  have:=og as bs i _ y (by simpa using h)
  simp [this]
theorem pS {α β:Type} (p:α->Bool):∀ {as:List α} {bs:List β} {i:Nat},as.length=bs.length->(as.zip bs).findIdx? (fun q=>p q.1)=some i->∃ a b,as[i]?=some a/\bs[i]?=some b/\p a=true/\(as.zip bs).find? (fun q=>p q.1)=some (a,b)
 | [],[],_,_,h=>by simp at h
 | a :: as,b :: bs,i,hl,h=>by
  rw [ZF,Yd] at h
  by_cases hp:p a=true
  ·rw [Zs hp] at h
   cases h
   exact ⟨a,b,rfl,rfl,hp,by simp [hp]⟩
  ·rw [Zp hp] at h
   obtain ⟨j,hj,rfl⟩:=Zm.mp h
   obtain ⟨a',b',h1,h2,h3,h4⟩:=pS p (by simpa using hl) hj
   exact ⟨a',b',by simpa using h1,by simpa using h2,h3,by simp [hp,h4]⟩
theorem jG (k k':Key):eqT (aO k') (aO k)=true ↔ k'=k:=by
 cases k with
 | inl i=>cases k' <;> simp [aO]
 | inr x =>
  obtain ⟨⟨x⟩⟩:=x
  cases k' with
  | inl j=>simp [aO]
  | inr y=>obtain ⟨⟨y⟩⟩:=y;simp [aO]
theorem sU {k:Key} {u:V}:∀ {ns:List Key} {ts:Vl} {vs:List V} {i:Nat},ns.length=ts.length->ns.length=vs.length->((ns.map aO).zip ts).findIdx? (fun q=>eqT q.1 (aO k))=some i->vs[i]?=some u->cC (ns.zip vs) k=some u
 | [],_,_,_,_,_,h,_=>by simp at h
 | n :: ns,t :: ts,v :: vs,i,h1,h2,h,hu=>by
  rw [Zt,ZF,Yd] at h
  by_cases hp:eqT (aO n) (aO k)=true
  ·rw [Zs hp] at h
   cases h
   simp at hu;subst hu
   exact b8 ((jG k n).mp hp)
  ·rw [Zp hp] at h
   obtain ⟨j,hj,rfl⟩:=Zm.mp h
   have hn:n ≠ k:=fun z=>hp ((jG k n).mpr z)
   have:cC ((n :: ns).zip (v :: vs)) k=cC (ns.zip vs) k:=by simp [cC,hn]
   rw [this]
   exact sU (by simpa using h1) (by simpa using h2) hj (by simpa using hu)
 | _ :: _,[],_,_,h,_,_,_=>by simp at h
 | _ :: _,_ :: _,[],_,_,h,_,_=>by simp at h
end
section
variable {G:Gx}
variable {X:Cx} {e:Expr} {es:List Expr} {i:Nat} {way:List Stp} {pos pos' p1 apos cpos:Pos} {c:Ex} {cs:Exs} {b:Expr} {k:Nat}
@[simp] noncomputable def FJ (i:Nat) (way:List Stp) (f:T->Vn->Option (T×Val)) (as:Exs) (η:VS.Env):Option (Val×VS.Env):=match η[i]? with
 | some (some (.ow t))=>(keys way η).bind fun ks=>(as η).bind fun xs=>(pm (fun x=>f x xs) ks t).map fun z=>(z.2,η.set i (some (.ow z.1)))
 | _=>none
noncomputable def Cc (G:Gx):Prop:=∀ c k k':Nat,(G.ct c).2 k=(G.ct c).2 k'->k=k'
end
section
variable {G:Gx} {X:Cx} {e o:Expr} {es:List Expr} {i:Nat} {way:List Stp} {pos pos' p1 apos cpos:Pos} {c:Ex} {cs:Exs} {b:Expr} {k:Nat} {ce ck:Ex}
theorem sk {H:Hp} {kk:Key} {xv:V} {t:T} (rv:Rp G H xv t []):∀ {ks:List Key} {vs:List V} {ts:Vl} {Fs:Yf},ks.length=vs.length->RpL G H vs ts Fs →
  ∃ vs' ts' Fs',(ks.zip vs).map (fun kv=>if kv.1=kk then (kv.1,xv) else kv)=ks.zip vs'/\ks.length=vs'.length/\((ks.map aO).zip ts).map (fun p=>if eqT p.1 (aO kk) then (p.1,t) else p)=(ks.map aO).zip ts'/\RpL G H vs' ts' Fs'/\Fs'.flatten.Sublist Fs.flatten
 | [],[],_,_,_,.nil=>⟨[],[],[],rfl,rfl,rfl,.nil,Wq _⟩
 | k :: ks,v :: vs,_,_,hl,.cons (t:=t0) (F:=F) (ts:=ts) (Fs:=Fs) r q=>by
  obtain ⟨vs',ts',Fs',h1,h2,h3,h4,h5⟩:=sk rv (by simpa using hl) q
  by_cases hk:k=kk
  ·have e:eqT (aO k) (aO kk)=true:=(jG kk k).mpr hk
   refine ⟨xv :: vs',t :: ts',[] :: Fs',?_,by simp [h2],?_,.cons rv h4,?_⟩
   ·rw [ZF,Zt,h1,ZF];simp [hk]
   ·rw [Zt,ZF,Zt,h3,ZF];simp [e]
   ·rw [Zf,Zf]
    exact h5.trans (List.sublist_append_right _ _)
  ·have e:¬ eqT (aO k) (aO kk)=true:=fun z=>hk ((jG kk k).mp z)
   refine ⟨v :: vs',t0 :: ts',F :: Fs',?_,by simp [h2],?_,.cons r h4,?_⟩
   ·rw [ZF,Zt,h1,ZF];simp [hk]
   ·rw [Zt,ZF,Zt,h3,ZF];simp [e]
   ·rw [Zf,Zf]
    exact List.Sublist.append (Wq _) h5
theorem pI {kk:Key}:∀ {ks:List Key} {vs:List V} {ts:Vl},ks.length=vs.length->ks.length=ts.length->((ks.zip vs).any fun kv=>decide (kv.1=kk))=(((ks.map aO).zip ts).any fun p=>eqT p.1 (aO kk))
 | [],_,_,_,_=>by simp
 | k :: ks,v :: vs,t :: ts,h1,h2=>by
  rw [Zt,ZF,ZF,Xz,Xz,pI (by simpa using h1) (by simpa using h2)]
  have:decide (k=kk)=eqT (aO k) (aO kk):=by rw [Bool.eq_iff_iff,decide_eq_true_eq];exact (jG kk k).symm
  rw [this]
 | _ :: _,[],_,h,_=>by simp at h
 | _ :: _,_ :: _,[],_,h=>by simp at h
theorem oy {H:Hp} {kk:Key} {xv:V} {t:T} (rv:Rp G H xv t []) {ks:List Key} {vs:List V} {ts:Vl} {Fs:Yf} (hl:ks.length=vs.length) (ra:RpL G H vs ts Fs) :
  ∃ (ks':List Key) (vs':List V) (ts':Vl) (Fs':Yf),putK (ks.zip vs) kk xv=ks'.zip vs'/\ks'.length=vs'.length/\dput ((ks.map aO).zip ts) (aO kk) t=(ks'.map aO).zip ts'/\RpL G H vs' ts' Fs'/\Fs'.flatten.Sublist Fs.flatten:=by
 have an:=pI (kk:=kk) hl (hl.trans ra.len.1)
 unfold putK dput
 rw [an]
 by_cases h:(((ks.map aO).zip ts).any fun p=>eqT p.1 (aO kk))=true
 ·rw [Zs h,Zs h]
  obtain ⟨vs',ts',Fs',h1,h2,h3,h4,h5⟩:=sk (kk:=kk) rv hl ra
  exact ⟨ks,vs',ts',Fs',h1,h2,h3,h4,h5⟩
 ·rw [Zp h,Zp h]
  refine ⟨ks++[kk],vs++[xv],ts++[t],Fs++[[]],?_,by simp [hl],?_,ra.append (.cons rv .nil),by simp⟩
  ·rw [XW hl];rfl
  ·rw [Yu,XW (by rw [Zv];exact hl.trans ra.len.1)];rfl
noncomputable def Dh:Ae:=fun o i v H Q=>AV o i v H Q\/∃ a H4,o=.ref a/\xx H a i v H4/\Q H4
theorem DA (hu:X.A.units+1 < cLine):CY X Dh:=by
 intro pins s σ H o i v ov iv u Q I ro ri rv h
 rcases h with h | ⟨a,H4,rfl,g,q⟩
 ·exact set_list pins s σ H o i v ov iv u Q I ro ri rv h
 ·cases ro
  exact tM hu I g ri rv fun s4 I4=>⟨H4,I4,q⟩
end
theorem CK {K:Xs} {H:Hp} {a:Addr} {ns:Vq} (hO:vR H) (hS:SqL K H a (ns.map V.int)):ku K H a ns:=by
 rcases hS with h | h
 ·rcases h with h | h
  ·rcases hO a with z | ⟨o,xs,z⟩
   ·rw [z] at h;cases h
   ·rw [z] at h;cases h
  ·exact .inl h
 ·exact .inr h
theorem CF {G:Gx} {g:Fn} {H:Hp} {a:Addr} {ns:Vq} {E:XK} (hg:g [.scr ns]=some (.fr,.bl true)) (hO:vR H) (hS:SqL G.K H a (ns.map V.int)):spF G g [.ref a] H (fun v _=>v=.bl true) E :=
 ⟨[.scr ns],[[]],.fr,.bl true,.cons (.scr (CK hO hS)) .nil,hg,fun v H' F _ r _=>r.bl_inv⟩
noncomputable def gx0 (K:Xs):Gx:=⟨K,fun _=>(0,fun k=>⟨#[k]⟩)⟩
theorem xw {l:PySem.W.OpenLaw} {q:Program} {loose:List Str} {XP:(Xg)->Heap->Prop} {d:DefRec} {K:Params->Xs} {g:Fn} {x:Str} {k:Nat} (hn:l.most=some 63) (hdf:d.params.defaults=[]) (hr:Room k callerA)
  (hg:∀ ns:Vq,g [.scr ns]=some (.fr,.bl true))
  (F:∀ (w:World) (mg:Xg) (fa:Addr) (h:Heap),(K w.params).In h->h.Ns mainGlobals mg->mg d.name=some (.ref fa) →
   ∃ fd:FuncData,(∀ (s:Shared) (u:Value),BindsTo s fd ⟨[u],[]⟩ [(x,u)])/\∀ base:Heap,(K w.params).In base->base.Ns mainGlobals mg->FnOk l.prog w (K w.params) mg base CX0 k fa fd [x] (spF (gx0 (K w.params)) g)) :
  PySem.W.WalkO q loose XP (fun w h=>(K w.params).In h) l.row.toRowW d [] (fun f vs=>PySem.call f vs) :=
 L2.zb (n:=63) (k:=k) (x:=x) (CX:=fun _=>CX0) (sp:=fun w=>spF (gx0 (K w.params)) g) hn (by decide) hdf hr (fun _ _ h=>h) F (fun w H a ns _ hO hS=>CF (G:=gx0 (K w.params)) (hg ns) hO hS) fun _ _ _ _ _ z=>z
end VS
end
section
namespace L2
open PySem PySem.Spec PyProof.Rows
section
variable {X:Cx}
theorem qO (hc:X.calm=true):eZ X (.type "list") (fun xs H Q=>∃ x:Str,xs=[.str x]/\x.cps.size<=sizeLine/\∀ l,H l=none->Q (.ref l) (upd H l (.lst (x.cps.toList.map fun c=>V.str ⟨#[c]⟩)))):=by
 intro pins s σ H xs us Q I rx h
 obtain ⟨x,rfl,hz,q⟩:=h
 obtain ⟨u,rfl,t,rfl⟩:=vals1 rx
 refine call_list_str (I.ok.hd hc) x t (fun h' tk acc c kp g ha=>?_) hz
 have hv:aQ (x.cps.toList.map fun c=>V.str ⟨#[c]⟩) acc.toList:=by
  have key:∀ (cs:Vr) (vs:Xb),cs.length=vs.length->(∀ (i:Nat) (v:Value),vs[i]?=some v->∃ c u,cs[i]?=some c/\v=.str ⟨#[c]⟩ u)->aQ (cs.map fun c=>V.str ⟨#[c]⟩) vs:=by
   intro cs
   induction cs with
   | nil =>
    intro vs hl _
    cases vs with
    | nil=>exact .nil
    | cons v vs=>simp at hl
   | cons c cs ih =>
    intro vs hl hg
    cases vs with
    | nil=>simp at hl
    | cons v vs =>
     obtain ⟨d,u,e1,e2⟩:=hg 0 v rfl
     cases e1
     exact .cons ⟨u,e2⟩ (ih vs (by simpa using hl) fun i w hw=>by simpa using hg (i+1) w (by simpa using hw))
  refine key _ _ (by rw [YZ,YZ,ha.1]) fun i v hi=>?_
  rw [Z8] at hi
  obtain ⟨d,u,e1,e2⟩:=ha.2 i v hi
  exact ⟨d,u,by rw [Z8];exact e1,e2⟩
 refine ⟨.ref s.heap.objs.size,_,I.laid kp (Zr _) (show bj X.prog X.w _ h' _ (.lst (x.cps.toList.map fun c=>V.str ⟨#[c]⟩)) from ⟨by rw [Zv,YZ];exact hz,acc.toList,c,hv,g⟩),rfl,q _ (I.hok.fresh (Zr _))⟩
end
end L2
namespace VS
open PySem PySem.Spec PyProof.Rows L2
section
variable {G:Gx} {X:Cx} {a b c e tg:Expr} {es:List Expr} {ca cb cc ce ck:Ex} {cs:Exs} {pos p p1 p2 apos cpos pos':Pos} {k k' kr:Nat}
@[simp] noncomputable def eD:Vn->Vm
 | [(m,.lst l)]=>mkL m l
 | [(m,.tup l)]=>mkL m l
 | [(_,.str s)]=>mkL .fr (s.map fun c=>.str [c])
 | _=>none
theorem wF:hZ G (fun xs H Q=>AO G.K xs H Q\/∃ x:Str,xs=[.str x]/\x.cps.size<=sizeLine/\∀ l,H l=none->Q (.ref l) (upd H l (.lst (x.cps.toList.map fun c=>V.str ⟨#[c]⟩)))) eD:=by
 intro Φ η H0 H l vs Fs m t Q A e k
 unfold eD at e
 split at e
 ·exact .inl (sS Φ η H0 H _ vs Fs m t Q A e k)
 ·exact .inl (sS Φ η H0 H _ vs Fs m t Q A e k)
 ·rename_i mx x
  obtain ⟨v,F,rfl,rfl,rx⟩:=(show RpL G H vs [.str x] Fs from A.rp).one
  have ts:=rx.str_inv.2
  refine .inr ⟨sx x,by rw [rx.str_inv.1],?_,fun q hq=>?_⟩
  ·have:=ts.1
   simp only [sx,Zc]
   exact this
  ·have ec:(sx x).cps.toList.map (fun c=>V.str ⟨#[c]⟩)=(x.map fun c=>[c]).map fun s=>V.str (sx s):=by
    simp [sx]
   have et:(x.map fun c=>T.str [c])=(x.map fun c=>[c]).map T.str:=by simp
   rw [ec]
   rw [et] at e
   have r0:=qK (G:=G) (H:=H) (ss:=x.map fun c=>[c]) fun s hs=>by
    obtain ⟨c,hc,rfl⟩:=Yz.mp hs
    exact ⟨by show 1<=gN;decide,fun y hy=>by rw [Zj.mp hy];exact ts.2 c hc⟩
   refine i3 A.same e r0 ?_ k q hq
   rw [pF]
   exact Fp.nil
 ·cases e
theorem zw (hm:X.mg "list" = none) (ha:PVs G X [e] cs) (hg:Gl X "list" := by rfl) (hK:X.K=G.K:=by rfl) (hc:X.calm=true:=by rfl) (he:starEach [e] X.env=(false,eval e X.env) :: starEach [] X.env:=by rfl):PV G X (.Call (.Name "list" p) [e] [] pos) (eN eD cs) :=
 jV (n6.or (qO hc)) (hK ▸ wF) hg hm zm ha (he:=he) (hpl:=rfl)
theorem yL (K:Xs):Cc (gx0 K):=fun c k k' h=>by
 have:(#[k]:Array Nat)=#[k']:=congrArg Str.cps h
 simpa using this
end
end VS
end
section
open PySem PyProof.Rows
namespace TS
noncomputable abbrev Ky:=Sum Int Str
noncomputable def ltK:Ky->Ky->Bool
 | .inl i,.inl j=>decide (i < j)
 | .inr x,.inr y=>decide (x.cps.toList < y.cps.toList)
 | _,_=>false
noncomputable def fj:List Ky->List Ky->Bool
 | [],[]=>false
 | [],_ :: _=>true
 | _ :: _,[]=>false
 | a :: as,b :: bs=>if a=b then fj as bs else ltK a b
noncomputable def kind (k:Ky):Bool:=k.isLeft
theorem zX {x y:Str} (h:x.cps.toList=y.cps.toList):x=y:=by
 cases x;cases y
 simp only [Str.mk.injEq]
 exact Array.toList_inj.mp h
theorem yt (a:Ky):ltK a a=false:=by
 cases a with
 | inl i=>simp [ltK]
 | inr x=>simp [ltK,WT]
theorem qr {a b:Ky} (h:ltK a b=true):ltK b a=false:=by
 cases a <;> cases b <;> simp only [ltK,decide_eq_true_eq,decide_eq_false_iff_not,Z4] at h ⊢
 ·lia
 ·exact fun q=>WT _ (List.lt_trans h q)
theorem t7 {a b c:Ky} (h:ltK a b=true) (h':ltK b c=true):ltK a c=true:=by
 cases a <;> cases b <;> cases c <;> simp only [ltK,decide_eq_true_eq,Z4] at h h' ⊢
 ·lia
 ·exact List.lt_trans h h'
theorem sE {a b:Ky} (k:kind a=kind b) (h:ltK a b=false) (h':ltK b a=false):a=b:=by
 cases a <;> cases b <;> simp only [ltK,decide_eq_false_iff_not,kind,Sum.isLeft,WE,Z4] at h h' k ⊢
 ·congr 1;lia
 ·congr 1
  exact zX (List.le_antisymm (List.not_lt.mp h') (List.not_lt.mp h))
theorem nu:∀ {l m:List Ky},fj l m=true->fj m l=false
 | [],[],h=>by simp [fj] at h
 | [],_ :: _,_=>rfl
 | _ :: _,[],h=>by simp [fj] at h
 | a :: l,b :: m,h=>by
  unfold fj at h ⊢
  by_cases e:a=b
  ·rw [Zs e] at h
   rw [Zs e.symm]
   exact nu h
  ·rw [Zp e] at h
   rw [Zp (YE e)]
   exact qr h
theorem rQ:∀ {l m n:List Ky},l.map kind=m.map kind->m.map kind=n.map kind->fj m l=false->fj n m=false->fj n l=false
 | [],[],[],_,_,_,_=>rfl
 | [],[],_ :: _,_,h,_,_=>by simp at h
 | [],_ :: _,_,h,_,_,_=>by simp at h
 | _ :: _,[],_,h,_,_,_=>by simp at h
 | _ :: _,_ :: _,[],_,h,_,_=>by simp at h
 | a :: l,b :: m,c :: n,h1,h2,h3,h4=>by
  simp only [Zt,YL] at h1 h2
  unfold fj at h3 h4 ⊢
  by_cases e1:b=a
  ·subst e1
   rw [Zs rfl] at h3
   by_cases e2:c=b
   ·rw [Zs e2] at h4 ⊢
    exact rQ h1.2 h2.2 h3 h4
   ·rw [Zp e2] at h4 ⊢
    exact h4
  ·rw [Zp e1] at h3
   have hab:ltK a b=true:=by
    cases q:ltK a b with
    | true=>rfl
    | false=>exact absurd (sE h1.1 q h3).symm e1
   by_cases e2:c=b
   ·subst e2
    rw [Zp e1]
    exact h3
   ·rw [Zp e2] at h4
    have hbc:ltK b c=true:=by
     cases q:ltK b c with
     | true=>rfl
     | false=>exact absurd (sE h2.1 q h4).symm e2
    have hac:=t7 hab hbc
    have hne:c ≠ a:=fun e=>by rw [e,yt] at hac;cases hac
    rw [Zp hne]
    exact qr hac
variable {prog:Program} {w:World} {A:Around} {E:Yy} {s:Shared}
noncomputable def KyV:Ky->Value->Prop
 | .inl i,v=>∃ t,v=.int i t
 | .inr x,v=>∃ t,v=.str x t
inductive KysV:List Ky->Xb->Prop where
 | nil:KysV [] []
 | cons {k:Ky} {v:Value} {ks:List Ky} {vs:Xb}:KyV k v->KysV ks vs->KysV (k :: ks) (v :: vs)
theorem KyV.fn {k k':Ky} {v:Value} (h:KyV k v) (h':KyV k' v):k=k':=by
 cases k <;> cases k' <;> obtain ⟨t,rfl⟩:=h <;> obtain ⟨t',e⟩:=h' <;> cases e <;> rfl
theorem KysV.fn:∀ {ks ls:List Ky} {vs:Xb},KysV ks vs->KysV ls vs->ks=ls
 | _,_,_,.nil,.nil=>rfl
 | _,_,_,.cons h q,.cons h' q'=>by rw [h.fn h',q.fn q']
noncomputable def jm (h:Heap) (v:Value) (ks:List Ky):Prop:=∃ b o items n,v=.ref b/\h.get? b=some o/\o.cls=.type "tuple" ∧ o.data=.seq items n/\KysV ks items.toList
theorem jm.fn {h:Heap} {v:Value} {ks ls:List Ky} (x:jm h v ks) (y:jm h v ls):ks=ls:=by
 obtain ⟨b,o,items,n,rfl,g,_,d,k⟩:=x
 obtain ⟨b',o',items',n',e,g',_,d',k'⟩:=y
 cases e
 rw [g] at g'
 cases g'
 rw [d] at d'
 cases d'
 exact k.fn k'
theorem Dt {k k':Ky} {v v':Value} {Q:Bool->Shared->Prop} (hk:kind k=kind k') (h:KyV k v) (h':KyV k' v') (q:Q (decide (k=k')) s):wpAny (model prog w) A (eqBool v v') Q E s:=by
 cases k <;> cases k' <;> simp only [kind,Sum.isLeft,WE,Z4] at hk <;> obtain ⟨t,rfl⟩:=h <;> obtain ⟨t',rfl⟩:=h'
 ·exact wpAny_eqBool_int (by have e:∀ i j:Int,(i == j)=decide (Sum.inl (β:=Str) i=.inl j):=fun i j=>by by_cases z:i=j <;> simp [z]
                             rw [e];exact q)
 ·exact wpAny_eqBool_str (by simpa using q)
theorem D7 {k k':Ky} {v v':Value} {b:Bool} {Q:Bool->Shared->Prop} (hk:kind k=kind k') (h:KyV k v) (h':KyV k' v') (q:Q (ltK k k') s):wpAny (model prog w) A (oneLt' b v v') Q E s:=by
 cases k <;> cases k' <;> simp only [kind,Sum.isLeft,WE,Z4] at hk <;> obtain ⟨t,rfl⟩:=h <;> obtain ⟨t',rfl⟩:=h'
 ·cases b with
  | true=>exact oneLt_int q
  | false =>
   rw [oneLt'_eq,Zp Zi]
   exact Zy (PyProof.Rows.lt_int (YV q):wpAny (model prog w) A (compareOp .Lt (.int _ t) (.int _ t')) _ E s)
 ·cases b with
  | true=>exact oneLt_str q
  | false =>
   rw [oneLt'_eq,Zp Zi]
   exact Zy (PySem.P.lt_str (YV q):wpAny (model prog w) A (compareOp .Lt (.str _ t) (.str _ t')) _ E s)
theorem tQ (a b:Ky) (l m:List Ky):fj (a :: l) (b :: m)=if a=b then fj l m else ltK a b:=rfl
theorem Bz {f:Bool} {x y:Value} {ks ls:List Ky} {Q:Bool->Shared->Prop} (hx:jm s.heap x ks) (hy:jm s.heap y ls) (hs:ks.map kind=ls.map kind) (q:Q (fj ks ls) s):wpAny (model prog w) A (keyLt' (tuples' f) x y) Q E s:=by
 obtain ⟨b,o,items,n,rfl,g,_,d,k⟩:=hx
 obtain ⟨b',o',items',n',rfl,g',_,d',k'⟩:=hy
 refine (show wpAny (model prog w) A (Builtin.List.listItems (.ref b) >>= _) Q E s from ?_)
 refine Zy (listItems_at g d (Zy (listItems_at g' d' ?_)))
 have hsz:items.size=items'.size:=by
  have e1:∀ {ks:List Ky} {vs:Xb},KysV ks vs->ks.length=vs.length:=fun h=>by induction h with | nil=>rfl | cons _ _ ih=>simp [ih]
  have h1:=e1 k
  have h2:=e1 k'
  have h3:=congrArg List.length hs
  simp at h1 h2 h3
  lia
 refine Zy (XT _ (fun rest b s'=>b=(none,())/\s'=s/\∃ (ks' ls':List Ky) (vs us:Xb) (i:Nat),rest=(vs.zip us).zipIdx i/\KysV ks' vs/\KysV ls' us/\ks'.map kind=ls'.map kind/\fj ks ls=fj ks' ls') _ ?turn ?fin _ _ ⟨rfl,rfl,ks,ls,_,_,0,rfl,k,k',hs,rfl⟩)
 case turn =>
  rintro x rest b s' ⟨rfl,rfl,ks',ls',vs,us,i,e,k1,k2,hs',hl⟩
  cases k1 with
  | nil=>simp at e
  | @cons a v ks1 vs1 ha k1 =>
   cases k2 with
   | nil=>simp at e
   | @cons b u ls1 us1 hb k2 =>
    simp only [ZF,Xe,YL] at e
    obtain ⟨rfl,rfl⟩:=e
    simp only [Zt,YL] at hs'
    refine Zy (Dt hs'.1 ha hb ?_)
    rw [tQ] at hl
    by_cases hab:a=b
    ·rw [Zs hab] at hl
     rw [decide_eq_true hab,Zp (by simp)]
     exact Zq ⟨rfl,rfl,ks1,ls1,vs1,us1,i+1,rfl,k1,k2,hs'.2,hl⟩
    ·rw [Zp hab] at hl
     rw [decide_eq_false hab,Zs (by simp)]
     refine Zy (m:=oneLt' _ v u) (D7 hs'.1 ha hb (Zq (Zq ?_)))
     rw [← hl]
     exact q
 case fin =>
  rintro b s' ⟨rfl,rfl,ks',ls',vs,us,i,e,k1,k2,hs',hl⟩
  have:fj ks ls=decide (items.size < items'.size):=by
   rw [hl,hsz]
   cases k1 with
   | nil =>
    cases k2 with
    | nil=>simp [fj]
    | cons _ _=>simp at hs'
   | cons _ _ =>
    cases k2 with
    | nil=>simp at hs'
    | cons _ _=>simp at e
  refine Zq ?_
  rw [← this]
  exact q
theorem oh {α β:Type} {f:α->Sem β} {P:β->Prop}:∀ {vs:List α} {Q:List β->Shared->Prop},(∀ v∈vs,∃ x,P x/\∀ (Q:β->Shared->Prop),Q x s->wpAny (model prog w) A (f v) Q E s)->(∀ xs:List β,xs.length=vs.length->(∀ x∈xs,P x)->Q xs s)->wpAny (model prog w) A (vs.mapM f) Q E s
 | [],Q,_,q=>by
  rw [List.mapM_nil]
  exact Zq (q [] rfl (by simp))
 | v :: vs,Q,h,q=>by
  rw [List.mapM_cons]
  obtain ⟨x,px,hx⟩:=h v Zw
  refine Zy (hx _ (Zy (oh (fun u hu=>h u (Zx _ hu)) fun xs hl hp=>Zq (q _ (by simp [hl]) fun y hy=>?_))))
  rcases Zo.mp hy with e | e
  ·rw [e];exact px
  ·exact hp y e
theorem xG {vs:Xb} {k0:Bool} {sh:List Bool} {Q:SortKind->Shared->Prop} (h2:0 < vs.length) (hv:∀ v∈vs,∃ ks,jm s.heap v ks/\ks.map kind=k0 :: sh) (q:Q (tuples' true) s):wpAny (model prog w) A (keyKind' vs.toArray) Q E s:=by
 have fst:∀ v∈vs,∃ x,(∀ (Q:Vy->Shared->Prop),Q (some x) s->wpAny (model prog w) A (firstOfTuple' v) Q E s)/\(∀ (Q:Yy),Q (.type (if k0 then "int" else "str")) s->wpAny (model prog w) A (typeOf x) Q E s):=fun v hm=>by
  obtain ⟨ks,⟨b,o,items,n,rfl,g,c,d,k⟩,hk⟩:=hv v hm
  cases k':items.toList with
  | nil =>
   rw [k'] at k
   cases k
   simp at hk
  | cons x xs =>
   rw [k'] at k
   cases k with
   | @cons a _ ks1 _ ha k1 =>
    simp only [Zt,YL] at hk
    have hx:items[0]?=some x:=by rw [← Z8,k'];rfl
    refine ⟨x,fun Q q=>?_,fun Q q=>?_⟩
    ·refine (show wpAny _ _ (typeOf (.ref b) >>= _) _ _ _ from Zy (WQ (T := "tuple") ⟨o,g,c⟩ ?_))
     rw [Zp (by decide)]
     refine Zy (listItems_at g d (Zq ?_))
     rw [hx]
     exact q
    ·cases a with
     | inl i =>
      obtain ⟨t,rfl⟩:=ha
      have:k0=true:=hk.1.symm
      subst this
      exact WQ (T := "int") rfl q
     | inr y =>
      obtain ⟨t,rfl⟩:=ha
      have:k0=false:=hk.1.symm
      subst this
      exact WQ (T := "str") rfl q
 obtain ⟨tn,htn⟩:∃ tn:String,tn=(if k0 then "int" else "str"):=⟨_,rfl⟩
 have hne:(Value.type tn != Value.type "tuple")=true:=by subst htn;cases k0 <;> decide
 rw [← htn] at fst
 have mp:∀ {α β:Type} (f:α->Sem β) (l:List α) (Q:Array β->Shared->Prop),wpAny (model prog w) A (l.mapM f) (fun xs s'=>Q xs.toArray s') E s->wpAny (model prog w) A (l.toArray.mapM f) Q E s:=fun f l Q hm=>by
  rw [List.mapM_toArray]
  exact Zy (YT hm (fun _ _ z=>Zq z) fun _ _ e=>e)
 rw [keyKind'_eq]
 refine Zy (mp _ _ _ (oh (P:=fun o=>∃ x,o=some x/\∀ (Q:Yy),Q (.type tn) s->wpAny (model prog w) A (typeOf x) Q E s) (fun v hm=>by
  obtain ⟨x,h1,h3⟩:=fst v hm
  exact ⟨some x,⟨x,rfl,h3⟩,h1⟩) fun xs hl hp=>?_))
 rw [Zs (by
  rw [List.all_toArray,Yw]
  intro o ho
  obtain ⟨x,rfl,_⟩:=hp o ho
  rfl)]
 refine Zy (XG (Zy ?_))
 rw [oneTypeOnly'_eq]
 have hf:(xs.toArray.filterMap id)=(xs.filterMap id).toArray:=by simp
 rw [hf]
 refine Zy (mp _ _ _ (oh (P:=fun ty=>ty=Value.type tn) (fun v hm=>by
  obtain ⟨o,ho,e⟩:=WI.mp hm
  obtain ⟨x,rfl,h3⟩:=hp o ho
  cases e
  exact ⟨_,rfl,h3⟩) fun ts hl2 ht=>?_))
 have hfl:(xs.filterMap id).length=xs.length:=by
  have:∀ l:List (Vy),(∀ o∈l,∃ x,o=some x)->(l.filterMap id).length=l.length:=fun l=>by
   induction l with
   | nil=>intro _;rfl
   | cons o l ih =>
    intro h
    obtain ⟨x,rfl⟩:=h o Zw
    simp [ih fun o ho=>h o (Zx _ ho)]
  exact this xs fun o ho=>let ⟨x,e,_⟩:=hp o ho;⟨x,e⟩
 cases ts with
 | nil=>simp at hl2;lia
 | cons t0 ts =>
  have e0:=ht t0 Zw
  subst e0
  have e1:(Value.type tn :: ts).toArray[0]?=some (Value.type tn):=rfl
  rw [e1]
  dsimp only
  rw [Zs (by
   rw [List.all_toArray,Yw]
   intro y hy
   rw [ht y hy]
   simp)]
  refine Zq (Zq ?_)
  simp only [Option.any_some,hne]
  exact q
noncomputable def GT (h:Heap) (sh:List Bool) (x:Keyed):Prop:=∃ ks,jm h x.1 ks/\ks.map kind=sh
open Classical in
noncomputable def rT (h:Heap) (x y:Keyed):Bool:=decide (∃ ks ls,jm h x.1 ks/\jm h y.1 ls/\fj ks ls=true)
open Classical in
theorem lE {h:Heap} {x y:Keyed} {ks ls:List Ky} (hx:jm h x.1 ks) (hy:jm h y.1 ls):rT h x y=fj ks ls:=by
 unfold rT
 cases e:fj ks ls with
 | true=>exact decide_eq_true ⟨ks,ls,hx,hy,e⟩
 | false =>
  refine decide_eq_false fun ⟨ks',ls',hx',hy',e'⟩=>?_
  rw [hx'.fn hx,hy'.fn hy,e] at e'
  cases e'
theorem Ay {sh:List Bool} {f:Bool} {h:Heap} (hk:∀ v ks,jm h v ks->jm s.heap v ks):Cmp prog w A E s (tuples' f) (GT h sh) (rT h):=by
 refine ⟨?_,?_,?_⟩
 ·rintro st x y Q hkd ⟨ks,hx,ex⟩ ⟨ls,hy,ey⟩ q
  rw [lt'_eq]
  refine Zb (WV ?_)
  rw [hkd]
  rw [lE hx hy] at q
  exact Zb (wpS_lift (wpAny_attempt (Bz (hk _ _ hx) (hk _ _ hy) (ex.trans ey.symm) ⟨rfl,Zk q⟩)))
 ·rintro x y ⟨ks,hx,_⟩ ⟨ls,hy,_⟩ q
  rw [lE hx hy] at q
  rw [lE hy hx]
  exact nu q
 ·rintro x y z ⟨ks,hx,ex⟩ ⟨ls,hy,ey⟩ ⟨ms,hz,ez⟩ q1 q2
  rw [lE hy hx] at q1
  rw [lE hz hy] at q2
  rw [lE hz hx]
  exact rQ (ex.trans ey.symm) (ey.trans ez.symm) q1 q2
end TS
end
section
namespace ST
open PySem PySem.Spec PyProof.Rows
variable {prog:Program} {w:World} {A:Around} {E:Yy} {s:Shared}
noncomputable abbrev dO (es:Array DictEntry) (ep:Nat):Obj:={ cls:=.type "dict",data:=.dict es ep }
noncomputable abbrev kO (d:Addr) (i n ep:Nat):Obj:={ cls:=.type "dict_keyiterator",data:=.fields #[.ref d,.int i 0,.int n 0,.int ep 0] }
theorem xg {d:Addr} {es:Array DictEntry} {ep:Nat} {Q:Yy} (hd:(d == sysModules)=false) (hm:s.heap.get? d=some (dO es ep)) (q:Q (.ref s.heap.objs.size) { s with heap:=s.heap.push (kO d 0 es.size ep) }) :
  wpAny (model prog w) A (pyIter (.ref d)) Q E s:=by
 have ty:s.TypeIs (.ref d) "dict" := ⟨_,hm,rfl⟩
 refine wpAny_pyIter_slot ty F.slot_dict_iter (XS F.slot_dict_iter ty F.entry_dict_iter (show wpAny _ _ (Builtin.«dict.__iter__» _) _ _ _ from ?_) (F.args_dict_iter_1 _))
 unfold Builtin.«dict.__iter__» Builtin.Dict.dictSlotNone Builtin.Dict.showsAll
 refine Zy (Zy (wpAny_notOrdered_dict ty (show wpAny _ _ (pure (Value.ref d)) _ _ s from Zq (Zy (m:=Builtin.Dict.addrOf (.ref d)) (Zq ?_)))))
 rw [Zp (by rw [hd];exact Zi)]
 exact Zy (Zq (Zy (wpAny_dictEntries hm rfl (Zy (wpAny_dictEpoch hm rfl (Zy (Wb (Zq ⟨_,rfl, "dict_keyiterator",_,⟨_,ZV _ rfl,rfl⟩,Xi.lookup,q⟩))))))))
theorem pU {I d:Addr} {i ep:Nat} {es:Array DictEntry} {Q:Vy->Shared->Prop} (hh:A.handled=none) (hI:s.heap.get? I=some (kO d i es.size ep)) (hm:s.heap.get? d=some (dO es ep))
  (h1:∀ e,es[i]?=some e->∀ h',Heap.SameBut I s.heap h'->h'.get? I=some (kO d (i+1) es.size ep)->Q (some e.key) { s with heap:=h' })
  (h2:es[i]?=none->∀ h',(∀ b o,b ≠ I->s.heap.get? b=some o->h'.get? b=some o)->Q none { s with heap:=h' }):wpAny (model prog w) A (pyNext (.ref I)) Q E s:=by
 have ty:s.TypeIs (.ref I) "dict_keyiterator" := ⟨_,hI,rfl⟩
 unfold pyNext
 refine Zy (wpAny_attempt (wpAny_callSpecial?_slot (name:=Str.ofString "__next__") ty Xi (XS Xi ty F.entry_dict_keyiterator_next (YT
  (Q:=fun f s'=>∃ v,f=.done (.ret v)/\Q (some v) s') (E:=fun e s'=>∃ x,e=.ref x/\(∃ o,s'.heap.get? x=some o/\o.cls=.type "StopIteration")/\Q none s') ?_ (fun f s' ⟨v,e,q⟩=>⟨v,e,Zq q⟩) fun e s' ⟨x,e1,⟨o,g,c⟩,q⟩=>?_) (F.args_dict_keyiterator_next_1 _))))
 ·refine Zy (Zq (Zy (Zy (Zy (Wx ty (Zq (Zy (wpAny_fieldsOf hI rfl ?_))))))))
  have own:Builtin.Dict_items.ownsTuple "dict_keyiterator" = false:=rfl
  simp only [own,Z4,↓reduceIte]
  refine (show wpAny _ _ (if (Value.ref d == Value.none)=true then _ else _) _ _ s from ?_)
  rw [Zp (fun e:(Value.ref d == Value.none)=true=>Zi e)]
  refine Zy (Zq (Zy (wpAny_dictEntries hm rfl ?_)))
  rw [Zp (by simp)]
  refine Zy (Zq (Zy (wpAny_dictEpoch hm rfl ?_)))
  rw [Zp (by simp)]
  refine Zq ?_
  simp only [show ¬ ((i:Int) < 0) from by lia,↓reduceIte,YN]
  cases he:es[i]? with
  | some e =>
   dsimp only
   have g1:(s.heap.update I (Obj.mapFields (·.setIfInBounds 1 (rawInt ((i:Int)+1))))).get? I=some (kO d (i+1) es.size ep):=WG _ hI rfl
   refine Zy (Zy (Wx ty (Zq (Zy (wpAny_isOneOf_keyiter ty ?_)))))
   refine (show wpAny _ _ (setField (.ref I) 1 (rawInt ((i:Int)+1)) >>= _) _ _ s from Zy (wpAny_setField hI rfl (by show 1 < 4;decide) (Zy (YF ?_))))
   refine Zy (wpAny_isOneOf_keyiter (s:={ s with heap:=s.heap.update I (Obj.mapFields (·.setIfInBounds 1 (rawInt ((i:Int)+1)))) }) ⟨_,g1,rfl⟩ ?_)
   refine (show wpAny _ _ (pure e.key) _ _ _ from Zq (Zq ⟨_,rfl,h1 e he _ (Wp ..) g1⟩))
  | none =>
   dsimp only
   refine Zy (Zy (Wx ty (Zq ?_)))
   refine (show wpAny _ _ (setField (.ref I) 0 .none >>= _) _ _ s from Zy (wpAny_setField hI rfl (by show 0 < 4;decide) (DW hh fun h' x kp hx=>⟨x,rfl,hx,h2 he h' fun b o hb e=>kp b o ?_⟩)))
   rw [X2 _ _ (YE hb)]
   exact e
 ·subst e1
  exact Zy (WU (T := "StopIteration") (b:=true) ⟨o,g,c⟩ isSubtype_stop (Zq q))
end ST
end
section
namespace L2
open PySem PySem.Spec PyProof.Rows TS
section
variable {X:Cx}
theorem u6:∀ {ks:List Key} {vs:Xb},aQ (ks.map kV) vs->KysV ks vs
 | [],[],_=>.nil
 | k :: ks,v :: vs,h=>by
  cases h with
  | cons r q =>
   refine .cons ?_ (u6 q)
   cases k with
   | inl i=>exact r
   | inr x=>exact r
theorem yS {P:Program} {w:World} {H:Hp} {h:Heap} {a:Addr} {ks:List Key} (ok:HOk P w H h) (e:H a=some (.tup (ks.map kV))):jm h (.ref a) ks:=by
 obtain ⟨_,its,r,_,o,h1,h2,n,h3⟩:=(show bj P w H h a (.tup (ks.map kV)) from ok a _ e)
 exact ⟨a,o,its.toArray,n,rfl,h1,h2,h3,u6 r⟩
end
end L2
end
section
namespace VS
open PySem PySem.Spec PyProof.Rows L2 TS
section
variable {G:Gx} {X:Cx} {a b c e tg:Expr} {es:List Expr} {ca cb cc ce ck:Ex} {cs:Exs} {pos p p1 p2 apos cpos pos':Pos} {k k' kr:Nat}
noncomputable def Bj:T->Bool
 | .tup l=>l.all il
 | _=>false
@[simp] noncomputable def Fu (x y:Val):Vm:=match y.2 with
 | .dct 1 l=>if Bj x.2 then some (.fr,.bl (bN l x.2).isSome) else none
 | .lst l=>if Bj x.2 && l.all Bj then some (.fr,.bl (l.any fun z=>eqT z x.2)) else none
 | _=>none
@[simp] noncomputable def EL (x y:Val):Vm:=match Fu x y with
 | some (_,.bl b)=>some (.fr,.bl (!b))
 | _=>none
end
end VS
namespace VS
open PySem PySem.Spec PyProof.Rows L2
theorem DB {G:Gx} {X:Cx} {i:Int} {j:Nat} {pos p:Pos}:PV G X (.UnaryOp .USub (.Constant (.int i) j p) pos) (eC (.int (-i))) :=
 PE.weak (DI Cj wV) fun σ H Q ⟨Φ,η,m,t,s,e,k⟩=>by
  cases (show some (Md.fr,T.int (-i))=some (m,t) from e)
  exact ⟨i,rfl,k _ H [] (aS.refl _) (.int _) Fp.nil⟩
end VS
end
section
namespace L2
open PySem PySem.Spec PyProof.Rows
section
variable {X:Cx}
noncomputable def zL:V->List V->Hp->VK->Prop:=fun x vs H Q=>∃ (a:Addr) (kvs:List (Key×V)) (k:Key) (y:V),x=.ref a/\vs=[kV k,y]/\H a=some (.dK kvs)/\kvs.length < sizeLine ∧
 (∀ v,cC kvs k=some v->Q v H)/\(cC kvs k=none->Q y (upd H a (.dK (putK kvs k y))))
theorem tm:MtR X "dict.setdefault" zL:=by
 intro pins s σ H x vs v us Q I rx rv h
 obtain ⟨a,kvs,k,y,rfl,rfl,e,hl,q1,q2⟩:=h
 cases rx
 obtain ⟨u,u2,rfl,ru,ru2⟩:=rv.two
 obtain ⟨z,hd,ws,rel,dd⟩:=sC I.hok e
 have hz:ws.length<=sizeLine:=by rw [← rel.length];exact z
 have hval:=rel.val k
 refine call_meetsIn Xr dd.typeIs PySem.F.entry_dict_setdefault (Vx _ _ _) (kt_meets_setdefault (aU X.prog X.w) a (km ru) hd u2) ⟨ws,dd,hz,fun v hv=>?_,fun hn h' dd' hs=>?_⟩
 ·rw [hv] at hval
  cases hx:cC kvs k with
  | none=>rw [hx] at hval;cases hval
  | some w =>
   rw [hx] at hval
   exact ⟨w,H,I.tok _,hval,q1 w hx⟩
 ·rw [hn] at hval
  have hx:cC kvs k=none:=by
   cases hx:cC kvs k with
   | none=>rfl
   | some w=>rw [hx] at hval;cases hval
  have hl2:(putK kvs k y).length<=sizeLine:=by have:=fi kvs k y;lia
  have he:∃ q,h'.get? a=some q:=let ⟨q,_,_,hq,_⟩:=dd';⟨q,hq⟩
  exact ⟨y,_,iQ I (by rw [e];exact True.intro) hs he (om hl2 hd (rel.put k ru2) dd'),ru2,q2 hx⟩
end
end L2
namespace VS
open PySem PySem.Spec PyProof.Rows L2
section
variable {G:Gx} {X:Cx} {a b c e o tg:Expr} {es:List Expr} {ca cb cc ce ck cv:Ex} {cs:Exs} {pos p p1 p2 apos cpos pos' ap1 cp1 lp:Pos} {k k' kr i:Nat}
noncomputable def cM (l:List (T×T)) (k:T):List (T×T):=if (bN l k).isSome then l else l++[(k,.lst [])]
noncomputable def iR (i:Nat) (k:Ex) (v:Exs) (η:VS.Env):Option Out:=match η[i]? with
 | some (some (.ow (.dct 0 l)))=>(k η).bind fun kv=>if il kv.2/\l.length < gN then
   (v (η.set i (some (.ow (.dct 0 (cM l kv.2)))))).bind fun vv=>(pm (fun x=>aV x vv) [.at kv.2] (.dct 0 (cM l kv.2))).map fun z=>.nx (η.set i (some (.ow z.1))) else none
 | _=>none
theorem Chg.none {H H':Hp} {v:V} {F:Xf} {t:T} (sm:aS H H') (r:Rp G H v t F) (nd:F.Nodup):Chg G H v F t H' F :=
 ⟨Kept.of sm,fun b o _ h=>sm b o h,fun b h z=>h (sm.free z),r.same sm,nd,fun a ha=>.inl ha⟩
theorem Bx {H:Hp} {f:T->Option (T×Val)} {kk:Key} {a:Addr} {L:List (T×T)} {t':T} {F:Xf} {y:Val} {kvs:List (Key×V)} {w:V} (r:Rp G H (.ref a) (.dct 0 L) F) (nd:F.Nodup) (e:pm f [.at (aO kk)] (.dct 0 L)=some (t',y)) (h3:H a=some (.dK kvs)) (hw:cC kvs kk=some w) :
  ∃ x F1 x',Rp G H w x F1/\F1.Nodup/\f x=some (x',y)/\∀ H2 F1',Chg G H w F1 x' H2 F1'->∃ F',Chg G H (.ref a) F t' H2 F':=by
 have e:((L.findIdx? fun p=>eqT p.1 (aO kk)).bind fun i=>(L[i]?).bind fun p=>(pm f [] p.2).map fun z=>(T.dct 0 (L.set i (p.1,z.1)),z.2))=some (t',y):=by
  cases kk <;> exact e
 obtain ⟨i,h1,e⟩:=Zz.mp e
 obtain ⟨p,h2,e⟩:=Zz.mp e
 obtain ⟨⟨z,y'⟩,e1,e2⟩:=Zm.mp e
 cases e2
 obtain ⟨a',ns,vs,ts,Fs,ea,rfl,ha,hl,rfl,ra⟩:=iT r
 cases ea
 rw [h3] at ha
 cases ha
 have lts:(ns.map aO).length=ts.length:=by rw [Zv];exact hl.trans ra.len.1
 obtain ⟨k0,x0,g1,g2,g3,g4⟩:=pS (fun n=>eqT n (aO kk)) lts h1
 have ep:p=(k0,x0):=by
  have:((ns.map aO).zip ts)[i]?=some (k0,x0):=by rw [Ws];exact ⟨g1,g2⟩
  rw [this] at h2;exact (ZI h2).symm
 subst ep
 obtain ⟨u,Fi,u1,u2,u3⟩:=ra.get i g2
 have ew:cC (ns.zip vs) kk=some u:=sU (by simpa using lts) hl h1 u1
 rw [hw] at ew
 cases ew
 refine ⟨x0,Fi,z,u3,((ZY.mp nd).2).sublist (eY u2),e1,fun H2 F1' g=>?_⟩
 obtain ⟨s1,s2,s3,s4,s5⟩:=kN h3 ra nd u1 u2 g
 refine ⟨_,g.kept,s5,g.dom,?_,s3,s4⟩
 rw [og (ns.map aO) ts i k0 z g1]
 exact .dct s1 hl s2
theorem wM (J:Cc G) (i:Nat) {x:Str} (hk:PV G X b ck) (hv:PVs G X [e] cs) (hK:X.K=G.K) (hN:X.N[i]?=some x) (hvis:Vis X.env.scope x) (hd:(x == ("__debug__" : Str))=false) (hcd:(x == ("__classdict__" : Str))=false)
  (hb1:attributeBase (.Name x p1) "setdefault" X.env (eval (.Name x p1) X.env)=eval (.Name x p1) X.env)
  (hf1:((backTo cp1 (starEach [b,.List [] lp] X.env)).all (fun x=>!x.1) && (backToKw cp1 (keywordEach [] X.env)).all (fun x=>x.1.isSome)
   && decide ([b,Expr.List [] lp].length+([]:List Keyword).length+(if ([]:List Keyword).isEmpty then 0 else 1) < 30))=true)
  (hl1:(ap1.endLine == cp1.line)=true) (hs1:starEach [b,.List [] lp] X.env=(false,eval b X.env) :: starEach [.List [] lp] X.env) (hs1':starEach [.List [] lp] X.env=(false,eval (.List [] lp) X.env) :: starEach [] X.env) (hp1:(backTo cp1 (starEach [.List [] lp] X.env)).any (·.1)=false)
  (hb2:attributeBase (.Call (.Attribute (.Name x p1) "setdefault" ap1) [b,.List [] lp] [] cp1) "append" X.env (eval (.Call (.Attribute (.Name x p1) "setdefault" ap1) [b,.List [] lp] [] cp1) X.env)=eval (.Call (.Attribute (.Name x p1) "setdefault" ap1) [b,.List [] lp] [] cp1) X.env)
  (hf2:((backTo cpos (starEach [e] X.env)).all (fun x=>!x.1) && (backToKw cpos (keywordEach [] X.env)).all (fun x=>x.1.isSome)
   && decide ([e].length+([]:List Keyword).length+(if ([]:List Keyword).isEmpty then 0 else 1) < 30))=true)
  (hl2:(apos.endLine == cpos.line)=true) (hs2:starEach [e] X.env=(false,eval e X.env) :: starEach [] X.env) (hp2:(backTo cpos (starEach [] X.env)).any (·.1)=false)
  (hsw:swapsWith (.Call (.Attribute (.Call (.Attribute (.Name x p1) "setdefault" ap1) [b,.List [] lp] [] cp1) "append" apos) [e] [] cpos) none pos.line X.env=pure false) :
  PSV G X (.Expr (.Call (.Attribute (.Call (.Attribute (.Name x p1) "setdefault" ap1) [b,.List [] lp] [] cp1) "append" apos) [e] [] cpos) pos) (iR i ck cs) :=
 PS.weak (iU (nr Xy Y9 Y8 fN
  (nr PySem.F.plainAttrs_dict Xr PySem.F.type_dict_setdefault tm (eI hN hvis hd hcd) (fI hk (fI (oB gZ) gZ hs1') hs1) hb1 hf1 hl1 hs1 hp1) hv hb2 hf2 hl2 hs2 hp2) hsw) fun D σ H ⟨Φ,η,out,s,e,k⟩=>by
  refine L2.fR fun P_ k_=>?_
  unfold iR at e
  split at e
  ·rename_i l hl
   obtain ⟨⟨mk,tk⟩,ekk,e⟩:=Zz.mp e
   split at e
   ·rename_i hc
    obtain ⟨c1,c2⟩:=hc
    obtain ⟨lv,ev,e⟩:=Zz.mp e
    obtain ⟨⟨t',y'⟩,e5,e6⟩:=Zm.mp e
    cases e6
    obtain ⟨v,g1,g2⟩:=s.rp _ _ hl
    have nd0:=s.nd i _ hl
    obtain ⟨a,ns,vs,ts,Fs,rfl,eΦ,ha,hln,el,ra⟩:=iT g2
    subst el
    rw [eΦ] at nd0
    refine k_ ?_
    refine ⟨.ref a,g1,by rw [hK];exact .inr (.inr (.inl ⟨rfl,.inl ⟨_,ha⟩⟩)),?_⟩
    refine ⟨Φ,η,mk,tk,s,ekk,fun kv H1 Fk sm1 rk fk=>⟨ZO _,fun q hq=>?_⟩⟩
    refine L2.fR fun P_ k_=>?_
    obtain ⟨kk,rfl,etk⟩:=gh rk c1
    dsimp only at etk ekk e5 ev c1
    subst etk
    refine k_ ?_
    have fin:∀ (H3:Hp) (F3:Xf) (kvs3:List (Key×V)) (w:V),Chg G H (.ref a) (Φ i) (.dct 0 (cM ((ns.map aO).zip ts) (aO kk))) H3 F3->H3 a=some (.dK kvs3)->cC kvs3 kk=some w →
      tyV X.K "list" w H3/\tEs G cs σ H3 (fun vs2 H4=>kI w vs2 H4 (fun _ H5=>D.nx σ H5)):=fun H3 F3 kvs3 w g h3 hw=>by
     refine L2.fR fun P_ k_=>?_
     obtain ⟨z1,z2⟩:=s.mut hl g1 g
     have hset:(η.set i (some (.ow (.dct 0 (cM ((ns.map aO).zip ts) (aO kk))))))[i]?=some (some (.ow (.dct 0 (cM ((ns.map aO).zip ts) (aO kk))))):=by
      have hi:i < η.length:=(ZZ.mp hl).1
      rw [YQ hi]
     obtain ⟨x',F1,x3,w2,w3,w4,w5⟩:=Bx g.rp g.nd e5 h3 hw
     refine k_ ?_
     refine ⟨by rw [hK];exact ff w2 w4,i6 Φ i F3,_,lv,z1,ev,fun vs2 H4 Fs2 q1 q2 q3=>?_⟩
     refine gH (i6 Φ i F3) _ H3 H4 w x' x3 F1 lv vs2 Fs2 y' _ w2 w3 ⟨q1,q2,q3⟩ w4 fun u H5 F' g5=>?_
     obtain ⟨F2,g6⟩:=w5 H5 F' g5
     have g6':Chg G H3 (.ref a) (i6 Φ i F3 i) t' H5 F2:=by rw [gv];exact g6
     obtain ⟨y1,y2⟩:=z1.mut hset g1 g6'
     rw [List.set_set] at y1 y2
     exact k _ σ H5 y1 (z2.trans y2)
    have sm2:aS H1 (upd H1 q (.lst [])):=cE hq
    have sm:aS H (upd H1 q (.lst [])):=sm1.trans sm2
    have ha2:upd H1 q (.lst []) a=some (.dK (ns.zip vs)):=sm a _ ha
    have ln:(ns.zip vs).length < sizeLine:=by
     have:((ns.map aO).zip ts).length < 16777216:=c2
     rw [Yb,Zv] at this
     rw [Yb]
     have:=ra.len.1
     have:(sizeLine:Nat)=16777216:=rfl
     lia
    have dg:=kH (G:=G) (k:=kk) hln ra
    refine ⟨a,ns.zip vs,kk,.ref q,rfl,rfl,ha2,ln,fun w hw=>?_,fun hn=>?_⟩
    ·refine fin _ (a :: Fs.flatten) (ns.zip vs) w ?_ ha2 hw
     have es:cM ((ns.map aO).zip ts) (aO kk)=(ns.map aO).zip ts:=by
      unfold cM
      rcases dg with ⟨h1,h2⟩ | ⟨_,_,t2,_,h1,_⟩
      ·rw [h2] at hw;cases hw
      ·rw [h1];rfl
     rw [es,eΦ]
     exact Chg.none sm (by rw [eΦ] at g2;exact g2) nd0
    ·have es:cM ((ns.map aO).zip ts) (aO kk)=((ns++[kk]).map aO).zip (ts++[.lst []]):=by
      unfold cM
      rcases dg with ⟨h1,h2⟩ | ⟨_,_,t2,_,h1,h2,_⟩
      ·rw [h1,Zp (by simp),Yu,XW (by rw [Zv];exact hln.trans ra.len.1)]
       rfl
      ·rw [h2] at hn;cases hn
     have ep:putK (ns.zip vs) kk (.ref q)=(ns++[kk]).zip (vs++[.ref q]):=by
      unfold putK
      rw [ip,hn,Zp (by simp),XW hln]
      rfl
     have qa:q ≠ a:=fun z=>by
      have:H1 a=some (.dK (ns.zip vs)):=sm1 a _ ha
      rw [← z,hq] at this
      cases this
     have qH:H q=none:=sm1.free hq
     have m2:Mut (upd H1 q (.lst []) a):=by rw [ha2];exact True.intro
     have nd:=ZY.mp nd0
     have qF:q ∉ Fs.flatten:=fun z=>Mut.ne_none (ra.dom q z) qH
     have h3q:upd (upd H1 q (.lst [])) a (.dK (putK (ns.zip vs) kk (.ref q))) q=some (.lst []):=by rw [aA qa,aI]
     have rq:Rp G (upd (upd H1 q (.lst [])) a (.dK (putK (ns.zip vs) kk (.ref q)))) (.ref q) (.lst []) (q :: ([]:Yf).flatten):=.lst h3q .nil
     refine fin _ (a :: (Fs++[[q]]).flatten) (putK (ns.zip vs) kk (.ref q)) (.ref q) ?_ aI (by rw [xR,Zs rfl])
     rw [es,eΦ]
     refine Chg.upd sm Zw m2 (.dct (by rw [aI,ep]) (by simp [hln]) (((ra.same sm).off m2 nd.1).append (.cons rq .nil))) ?_ ?_
     ·rw [Z5]
      refine ZY.mpr ⟨fun z=>?_,ZJ.mpr ⟨nd.2,by simp,fun x hx y hy z=>?_⟩⟩
      ·rcases Zd.mp z with z | z
       ·exact nd.1 z
       ·have h:a=q:=by simpa using z
        exact qa h.symm
      ·subst z
       exact qF (by simpa [show x=q by simpa using hy] using hx)
     ·intro y hy
      rcases Zo.mp hy with rfl | hy
      ·exact .inl Zw
      ·rw [Z5] at hy
       rcases Zd.mp hy with hy | hy
       ·exact .inl (Zx _ hy)
       ·rw [show y=q by simpa using hy]
        exact .inr qH
   ·cases e
  ·cases e
end
end VS
end
section
namespace L2
open PySem PySem.Spec PyProof.Rows
theorem DJ {X:Cx} {pins:Yp} {σ:St} {H:Hp} {s:Shared} {p:Addr} {kvs:List (br×Addr×V)} (I:Inv X pins σ H s) (e:H p=some (DN p kvs)):s.TypeIs (.ref p) "dict" ∧ ∀ a,Value.ref p=.ref a->∃ ob,s.heap.get? a=some ob/\ob.dict=none:=by
 obtain ⟨⟨_,_,_,_,o,_,_,g,ex,_⟩,_⟩:=(show bj X.prog X.w H s.heap p (DN p kvs) from I.hok p _ e)
 refine ⟨⟨o,g,ex.1⟩,fun a e2=>?_⟩
 cases e2
 exact ⟨o,g,ex.2.1⟩
noncomputable def tyN (x:V) (H:Hp):Prop:=∃ p kvs,x=.ref p/\H p=some (DN p kvs)
noncomputable def Fl (r:V->List V->Hp->VK->Prop) (to:TE) (t:TA):TE:=fun σ H Q=>to σ H fun x H1=>tyN x H1/\t σ H1 fun xs H2=>r x xs H2 Q
section
variable {X:Cx} {o e:Expr} {es:List Expr} {to:TE} {t:TA} {name:Str} {apos cpos:Pos} {id:String} {r:V->List V->Hp->VK->Prop}
theorem Cb (slot:Slot "dict" name id) (hty:typeOf (.builtin id)=pure (.type "method_descriptor")) (hm:MtR X id r) (ho:PE X o to) (ha:PA X (e :: es) t)
  (hbase:attributeBase o name X.env (eval o X.env)=eval o X.env)
  (hfew:((backTo cpos (starEach (e :: es) X.env)).all (fun x=>!x.1) && (backToKw cpos (keywordEach [] X.env)).all (fun x=>x.1.isSome)
   && decide ((e :: es).length+([]:List Keyword).length+(if ([]:List Keyword).isEmpty then 0 else 1) < 30))=true)
  (hline:(apos.endLine == cpos.line)=true) (hs:starEach (e :: es) X.env=(false,eval e X.env) :: starEach es X.env) (hplain:(backTo cpos (starEach es X.env)).any (·.1)=false) :
  PE X (.Call (.Attribute o name apos) (e :: es) [] cpos) (Fl r to t):=by
 intro pins s σ H Q I h
 refine wpAny_Call_method_late hbase hfew hline rfl (thn (ho pins s σ H _ I h) fun v s1 ⟨x,H1,I1,r1,⟨p,kvs,ex,hp⟩,q1⟩=>?_)
 subst ex
 obtain rfl:=(show v=Value.ref p from r1)
 obtain ⟨h1,h2⟩:=DJ I1 hp
 have hA:=ha cpos pins s1 σ H1 _ I1 q1
 refine ⟨"dict",id,PySem.F.plainAttrs_dict,slot,hty,h1,h2,?_⟩
 rw [hs] at hA ⊢
 exact Calls.callWith_builtin (by show (false || (backTo cpos (starEach es X.env)).any (·.1))=false;rw [hplain];rfl) (Calls.evalArgs_plain (thn hA fun us s2 ⟨vs,H2,I2,r2,q2⟩=>hm pins s2 σ H2 (.ref p) vs _ us Q I2 rfl r2 q2))
end
end L2
namespace VS
open PySem PySem.Spec PyProof.Rows L2
noncomputable def nkI:T->Option Int
 | .int i=>some i
 | _=>none
noncomputable def nk1:T->Option (Vq)
 | .tup l=>l.mapM nkI
 | _=>none
noncomputable def yh:T->Option br
 | .tup l=>l.mapM nk1
 | _=>none
theorem za {t:T} {i:Int} (h:nkI t=some i):t=.int i:=by cases t <;> simp [nkI] at h;subst h;rfl
theorem lj {α β:Type} {f:α->Option β} {g:β->α} (h:∀ a b,f a=some b->a=g b):∀ {l:List α} {m:List β},l.mapM f=some m->l=m.map g
 | [],m,e=>by simp at e;subst e;rfl
 | a :: l,m,e=>by
  simp only [List.mapM_cons,Option.pure_def,Option.bind_eq_bind] at e
  obtain ⟨b,hb,e⟩:=Zz.mp e
  obtain ⟨bs,hbs,e⟩:=Zz.mp e
  cases e
  rw [Zt,← h a b hb,← lj h hbs]
theorem yQ {t:T} {k:Vq} (h:nk1 t=some k):t=.tup (k.map T.int):=by
 cases t with
 | tup l=>exact congrArg T.tup (lj (fun a b=>za) h)
 | _=>simp [nk1] at h
theorem wN {t:T} {k:br} (h:yh t=some k):t=nkT k:=by
 cases t with
 | tup l=>exact congrArg T.tup (lj (fun a b=>yQ) h)
 | _=>simp [yh] at h
section
variable {G:Gx} {X:Cx} {a b c e o tg:Expr} {es:List Expr} {ca cb cc ce ck cv:Ex} {cs:Exs} {pos p p1 p2 apos cpos pos' ap1 cp1 lp:Pos} {k k' kr i:Nat}
theorem RpL.ints {H:Hp}:∀ {k:Vq} {vs:List V} {Fs:Yf},RpL G H vs (k.map T.int) Fs->vs=k.map V.int
 | [],_,_,r=>by rw [YX] at r;cases r;rfl
 | i :: k,_,_,r=>by
  rw [Zt] at r
  cases r with
  | cons h t=>rw [Zt,← RpL.ints t,h.int_inv]
theorem Rp.tup_inv' {H:Hp} {v:V} {ts:Vl} {F:Xf} (r:Rp G H v (.tup ts) F):∃ b vs Fs,v=.ref b/\H b=some (.tup vs)/\RpL G H vs ts Fs:=by
 cases r with
 | tup h q=>exact ⟨_,_,_,rfl,h,q⟩
theorem Cw {H:Hp} {v:V} {k:br} {F:Xf} (r:Rp G H v (nkT k) F):∃ b,v=.ref b/\NAt H k b:=by
 obtain ⟨b,vs,Fs,rfl,h,q⟩:=Rp.tup_inv' r
 have all:∀ {k:br} {vs:List V} {Fs:Yf},RpL G H vs (k.map fun x=>T.tup (x.map T.int)) Fs->∃ cs:Xf,vs=cs.map V.ref/\Paired (fun (x:Vq) (c:Addr)=>H c=some (.tup (x.map V.int))) k cs:=by
  intro k
  induction k with
  | nil=>intro vs Fs q;rw [YX] at q;cases q;exact ⟨[],rfl,.nil⟩
  | cons x k ih =>
   intro vs Fs q
   rw [Zt] at q
   cases q with
   | cons h t =>
    obtain ⟨c,us,Gs,rfl,hc,qc⟩:=Rp.tup_inv' h
    obtain ⟨cs,e,pr⟩:=ih t
    rw [RpL.ints qc] at hc
    exact ⟨c :: cs,by rw [e];rfl,.cons hc pr⟩
 obtain ⟨cs,e,pr⟩:=all q
 exact ⟨b,rfl,cs,by rw [h,e],pr⟩
theorem nz:∀ (x y:Vq),mG (x.map T.int) (y.map T.int)=decide (x=y)
 | [],[]=>rfl
 | [],_ :: _=>rfl
 | _ :: _,[]=>rfl
 | i :: x,j :: y=>by
  rw [Zt,Zt,mG,nz x y]
  simp only [eqT,YL,Bool.decide_and]
  rfl
theorem mm:∀ (x y:br),eqT (nkT x) (nkT y)=decide (x=y):=by
 intro x y
 unfold nkT
 rw [eqT]
 induction x generalizing y with
 | nil=>cases y <;> simp
 | cons i x ih =>
  cases y with
  | nil=>simp
  | cons j y =>
   rw [Zt,Zt,mG,ih y,eqT,nz]
   simp only [YL,Bool.decide_and]
noncomputable abbrev kvN (ks:List (br×Addr)) (vs:List V):List (br×Addr×V):=(ks.zip vs).map fun p=>(p.1.1,p.1.2,p.2)
theorem lT {H:Hp} {k:br}:∀ {ks:List (br×Addr)} {vs:List V} {ts:Vl} {Fs:Yf},ks.length=vs.length->RpL G H vs ts Fs →
  (((ks.map fun p=>nkT p.1).zip ts).findIdx? (fun q=>eqT q.1 (nkT k))=none/\atN (kvN ks vs) k=none) ∨
  ∃ (j:Nat) (v:V) (t:T) (F:Xf),((ks.map fun p=>nkT p.1).zip ts).findIdx? (fun q=>eqT q.1 (nkT k))=some j/\(ks.map fun p=>nkT p.1)[j]?=some (nkT k)/\ts[j]?=some t/\atN (kvN ks vs) k=some v/\vs[j]?=some v/\Fs[j]?=some F/\Rp G H v t F
 | [],[],_,_,_,.nil=>.inl ⟨rfl,rfl⟩
 | k' :: ks,v :: vs,_,_,hl,.cons (t:=t) (F:=F) (ts:=ts) (Fs:=Fs) r q=>by
  by_cases hk:k'.1=k
  ·refine .inr ⟨0,v,t,F,?_,by simp [hk],rfl,by simp [atN,kvN,hk],rfl,rfl,r⟩
   rw [Zt,ZF,Yd,Zs (by rw [mm];exact decide_eq_true hk)]
  ·have e1:((((k' :: ks).map fun p=>nkT p.1).zip (t :: ts)).findIdx? fun q=>eqT q.1 (nkT k))=((((ks.map fun p=>nkT p.1).zip ts)).findIdx? fun q=>eqT q.1 (nkT k)).map (·+1):=by
    rw [Zt,ZF,Yd,Zp (by rw [mm];simp [hk])]
   have e2:atN (kvN (k' :: ks) (v :: vs)) k=atN (kvN ks vs) k:=by simp [atN,kvN,hk]
   rcases lT (k:=k) (by simpa using hl) q with ⟨h1,h2⟩ | ⟨j,v',t',F',h1,h2,h3,h4,h5,h6,h7⟩
   ·exact .inl ⟨by rw [e1,h1];rfl,by rw [e2];exact h2⟩
   ·exact .inr ⟨j+1,v',t',F',by rw [e1,h1];rfl,by simpa using h2,by simpa using h3,by rw [e2];exact h4,by simpa using h5,by simpa using h6,h7⟩
theorem p7 {H:Hp} {v:V} {l:List (T×T)} {F:Xf} (r:Rp G H v (.dct 2 l) F):∃ (a:Addr) (ks:List (br×Addr)) (vs:List V) (ts:Vl) (Fs:Yf),v=.ref a/\F=a :: Fs.flatten/\H a=some (DN a (kvN ks vs))/\ks.length=vs.length/\(∀ p∈ks,NAt H p.1 p.2)/\l=(ks.map fun p=>nkT p.1).zip ts/\RpL G H vs ts Fs:=by
 cases r with
 | dctN h hl n q=>exact ⟨_,_,_,_,_,rfl,rfl,h,hl,n,rfl,q⟩
theorem lM {H:Hp} {ks:List (br×Addr)} {vs:List V} (h:∀ p∈ks,NAt H p.1 p.2):∀ p∈kvN ks vs,NAt H p.1 p.2.1:=fun p hp=>by
 obtain ⟨q,hq,rfl⟩:=Yz.mp hp
 exact h q.1 (Wa (a:=q.1) (b:=q.2) hq).1
noncomputable def bK (l:List (T×T)) (k:T):List (T×T):=if (l.findIdx? fun p=>eqT p.1 k).isSome then l else l++[(k,.lst [])]
noncomputable def pG (f:T->Option (T×Val)) (l:List (T×T)) (k:T):Option (List (T×T)):=(l.findIdx? fun p=>eqT p.1 k).bind fun j=>(l[j]?).bind fun p=>(f p.2).map fun z=>l.set j (p.1,z.1)
noncomputable def gE (i:Nat) (k:Ex) (v:Exs) (η:VS.Env):Option Out:=match η[i]? with
 | some (some (.ow (.dct 2 l)))=>(k η).bind fun kv=>if (yh kv.2).isSome/\l.length < gN then
   (v (η.set i (some (.ow (.dct 2 (bK l kv.2)))))).bind fun vv=>(pG (fun x=>aV x vv) (bK l kv.2) kv.2).map fun z=>.nx (η.set i (some (.ow (.dct 2 z)))) else none
 | _=>none
theorem ur (i:Nat) {x:Str} (hr:Room kr X.A) (hk:PV G X b ck) (hv:PVs G X [e] cs) (hK:X.K=G.K) (hN:X.N[i]?=some x) (hvis:Vis X.env.scope x) (hd:(x == ("__debug__" : Str))=false) (hcd:(x == ("__classdict__" : Str))=false)
  (hb1:attributeBase (.Name x p1) "setdefault" X.env (eval (.Name x p1) X.env)=eval (.Name x p1) X.env)
  (hf1:((backTo cp1 (starEach [b,.List [] lp] X.env)).all (fun x=>!x.1) && (backToKw cp1 (keywordEach [] X.env)).all (fun x=>x.1.isSome)
   && decide ([b,Expr.List [] lp].length+([]:List Keyword).length+(if ([]:List Keyword).isEmpty then 0 else 1) < 30))=true)
  (hl1:(ap1.endLine == cp1.line)=true) (hs1:starEach [b,.List [] lp] X.env=(false,eval b X.env) :: starEach [.List [] lp] X.env) (hs1':starEach [.List [] lp] X.env=(false,eval (.List [] lp) X.env) :: starEach [] X.env) (hp1:(backTo cp1 (starEach [.List [] lp] X.env)).any (·.1)=false)
  (hb2:attributeBase (.Call (.Attribute (.Name x p1) "setdefault" ap1) [b,.List [] lp] [] cp1) "append" X.env (eval (.Call (.Attribute (.Name x p1) "setdefault" ap1) [b,.List [] lp] [] cp1) X.env)=eval (.Call (.Attribute (.Name x p1) "setdefault" ap1) [b,.List [] lp] [] cp1) X.env)
  (hf2:((backTo cpos (starEach [e] X.env)).all (fun x=>!x.1) && (backToKw cpos (keywordEach [] X.env)).all (fun x=>x.1.isSome)
   && decide ([e].length+([]:List Keyword).length+(if ([]:List Keyword).isEmpty then 0 else 1) < 30))=true)
  (hl2:(apos.endLine == cpos.line)=true) (hs2:starEach [e] X.env=(false,eval e X.env) :: starEach [] X.env) (hp2:(backTo cpos (starEach [] X.env)).any (·.1)=false)
  (hsw:swapsWith (.Call (.Attribute (.Call (.Attribute (.Name x p1) "setdefault" ap1) [b,.List [] lp] [] cp1) "append" apos) [e] [] cpos) none pos.line X.env=pure false) :
  PSV G X (.Expr (.Call (.Attribute (.Call (.Attribute (.Name x p1) "setdefault" ap1) [b,.List [] lp] [] cp1) "append" apos) [e] [] cpos) pos) (gE i ck cs) :=
 PS.weak (iU (nr Xy Y9 Y8 fN
  (Cb Xr PySem.F.type_dict_setdefault (qP (by have:=hr.un;lia)) (eI hN hvis hd hcd) (fI hk (fI (oB gZ) gZ hs1') hs1) hb1 hf1 hl1 hs1 hp1) hv hb2 hf2 hl2 hs2 hp2) hsw) fun D σ H ⟨Φ,η,out,s,e,k⟩=>by
  refine L2.fR fun P_ k_=>?_
  unfold gE at e
  split at e
  ·rename_i l hl
   obtain ⟨⟨mk,tk⟩,ekk,e⟩:=Zz.mp e
   split at e
   ·rename_i hc
    obtain ⟨c1,c2⟩:=hc
    obtain ⟨lv,ev,e⟩:=Zz.mp e
    obtain ⟨t',e5,e6⟩:=Zm.mp e
    cases e6
    obtain ⟨kk,ek1⟩:=Wo.mp c1
    dsimp only at ek1
    have etk:=wN ek1
    subst etk
    obtain ⟨v,g1,g2⟩:=s.rp _ _ hl
    have nd0:=s.nd i _ hl
    obtain ⟨a,ns,vs,ts,Fs,rfl,eΦ,ha,hln,hat,el,ra⟩:=p7 g2
    subst el
    rw [eΦ] at nd0
    refine k_ ?_
    refine ⟨.ref a,g1,⟨a,_,rfl,ha⟩,?_⟩
    refine ⟨Φ,η,mk,nkT kk,s,ekk,fun kv H1 Fk sm1 rk fk=>⟨ZO _,fun q hq=>?_⟩⟩
    obtain ⟨kb,rfl,hkb⟩:=Cw rk
    dsimp only at ekk e5 ev c1
    have fin:∀ (H3:Hp) (ns3:List (br×Addr)) (vs3:List V) (ts3:Vl) (Fs3:Yf) (w:V),bK ((ns.map fun p=>nkT p.1).zip ts) (nkT kk)=(ns3.map fun p=>nkT p.1).zip ts3->Chg G H (.ref a) (Φ i) (.dct 2 (bK ((ns.map fun p=>nkT p.1).zip ts) (nkT kk))) H3 (a :: Fs3.flatten) →
      H3 a=some (DN a (kvN ns3 vs3))->ns3.length=vs3.length->(∀ p∈ns3,NAt H3 p.1 p.2)->RpL G H3 vs3 ts3 Fs3->atN (kvN ns3 vs3) kk=some w →
      tyV X.K "list" w H3/\tEs G cs σ H3 (fun vs2 H4=>kI w vs2 H4 (fun _ H5=>D.nx σ H5)):=fun H3 ns3 vs3 ts3 Fs3 w es g h3 hl3 hn3 ra3 hw=>by
     refine L2.fR fun P_ k_=>?_
     obtain ⟨z1,z2⟩:=s.mut hl g1 g
     have hset:(η.set i (some (.ow (.dct 2 (bK ((ns.map fun p=>nkT p.1).zip ts) (nkT kk))))))[i]?=some (some (.ow (.dct 2 (bK ((ns.map fun p=>nkT p.1).zip ts) (nkT kk))))):=by
      have hi:i < η.length:=(ZZ.mp hl).1
      rw [YQ hi]
     rcases lT (G:=G) (k:=kk) hl3 ra3 with ⟨_,h2⟩ | ⟨j,w',x',F1,h1,h2,h4,h5,h6,h7,h8⟩
     ·rw [h2] at hw;cases hw
     rw [h5] at hw
     obtain rfl:=ZI hw
     rw [es] at e5
     unfold pG at e5
     rw [h1,Zn,show ((ns3.map fun p=>nkT p.1).zip ts3)[j]?=some (nkT kk,x') from by rw [Ws];exact ⟨h2,h4⟩,Zn] at e5
     obtain ⟨⟨x3,y'⟩,w4,e7⟩:=Zm.mp e5
     have nd3:F1.Nodup:=((ZY.mp g.nd).2).sublist (eY h7)
     refine k_ ?_
     refine ⟨by rw [hK];exact ff h8 w4,i6 Φ i (a :: Fs3.flatten),_,lv,z1,ev,fun vs2 H4 Fs2 q1 q2 q3=>?_⟩
     refine gH (i6 Φ i (a :: Fs3.flatten)) _ H3 H4 w' x' x3 F1 lv vs2 Fs2 y' _ h8 nd3 ⟨q1,q2,q3⟩ w4 fun u H5 F' g5=>?_
     obtain ⟨s1,s2,s3,s4,s5⟩:=kN h3 ra3 g.nd h6 h7 g5
     have g6:Chg G H3 (.ref a) (i6 Φ i (a :: Fs3.flatten) i) (.dct 2 t') H5 (a :: (Fs3.set j F').flatten):=by
      rw [gv]
      refine ⟨g5.kept,s5,g5.dom,?_,s3,s4⟩
      rw [← e7,og _ ts3 j _ x3 h2]
      exact .dctN s1 hl3 (fun p hp=>(hn3 p hp).mono g5.kept.tup) s2
     obtain ⟨y1,y2⟩:=z1.mut hset g1 g6
     rw [List.set_set] at y1 y2
     exact k _ σ H5 y1 (z2.trans y2)
    have sm2:aS H1 (upd H1 q (.lst [])):=cE hq
    have sm:aS H (upd H1 q (.lst [])):=sm1.trans sm2
    have ha2:upd H1 q (.lst []) a=some (DN a (kvN ns vs)):=sm a _ ha
    have hat2:∀ p∈ns,NAt (upd H1 q (.lst [])) p.1 p.2:=fun p hp=>(hat p hp).mono fun b xs z=>sm b _ z
    have hkb2:NAt (upd H1 q (.lst [])) kk kb:=hkb.mono fun b xs z=>sm2 b _ z
    have ln:(kvN ns vs).length < sizeLine:=by
     have:((ns.map fun p=>nkT p.1).zip ts).length < 16777216:=c2
     rw [Yb,Zv] at this
     rw [Zv,Yb]
     have:=ra.len.1
     have:(sizeLine:Nat)=16777216:=rfl
     lia
    have dg:=lT (G:=G) (k:=kk) hln ra
    refine ⟨a,kb,kvN ns vs,kk,.ref q,rfl,rfl,ha2,lM hat2,hkb2,ln,fun w hw=>?_,fun hn=>?_⟩
    ·have es:bK ((ns.map fun p=>nkT p.1).zip ts) (nkT kk)=(ns.map fun p=>nkT p.1).zip ts:=by
      unfold bK
      rcases dg with ⟨h1,h2⟩ | ⟨_,_,t2,_,h1,_⟩
      ·rw [h2] at hw;cases hw
      ·rw [h1];rfl
     refine fin _ ns vs ts Fs w es ?_ ha2 hln hat2 (ra.same sm) hw
     rw [es,eΦ]
     exact Chg.none sm (by rw [eΦ] at g2;exact g2) nd0
    ·have es:bK ((ns.map fun p=>nkT p.1).zip ts) (nkT kk)=((ns++[(kk,kb)]).map fun p=>nkT p.1).zip (ts++[.lst []]):=by
      unfold bK
      rcases dg with ⟨h1,h2⟩ | ⟨_,_,t2,_,h1,_,_,h2,_⟩
      ·rw [h1,Zp (by simp),Yu,XW (by rw [Zv];exact hln.trans ra.len.1)]
       rfl
      ·rw [h2] at hn;cases hn
     have ep:kvN ns vs++[(kk,kb,.ref q)]=kvN (ns++[(kk,kb)]) (vs++[.ref q]):=by
      unfold kvN
      rw [XW hln,Yu]
      rfl
     have qa:q ≠ a:=fun z=>by
      have:H1 a=some (DN a (kvN ns vs)):=sm1 a _ ha
      rw [← z,hq] at this
      cases this
     have qH:H q=none:=sm1.free hq
     have m2:Mut (upd H1 q (.lst []) a):=by rw [ha2];exact True.intro
     have nd:=ZY.mp nd0
     have qF:q ∉ Fs.flatten:=fun z=>Mut.ne_none (ra.dom q z) qH
     rw [ep]
     have h3q:upd (upd H1 q (.lst [])) a (DN a (kvN (ns++[(kk,kb)]) (vs++[.ref q]))) q=some (.lst []):=by rw [aA qa,aI]
     have rq:Rp G (upd (upd H1 q (.lst [])) a (DN a (kvN (ns++[(kk,kb)]) (vs++[.ref q])))) (.ref q) (.lst []) (q :: ([]:Yf).flatten):=.lst h3q .nil
     have kp:Kept (upd H1 q (.lst [])) (upd (upd H1 q (.lst [])) a (DN a (kvN (ns++[(kk,kb)]) (vs++[.ref q])))):=Kept.upd (.inl m2)
     have ln2:(ns++[(kk,kb)]).length=(vs++[V.ref q]).length:=by simp [hln]
     have hat3:∀ p∈ns++[(kk,kb)],NAt (upd (upd H1 q (.lst [])) a (DN a (kvN (ns++[(kk,kb)]) (vs++[.ref q])))) p.1 p.2:=fun p hp=>by
      rcases Zd.mp hp with hp | hp
      ·exact (hat2 p hp).mono kp.tup
      ·rw [Zj.mp hp];exact hkb2.mono kp.tup
     have ra3:=((ra.same sm).off (o:=DN a (kvN (ns++[(kk,kb)]) (vs++[.ref q]))) m2 nd.1).append (.cons rq .nil)
     refine fin _ (ns++[(kk,kb)]) (vs++[.ref q]) (ts++[.lst []]) (Fs++[[q]]) (.ref q) es ?_ aI ln2 hat3 ra3 ?_
     ·rw [es,eΦ]
      refine Chg.upd sm Zw m2 (.dctN aI ln2 hat3 ra3) ?_ ?_
      ·rw [Z5]
       refine ZY.mpr ⟨fun z=>?_,ZJ.mpr ⟨nd.2,by simp,fun x hx y hy z=>?_⟩⟩
       ·rcases Zd.mp z with z | z
        ·exact nd.1 z
        ·have h:a=q:=by simpa using z
         exact qa h.symm
       ·subst z
        exact qF (by simpa [show x=q by simpa using hy] using hx)
      ·intro y hy
       rcases Zo.mp hy with rfl | hy
       ·exact .inl Zw
       ·rw [Z5] at hy
        rcases Zd.mp hy with hy | hy
        ·exact .inl (Zx _ hy)
        ·rw [show y=q by simpa using hy]
         exact .inr qH
     ·rw [← ep]
      unfold atN at hn ⊢
      rw [List.find?_append,Option.map_eq_none_iff.mp hn]
      simp
   ·cases e
  ·cases e
end
end VS
end
section
namespace L2
open PySem PySem.Spec PyProof.Rows
section
variable {X:Cx} {tg:Expr} {pos:Pos}
noncomputable def BR:TE:=fun _ H Q=>∀ p,H p=none->Q (.ref p) (upd H p (DN p []))
theorem v5:PE X (.Dict [] [] pos) BR:=fun pins s σ H Q I h =>
 wpAny_Dict_empty ⟨.ref s.heap.objs.size,_,I.laid (a:=s.heap.objs.size) (o:=DN s.heap.objs.size []) (t':=s.toks) (fun _ _ q=>Ze _ q) (Zr _)
  (vd (xs:=[]) (ZO _) (beq_eq_false_iff_ne.mpr (YE (ZL I.big))) .nil (Heap.DictOfH.new s.heap)),rfl,h _ (I.hok.fresh (Zr _))⟩
theorem nN {pins:Yp} {σ:St} {H:Hp} {s:Shared} {d:Addr} {kvs:List (br×Addr×V)} {o:Obj} (I:Inv X pins σ H s) (e:H d=some (DN d kvs)) (g:s.heap.get? d=some o):Inv X pins σ (upd H d (.frz o (DN d kvs))) s :=
 iQ (t':=s.toks) I (by rw [e];exact True.intro) ⟨rfl,fun _ _=>rfl⟩ ⟨o,g⟩ ⟨g,I.hok d _ e⟩
noncomputable def Itn (d:Addr) (o:Obj) (kvs:List (br×Addr×V)):It :=
 ⟨fun i H=>H d=some (.frz o (DN d kvs))/\i < kvs.length,fun i H x H'=>H'=H/\∃ p,kvs[i]?=some p/\x=.ref p.2.1,fun i H=>H d=some (.frz o (DN d kvs))/\kvs.length<=i⟩
theorem KN.get {l:List (br×Addr×V)} {m:List (br×Addr×Value)} (r:KN l m) {i:Nat} {q:br×Addr×Value} (h:m[i]?=some q):∃ p,l[i]?=some p/\p.1=q.1/\p.2.1=q.2.1:=by
 induction r generalizing i with
 | nil=>simp at h
 | @cons p' q' ps qs hq t ih =>
  cases i with
  | zero=>simp at h;subst h;exact ⟨p',rfl,hq.1,hq.2.1⟩
  | succ i=>simpa using ih (by simpa using h)
theorem KN.keys {l:List (br×Addr×V)} {m:List (br×Addr×Value)} (r:KN l m):l.map (·.1)=m.map (·.1):=by
 induction r with
 | nil=>rfl
 | cons hq _ ih=>rw [Zt,Zt,hq.1,ih]
theorem B0 {P:Program} {w:World} {K:Xs} (d it:Addr) {kvs:List (br×Addr×V)} {es:Array DictEntry} {ep:Nat} {xs:List (br×Addr×Value)} (rel:KN kvs xs) (he:es.toList=xs.map C3) :
  Turn P w K tg (Itn d (ST.dO es ep) kvs) [it] it (fun i h=>h.get? it=some (ST.kO d i es.size ep)) where
 mem:=by simp
 obj:=fun i h st b hb=>by
  rw [Zj.mp hb]
  exact ⟨_,st,fun v z=>by cases z⟩
 keep:=fun i h h' st k=>k it (by simp) _ st
 item:=by
  intro X hP hw hK hc i pins s σ H E I hf st hg
  subst hP hw hK
  obtain ⟨f0,f1,f2,f3,f4,f5⟩:=hf it (by simp)
  refine ST.pU (I.ok.hd hc) st (show s.heap.get? d=some (ST.dO es ep) from (I.hok d _ hg.1).1) (fun e hi h' sb g=>?_) fun hn=>?_
  ·have I1:Inv X pins σ H { s with heap:=h' }:=I.turned (t':=s.toks) (fun b o hb e=>(sb.2 b hb).trans e) f0 f1 f3 f4 f5
   rw [← Z8,he,Z1] at hi
   obtain ⟨q,hq,rfl⟩:=Zm.mp hi
   obtain ⟨p,hp,_,hb⟩:=rel.get hq
   exact ⟨_,rfl,qv (s:={ s with heap:=h' }) g rfl rfl rfl ⟨.ref p.2.1,H,I1,by rw [hb];rfl,⟨rfl,p,hp,rfl⟩,g,fun b hb=>(hf b hb).1⟩⟩
  ·exfalso
   rw [← Z8,he,YJ,Zv,← rel.length] at hn
   exact absurd hg.2 (by exact Vv hn)
 done:=by
  intro X hP hw hK hc i pins s σ H E I hf st hg
  subst hP hw hK
  obtain ⟨f0,f1,f2,f3,f4,f5⟩:=hf it (by simp)
  refine ST.pU (I.ok.hd hc) st (show s.heap.get? d=some (ST.dO es ep) from (I.hok d _ hg.1).1) (fun e hi h' sb g=>?_) fun hn h' kp=>⟨rfl,I.turned (t':=s.toks) (fun b o hb e=>kp b o hb e) f0 f1 f3 f4 f5⟩
  exfalso
  rw [← Z8,he,Z1] at hi
  obtain ⟨q,hq,rfl⟩:=Zm.mp hi
  have:=(ZZ.mp hq).1
  have h2:=hg.2
  rw [rel.length] at h2
  lia
 self:=fun _ _ _ _ _ st hQ=>wpAny_pyIter_slot ⟨_,st,rfl⟩ F.slot_dict_keyiterator_iter (XS F.slot_dict_keyiterator_iter ⟨_,st,rfl⟩ F.entry_dict_keyiterator_iter (show wpAny _ _ (ret (.ref it)) _ _ _ from Zq ⟨_,rfl, "dict_keyiterator",_,⟨_,st,rfl⟩,Xi.lookup,hQ⟩) (F.args_dict_keyiterator_iter_1 _))
noncomputable def iDn (tl:TE):TI:=fun σ H R=>tl σ H fun x H1=>∃ d kvs,x=.ref d/\H1 d=some (DN d kvs)/\∀ o,kvs.length<=sizeLine->(kvs.map (·.1)).Nodup->R (Itn d o kvs) (upd H1 d (.frz o (DN d kvs)))
theorem vK {o:Obj} {es:Array DictEntry} {ep:Nat} (h:o.ExactDict) (e:o.data=.dict es ep):o=ST.dO es ep:=by
 obtain ⟨c,d,dt,sl⟩:=o
 obtain ⟨h1,h2,h3⟩:=h
 simp only at h1 h2 h3 e
 subst h1 h2 h3 e
 rfl
theorem C6 {l:Expr} {tl:TE} (hl:PE X l tl):PI X tg l (iDn tl):=by
 intro pins s σ H R I h
 refine thn (hl pins s σ H _ I h) fun v s1 ⟨x,H1,I1,r1,q1⟩=>?_
 obtain ⟨d,kvs,ex,e,q⟩:=q1
 subst ex
 cases r1
 obtain ⟨⟨z,y,xs,rel,o,es,ep,g,ex,hd,he,hn⟩,_⟩:=(show bj X.prog X.w H1 s1.heap d (DN d kvs) from I1.hok d _ e)
 have eo:=vK ex hd
 subst eo
 refine ST.xg y g ?_
 refine ⟨s1.heap.objs.size,[s1.heap.objs.size],_,_,_,rfl,(nN I1 e g).kept (t':=s1.toks) fun b o e=>Ze _ e,B0 d _ rel he,ZV _ rfl,fun b hb=>?_,q _ z (by rw [rel.keys];exact hn)⟩
 have eb:b=s1.heap.objs.size:=by simpa using hb
 subst eb
 exact (nN I1 e g).fpOk (Zr _) ((nN I1 e g).hok.fresh (Zr _))
noncomputable def Fo:R2:=fun x y H Q=>∃ d o kvs k b v,x=.ref d/\y=.ref b/\H d=some (.frz o (DN d kvs))/\(∀ p∈kvs,NAt H p.1 p.2.1)/\NAt H k b/\atN kvs k=some v/\Q v H
theorem Fx (hu:X.A.units+2 < cLine):IxR X Fo:=by
 intro value slice pins s σ H x y v u Q I rx ry h hs
 obtain ⟨d,o,kvs,k,b,w,rfl,rfl,e,hks,hk,hw,q⟩:=h
 cases rx
 obtain rfl:=(show u=Value.ref b from ry)
 obtain ⟨g,ok⟩:=(show bj X.prog X.w H s.heap d (.frz o (DN d kvs)) from I.hok d _ e)
 obtain ⟨⟨z,y,xs,rel,o',es,ep,h1,h2,h3,h4,h5⟩,_⟩:=(show bj X.prog X.w H s.heap d (DN d kvs) from ok)
 have all:∀ {l:List (br×Addr×V)} {m:List (br×Addr×Value)},KN l m->(∀ p∈l,NAt H p.1 p.2.1)->∀ x∈m,NK.IsN (intKind X.prog X.w) s.heap x.1 x.2.1:=by
  intro l m q
  induction q with
  | nil=>intro _ x hx;exact nomatch hx
  | @cons p q ps qs hq t ih =>
   intro hl x hx
   rcases Zo.mp hx with e | hx
   ·subst e
    rw [← hq.1,← hq.2.1]
    exact (hl p Zw).is I.hok
   ·exact ih (fun p hp=>hl p (Zx _ hp)) x hx
 have dd:s.heap.DictOfH (NK.nest (intKind X.prog X.w)) d xs:=⟨o',es,ep,h1,h2,h3,h4,fun x hx=>all rel hks x hx,h5⟩
 have hT:=dd.typeIs
 have hat:=rel.at k
 rw [hw] at hat
 obtain ⟨pv,hp,rp⟩:∃ pv,atKey xs k=some pv/\RelV w pv.2:=by
  cases hz:atKey xs k with
  | none=>rw [hz] at hat;exact False.elim hat
  | some pv=>rw [hz] at hat;exact ⟨pv,rfl,hat⟩
 unfold subscriptTail
 refine Zy ?_
 rw [getitemInPython_of_ne hT.not_modules]
 refine Zy (Xl hT PySem.F.slot_dict_getitem.lookup ?_)
 have fin:wpAny (model X.prog X.w) X.A (subscripted slice false (.ref d) (.ref b)) (fun r s₃=>wpAny (model X.prog X.w) X.A (letTemporaryGo value (.ref d) r >>= fun _=>pure r) (EP X pins σ Q) X.xe s₃) X.xe s:=by
  rw [hs]
  exact wpAny_operating (wpAny_getItem_heap (knd:=NK.nest (intKind X.prog X.w)) (by show X.A.units+1+1 < cLine;omega) (hk.is I.hok) dd hp (Zy (wpAny_letTemporaryGo (Zq ⟨w,H,I.tok _,rp,q⟩))))
 first
  | exact Zq (Zy fin)
  | exact Zy (Zq (Zy fin))
  | exact Zy fin
theorem B8 {kvs:List (br×Addr×V)}:∀ {i:Nat} {p:br×Addr×V},(kvs.map (·.1)).Nodup->kvs[i]?=some p->atN kvs p.1=some p.2.2:=by
 induction kvs with
 | nil=>intro i p _ h;simp at h
 | cons x l ih =>
  intro i p hn h
  rw [Zt,ZY] at hn
  cases i with
  | zero=>simp at h;subst h;simp [atN]
  | succ i =>
   have h':l[i]?=some p:=by simpa using h
   have ne:x.1 ≠ p.1:=fun e=>hn.1 (by rw [e];exact Yz.mpr ⟨p,YH h',rfl⟩)
   have:=ih hn.2 h'
   unfold atN at this ⊢
   rw [Yt,decide_eq_false ne]
   exact this
end
end L2
namespace VS
open PySem PySem.Spec PyProof.Rows L2
section
variable {G:Gx} {X:Cx} {pos p p1 p2 p3 p4 spos:Pos} {kr i:Nat} {sc:Scope}
theorem yM:PV G X (.Dict [] [] pos) (ly 2 []):=PE.weak v5 fun σ H Q ⟨Φ,η,m,t,s,e,k⟩=>by
 cases (show some (Md.fr,T.dct 2 [])=some (m,t) from e)
 intro q hq
 have:Rp G (upd H q (DN q [])) (.ref q) (.dct 2 ((([]:List (br×Addr)).map fun p=>nkT p.1).zip [])) (q :: ([]:Yf).flatten):=.dctN (vs:=[]) aI rfl (fun p hp=>by simp at hp) .nil
 exact k _ _ [q] (cE hq) this ⟨by simp,fun b hb=>by rw [Zj.mp hb];exact hq⟩
noncomputable def jz (i:Nat) (η:VS.Env):Option Out:=match η[i]? with
 | some (some (.ow (.dct 2 l)))=>some (.rt (.fr,.lst (l.map (·.2))) (η.set i none))
 | _=>none
theorem uO (i:Nat) (N:List Str) {x y:Str} (hr:Room kr X.A) (hcalm:X.calm=true) (hN:X.N[i]?=some x) (hv:Vis X.env.scope x) (hd:(x == ("__debug__" : Str))=false) (hcd:(x == ("__classdict__" : Str))=false)
  (hin:∀ cl C s H fp,PG (aW X N sc cl C s H fp) (.Name y p3) (sT 0)/\PE (aW X N sc cl C s H fp) (.Name x p1) (uv (i+1))/\PE (aW X N sc cl C s H fp) (.Name y p2) (uv 0)/\(aW X N sc cl C s H fp).A.units=X.A.units)
  (hix:fF (.Name y p2)) (hsc:jB X.env sc=true) (hnm:iO sc (N.drop 1) X.N=true) (hNl:1<=N.length) (hs:∀ z,foldedSetIterable (.Name x p4) X.env z=pure z) :
  PSV G X (.Return (some (.ListComp (.Subscript (.Name x p1) (.Name y p2) p) [⟨.Name y p3,.Name x p4,[],0⟩] sc pos)) spos) (jz i) :=
 PS.weak (qM (oE (k:=1) hcalm (C6 (eI hN hv hd hcd)) hsc hnm hNl (fun cl C s H fp=>⟨(hin cl C s H fp).1,lF,rL (Fx (by have:=hr.un;rw [(hin cl C s H fp).2.2.2];lia)) (hin cl C s H fp).2.1 (hin cl C s H fp).2.2.1 hix⟩) hs)) fun D σ H ⟨Φ,η,out,s,e,k⟩=>by
  refine L2.fR fun P_ k_=>?_
  unfold jz at e
  split at e
  ·rename_i l hl
   cases e
   obtain ⟨v,g1,g2⟩:=s.rp _ _ hl
   have nd0:=s.nd i _ hl
   obtain ⟨a,ns,vs,ts,Fs,rfl,eΦ,ha,hln,hat,el,ra⟩:=p7 g2
   subst el
   rw [eΦ] at nd0
   have nd:=ZY.mp nd0
   refine k_ ?_
   refine ⟨.ref a,g1,a,kvN ns vs,rfl,ha,fun o hz hnd Dn hD=>?_⟩
   have mu:Mut (H a):=by rw [ha];exact True.intro
   have aD:Dn ≠ a:=fun z=>by rw [z,aI] at hD;cases hD
   have HD:H Dn=none:=by rw [aA aD] at hD;exact hD
   have kp:∀ ys,Kept H (upd (upd H a (.frz o (DN a (kvN ns vs)))) Dn (.lst ys)):=fun ys=>(Kept.upd (.inl mu)).trans (Kept.upd (.inr hD))
   refine ⟨fun j m σ' H'=>m+j=(kvN ns vs).length/\(∃ c,σ'=c :: σ)/\H'=upd (upd H a (.frz o (DN a (kvN ns vs)))) Dn (.lst (((kvN ns vs).take j).map (·.2.2))),⟨(kvN ns vs).length,rfl,⟨none,rfl⟩,rfl⟩,?_⟩
   rintro j m σ' H' ⟨hm,⟨c,rfl⟩,rfl⟩
   have hfz:∀ ys,upd (upd H a (.frz o (DN a (kvN ns vs)))) Dn (.lst ys) a=some (.frz o (DN a (kvN ns vs))):=fun ys=>by rw [aA (YE aD),aI]
   by_cases hj:j < (kvN ns vs).length
   ·refine .inr ⟨⟨hfz _,hj⟩,?_⟩
    rintro x' H2 ⟨rfl,q,hq,rfl⟩
    refine ⟨.ref a,?_,.ref q.2.1,?_,a,o,kvN ns vs,q.1,q.2.1,q.2.2,rfl,rfl,hfz _,fun r hr=>(lM hat r hr).mono (kp _).tup,(lM hat q (YH hq)).mono (kp _).tup,B8 hnd hq,?_⟩
    ·show (σ:L2.St)[i]?=_
     exact g1
    ·rfl
    ·refine ⟨_,aI,?_,m - 1,by omega,by lia,⟨_,rfl⟩,?_⟩
     ·rw [Zv,ZR];lia
     ·rw [zT,List.take_add_one,hq,Yu]
      rfl
   ·have ej:(kvN ns vs).take j=kvN ns vs:=ZK (by exact Xw hj)
    refine .inl ⟨⟨hfz _,by exact Xw hj⟩,?_⟩
    rw [ej]
    have ev:(kvN ns vs).map (·.2.2)=vs:=by
     unfold kvN
     rw [Ya]
     exact Vs (We hln.symm)
    have et:((ns.map fun p=>nkT p.1).zip ts).map (·.2)=ts:=Vs (by rw [Zv,hln,ra.len.1];exact Zr _)
    rw [ev]
    have nF:∀ b∈Fs.flatten,b ≠ a/\b ≠ Dn:=fun b hb=>⟨fun z=>nd.1 (z ▸ hb),fun z=>Mut.ne_none (ra.dom b hb) (z ▸ HD)⟩
    have Da:∀ b,H b ≠ none->b ≠ Dn:=fun b h z=>h (z ▸ HD)
    have ai:b5 Φ η a:=⟨i,_,hl,by rw [eΦ];exact Zw⟩
    have sub:∀ b,b5 Φ (η.set i none) b->b5 Φ η b/\b ≠ a:=fun b ⟨j,t,h1,h2⟩=>⟨⟨j,t,(b9 h1).2,h2⟩,fun z=>by
     subst z
     exact s.sep i j _ _ hl (b9 h1).2 (b9 h1).1.symm b (by rw [eΦ];exact Zw) h2⟩
    have subp:∀ b,dF Φ (η.set i none) b->dF Φ η b/\b ≠ a:=fun b ⟨j,t,h1,h2⟩=>⟨⟨j,t,(b9 h1).2,h2⟩,fun z=>by
     subst z
     exact s.sep i j _ _ hl (b9 h1).2 (b9 h1).1.symm b (by rw [eΦ];exact Zw) h2⟩
    have dmo:∀ b,b5 Φ η b->H b ≠ none:=fun b ⟨j,t,h1,h2⟩=>by
     obtain ⟨v',_,r'⟩:=s.rp _ _ h1
     exact Mut.ne_none (r'.dom b h2)
    have dmp:∀ b,dF Φ η b->H b ≠ none:=fun b ⟨j,t,h1,h2⟩=>by
     obtain ⟨v',_,r'⟩:=s.rp _ _ h1
     exact Mut.ne_none (r'.dom b h2)
    rw [et] at k
    refine k (.ref Dn) _ (Dn :: Fs.flatten) Φ σ (SR.off (SR.off (s.drop i) (.inl mu) (fun z=>(subp a z).2 rfl) fun z=>(sub a z).2 rfl) (.inr hD) (fun z=>dmp _ (subp _ z).1 HD) fun z=>dmo _ (sub _ z).1 HD) ⟨fun b ob h n=>⟨?_,fun z=>n (sub b z).1⟩,fun b h=>?_,fun b z=>.inl (sub b z).1,fun b z=>.inl (subp b z).1,kp _⟩ (.lst aI (ra.keep (kp _) fun b hb ob h=>?_)) ⟨ZY.mpr ⟨fun z=>(nF Dn z).2 rfl,nd.2⟩,fun b hb=>?_⟩
    ·have h1:b ≠ a:=fun z=>n (z ▸ ai)
     have h2:b ≠ Dn:=Da b (by rw [h];simp)
     rw [aA h2,aA h1]
     exact h
    ·rw [aA (Da b h)]
     by_cases z:b=a
     ·rw [z,aI];simp
     ·rw [aA z];exact h
    ·rw [aA (nF b hb).2,aA (nF b hb).1]
     exact h
    ·rcases Zo.mp hb with rfl | hb
     ·exact .inl HD
     ·exact .inr ⟨i,_,hl,by rw [eΦ];exact Zx _ hb⟩
  ·cases e
end
section
variable {G:Gx} {X:Cx} {pos:Pos}
theorem zP {x:Str} {t:Tx} {j:Nat} {q q':Pos} (h:x=sx t) (hl:i4 t):PV G X (.Dict [some (.Constant (.str x) j q)] [.List [] q'] pos) (ly 0 [(eC (.str t),eO av)]) :=
 PE.weak (zM (uT vm (oB gZ) zd) rfl rfl (by simp) (by show 1<=15;decide)) fun σ H Q ⟨Φ,η,m,r,s,e,k⟩=>by
  subst h
  cases (show some (Md.fr,T.dct 0 [(.str t,.lst [])])=some (m,r) from e)
  intro p hp
  refine ⟨ZO _,fun b hb=>?_⟩
  have bp:b ≠ p:=fun z=>by rw [z,aI] at hb;cases hb
  have Hb:H b=none:=by rw [aA bp] at hb;exact hb
  refine ⟨by rw [aA (YE bp),aI],[(Sum.inr (sx t),.ref b)],rfl,(by show 1<=15;decide),?_⟩
  have hk:aO (Sum.inr (sx t))=.str t:=rfl
  have sm:aS H (upd (upd (upd H p (.dK [])) b (.lst [])) p (.dK (kc [] [(Sum.inr (sx t),.ref b)]))):=fun c o hc=>by
   rw [aA (bJ hc hp),aA (bJ hc Hb),aA (bJ hc hp)]
   exact hc
  have:Rp G (upd (upd (upd H p (.dK [])) b (.lst [])) p (.dK [(Sum.inr (sx t),.ref b)])) (.ref p) (.dct 0 ((([Sum.inr (sx t)]:List Key).map aO).zip [.lst []])) (p :: ([[b]]:Yf).flatten) :=
   .dct (ks:=[Sum.inr (sx t)]) (vs:=[V.ref b]) aI rfl (.cons (F:=b :: ([]:Yf).flatten) (.lst (by rw [aA bp,aI]) .nil) .nil)
  simp only [Zt,YX,hk,ZF,List.zip_nil_right] at this
  exact k _ _ _ sm this ⟨by simp [YE bp],fun c hc=>by
   rcases Zo.mp hc with rfl | hc
   ·exact hp
   ·simp at hc;rw [hc];exact Hb⟩
end
end VS
end
section
open PySem PyProof.Rows
namespace TS
variable {prog:Program} {w:World} {A:Around} {E:Yy} {s:Shared} {G:Keyed->Prop} {r:Keyed->Keyed->Bool}
noncomputable def iJ (h:Heap) (a:Addr) (vs:Xb):Addr:=((h.update a (Obj.mapSeq fun _=>#[])).push (seqObj "tuple" vs.toArray 0)).objs.size
theorem o9 (h:Heap) (a:Addr) (vs:Xb):iJ h a vs=h.objs.size+1:=by unfold iJ;rw [Wn,XO]
structure KeyPre (prog:Program) (w:World) (A:Around) (E:Yy) (P:PySem.Fin->Shared->Prop) (f:Value) (a K:Addr) (oa:Option Obj) (vs:Xb) (J:Xb->Shared->Prop):Prop where
 keys:∀ ks s',J ks s'->∃ e,s'.heap.get? K=some (seqObj "list" ks.toArray e)
 self:∀ ks s',J ks s'->s'.heap.get? a=oa
 step:∀ ks x s',vs[ks.length]?=some x->J ks s'->wpAny (model prog w) A (call f [x]) (fun k s2=>(∃ e,s2.heap.get? K=some (seqObj "list" ks.toArray e))/\J (ks++[k]) { s2 with heap:=s2.heap.update K (Obj.mapSeq fun xs=>xs.push k) }) (fun _ _=>False) s'
 fin:∀ ks s',J ks s'->ks.length=vs.length->∃ kd G r,Cmp prog w A E s' kd G r/\(∀ p∈ks.zip vs,G p)/\(2<=vs.length->∀ Q:SortKind->Shared->Prop,Q kd s'->wpAny (model prog w) A (keyKind' ks.toArray) Q E s') ∧
  ∀ out:List Keyed,out.Perm (ks.zip vs)->out.Pairwise (le r)->P (.done (.ret .none)) { s' with heap:=(s'.heap.update K (Obj.mapSeq fun _=>#[])).update a (Obj.mapSeq fun _=>(out.map (·.2)).toArray) }
theorem uc {a:Addr} {f:Value} {vs:Xb} {n:Nat} {P:PySem.Fin->Shared->Prop} {J:Xb->Shared->Prop} (hf:(f != Value.none)=true) (ho:s.heap.get? a=some (seqObj "list" vs.toArray n)) (hlen:vs.length<=sizeLine)
  (j0:J [] { s with heap:=gR s.heap a vs }) (p:KeyPre prog w A E P f a (iJ s.heap a vs) ((gR s.heap a vs).get? a) vs J) :
  wpAny (model prog w) A (Builtin.«list.sort» ⟨[.ref a],[(("key" : Str),f)]⟩) P E s:=by
 obtain ⟨ep,at1⟩:∃ k,(s.heap.update a (Obj.mapSeq fun _=>#[])).get? a=some (seqObj "list" #[] k):=⟨_,get?_update_seq ho _⟩
 have at2:=xt (vs:=vs) (ZU ho) at1
 have ne:a ≠ iJ s.heap a vs:=by rw [o9];exact ZL (W2 (ZU ho))
 unfold Builtin.«list.sort»
 refine (show wpAny (model prog w) A (Builtin.List.listItems (.ref a) >>= _) P E s from ?_)
 refine Zy (listItems_at ho rfl (Zy (Wj ho rfl (Zy (seqEpoch_at at1 rfl (Zy (wpAny_newTuple (Zy (wpAny_newList (YF ?_))))))))))
 refine (show wpAny (model prog w) A (if (f != Value.none)=true then _ else _) P E { s with heap:=gR s.heap a vs } from ?_)
 rw [Zs hf]
 refine Zy (XG (Zy ?_))
 rw [← Wt]
 refine XT _ (fun rest _ s'=>∃ ks,J ks s'/\rest=vs.drop ks.length/\ks.length<=vs.length) _ ?turn ?fin _ _ ⟨[],j0,by simp,by simp⟩
 case turn =>
  rintro x rest r s' ⟨ks,jk,e,hl⟩
  have hlt:ks.length < vs.length:=by
   have:=congrArg List.length e
   rw [Zg,ZQ] at this
   omega
  have e2:x :: rest=vs[ks.length] :: vs.drop (ks.length+1):=by rw [e];exact Y4 hlt
  injection e2 with ex er
  have hx:vs[ks.length]?=some x:=by rw [Za hlt,ex]
  refine Zy (wpAny_attempt (YT (p.step ks x s' hx jk) (fun k s2 ⟨⟨e2,he⟩,j2⟩=>?_) fun _ _ z=>z.elim))
  have sz:ks.toArray.size<=sizeLine:=by rw [Zc];exact ZW hl hlen
  exact (show wpAny (model prog w) A (Builtin.List.listUpdate (.ref (iJ s.heap a vs)) (fun xs=>xs.push k) >>= _) _ _ _ from Zy (Wj he rfl (Zq ⟨ks++[k],j2,by rw [er];simp,by simp;exact WA hlt⟩) (hsz:=sz) (hsz2:=by rw [Array.size_push];exact YB sz)))
 case fin =>
  rintro r s' ⟨ks,jk,e,hl⟩
  have hln:ks.length=vs.length:=by
   have:=congrArg List.length e
   rw [YW,ZQ] at this
   lia
  obtain ⟨eK,hK⟩:=p.keys ks s' jk
  have hS:=p.self ks s' jk
  rw [at2] at hS
  obtain ⟨kd,G,r,hC,hG,hkk,hP⟩:=p.fin ks s' jk hln
  have fin:∀ st':SortSt,(arrOf st').Perm (ks.zip vs).toArray->failedOf st'=none->(arrOf st').toList.Pairwise (le r)->P (.done (.ret .none)) { s' with heap:=(s'.heap.update (iJ s.heap a vs) (Obj.mapSeq fun _=>#[])).update a (Obj.mapSeq fun _=>(arrOf st').map (·.2)) }:=fun st' p1 _ p3=>by
   have:=hP (arrOf st').toList (by simpa using Xh.mp p1) p3
   rwa [← Array.toList_map,Array.toArray_toList] at this
  have hS2:(s'.heap.update (iJ s.heap a vs) (Obj.mapSeq fun _=>#[])).get? a=some (seqObj "list" #[] ep):=by rw [X2 _ _ (YE ne)];exact hS
  refine (show wpAny (model prog w) A (if (f != Value.none)=true then _ else _) P E s' from ?_)
  rw [Zs hf]
  refine (show wpAny (model prog w) A (Builtin.List.listItems (.ref (iJ s.heap a vs)) >>= _) P E s' from Zy (listItems_at hK rfl ?_))
  have room:∀ st':SortSt,(arrOf st').Perm (ks.zip vs).toArray->((arrOf st').map (·.2)).size<=sizeLine+1:=fun st' p1=>by
   rw [Array.size_map,p1.size_eq,Zc,Yb]
   lia
  have szK:ks.toArray.size<=sizeLine:=by rw [Zc];exact ZW hl hlen
  have ez:ks.toArray.zip vs.toArray=(ks.zip vs).toArray:=by simp
  by_cases two:2<=vs.length
  ·have no:¬ (vs.toArray.size < 2):=by rw [Zc];exact Vv two
   refine (show wpAny (model prog w) A (if vs.toArray.size < 2 then _ else _) P E s' from ?_)
   rw [Zp no]
   refine Zy (hkk two _ ?_)
   refine (show wpAny (model prog w) A (StateT.run (if vs.toArray.size < 2 then pure () else sortRuns') (SortSt.mk' kd (ks.toArray.zip vs.toArray) #[] 7 none) >>= _) P E s' from ?_)
   rw [Zp no]
   refine Zy (YT (yn hC (a₀:=(ks.zip vs).toArray) (st:=SortSt.mk' kd (ks.toArray.zip vs.toArray) #[] 7 none)
    (Q:=fun _ st'=>(arrOf st').Perm (ks.zip vs).toArray/\failedOf st'=none/\(arrOf st').toList.Pairwise (le r)) rfl (fun x hx=>hG x (by simpa using hx)) ez rfl rfl fun st' a1 a2 a3=>⟨a1,a2,a3⟩) ?_ fun _ _ e=>e)
   rintro ⟨⟨⟩,st'⟩ s2 ⟨rfl,p1,p2,p3⟩
   refine (show wpAny (model prog w) A (if (f != Value.none)=true then _ else _) P E s2 from ?_)
   rw [Zs hf]
   refine (show wpAny (model prog w) A (Builtin.List.listUpdate (.ref (iJ s.heap a vs)) (fun _=>#[]) >>= _) P E s2 from Zy (Wj hK rfl (Zy (wpAny_letGo (Zy (seqEpoch_at hS2 rfl (Zy (Wj hS2 rfl ?_ (hsz2:=room st' p1))))))) (hsz:=szK)))
   have q2:=p2
   unfold failedOf at q2
   rw [q2]
   simp only [bne_self_eq_false,Z4,↓reduceIte]
   exact Zq (fin st' p1 p2 p3)
  ·have yes:vs.toArray.size < 2:=by rw [Zc];exact Wi two
   have p1:(arrOf (SortSt.mk' general' (ks.toArray.zip vs.toArray) #[] 7 none)).Perm (ks.zip vs).toArray:=by
    show (ks.toArray.zip vs.toArray).Perm _
    rw [ez]
   have p3:(arrOf (SortSt.mk' general' (ks.toArray.zip vs.toArray) #[] 7 none)).toList.Pairwise (le r):=by
    show (ks.toArray.zip vs.toArray).toList.Pairwise (le r)
    rw [ez]
    match vs,ks,two with
    | [],_,_=>simp
    | [_],[],_=>simp
    | [_],_ :: _,_=>simp
    | _ :: _ :: _,_,q=>simp at q
   refine (show wpAny (model prog w) A (if vs.toArray.size < 2 then _ else _) P E s' from ?_)
   rw [Zs yes]
   refine Zy (Zq ?_)
   refine (show wpAny (model prog w) A (StateT.run (if vs.toArray.size < 2 then pure () else sortRuns') (SortSt.mk' general' (ks.toArray.zip vs.toArray) #[] 7 none) >>= _) P E s' from ?_)
   rw [Zs yes,StateT.run_pure]
   refine Zy (Zq ?_)
   refine (show wpAny (model prog w) A (if (f != Value.none)=true then _ else _) P E s' from ?_)
   rw [Zs hf]
   refine (show wpAny (model prog w) A (Builtin.List.listUpdate (.ref (iJ s.heap a vs)) (fun _=>#[]) >>= _) P E s' from Zy (Wj hK rfl (Zy (wpAny_letGo (Zy (seqEpoch_at hS2 rfl (Zy (Wj hS2 rfl ?_ (hsz2:=room _ p1))))))) (hsz:=szK)))
   have b0:(ep != ep)=false:=bne_self_eq_false _
   refine (show wpAny (model prog w) A (if (ep != ep)=true then _ else ret Value.none) P E _ from ?_)
   rw [Zp (by rw [b0];simp)]
   exact Zq (fin _ p1 rfl p3)
end TS
end
section
open PySem PyProof.Rows
namespace TS
variable {prog:Program} {w:World} {A:Around} {E:Yy} {s:Shared}
theorem nU (a f:Value):argsOk "sorted" ⟨[a],[(("key" : Str),f)]⟩:=by unfold argsOk;kernel_rfl
theorem rh (a f:Value):argsOk "list.sort" ⟨[a],[(("key" : Str),f)]⟩:=by unfold argsOk;kernel_rfl
noncomputable def h9 (h:Heap) (vs:Xb):Heap:=gR (h.push (seqObj "list" vs.toArray 0)) h.objs.size vs
theorem pf {h:Heap} {vs:Xb} {b:Addr} {o:Obj} (e:h.get? b=some o):(h9 h vs).get? b=some o:=by
 have hb:=ZU e
 unfold h9 gR
 rw [X3 _ _ _ (by rw [Wn,XO,Wn];exact nl hb 2),X3 _ _ _ (by rw [XO,Wn];exact nl hb 1),Xt _ _ _ _ (ZL hb),X3 _ _ _ (ZL hb)]
 exact e
theorem nI (h:Heap) (vs:Xb):∃ e,(h9 h vs).get? h.objs.size=some (seqObj "list" #[] e):=by
 have hoL:(h.push (seqObj "list" vs.toArray 0)).get? h.objs.size=some (seqObj "list" vs.toArray 0):=ZV _ rfl
 obtain ⟨k,at1⟩:∃ k,((h.push (seqObj "list" vs.toArray 0)).update h.objs.size (Obj.mapSeq fun _=>#[])).get? h.objs.size=some (seqObj "list" #[] k):=⟨_,get?_update_seq hoL _⟩
 exact ⟨k,xt (vs:=vs) (ZU hoL) at1⟩
theorem oA (h:Heap) (vs:Xb):(h9 h vs).get? (h.objs.size+2)=some (seqObj "list" #[] 0):=by
 unfold h9 gR
 have e:(((h.push (seqObj "list" vs.toArray 0)).update h.objs.size (Obj.mapSeq fun _=>#[])).push (seqObj "tuple" vs.toArray 0)).objs.size=h.objs.size+2:=by rw [Wn,XO,Wn]
 rw [← e]
 exact ZV _ rfl
theorem pR {x f:Value} {Q:Yy} (hf:(f != Value.none)=true)
  (hcol:∀ (A':Around) (E':Yy),A'.handled=A.handled->wpAny (model prog w) A' (collect x) (fun vs s1=>vs.length<=sizeLine/\∃ J,J [] { s1 with heap:=h9 s1.heap vs } ∧
   KeyPre prog w A.in1.in1 E (fun fin s'=>fin=.done (.ret .none)/\Q (.ref s1.heap.objs.size) s') f s1.heap.objs.size (s1.heap.objs.size+2) ((h9 s1.heap vs).get? s1.heap.objs.size) vs J) E' s) :
  wpAny (model prog w) A (call (.builtin "sorted") [x] [(("key" : Str),f)]) Q E s:=by
 refine call_function_entry_kw kind_sorted plain_sorted entry_sorted (nU _ _) (show wpAny _ _ (Builtin.«sorted» _) _ _ _ from ?_)
 unfold Builtin.«sorted»
 refine Zy (m:=checkCount "sorted" 1 1 _) (Zq (Zy (YT (hcol A.in1 (fun _ _=>False) rfl) ?_ fun _ _ e=>e.elim)))
 rintro vs s1 ⟨hlen,J,j0,kp⟩
 refine Zy (wpAny_newList ?_ (by exact hlen))
 have hoL:(s1.heap.push (seqObj "list" vs.toArray 0)).get? s1.heap.objs.size=some (seqObj "list" vs.toArray 0):=ZV _ rfl
 have eK:iJ (s1.heap.push (seqObj "list" vs.toArray 0)) s1.heap.objs.size vs=s1.heap.objs.size+2:=by rw [o9,Wn]
 refine (show wpAny _ _ _ _ _ { s1 with heap:=s1.heap.push (seqObj "list" vs.toArray 0) } from ?_)
 have main:=uc (J:=J) (s:={ s1 with heap:=s1.heap.push (seqObj "list" vs.toArray 0) }) hf hoL hlen j0 (P:=fun fin s'=>fin=.done (.ret .none)/\Q (.ref s1.heap.objs.size) s') (by rw [eK];exact kp)
 exact Zy (YF (wpAny_call_entry_kw slot_list_sort ⟨_,hoL,rfl⟩ entry_list_sort (YT main (fun fin s' h=>⟨_,h.1,Zq ⟨_,rfl,h.2⟩⟩) fun _ _ e=>e) (rh _ _)))
end TS
end
section
namespace L2
open PySem PySem.Spec PyProof.Rows TS
section
variable {X:Cx} {pins:Yp} {σ:St} {H:Hp} {s:Shared} {h':Heap}
theorem Inv.adopt {a:Addr} {o:HO} {t':Nat} (I:Inv X pins σ H s) (f:jf X pins H a) (k:∀ b u,b ≠ a->s.heap.get? b=some u->h'.get? b=some u) (he:∃ u,h'.get? a=some u) (new:bj X.prog X.w (upd H a o) h' a o) :
  Inv X pins σ (upd H a o) { s with heap:=h',toks:=t' }:=by
 obtain ⟨f0,f1,f2,f3,f4,f5⟩:=f
 have ne:∀ b u,H b=some u->b ≠ a:=fun b u e z=>by rw [z,f0] at e;cases e
 refine I.step (g':=s.gens) (d':=s.drawn) (ch:=[a]) (fun b hb=>?_) (fun b o _ _ hc e _=>k b o (fun z=>hc (by simp [z])) e) (fun b o _ _ hc e _=>⟨o.slots,k b o (fun z=>hc (by simp [z])) e⟩) (fun b _ hc _ n=>?_)
  (fun b o hc e=>⟨o,k b o (fun z=>hc (by simp [z])) e⟩) (fun b xs e=>?_) (fun b o u e=>?_) (fun b ps e=>⟨#[],?_⟩) (fun m hm=>?_) (fun b u e=>?_) I.bare
 ·rw [Zj.mp hb]
  exact ⟨f3,f1,f4,f5⟩
 ·rw [aA (fun z=>hc (by simp [z]))];exact n
 ·rw [aA (ne b _ e)];exact e
 ·rw [aA (ne b _ e)];exact e
 ·rw [aA (ne b _ e),e];simp
 ·obtain ⟨o,es,ep,ho,r⟩:=hm
  exact ⟨o,es,ep,k _ o (YE f1) ho,r⟩
 ·by_cases hb:b=a
  ·subst hb
   rw [aI] at e
   cases e
   exact new
  ·rw [aA hb] at e
   refine (I.hok b u e).stay (fun c v hc q=>k c v ?_ q) (fun c q=>by rw [aA (ne c _ q)];exact q) fun c xs q=>by rw [aA (ne c _ q)];exact q
   rcases hc with z | z
   ·rw [z];exact hb
   ·exact ne c _ z
theorem Bi {k:Nat} {f:Addr} {fd:FuncData} {ps:List Str} {sp:Sp} {A':Around} {E:XK} {Q:VK} {us:Xb} {vs:List V} (F:FnOk X.prog X.w X.K X.mg X.base CX0 k f fd ps sp) (hr:Room k A') (hfr:A'.frames=X.A.frames) (hb:Binds X.K fd ps [])
  (I:Inv X pins σ H s) (r:aQ vs us) (h:sp vs H Q E):wpAny (model X.prog X.w) A' (call (.ref f) us) (fun u s'=>∃ v H',Inv X pins σ H' s'/\RelV v u/\Q v H'/\∀ b o,jf X pins H b->s.heap.get? b=some o->s'.heap.get? b=some o/\jf X pins H' b) (fun _ _=>False) s:=by
 have hl:us.length=ps.length:=by rw [← r.length];exact F.len _ _ _ _ h
 have e0:Env0 X.prog X.w X.K X.mg X.base A' X.stack s H:=⟨hfr.trans I.env0.frames,I.env0.mod,I.env0.bs,I.env0.bsz,I.env0.funs,I.env0.frf,I.env0.hok,I.env0.bare⟩
 have hb':=hb s us I.kIn (by rw [ZG];exact hl)
 rw [ZG] at hb'
 refine wpAny_call (codeAny_mono (F.run A' X.stack s H ⟨us,[]⟩ us vs Q E hr e0 hb' r h) fun r s' hq=>?_)
 cases r with
 | error e=>exact hq.elim
 | ok fl =>
  cases fl with
  | ret u =>
   obtain ⟨v,H',os,bare,un,hok,r,q⟩:=hq
   obtain ⟨v2,H2,I2,r2,rfl,rfl,q2⟩:=I.after (Q:=fun v1 H1=>v1=v/\H1=H'/\Q v1 H1) ⟨v,H',os,bare,un,hok,r,rfl,rfl,q⟩
   refine ⟨v2,H2,I2,r2,q2,fun b o fb e=>?_⟩
   have nf:b ∉ frs X.stack:=fun z=>(Zo.mp (I.stkSub b z)).elim fb.2.1 fb.2.2.1
   exact ⟨un.keep b o e fb.1 nf (by simp),un.free b o e fb.1 (by simp),fb.2⟩
  | next=>exact False.elim hq
  | brk=>exact False.elim hq
  | cont=>exact False.elim hq
noncomputable def kL (x:Str):List Key:=[.inl (x.cps.toList.length:Int),.inr x]
noncomputable def txV:Value->Str
 | .str x _=>x
 | _=>⟨#[]⟩
noncomputable def JK (X:Cx) (pins:Yp) (σ:St) (H:Hp) (ss:List Str) (n0 e0:Nat) (ks:Xb) (s':Shared):Prop:=∃ H1,Inv X pins σ H1 s'/\aS H H1/\jf X pins H1 n0/\jf X pins H1 (n0+2)/\(∃ e,s'.heap.get? (n0+2)=some (seqObj "list" ks.toArray e))/\s'.heap.get? n0=some (seqObj "list" #[] e0) ∧
  ∀ (i:Nat) (u:Value),ks[i]?=some u->∃ (b:Addr) (x:Str),u=Value.ref b/\ss[i]?=some x/\H1 b=some (.tup ((kL x).map kV))
theorem kF {k:Nat} {f p:Addr} {fd:FuncData} {ps:List Str} {sp:Sp} {E:XK} {Q:VK} {ss:List Str} {ws:List V} (hc:X.calm=true) (F:FnOk X.prog X.w X.K X.mg X.base CX0 k f fd ps sp) (hr:Room (k+2) X.A) (hb:Binds X.K fd ps [])
  (I:Inv X pins σ H s) (hl:ss.length=ws.length) (hq:H p=some (.dK ((ss.map Sum.inr).zip ws)))
  (hsp:∀ x∈ss,∀ H1,aS H H1->∀ Q1:VK,(∀ b H2,aS H1 H2->H2 b=some (.tup ((kL x).map kV))->Q1 (.ref b) H2)->sp [.str x] H1 Q1 E)
  (q:∀ (l:Addr) (H1:Hp) (ys:List Str),aS H H1->H1 l=none->ys.Perm ss->ys.Pairwise (fun a b=>fj (kL b) (kL a)=false)->Q (.ref l) (upd H1 l (.lst (ys.map V.str)))) :
  wpAny (model X.prog X.w) X.A (call (.builtin "sorted") [.ref p] [(("key" : Str),.ref f)]) (EP X pins σ Q) X.xe s:=by
 obtain ⟨hz,hS,kvs,rel,dd⟩:=sC I.hok hq
 obtain ⟨ep,dd⟩:=dd.dictAt
 rw [Yb,Zv] at hz
 have hkl:kvs.length=ss.length:=by
  have:=rel.length
  rw [Yb,Zv] at this
  lia
 have hky:∀ i:Nat,(kvs[i]?).map (fun x=>x.1)=(ss[i]?).map (Sum.inr:Str->Key):=fun i=>by
  have h1:((kvs.map (·.1)))[i]?=(ss.map (Sum.inr:Str->Key))[i]?:=by
   rw [← rel.keys,List.map_fst_zip (by rw [Zv];exact We hl)]
  rw [Z1,Z1] at h1
  exact h1
 refine pR rfl fun A' E' hA=>PySem.W.kdu_collect (PySem.W.kdl_dict hS) (hA.trans (I.ok.hd hc)) dd (by lia) fun h1 tk acc kp hacc=>?_
 have I1:Inv X pins σ H { s with heap:=h1,toks:=tk }:=I.kept kp
 have hal:acc.toList.length=ss.length:=by rw [YZ,hacc.1,hkl]
 have each:∀ i v,acc.toList[i]?=some v->∃ x t,v=Value.str x t/\ss[i]?=some x:=fun i v hv=>by
  rw [Z8] at hv
  obtain ⟨k,x,e1,e2⟩:=hacc.2 i v hv
  have e3:=hky i
  rw [e1] at e3
  cases e4:ss[i]? with
  | none=>rw [e4] at e3;cases e3
  | some y =>
   rw [e4] at e3
   have e5:k=Sum.inr y:=ZI e3
   subst e5
   obtain ⟨t,rfl⟩:=Value.isStrOf_shape (show Value.isStrOf y v=true from e2)
   exact ⟨y,t,rfl,e4⟩
 have hvs:acc.toList.map txV=ss:=by
  apply W7
  intro i
  rw [Z1]
  cases e:acc.toList[i]? with
  | some v =>
   obtain ⟨x,t,rfl,e2⟩:=each i v e
   rw [e2];rfl
  | none =>
   rw [YJ] at e
   rw [Xo (by lia)];rfl
 generalize hvv:acc.toList=vs at *
 obtain ⟨e0,hL0⟩:=nI h1 vs
 have LK:h1.objs.size ≠ h1.objs.size+2:=by lia
 refine ⟨by lia,JK X pins σ H ss h1.objs.size e0,?_,?_⟩
 ·exact ⟨H,I1.kept (t':=tk) fun b o e=>pf e,aS.refl _,I1.fpOk (Zr _) (I1.hok.fresh (Zr _)),I1.fpOk (ZM _ 2) (I1.hok.fresh (ZM _ 2)),⟨0,oA h1 vs⟩,hL0,fun i u e=>by simp at e⟩
 ·refine ⟨fun ks s' ⟨H1,_,_,_,_,e,_⟩=>e,fun ks s' ⟨H1,_,_,_,_,_,e,_⟩=>e.trans hL0.symm,?_,?_⟩
  ·rintro ks x s' hx ⟨H1,I2,sm,fL,fK,⟨eK,hK⟩,hL,hks⟩
   obtain ⟨y,t,rfl,hy⟩:=each _ _ hx
   refine YT (Bi (A':=X.A.in1.in1) F (Room.in1 (Room.in1 hr)) rfl hb I2 (vs:=[.str y]) (.cons ⟨t,rfl⟩ .nil) (hsp y (YH hy) H1 sm (fun v H2=>∃ b,v=.ref b/\aS H1 H2/\H2 b=some (.tup ((kL y).map kV))) fun b H2 s2 h2=>⟨b,rfl,s2,h2⟩)) ?_ fun _ _ e=>e
   rintro u s2 ⟨v,H2,I3,ru,⟨b,rfl,sm2,hb2⟩,kp2⟩
   obtain rfl:=(show u=Value.ref b from ru)
   obtain ⟨kK,fK2⟩:=kp2 _ _ fK hK
   obtain ⟨kL',fL2⟩:=kp2 _ _ fL hL
   have hK3:∃ e,(s2.heap.update (h1.objs.size+2) (Obj.mapSeq fun xs=>xs.push (Value.ref b))).get? (h1.objs.size+2)=some (seqObj "list" (ks++[Value.ref b]).toArray e):=by
    have:=get?_update_seq kK fun xs=>xs.push (Value.ref b)
    rw [this,show ks.toArray.push (Value.ref b)=(ks++[Value.ref b]).toArray by simp]
    exact ⟨_,rfl⟩
   refine ⟨⟨eK,kK⟩,H2,I3.turned (it:=h1.objs.size+2) (t':=s2.toks) (fun c o hc e=>by rw [Xt _ _ _ _ hc];exact e) fK2.1 fK2.2.1 fK2.2.2.2.1 fK2.2.2.2.2.1 fK2.2.2.2.2.2,sm.trans sm2,fL2,fK2,hK3,?_,fun i u hu=>?_⟩
   ·rw [Xt _ _ _ _ LK];exact kL'
   ·by_cases hi:i < ks.length
    ·rw [Yl hi] at hu
     obtain ⟨c,x,e1,e2,e3⟩:=hks i u hu
     exact ⟨c,x,e1,e2,sm2 _ _ e3⟩
    ·rw [Yx (by exact Xw hi)] at hu
     have hi0:i=ks.length:=by
      by_cases z:i - ks.length=0
      ·lia
      ·rw [Xo (by simp;lia)] at hu;cases hu
     subst hi0
     simp at hu
     exact ⟨b,y,hu.symm,hy,hb2⟩
  ·rintro ks s' ⟨H1,I2,sm,fL,fK,⟨eK,hK⟩,hL,hks⟩ hln
   have kz:∀ z∈ks.zip vs,∃ b x t,z=(Value.ref b,Value.str x t)/\H1 b=some (.tup ((kL x).map kV)):=fun z hz=>by
    obtain ⟨i,hi,e⟩:=Ys hz
    have e':(ks.zip vs)[i]?=some z:=by rw [Za hi,e]
    obtain ⟨z1,z2⟩:=z
    rw [Ws] at e'
    obtain ⟨b,x,rfl,e2,e3⟩:=hks i z1 e'.1
    obtain ⟨x2,t,rfl,e4⟩:=each i z2 e'.2
    rw [e2] at e4
    cases e4
    exact ⟨b,x,t,rfl,e3⟩
   have tk1:∀ {b:Addr} {x:Str},H1 b=some (.tup ((kL x).map kV))->jm s'.heap (.ref b) (kL x):=fun e=>yS I2.hok e
   refine ⟨tuples' true,GT s'.heap [true,false],rT s'.heap,Ay fun v ks t=>t,fun z hz=>?_,fun two Q1 q1=>?_,fun out o1 o2=>⟨rfl,?_⟩⟩
   ·obtain ⟨b,x,t,rfl,e⟩:=kz z hz
    exact ⟨_,tk1 e,rfl⟩
   ·refine xG (k0:=true) (sh:=[false]) (by lia) (fun v hv=>?_) q1
    obtain ⟨i,hi,e⟩:=Ys hv
    obtain ⟨b,x,rfl,_,e3⟩:=hks i v (by rw [Za hi,e])
    exact ⟨_,tk1 e3,rfl⟩
   ·have I3:=I2.turned (it:=h1.objs.size+2) (t':=s'.toks) (h':=s'.heap.update (h1.objs.size+2) (Obj.mapSeq fun _=>#[])) (fun c o hc e=>by rw [Xt _ _ _ _ hc];exact e) fK.1 fK.2.1 fK.2.2.2.1 fK.2.2.2.2.1 fK.2.2.2.2.2
    have hL2:(s'.heap.update (h1.objs.size+2) (Obj.mapSeq fun _=>#[])).get? h1.objs.size=some (seqObj "list" #[] e0):=by rw [Xt _ _ _ _ LK];exact hL
    have hL3:=get?_update_seq hL2 fun _=>(out.map (·.2)).toArray
    have ho:∀ z∈out,∃ b x t,z=(Value.ref b,Value.str x t)/\H1 b=some (.tup ((kL x).map kV)):=fun z hz=>kz z (o1.mem_iff.mp hz)
    have olen:out.length=ss.length:=by
     rw [o1.length_eq,Yb]
     lia
    have vals:∀ {out:List Keyed},(∀ z∈out,∃ b x t,z=(Value.ref b,Value.str x t)/\H1 b=some (.tup ((kL x).map kV)))->aQ ((out.map fun z=>txV z.2).map V.str) (out.map (·.2)):=by
     intro out
     induction out with
     | nil=>intro _;exact .nil
     | cons z out ih =>
      intro h
      obtain ⟨b,x,t,rfl,_⟩:=h z Zw
      exact .cons ⟨t,rfl⟩ (ih fun z hz=>h z (Zx _ hz))
    refine ⟨.ref h1.objs.size,_,I3.adopt (o:=.lst ((out.map fun z=>txV z.2).map V.str)) (t':=s'.toks) fL (fun c o hc e=>by rw [Xt _ _ _ _ hc];exact e) ⟨_,hL3⟩ (show bj X.prog X.w _ _ _ (.lst _) from ⟨by rw [Zv,Zv,olen];lia,out.map (·.2),_,vals ho,hL3⟩),rfl,q _ H1 _ sm fL.1 ?_ ?_⟩
    ·have:=o1.map fun z=>txV z.2
     have e2:(ks.zip vs).map (fun z=>txV z.2)=ss:=by
      rw [← hvs]
      have:(ks.zip vs).map (fun z=>txV z.2)=((ks.zip vs).map Prod.snd).map txV:=by rw [Ya];rfl
      rw [this,Vs (by lia)]
     rw [e2] at this
     exact this
    ·rw [W5]
     refine List.Pairwise.imp_of_mem (fun {a b} ha hb h=>?_) o2
     obtain ⟨c,x,t,rfl,e⟩:=ho a ha
     obtain ⟨c2,x2,t2,rfl,e2⟩:=ho b hb
     unfold le at h
     rw [lE (tk1 e2) (tk1 e)] at h
     exact h
end
end L2
end
section
namespace VS
open PySem PySem.Spec PyProof.Rows L2 TS
noncomputable def lL (a b:Tx):Prop:=a.length < b.length\/a.length=b.length/\a < b
noncomputable def ltL (a b:Tx):Bool:=decide (a.length < b.length) || (decide (a.length=b.length) && ltx a b)
theorem sM (a b:Tx):ltL a b=true ↔ lL a b:=by
 unfold ltL lL
 rw [mf]
 simp
theorem tq (a:Tx):¬ lL a a:=fun h=>by
 rcases h with h | ⟨_,h⟩
 ·exact Xp _ h
 ·exact WT _ h
theorem pH {a b c:Tx} (h:lL a b) (h':lL b c):lL a c:=by
 rcases h with h | ⟨e,h⟩ <;> rcases h' with h' | ⟨e',h'⟩
 ·exact .inl (by exact Wz h h')
 ·exact .inl (by lia)
 ·exact .inl (by lia)
 ·exact .inr ⟨by exact Eq.trans e e',List.lt_trans h h'⟩
theorem v3 (a b:Tx):lL a b\/a=b\/lL b a:=by
 rcases Nat.lt_trichotomy a.length b.length with h | h | h
 ·exact .inl (.inl h)
 ·by_cases h1:a < b
  ·exact .inl (.inr ⟨h,h1⟩)
  ·by_cases h2:b < a
   ·exact .inr (.inr (.inr ⟨h.symm,h2⟩))
   ·exact .inr (.inl (List.le_antisymm (List.not_lt.mp h2) (List.not_lt.mp h1)))
 ·exact .inr (.inr (.inl h))
noncomputable def qW (x:Tx):List Tx->List Tx
 | []=>[x]
 | y :: r=>if ltL y x then y :: qW x r else x :: y :: r
noncomputable def cB (l:List Tx):List Tx:=l.foldr qW []
theorem j1 (x:Tx):∀ l:List Tx,(qW x l).Perm (x :: l)
 | []=>XH _
 | y :: r=>by
  unfold qW
  split
  ·exact ((j1 x r).cons y).trans (List.Perm.swap _ _ _)
  ·exact XH _
theorem dC:∀ l:List Tx,(cB l).Perm l
 | []=>XH _
 | x :: l=>(j1 x _).trans ((dC l).cons x)
theorem sD (x:Tx):∀ {l:List Tx},l.Pairwise (fun a b=>¬ lL b a)->(qW x l).Pairwise (fun a b=>¬ lL b a)
 | [],_=>by simp [qW]
 | y :: r,h=>by
  unfold qW
  obtain ⟨h1,h2⟩:=XQ.mp h
  split
  ·rename_i c
   have c':=(sM y x).mp c
   refine XQ.mpr ⟨fun z hz=>?_,sD x h2⟩
   rcases Zo.mp ((j1 x r).mem_iff.mp hz) with rfl | hz
   ·exact fun w=>tq _ (pH c' w)
   ·exact h1 z hz
  ·rename_i c
   have c':¬ lL y x:=fun z=>c ((sM y x).mpr z)
   refine XQ.mpr ⟨fun z hz=>?_,h⟩
   rcases Zo.mp hz with rfl | hz
   ·exact c'
   ·intro w
    rcases v3 y x with z1 | z1 | z1
    ·exact c' z1
    ·subst z1;exact h1 z hz w
    ·exact h1 z hz (pH w z1)
theorem jP:∀ l:List Tx,(cB l).Pairwise (fun a b=>¬ lL b a)
 | []=>List.Pairwise.nil
 | x :: l=>sD x (jP l)
theorem ja {l l':List Tx} (h:l'.Perm l) (hp:l'.Pairwise (fun a b=>¬ lL b a)):l'=cB l :=
 List.Perm.eq_of_pairwise (le:=fun a b=>¬ lL b a) (fun a b _ _ h1 h2=>(v3 a b).elim (fun z=>absurd z h2) fun z=>z.elim id fun z=>absurd z h1) hp (jP l) (h.trans (dC l).symm)
theorem AA (a b:Str):fj (kL a) (kL b)=true ↔ lL a.cps.toList b.cps.toList:=by
 unfold kL lL
 rw [fj]
 by_cases h:((a.cps.toList.length:Int))=(b.cps.toList.length:Int)
 ·rw [Zs (by rw [h]),fj]
  have h':a.cps.toList.length=b.cps.toList.length:=by lia
  by_cases e:a=b
  ·subst e
   simp [fj,WT]
  ·rw [Zp (by simpa using e),ltK]
   simp [h']
 ·rw [Zp (fun z=>h (by injection z)),ltK,decide_eq_true_eq]
  constructor
  ·intro h2
   exact .inl (by omega)
  ·rintro (h2 | ⟨h2,_⟩)
   ·omega
   ·lia
noncomputable def jc:Vn->Vm
 | [(_,.dct 0 l)]=>(strs? (l.map (·.1))).bind fun ss=>if ss.all txB then some (.fr,.lst ((cB ss).map .str)) else none
 | _=>none
section
variable {G:Gx} {X:Cx} {e:Expr} {cs:Exs} {p p2 kp pos:Pos} {k:Nat} {f:Addr} {fd:FuncData} {ps:List Str} {cg:Fn} {x:Str}
theorem uk {ss:List Tx} {ys:List Str} (h:ys.Perm (ss.map sx)) (hp:ys.Pairwise (fun a b=>fj (kL b) (kL a)=false)):ys=(cB ss).map sx:=by
 have e:ys=(ys.map fun x=>x.cps.toList).map sx:=by
  rw [Ya]
  conv=>lhs;rw [← List.map_id ys]
  apply WO
  intro x hx
  obtain ⟨s,_,rfl⟩:=Yz.mp (h.mem_iff.mp hx)
  show sx s=sx (sx s).cps.toList
  rw [vX]
 have e2:(ys.map fun x=>x.cps.toList)=cB ss:=by
  refine ja ?_ ?_
  ·have:=h.map fun x:Str=>x.cps.toList
   rw [Ya] at this
   have e3:((fun x:Str=>x.cps.toList) ∘ sx)=id:=by
    funext s
    exact vX s
   rw [e3,List.map_id] at this
   exact this
  ·rw [W5]
   exact hp.imp fun {a b} h z=>by
    rw [(AA b a).mpr z] at h
    cases h
 rw [e,e2]
theorem yI (F:FnOk X.prog X.w X.K X.mg X.base CX0 k f fd ps (spF G cg)) (hcg:∀ t:Tx,i4 t->cg [.str t]=some (.fr,.tup [.int t.length,.str t])) (hr:Room (k+2) X.A) (hgx:Gl X x) (hmx:X.mg x=some (.ref f)) (hb:Binds X.K fd ps [])
  (hm:X.mg "sorted" = none) (ha:PVs G X [e] cs) (hg:Gl X "sorted") (hc:X.calm=true) (hdx:(x == ("__debug__" : Str))=false)
  (he:backTo pos (starEach [e] X.env)=(false,eval e X.env) :: backTo pos (starEach [] X.env)) (hpl:(backTo pos (starEach [e] X.env)).any (·.1)=false) :
  PV G X (.Call (.Name "sorted" p) [e] [⟨some "key",.Name x p2,kp⟩] pos) (eN jc cs):=by
 intro pins s σ H Q I h
 refine L2.fR fun P_ k_=>?_
 obtain ⟨Φ,η,m,t,sr,e0,kk⟩:=h
 unfold eN at e0
 obtain ⟨l,el,e0⟩:=Zz.mp e0
 refine k_ ?_
 refine Wm (j3 I hg hm ug ?_ (by decide) rfl)
 refine PyProof.Rows.callWith_kw (thn (ha pos pins s σ H (fun vs H1=>∃ Fs,Args G Φ η H H1 l vs Fs) I ⟨Φ,η,l,sr,el,fun vs H1 Fs q1 q2 q3=>⟨Fs,q1,q2,q3⟩⟩) fun us s1 ⟨vs,H1,I1,r1,Fs,A⟩=>?_) he hpl rfl rfl
 refine thn ((Ac (nm:=some "key") (kpos:=kp) (ze (v:=.ref f) (pos:=p2) hgx hmx rfl hdx) Bm) pos pins s1 σ H1 (fun zs H2=>zs=[.ref f]/\H2=H1) I1 ⟨rfl,rfl⟩) fun ws s2 ⟨zs,H2,I2,rz,ez,eH⟩=>?_
 subst ez eH
 obtain ⟨u,rfl,ru⟩:=rz.one
 obtain rfl:=(show u=Value.ref f from ru)
 refine (show wpAny (model X.prog X.w) X.A (call (.builtin "sorted") us [(("key" : Str),Value.ref f)]) (EP X pins σ Q) X.xe s2 from ?_)
 refine L2.fR fun P_ k_=>?_
 unfold jc at e0
 split at e0
 ·rename_i mx y hh
  obtain ⟨ss,e1,e2⟩:=Zz.mp e0
  split at e2
  ·rename_i hbt
   cases e2
   obtain ⟨v,F',rfl,rfl,rx⟩:=(show RpL G H2 vs [.dct 0 y] Fs from A.rp).one
   obtain ⟨a,ks,ys,ts,Gs,rfl,rfl,hha,hl,rfl,ra⟩:=iT rx
   obtain ⟨u,rfl,ru⟩:=r1.one
   obtain rfl:=(show u=Value.ref a from ru)
   have hl2:ks.length=ts.length:=by rw [hl,ra.len.1]
   have e3:((ks.map aO).zip ts).map (·.1)=ks.map aO:=List.map_fst_zip (by rw [Zv];exact We hl2)
   rw [e3] at e1
   have e4:=keys_str e1
   have tok:∀ s∈ss,i4 s:=fun s hs=>Cn (Yw.mp hbt s hs)
   refine k_ ?_
   refine kF (ss:=ss.map sx) (ws:=ys) (E:=E0) hc F hr hb I2 (by rw [← hl,e4];simp) (by rw [← e4];exact hha) (fun x hx H3 sm Q1 q1=>?_) fun l H3 zs sm hl3 pz pw=>?_
   ·obtain ⟨s,hs,rfl⟩:=Yz.mp hx
    refine ⟨[.str s],[[]],.fr,_,.cons (.str s (tok s hs)) .nil,hcg s (tok s hs),fun v H4 F4 sm4 r4 _=>?_⟩
    cases r4 with
    | tup h4 q4 =>
     cases q4 with
     | cons c1 q4 =>
      cases q4 with
      | cons c2 q4 =>
       cases q4
       cases c1
       cases c2
       refine q1 _ _ sm4 ?_
       rw [h4]
       simp [kL,kV,sx]
   ·rw [uk pz pw]
    have r0:RpL G (upd H3 l (.lst (((cB ss).map sx).map V.str))) ((cB ss).map fun s=>V.str (sx s)) ((cB ss).map T.str) ((cB ss).map fun _=>[]):=qK fun s hs=>tok s ((dC ss).mem_iff.mp hs)
    have r:Rp G (upd H3 l (.lst (((cB ss).map sx).map V.str))) (.ref l) (.lst ((cB ss).map T.str)) (l :: ((cB ss).map fun _=>[]).flatten):=.lst (by rw [aI,Ya];rfl) r0
    rw [pF] at r
    exact kk _ _ _ ((A.same.trans sm).trans (cE hl3)) r (Fp.new ((A.same.trans sm).free hl3) (by simp) Fp.nil)
  ·cases e2
 ·cases e0
end
end VS
end
section
namespace L2
open PySem PySem.Spec PyProof.Rows
end L2
namespace VS
open PySem PySem.Spec PyProof.Rows L2
section
variable {G:Gx} {X:Cx} {e b:Expr} {cs:Exs} {cb:Ex} {pos p p1 p2 kp apos cpos:Pos} {k k' kr:Nat} {x:Str} {ps:List Str} {g:Fn}
theorem t6 {gk:Fn} (F:FnAt X.prog X.w X.K X.mg X.base k x ps G gk) (hk:k+2<=k') (hcg:∀ t:Tx,i4 t->gk [.str t]=some (.fr,.tup [.int t.length,.str t])) (hr:Room k' X.A) (hm:X.mg "sorted" = none) (ha:PVs G X [e] cs) (hgx:Gl X x) (hg:Gl X "sorted") (hc:X.calm=true) (hdx:(x == ("__debug__" : Str))=false)
  (he:backTo pos (starEach [e] X.env)=(false,eval e X.env) :: backTo pos (starEach [] X.env)) (hpl:(backTo pos (starEach [e] X.env)).any (·.1)=false) :
  PV G X (.Call (.Name "sorted" p) [e] [⟨some "key",.Name x p2,kp⟩] pos) (eN jc cs):=by
 obtain ⟨f,fd,h1,h2,h3,h4⟩:=F.ex
 exact yI h1 hcg (hr.mono hk) hgx h2 h4 hm ha hg hc hdx he hpl
theorem lD {a b c:Expr} {ca cb cc:Ex} (ha:PV G X a ca) (hb:PV G X b cb) (hc:PV G X c cc) (hm:lastMarks [.LtE,.Lt] [b,c]=false):PVT G X (.Compare a [.LtE,.Lt] [b,c] pos) (ij oLe oLt ca cb cc) :=
 PT.weak (vO B4 vB ha hb hc hm) fun σ H Q h=>ph h (fun η m r e=>by
  unfold ij at e
  obtain ⟨x,ea,e⟩:=Zz.mp e
  obtain ⟨y,eb,e⟩:=Zz.mp e
  obtain ⟨⟨mz,z⟩,ez,e⟩:=Zz.mp e
  cases z with
  | bl q =>
   cases q with
   | false=>cases e;exact ⟨_,rfl⟩
   | true =>
    obtain ⟨z2,ec,e⟩:=Zz.mp (show (cc η).bind (fun z=>oLt y z)=some (m,r) from e)
    exact kW y z2 m r e
  | _=>cases e) fun Q h=>wZ Ee AL h
theorem B3 {ce:Ex} (h:PV G X e ce) (hsw:swapsWith e none pos.line X.env=pure false):PSV G X (.Expr e pos) (sX (xP ce)) :=
 PS.weak (iU h hsw) fun D σ H ⟨Φ,η,out,s,e,k⟩=>by
  unfold sX xP at e
  obtain ⟨⟨v,η'⟩,e1,e2⟩:=Zm.mp e
  obtain ⟨⟨m,t⟩,e3,e4⟩:=Zm.mp e1
  cases e4
  cases e2
  exact ⟨Φ,η,m,t,s,e3,fun v H' F e1 r1 f1=>k Φ σ H' (s.same e1) (Frm.same e1)⟩
@[simp] noncomputable def mR (i:Nat) (c:Ex) (as:Exs) (η:VS.Env):Option (Val×VS.Env):=match η[i]? with
 | some (some (.ow (.lst l)))=>(c η).bind fun kv=>(int? kv.2).bind fun n=>(ixP l.length n).bind fun j=>(l[j]?).bind fun x=>(as η).bind fun xs=>(aV x xs).map fun z=>(z.2,η.set i (some (.ow (.lst (l.set j z.1)))))
 | _=>none
theorem Bp (i:Nat) (hN:X.N[i]?=some x) (hv:Vis X.env.scope x) (hd:(x == ("__debug__" : Str))=false) (hcd:(x == ("__classdict__" : Str))=false) (hb:PV G X b cb) (hix:fF b) (ha:PVs G X [e] cs) (hK:X.K=G.K)
  (hbase:attributeBase (.Subscript (.Name x p1) b p2) "append" X.env (eval (.Subscript (.Name x p1) b p2) X.env)=eval (.Subscript (.Name x p1) b p2) X.env)
  (hfew:((backTo cpos (starEach [e] X.env)).all (fun x=>!x.1) && (backToKw cpos (keywordEach [] X.env)).all (fun x=>x.1.isSome)
   && decide ([e].length+([]:List Keyword).length+(if ([]:List Keyword).isEmpty then 0 else 1) < 30))=true)
  (hline:(apos.endLine == cpos.line)=true) (hs:starEach [e] X.env=(false,eval e X.env) :: starEach [] X.env) (hplain:(backTo cpos (starEach [] X.env)).any (·.1)=false)
  (hsw:swapsWith (.Call (.Attribute (.Subscript (.Name x p1) b p2) "append" apos) [e] [] cpos) none pos.line X.env=pure false) :
  PSV G X (.Expr (.Call (.Attribute (.Subscript (.Name x p1) b p2) "append" apos) [e] [] cpos) pos) (sX (mR i cb cs)) :=
 PS.weak (iU (nr Xy Y9 Y8 fN (rL sH (eI hN hv hd hcd) hb hix) ha hbase hfew hline hs hplain) hsw) fun D σ H ⟨Φ,η,out,s,e,k⟩=>by
  unfold sX mR at e
  obtain ⟨⟨y',η'⟩,e1,e2⟩:=Zm.mp e
  split at e1
  ·rename_i l0 ht
   obtain ⟨⟨mk,tk⟩,ekk,e3⟩:=Zz.mp e1
   obtain ⟨n,en,e3⟩:=Zz.mp e3
   obtain ⟨j,h1,e3⟩:=Zz.mp e3
   obtain ⟨x0,h2,e3⟩:=Zz.mp e3
   obtain ⟨l,el,e3⟩:=Zz.mp e3
   obtain ⟨⟨x3,y3⟩,w4,e6⟩:=Zm.mp e3
   cases e6
   cases e2
   cases tk with
   | int n0 =>
    cases (show some n0=some n from en)
    obtain ⟨v,g1,g2⟩:=s.rp _ _ ht
    have nd:=s.nd i _ ht
    obtain ⟨a,vs,Fs,rfl,eF,ha0,ra⟩:=g2.lst_inv
    obtain ⟨u,Fj,u1,u2,u3⟩:=ra.get j h2
    rw [eF] at nd
    have ndj:Fj.Nodup:=((ZY.mp nd).2).sublist (eY u2)
    refine ⟨.ref a,g1,Φ,η,mk,_,s,ekk,fun y H1 F1 sm1 r1 f1=>?_⟩
    refine ⟨a,vs,_,u,rfl,r1.int_inv,SqL.of (sm1 a _ ha0),lI (by rw [ra.len.1];exact h1) u1,by rw [hK];exact ff (u3.same sm1) w4,Φ,η,l,s.same sm1,el,fun vs2 H4 Fs2 q1 q2 q3=>?_⟩
    refine gH Φ η H H4 u x0 x3 Fj l vs2 Fs2 y3 _ u3 ndj ⟨sm1.trans q1,q2,⟨fun n v' F' a1 a2=>(q3.each n v' F' a1 a2).back sm1,q3.nd⟩⟩ w4 fun u' H5 F' g=>?_
    obtain ⟨s1,s2,s3,s4,s5⟩:=kN ha0 ra nd u1 u2 g
    have g6:Chg G H (.ref a) (Φ i) (.lst (l0.set j x3)) H5 (a :: (Fs.set j F').flatten):=by
     rw [eF]
     exact ⟨g.kept,s5,g.dom,.lst s1 s2,s3,s4⟩
    obtain ⟨z1,z2⟩:=s.mut ht g1 g6
    exact k _ σ H5 z1 z2
   | _=>cases en
  ·cases e1
end
section
variable {G:Gx} {X:Cx} {a b e:Expr} {ca ck ce:Ex} {pos pos' p1:Pos} {kr:Nat}
theorem zS {j pos'} (ha:PV G X a ca):PVT G X (.Compare a [.IsNot] [.Constant .none j pos'] pos) (kZ ca) :=
 PT.weak (CN (zE ha)) fun σ H Q h=>Et h (fun η m r e=>by
  unfold kZ at e
  obtain ⟨x,_,e⟩:=Zz.mp e
  cases e
  exact ⟨_,rfl⟩) fun Q ⟨Φ,η,m,r,s,e,q⟩=>by
   unfold kZ at e
   obtain ⟨⟨n,x⟩,ea,e⟩:=Zz.mp e
   cases e
   refine ⟨Φ,η,n,x,s,ea,fun v H' F e1 r1 f1=>?_⟩
   show Q (.bl (!decide (v=.non))) H'
   rw [yw r1]
   exact q _ H' _ e1 (.bl _) Fp.nil
noncomputable def ny (i:Nat) (k e:Ex) (η:VS.Env):Option Out:=(e η).bind fun v=>match η[i]? with
 | some (some (.ow (.dct 0 l)))=>(k η).bind fun kv=>if il kv.2/\imm v.2/\l.length < gN then some (.nx (η.set i (some (.ow (.dct 0 (dput l kv.2 v.2)))))) else none
 | _=>none
theorem Be (i:Nat) {x:Str} (hr:Room kr X.A) (hk:PV G X b ck) (he:PV G X e ce) (hN:X.N[i]?=some x) (hv:Vis X.env.scope x) (hd:(x == ("__debug__" : Str))=false) (hcd:(x == ("__classdict__" : Str))=false)
  (ha:∀ v,assign (.Subscript (.Name x p1) b pos') X.env v=(do
   let ov ← holding [v] (eval (.Name x p1) X.env)
   let iv ← holding [v,ov] (eval b X.env)
   standAt pos'
   holding [v,ov,iv] (setItem ov iv v)
   release [v,ov,iv] [])) (hs:swapsWithSole [.Subscript (.Name x p1) b pos'] e pos.line X.env=pure false) (hw:swappedStores [.Subscript (.Name x p1) b pos'] e X.env=pure none)
  (h1:(assignEach [.Subscript (.Name x p1) b pos'] X.env).map (·.2)=[assign (.Subscript (.Name x p1) b pos') X.env]):PSV G X (.Assign [.Subscript (.Name x p1) b pos'] e pos) (ny i ck ce) :=
 PS.weak (BA he (CC (eI hN hv hd hcd) hk (DA (su hr)) ha) hs hw h1) fun D σ H ⟨Φ,η,out,s,e,k⟩=>by
  unfold ny at e
  obtain ⟨⟨mv,tv⟩,ev,e⟩:=Zz.mp e
  split at e
  ·rename_i l ht
   obtain ⟨⟨mk,tk⟩,ekk,e⟩:=Zz.mp e
   split at e
   ·rename_i hc
    obtain ⟨c1,c2,c3⟩:=hc
    cases e
    obtain ⟨w,g1,w2⟩:=s.rp _ _ ht
    have w3:=s.nd i _ ht
    refine ⟨Φ,η,mv,tv,s,ev,fun xv H1 Fv sm1 rv fv=>⟨w,g1,Φ,η,mk,tk,s.same sm1,ekk,fun kv H3 Fk sm3 rk fk=>?_⟩⟩
    have sm:aS H H3:=sm1.trans sm3
    have rv3:Rp G H3 xv tv Fv:=rv.same sm3
    have eF:=rv3.imm c2
    subst eF
    obtain ⟨a,ns,vs,ts,Fs,rfl,eF1,ha',hl,rfl,ra⟩:=iT w2
    rw [eF1] at w3
    obtain ⟨kk,rfl,ekk'⟩:=gh rk c1
    subst ekk'
    have ha3:H3 a=some (.dK (ns.zip vs)):=sm a _ ha'
    have m3:Mut (H3 a):=by rw [ha3];exact True.intro
    have nd:=ZY.mp w3
    obtain ⟨ks',vs',ts',Fs',q1,q2,q3,q4,q5⟩:=oy (kk:=kk) rv3 hl (ra.same sm)
    have ln:(ns.zip vs).length < sizeLine:=by
     have:((ns.map aO).zip ts).length < 16777216:=c3
     rw [Yb,Zv] at this
     rw [Yb]
     have:=ra.len.1
     have:(sizeLine:Nat)=16777216:=rfl
     lia
    refine .inr ⟨a,_,rfl,xx.k ha3 ln,?_⟩
    have g:Chg G H (.ref a) (Φ i) (.dct 0 (dput ((ns.map aO).zip ts) (aO kk) tv)) (upd H3 a (.dK (putK (ns.zip vs) kk xv))) (a :: Fs'.flatten):=by
     rw [eF1,q1,q3]
     refine Chg.upd sm Zw m3 (.dct aI q2 (q4.off m3 fun z=>nd.1 (q5.subset z))) ?_ ?_
     ·exact ZY.mpr ⟨fun z=>nd.1 (q5.subset z),nd.2.sublist q5⟩
     ·intro bb hb
      rcases Zo.mp hb with rfl | hb
      ·exact .inl Zw
      ·exact .inl (Zx _ (q5.subset hb))
    obtain ⟨z1,z2⟩:=s.mut ht g1 g
    exact k _ σ _ z1 z2
   ·cases e
  ·cases e
end
end VS
end
section
namespace DP
open PySem PySem.Spec PyProof.Rows
variable {prog:Program} {w:World} {A:Around} {E:Yy}
theorem zt:typeLookup (.type "tuple") "keys" = pure none:=by rw [typeLookup_type,builtinLookup_eq_fast];kernel_rfl
theorem yB {h:Heap} {g:Array GenState} {d:Drawn} {tk:Nat} {os} {a:Addr} {xs:Array Value} {k:Nat} {sl:Array (Vy)} {u:Tok} {Q:Yy} (hx:h.get? a=some { cls:=.type "tuple",dict:=none,data:=.seq xs k,slots:=sl }) (hA:A.handled=none)
  (hE:∀ h' tk' e,Heap.NewExcOf h h' e "AttributeError" → E (.ref e) ⟨h',g,d,tk',os⟩):wpAny (model prog w) A (getAttrBy (.ref a) (.str "keys" u) false) Q E ⟨h,g,d,tk,os⟩:=by
 have hT:∀ tk',(⟨h,g,d,tk',os⟩:Shared).TypeIs (.ref a) "tuple" := fun _=>⟨_,hx,rfl⟩
 have f1:=sub_AttributeError
 have f3:=Wc.lookup
 have f4:=Wc.bind (.ref a)
 have f5:=am_tuple_getattr_none
 unfold getAttrBy
 repeat (any_goals (first | assumption | exact hT _ | ((with_reducible show wpAny _ _ (call (Value.builtin "tuple.__getattribute__") _ _) _ _ _);refine call_meets Wc (hT _) am_entry_tuple_getattribute (F.args_tuple_getattribute_2 _ _) (meets_getattribute_miss_tuple a xs k sl "keys" _ zt (by decide +kernel)) ⟨hx,hA,fun h' tk' e hx'=>?_⟩) | wp_step))
 obtain ⟨t',u',he⟩:=hx'.there
 show wpAny _ _ (getattributeRaised _ _ _ _ _ _ _) _ _ _
 unfold getattributeRaised
 repeat (any_goals (first | assumption | wp_step))
 exact hE _ _ _ hx'.of
end DP
end
section
namespace DP
open PySem PySem.Spec PyProof.Rows L2
variable {prog:Program} {w:World} {A:Around} {E:Yy}
theorem t8 {h:Heap} {g:Array GenState} {d:Drawn} {tk:Nat} {os} {a:Addr} {xs:Array Value} {k:Nat} {sl:Array (Vy)} {Q:Vy->Shared->Prop} (hx:h.get? a=some { cls:=.type "tuple",dict:=none,data:=.seq xs k,slots:=sl }) (hA:A.handled=none)
  (hQ:∀ h' tk' e,Heap.NewExcOf h h' e "AttributeError" → Q none ⟨h',g,d,tk',os⟩):wpAny (model prog w) A (getAttr? (.ref a) "keys") Q E ⟨h,g,d,tk,os⟩:=by
 have f1:=sub_AttributeError
 unfold getAttr? getAttrBy?
 repeat (any_goals (first | assumption | (with_reducible refine yB hx (by assumption) fun h' tk' e hx'=>?_) | wp_step))
 obtain ⟨⟨oc,od,odt,osl⟩,vs,ge,ce,_,_⟩:=hx'.there
 dsimp only at ce
 subst ce
 repeat (any_goals (first | assumption | wp_step))
 exact hQ _ _ _ hx'
theorem lr:entryFor table "dict.update.loop" = some Builtin.«dict.update.loop» := entryFor_of_tree (by kernel_rfl)
theorem gU:plainId "dict.update.loop" = true:=by decide +kernel
section
variable {R:Result->Shared->Prop} {I:Addr} {fp wr:Xf} {G:Array GenState->Array GenState->Prop} {n:Nat} {P:Nat->Value->Prop} {St:Nat->Shared->Prop}
theorem loop (W:WalksS prog w A.in1 I fp wr G n P St) (d:Addr) (hdf:d ∉ fp) (h0:Heap) (kv:Nat->Key×Value)
  (hP:∀ i v,P i v->∃ p m sl kx,v=.ref p/\h0.get? p=some { cls:=.type "tuple",dict:=none,data:=.seq #[kx,(kv i).2] m,slots:=sl }/\(aU prog w).is (kv i).1 kx=true/\p ∉ d :: wr) (hb:n<=sizeLine) :
  ∀ (k i:Nat) (s:Shared),n - i=k->i<=n->St i s->(∀ b o,b ∉ d :: wr->h0.get? b=some o->s.heap.get? b=some o)->s.heap.DictOf (aU prog w) d (merged [] ((List.range i).map kv)) →
   (∀ s',Moved (d :: wr) G s s'->s'.heap.DictOf (aU prog w) d (merged [] ((List.range n).map kv))->R (.ok (.ret .none)) s') →
   codeAny (model prog w) A (.builtin "dict.update.loop" ⟨[.ref d,.ref I,rawInt i,.none],[]⟩) R s:=by
 have hSw:d ∉ wr:=fun h=>hdf (W.sub _ h)
 have hsub:∀ b∈wr,b∈d :: wr:=fun b hb=>Zx _ hb
 intro k
 induction k with
 | zero =>
  intro i s hk hi hst hh hS hR
  have hin:i=n:=by lia
  subst hin
  refine codeAny_builtin lr ?_
  rw [W9 gU _]
  show wpAny _ A.in1 (pyNext (.ref I) >>= _) _ _ s
  refine Zy (W.done s _ _ hst fun s' hm=>?_)
  show wpAny _ A.in1 (Builtin.Dict.addKeywords d [] >>= fun _=>ret Value.none) _ _ s'
  refine Zy (Zq ?_)
  exact Zq (hR s' (hm.mono hsub) (by
   obtain ⟨o,es,ep,ho,rest⟩:=hS
   exact ⟨o,es,ep,hm.heap d _ hSw ho,rest⟩))
 | succ k ih =>
  intro i s hk hi hst hh hS hR
  have hlt:i < n:=by omega
  refine codeAny_builtin lr ?_
  rw [W9 gU _]
  show wpAny _ A.in1 (pyNext (.ref I) >>= _) _ _ s
  refine Zy (W.item i s _ _ hlt hst fun v s' hPv hst' hm=>?_)
  obtain ⟨p,m,sl,kx,rfl,hp,hkx,hpn⟩:=hP i v hPv
  have hp':s'.heap.get? p=some { cls:=.type "tuple",dict:=none,data:=.seq #[kx,(kv i).2] m,slots:=sl }:=hm.heap p _ (fun z=>hpn (hsub p z)) (hh p _ hpn hp)
  have hS':s'.heap.DictOf (aU prog w) d (merged [] ((List.range i).map kv)):=by
   obtain ⟨o,es,ep,ho,rest⟩:=hS
   exact ⟨o,es,ep,hm.heap d _ hSw ho,rest⟩
  show wpAny _ A.in1 (holding [Value.ref p] _ >>= _) _ _ s'
  refine Zy (YF ?_)
  have ty:s'.TypeIs (.ref p) "tuple" := ⟨_,hp',rfl⟩
  refine Zy (thn (Q:=fun r s2=>r=[kx,(kv i).2]/\s2=s') ?pair fun r s2 hr=>?rest)
  case pair =>
   refine wpAny_tryCatch ?_
   unfold Builtin.Dict.pairItems
   repeat (any_goals (first | assumption | wp_step))
   exact ⟨rfl,rfl⟩
  case rest =>
   obtain ⟨rfl,rfl⟩:=hr
   dsimp only
   refine YF ?_
   refine wpAny_dictSet_pairs hkx hS' (fun h' dd sb=>?_) (by have:=merged_length_le (K:=Key) [] ((List.range i).map kv);simp at this;lia)
   have e1:((i:Int)+1)=((i+1:Nat):Int):=by lia
   rw [e1]
   have dd':h'.DictOf (aU prog w) d (merged [] ((List.range (i+1)).map kv)):=by
    rw [List.range_succ,Yu,show merged ([]:List (Key×Value)) ((List.range i).map kv++[i].map kv)=stored (merged [] ((List.range i).map kv)) (kv i).1 (kv i).2 by unfold merged;rw [List.foldl_append];rfl]
    exact dd
   refine Zq ⟨plainId_quiet gU _,ih (i+1) _ (by omega) hlt (W.frame _ s2 _ _ hst' (Nat.le_succ _) fun b hb o e=>?_) (fun b o hb e=>?_) dd' fun s'' hm'' hS''=>?_⟩
   ·rw [sb.2 b (fun h:b=d=>hdf (by rw [← h];exact hb))];exact e
   ·rw [sb.2 b (fun h:b=d=>hb (by rw [h];exact Zw))]
    exact hm.heap b _ (fun z=>hb (hsub b z)) (hh b o hb e)
   ·refine hR s'' (Moved.trans W.gtrans ((hm.mono hsub).then_heap (Nat.le_succ _) fun b o hb e=>?_) hm'') hS''
    rw [sb.2 b (fun h:b=d=>hb (by rw [h];exact Zw))];exact e
end
end DP
end
section
namespace DP
open PySem PySem.Spec PyProof.Rows L2
variable {prog:Program} {w:World} {A:Around} {E:Yy} {s:Shared}
theorem kU:mroOf (.type "dict")=pure [.type "dict",.type "object"]:=by rw [mroOf_type];kernel_rfl
theorem kE:typeLookup (.type "dict") "__new__" = pure (some (.builtin "dict.__new__")):=by rw [typeLookup_type,builtinLookup_eq_fast];kernel_rfl
theorem pA:TypeCalled "dict" "dict.__new__" "dict.__init__" :=
 ⟨by decide +kernel,by decide +kernel,⟨_,_,kU⟩,madeBy_type kU kE (by decide +kernel),by decide +kernel,by rw [isSubtype_type];kernel_rfl,F.slot_dict_init⟩
theorem kB (a:Value):checkTypeCall "dict" ⟨[a],[]⟩=pure ():=by kernel_rfl
theorem lA (a:Value):checkBuiltinCall "dict.__new__" ⟨[.type "dict",a],[]⟩=pure ():=by kernel_rfl
theorem kR:entryFor table "dict.__new__" = some Builtin.«dict.__new__» := entryFor_of_tree (by kernel_rfl)
theorem iq:plainId "dict.__new__" = true:=by decide +kernel
theorem mB:isSubtype (.type "dict") (.type "dict")=pure true:=by rw [isSubtype_type];kernel_rfl
theorem mF (a:Value) {Q₁:Yy} (h:Q₁ (.ref s.heap.objs.size) { s with heap:=s.heap.push { cls:=.type "dict",data:=.dict #[] } }) :
  codeAny (model prog w) A (.call (.builtin "dict.__new__") ⟨[.type "dict",a],[]⟩) (wants Q₁ E) s:=by
 refine codeAny_of_tree (Zy (m:=checkBuiltinCall "dict.__new__" ⟨[.type "dict",a],[]⟩) (wpAny_of_eq (lA a) (Zq ⟨plainId_quiet iq _,codeAny_builtin kR ?_⟩)))
 rw [W9 iq]
 have own:=mB
 have mro:=kU
 cases s
 unfold Builtin.«dict.__new__»
 wp_walk
 exact h
theorem sZ {a:Addr} {its:Array Value} {m0:Nat} {sl0:Array (Vy)} {kv:Nat->Key×Value} {Q:Yy} (hh:A.handled=none) (ht:s.heap.get? a=some { cls:=.type "tuple",dict:=none,data:=.seq its m0,slots:=sl0 }) (hz:its.size<=sizeLine)
  (hp:∀ (i:Nat) (v:Value),its[i]?=some v->∃ p m sl kx,v=.ref p/\s.heap.get? p=some { cls:=.type "tuple",dict:=none,data:=.seq #[kx,(kv i).2] m,slots:=sl }/\(aU prog w).is (kv i).1 kx=true)
  (h:∀ (h':Heap) (tk:Nat),h'.DictOf (aU prog w) s.heap.objs.size (merged [] ((List.range its.size).map kv))->(∀ b o,s.heap.get? b=some o->h'.get? b=some o)->Q (.ref s.heap.objs.size) { s with heap:=h',toks:=tk }) :
  wpAny (model prog w) A (call (.type "dict") [.ref a]) Q E s:=by
 refine callType_codes (Q₁:=fun obj s₁=>obj=.ref s.heap.objs.size/\s₁={ s with heap:=s.heap.push { cls:=.type "dict",data:=.dict #[] } }) pA (kB _) F.entry_dict_init (mF _ ⟨rfl,rfl⟩) fun obj s₁ hq=>?_
 obtain ⟨rfl,rfl⟩:=hq
 have ty:Shared.TypeIs { s with heap:=s.heap.push { cls:=.type "dict",data:=.dict #[] } } (.ref s.heap.objs.size) "dict" := ⟨_,ZV _ rfl,rfl⟩
 refine ⟨ty,F.args_dict_init_2 _ _,?_⟩
 obtain ⟨hp0,g,d,tk,os⟩:=s
 have at1:=Ze { cls:=.type "dict",data:=.dict #[] } ht
 unfold Builtin.«dict.__init__» Builtin.Dict.updateCommon Builtin.Dict.updateFrom
 generalize eP:pyIter=itr
 generalize eG:getAttr?=ga
 repeat (any_goals (first | assumption | wp_step))
 subst eG
 dsimp only at *
 refine t8 at1 (by simp [hh]) fun h1 tk1 e ne=>?_
 simp only [Option.isNone_none,if_true]
 refine Zy (XG ?_)
 subst eP
 have at2:=ne.keeps _ _ at1
 have dat:=ne.keeps hp0.objs.size { cls:=.type "dict",data:=.dict #[] } (ZV _ rfl)
 have dlt:=ZU dat
 have lt0:∀ {b:Addr} {o:Obj},hp0.get? b=some o->b < hp0.objs.size:=fun e=>ZU e
 have kp1:∀ b o,hp0.get? b=some o->h1.get? b=some o:=fun b o e=>ne.keeps _ _ (Ze _ e)
 have tup:h1.IsTuple a its:=⟨_,at2,rfl,m0,rfl⟩
 refine Zy (wpAny_pyIter_tuple tup (Zq ⟨plainId_quiet gU _,?_⟩))
 have alt:=lt0 ht
 have D0:(h1.push { cls:=.type "tuple_iterator",data:=.fields #[.ref a,.int 0 0] }).DictOf (aU prog w) hp0.objs.size (merged [] ((List.range 0).map kv)):=by
  obtain ⟨o,es,ep,ho,rest⟩:=(Heap.DictOf.new (knd:=aU prog w) hp0)
  exact ⟨o,es,ep,Ze _ (ne.keeps _ _ ho),rest⟩
 refine loop (A:=A.in1) ((Walks.tuple (by simp [hh]) h1.objs.size a (ZL (Wz alt dlt)) its).toS) hp0.objs.size (by simp only [Zo,Xd,or_false,not_or];exact ⟨ZL dlt,W1 alt⟩) hp0 kv (fun i v hv=>?_) hz its.size 0 _ (by lia) (ZO _) ?_ (fun b o hb e=>Ze _ (kp1 b o e)) D0 fun s' mv dd=>?_
 ·obtain ⟨p,m,sl,kx,rfl,g1,g2⟩:=hp i v hv
  have:=lt0 g1
  exact ⟨p,m,sl,kx,rfl,g1,g2,by simp only [Zo,Xd,or_false,not_or];exact ⟨ZL this,ZL (Wz this dlt)⟩⟩
 ·exact ⟨⟨_,ZV _ rfl,rfl,rfl⟩,tup.push _⟩
 ·obtain ⟨h',g',d',tk',os'⟩:=s'
  have e1:g'=g:=mv.gens
  have e2:d'=d:=mv.drawn
  have e3:os'=os:=mv.os
  subst e1 e2 e3
  refine ⟨rfl,h h' tk' dd fun b o e=>mv.heap b o (fun hin=>?_) (Ze _ (kp1 b o e))⟩
  have:=lt0 e
  simp only [Zo,Xd,or_false] at hin
  rcases hin with q | q
  ·exact ZL this q
  ·exact ZL (Wz this dlt) q
end DP
end
section
namespace L2
open PySem PySem.Spec PyProof.Rows
section
variable {X:Cx}
noncomputable abbrev DPr:=Addr×Key×V
theorem yf {pins:Yp} {σ:St} {H:Hp} {s:Shared} (I:Inv X pins σ H s) {q:DPr} (h:H q.1=some (.tup [kV q.2.1,q.2.2])):∃ vx m sl kx,RelV q.2.2 vx/\s.heap.get? q.1=some { cls:=.type "tuple",dict:=none,data:=.seq #[kx,vx] m,slots:=sl }/\(aU X.prog X.w).is q.2.1 kx=true:=by
 obtain ⟨_,its,rv,nd,⟨oc,od,odt,osl⟩,g,gc,n,gd⟩:=(show bj X.prog X.w H s.heap q.1 (.tup [kV q.2.1,q.2.2]) from I.hok _ _ h)
 have hd:=nd _ g
 dsimp only at gc gd hd
 subst gc gd hd
 obtain ⟨kx,vx,rfl,r1,r2⟩:=vals2 rv
 exact ⟨vx,n,osl,kx,r2,g,km r1⟩
theorem oP {pins:Yp} {σ:St} {H:Hp} {s:Shared} (I:Inv X pins σ H s):∀ (ps:List DPr),(∀ q∈ps,H q.1=some (.tup [kV q.2.1,q.2.2])) →
  ∃ kvs:List (Key×Value),Paired (fun (q:DPr) (kv:Key×Value)=>q.2.1=kv.1/\RelV q.2.2 kv.2/\∃ m sl kx,s.heap.get? q.1=some { cls:=.type "tuple",dict:=none,data:=.seq #[kx,kv.2] m,slots:=sl }/\(aU X.prog X.w).is kv.1 kx=true) ps kvs
 | [],_=>⟨[],.nil⟩
 | q :: ps,h=>by
  obtain ⟨vx,m,sl,kx,r,g,k⟩:=yf I (h q Zw)
  obtain ⟨kvs,p⟩:=oP I ps fun x hx=>h x (Zx _ hx)
  exact ⟨(q.2.1,vx) :: kvs,.cons ⟨rfl,r,m,sl,kx,g,k⟩ p⟩
theorem mY {R:DPr->Key×Value->Prop} (hR:∀ q kv,R q kv->q.2.1=kv.1/\RelV q.2.2 kv.2):∀ {ps:List DPr} {kvs:List (Key×Value)},Paired R ps kvs->∀ {a:List (Key×V)} {b:List (Key×Value)},KV a b->KV (ps.foldl (fun acc q=>putK acc q.2.1 q.2.2) a) (merged b kvs)
 | _,_,.nil,_,_,r=>r
 | _,_,.cons (a:=q) (b:=kv) h t,a,b,r=>by
  obtain ⟨e1,e2⟩:=hR _ _ h
  have:=mY hR t (r.put kv.1 e2)
  simp only [XU,merged]
  rw [e1]
  exact this
theorem pq:∀ (ps:List DPr) (a:List (Key×V)),(ps.foldl (fun acc q=>putK acc q.2.1 q.2.2) a).length<=a.length+ps.length
 | [],a=>Zr _
 | q :: ps,a=>by
  have h1:=pq ps (putK a q.2.1 q.2.2)
  have h2:=fi a q.2.1 q.2.2
  simp only [XU,Zg]
  lia
theorem Paired.at_ {α β:Type} {R:α->β->Prop}:∀ {l:List α} {m:List β},Paired R l m->∀ (i:Nat) {a:α},l[i]?=some a->∃ b,m[i]?=some b/\R a b
 | _,_,.nil,i,a,h=>by simp at h
 | _,_,.cons r t,0,a,h=>by simp at h;subst h;exact ⟨_,rfl,r⟩
 | _,_,.cons r t,i+1,a,h=>by simpa using Paired.at_ t i (by simpa using h)
theorem rn (hc:X.calm=true):eZ X (.type "dict") (fun xs H Q=>∃ (p:Addr) (ps:List DPr),xs=[.ref p]/\H p=some (.tup (ps.map fun q=>V.ref q.1))/\(∀ q∈ps,H q.1=some (.tup [kV q.2.1,q.2.2])) ∧
  ∀ l,H l=none->Q (.ref l) (upd H l (.dK (ps.foldl (fun acc q=>putK acc q.2.1 q.2.2) [])))):=by
 intro pins s σ H xs us Q I rx h
 obtain ⟨p,ps,rfl,hp,hq,q⟩:=h
 obtain ⟨u,rfl,ru⟩:=rx.one
 cases ru
 obtain ⟨hz,its,rv,nd,⟨oc,od,odt,osl⟩,g,gc,n,gd⟩:=(show bj X.prog X.w H s.heap p (.tup (ps.map fun q=>V.ref q.1)) from I.hok _ _ hp)
 have hd:=nd _ g
 dsimp only at gc gd hd
 subst gc gd hd
 obtain ⟨kvs,pr⟩:=oP I ps hq
 have l1:its.length=ps.length:=by have:=rv.length;simpa using this.symm
 have l2:kvs.length=ps.length:=pr.length.symm
 rw [Zv] at hz
 have hkv:(List.range its.toArray.size).map (fun i=>(kvs[i]?).getD (.inl 0,.none))=kvs:=by
  apply W7
  intro i
  rw [Z1]
  by_cases hi:i < kvs.length
  ·rw [List.getElem?_range (by simp;lia),Za hi]
   simp [hi]
  ·rw [Xo (by simp;lia),Xo (by exact Xw hi)]
   rfl
 refine DP.sZ (kv:=fun i=>(kvs[i]?).getD (.inl 0,.none)) (I.ok.hd hc) g (by simp;lia) (fun i v hv=>?_) fun h' tk dd kp=>?_
 ·rw [WX] at hv
  have hi:i < ps.length:=by have:=(ZZ.mp hv).1;lia
  obtain ⟨w,e1,e2⟩:=Paired.at_ rv i (a:=V.ref ps[i].1) (by rw [Z1,Za hi];rfl)
  rw [hv] at e1
  cases e1
  obtain ⟨kv,e3,e4,_,m,sl,kx,g1,g2⟩:=Paired.at_ pr i (Za hi)
  rw [e3]
  exact ⟨ps[i].1,m,sl,kx,e2,g1,g2⟩
 ·rw [hkv] at dd
  have rel:=mY (fun _ _ h=>⟨h.1,h.2.1⟩) pr (.nil:KV [] [])
  have ln:=pq ps []
  exact ⟨.ref s.heap.objs.size,_,I.laid (t':=tk) kp (Zr _) (om (by simp at ln;exact ZW ln hz) (beq_eq_false_iff_ne.mpr (YE (ZL I.big))) rel dd),rfl,q _ (I.hok.fresh (Zr _))⟩
end
end L2
end
section
namespace VS
open PySem PySem.Spec PyProof.Rows L2
noncomputable def nS:Vl->Option (List (T×T))
 | []=>some []
 | .tup [k,v] :: r=>if il k/\imm v then (nS r).map ((k,v) :: ·) else none
 | _=>none
noncomputable def jg:Vn->Vm
 | [(_,.tup l)]=>(nS l).map fun ps=>(.fr,.dct 0 (ps.foldl (fun d q=>dput d q.1 q.2) []))
 | _=>none
section
variable {G:Gx} {X:Cx} {e:Expr} {cs:Exs} {p pos:Pos}
theorem Ag {t:T} {l:Vl} {ps:List (T×T)} (h:nS (t :: l)=some ps):∃ k v qs,t=.tup [k,v]/\il k=true/\imm v=true/\nS l=some qs/\ps=(k,v) :: qs:=by
 unfold nS at h
 split at h
 ·rename_i hh
  cases hh
 ·rename_i k v r hh
  cases hh
  split at h
  ·rename_i c
   obtain ⟨qs,e1,e2⟩:=Zm.mp h
   exact ⟨k,v,qs,rfl,c.1,c.2,e1,e2.symm⟩
  ·cases h
 ·cases h
theorem oN {H:Hp}:∀ {ts:Vl} {ws:List V} {Gs:Yf} {qs:List (T×T)},RpL G H ws ts Gs->nS ts=some qs →
  ∃ ps:List DPr,ws=ps.map (fun q=>V.ref q.1)/\(∀ q∈ps,H q.1=some (.tup [kV q.2.1,q.2.2]))/\Paired (fun (q:DPr) (x:T×T)=>x.1=aO q.2.1/\Rp G H q.2.2 x.2 []) ps qs
 | [],_,_,qs,r,h=>by
  cases r
  cases (show some ([]:List (T×T))=some qs from h)
  exact ⟨[],rfl,fun q hq=>by simp at hq,.nil⟩
 | t :: ts,_,_,qs,r,h=>by
  obtain ⟨k,v,qs',rfl,hk,hv,h2,rfl⟩:=Ag h
  cases r with
  | cons r1 r2 =>
   obtain ⟨ps,e1,e2,e3⟩:=oN r2 h2
   obtain ⟨b,vs,Fs,rfl,hb,q⟩:=Rp.tup_inv' r1
   cases q with
   | cons rk q =>
    cases q with
    | cons rv q =>
     cases q
     obtain ⟨kk,rfl,ek⟩:=gh rk hk
     have ei:=rv.imm hv
     subst ei
     refine ⟨(b,kk,_) :: ps,by rw [e1];rfl,fun x hx=>?_,.cons ⟨ek,rv⟩ e3⟩
     rcases Zo.mp hx with rfl | hx
     ·exact hb
     ·exact e2 x hx
theorem o7 {H:Hp}:∀ {ps:List DPr} {qs:List (T×T)},Paired (fun (q:DPr) (x:T×T)=>x.1=aO q.2.1/\Rp G H q.2.2 x.2 []) ps qs->∀ {ns:List Key} {vs:List V} {ts:Vl} {Fs:Yf},ns.length=vs.length->RpL G H vs ts Fs->Fs.flatten=[] →
  ∃ (ns':List Key) (vs':List V) (ts':Vl) (Fs':Yf),ps.foldl (fun acc q=>putK acc q.2.1 q.2.2) (ns.zip vs)=ns'.zip vs'/\qs.foldl (fun d q=>dput d q.1 q.2) ((ns.map aO).zip ts)=(ns'.map aO).zip ts'/\ns'.length=vs'.length/\RpL G H vs' ts' Fs'/\Fs'.flatten=[]
 | _,_,.nil,ns,vs,ts,Fs,hl,r,hF=>⟨ns,vs,ts,Fs,rfl,rfl,hl,r,hF⟩
 | _,_,.cons (a:=q) (b:=x) h t,ns,vs,ts,Fs,hl,r,hF=>by
  obtain ⟨ks',vs',ts',Fs',q1,q2,q3,q4,q5⟩:=oy (kk:=q.2.1) h.2 hl r
  rw [hF] at q5
  have hF':Fs'.flatten=[]:=List.sublist_nil.mp q5
  obtain ⟨n2,v2,t2,F2,a1,a2,a3,a4,a5⟩:=o7 t q2 q4 hF'
  refine ⟨n2,v2,t2,F2,?_,?_,a3,a4,a5⟩
  ·rw [XU,q1];exact a1
  ·rw [XU,h.1,q3];exact a2
theorem vA:hZ G (fun xs H Q=>∃ (p:Addr) (ps:List DPr),xs=[.ref p]/\H p=some (.tup (ps.map fun q=>V.ref q.1))/\(∀ q∈ps,H q.1=some (.tup [kV q.2.1,q.2.2])) ∧
  ∀ l,H l=none->Q (.ref l) (upd H l (.dK (ps.foldl (fun acc q=>putK acc q.2.1 q.2.2) [])))) jg:=by
 intro Φ η H0 H l vs Fs m t Q A e k
 unfold jg at e
 split at e
 ·rename_i mx ts
  obtain ⟨qs,e1,e2⟩:=Zm.mp e
  cases e2
  obtain ⟨v,F,rfl,rfl,r⟩:=(show RpL G H vs [.tup ts] Fs from A.rp).one
  obtain ⟨b,ws,Gs,rfl,hb,q⟩:=Rp.tup_inv' r
  obtain ⟨ps,rfl,hps,pr⟩:=oN q e1
  refine ⟨b,ps,rfl,hb,hps,fun l hl=>?_⟩
  obtain ⟨ns,us,ts',Fs',a1,a2,a3,a4,a5⟩:=o7 pr (ns:=[]) (vs:=[]) (ts:=[]) (Fs:=[]) rfl .nil rfl
  have a1':ps.foldl (fun acc q=>putK acc q.2.1 q.2.2) []=ns.zip us:=a1
  have a2':qs.foldl (fun d q=>dput d q.1 q.2) []=(ns.map aO).zip ts':=a2
  rw [a1']
  have sm:aS H (upd H l (.dK (ns.zip us))):=cE hl
  refine k _ _ (l :: Fs'.flatten) sm (by rw [a2'];exact .dct aI a3 (a4.same sm)) ?_
  rw [a5]
  exact Fp.new (A.same.free hl) (by simp) Fp.nil
 ·cases e
theorem Al:bootBuiltins ("dict" : Str)=some (.type "dict"):=by decide +kernel
theorem zY (hm:X.mg "dict" = none) (ha:PVs G X [e] cs) (hg:Gl X "dict" := by rfl) (hc:X.calm=true:=by rfl) (he:starEach [e] X.env=(false,eval e X.env) :: starEach [] X.env:=by rfl):PV G X (.Call (.Name "dict" p) [e] [] pos) (eN jg cs) :=
 jV (rn hc) vA hg hm Al ha (he:=he) (hpl:=rfl)
@[simp] noncomputable def FM:Vn->Vm
 | [(_,.int i)]=>some (.fr,.int i)
 | [(_,.bl b)]=>some (.fr,.int (if b then 1 else 0))
 | _=>none
end
end VS
end
section
namespace L2
open PySem PySem.Spec PyProof.Rows
end L2
namespace VS
open PySem PySem.Spec PyProof.Rows L2
noncomputable def sca:T->Bool
 | .non=>true
 | .bl _=>true
 | .int _=>true
 | .str _=>true
 | _=>false
theorem AG {G:Gx} {H H':Hp} {v:V} {t:T} {F:Xf} (h:sca t=true) (r:Rp G H v t F):F=[]/\Rp G H' v t []:=by
 cases r with
 | non=>exact ⟨rfl,.non⟩
 | bl b=>exact ⟨rfl,.bl b⟩
 | int i=>exact ⟨rfl,.int i⟩
 | str s ok=>exact ⟨rfl,.str s ok⟩
 | _=>cases h
end VS
end
section
namespace L2
open PySem PySem.Spec PyProof.Rows
noncomputable def pick {α:Type} (l:List α) (is:Vr):List α:=is.filterMap (l[·]?)
noncomputable def iz {α:Type} (l:List α) (lo hi st:Option Int):List α:=pick l (sliceRange (sliceBounds lo hi st l.length).1 (sliceBounds lo hi st l.length).2.1 (sliceBounds lo hi st l.length).2.2)
theorem yb {α β:Type} (f:α->β) (l:List α) (is:Vr):pick (l.map f) is=(pick l is).map f:=by
 unfold pick
 rw [List.map_filterMap]
 congr 1
 funext i
 rw [Z1]
theorem o5 {α β:Type} (f:α->β) (l:List α) (lo hi st:Option Int):iz (l.map f) lo hi st=(iz l lo hi st).map f:=by
 unfold iz
 rw [Zv,yb]
theorem xB {α:Type} (l:List α) (lo hi st:Option Int):(iz l lo hi st).length<=l.length:=by
 have h:=slicePick_size_le (l.map fun _=>Value.none).toArray lo hi st
 have e:(slicePick (l.map fun _=>Value.none).toArray lo hi st).size=(iz (l.map fun _=>Value.none) lo hi st).length:=by
  unfold slicePick iz pick
  simp only [Zc,WX]
 rw [e,o5,Zv,Zc,Zv] at h
 exact h
theorem tN {xs:List V} {us:Xb} (r:aQ xs us) (is:Vr):aQ (pick xs is) (pick us is):=by
 induction is with
 | nil=>exact .nil
 | cons i is ih =>
  unfold pick at ih ⊢
  rw [Yi,Yi]
  cases hx:xs[i]? with
  | none =>
   have:us[i]?=none:=by
    rw [YJ] at hx ⊢
    rw [← r.length]
    exact hx
   rw [this]
   exact ih
  | some x =>
   obtain ⟨u,hu,ru⟩:=r.get hx
   rw [hu]
   exact .cons ru ih
section
variable {X:Cx} {e st:Expr} {lo hi:Option Expr} {te:TE} {tl th ts:TO} {pos p2:Pos}
noncomputable def DZ (X:Cx) (r:V->Option Int->Option Int->Option Int->Hp->VK->Prop):Prop :=
 ∀ (pins:Yp) (s:Shared) (σ:St) (H:Hp) (x:V) (v vl vu vs:Value) (lo hi st:Option Int) (sl:Addr) (Q:VK),Inv X pins σ H s->RelV x v->s.heap.IsSliceOf sl vl vu vs->IsPart vl lo->IsPart vu hi->IsPart vs st->r x lo hi st H Q →
  ∃ T id,typeLookup (.type T) "__getitem__" = pure (some (.builtin id))/\s.TypeIs v T/\wpAny (model X.prog X.w) X.A (getItem v (.ref sl)) (EP X pins σ Q) X.xe s
noncomputable def EU (r:V->Option Int->Option Int->Option Int->Hp->VK->Prop) (te:TE) (tl th ts:TO):TE:=fun σ H Q=>te σ H fun x H1=>tl σ H1 fun l H2=>th σ H2 fun u H3=>ts σ H3 fun c H4=>r x l u c H4 Q
theorem tD {r:V->Option Int->Option Int->Option Int->Hp->VK->Prop} (hr:DZ X r) (he:PE X e te) (hl:PO X lo tl) (hu:PO X hi th) (hs:PO X (some st) ts):PE X (.Subscript e (.Slice lo hi (some st) p2) pos) (EU r te tl th ts):=by
 intro pins s σ H Q I h
 refine Subscript_ (thn (he pins s σ H _ I h) fun v s1 ⟨x,H1,I1,r1,q1⟩=>?_)
 refine wpAny_Slice (thn (hl pins s1 σ H1 _ I1 q1) fun vl s2 ⟨l,H2,I2,pl,q2⟩=>thn (hu pins s2 σ H2 _ I2 q2) fun vu s3 ⟨u,H3,I3,pu,q3⟩=>thn (hs pins s3 σ H3 _ I3 q3) fun vs s4 ⟨c,H4,I4,ps,q4⟩=>?_)
 have I5:Inv X pins σ H4 { s4 with heap:=s4.heap.push { cls:=.type "slice",data:=.fields #[vl,vu,vs] } }:=I4.kept (t':=s4.toks) fun b ob q=>Ze _ q
 obtain ⟨T,id,hT,ht,hg⟩:=hr pins { s4 with heap:=s4.heap.push { cls:=.type "slice",data:=.fields #[vl,vu,vs] } } σ H4 x v vl vu vs l u c s4.heap.objs.size Q I5 r1 (Heap.IsSliceOf.new ..) pl pu ps q4
 show wpAny (model X.prog X.w) X.A (subscriptTail e (.Slice lo hi (some st) p2) v (.ref s4.heap.objs.size)) (EP X pins σ Q) X.xe { s4 with heap:=s4.heap.push { cls:=.type "slice",data:=.fields #[vl,vu,vs] } }
 exact tail_any (ops:=[v,.ref s4.heap.objs.size]) ht hT hg (by with_unfolding_all rfl)
noncomputable def Dx (K:Xs):V->Option Int->Option Int->Option Int->Hp->VK->Prop:=fun x lo hi st H Q=>∃ a xs,x=.ref a/\SqL K H a xs/\st ≠ some 0/\∀ p,H p=none->Q (.ref p) (upd H p (.lst (iz xs lo hi st)))
theorem ya:DZ X (Dx X.K):=by
 intro pins s σ H x v vl vu vs lo hi st sl Q I rx hs pl pu ps h
 obtain ⟨a,xs,rfl,hx,h0,q⟩:=h
 cases rx
 obtain ⟨its,r,ht,hz⟩:=I.list hx
 have hlen:=r.length
 refine ⟨"list",_,slot_list_getitem.lookup,ht.isList.typeIs,?_⟩
 refine wpAny_getItem_list_slice ht.isList hs pl pu ps h0 ?_ (by rw [Zc] <;> lia)
 have e:slicePick its.toArray lo hi st=(iz its lo hi st).toArray:=by
  unfold slicePick iz pick
  simp only [Zc,WX]
 rw [e]
 refine ⟨.ref s.heap.objs.size,_,I.laid (t':=s.toks) (o:=.lst (iz xs lo hi st)) (fun b ob q=>Ze _ q) (Zr _) ?_,rfl,q _ (I.hok.fresh (Zr _))⟩
 refine ⟨ZW (xB xs lo hi st) hz,_,0,?_,ZV _ rfl⟩
 unfold iz
 rw [← hlen]
 exact tN r _
end
end L2
namespace VS
open PySem PySem.Spec PyProof.Rows L2
section
variable {G:Gx} {X:Cx} {a:Expr} {ca:Ex} {pos:Pos}
noncomputable def sl3 (x:Val) (l h c:Option Int):Vm:=match x with
 | (_,.lst ts)=>if ts.all sca/\c ≠ some 0 then some (.fr,.lst (iz ts l h c)) else none
 | _=>none
noncomputable def tf (a:Ex) (lo hi st:Option Ex) (η:VS.Env):Vm:=(a η).bind fun x=>(mV lo η).bind fun l=>(mV hi η).bind fun h=>(mV st η).bind fun c=>sl3 x l h c
theorem yi {H H':Hp} {vs:List V} {ts:Vl} {Fs:Yf} (r:RpL G H vs ts Fs) (hs:ts.all sca=true) (is:Vr):RpL G H' (pick vs is) (pick ts is) (List.replicate (pick ts is).length []):=by
 induction is with
 | nil=>exact .nil
 | cons i is ih =>
  unfold pick at ih ⊢
  rw [Yi,Yi]
  cases hx:ts[i]? with
  | none =>
   have:vs[i]?=none:=by
    rw [YJ] at hx ⊢
    rw [r.len.1]
    exact hx
   rw [this]
   exact ih
  | some t =>
   obtain ⟨v,F,hv,_,rv⟩:=r.get i hx
   rw [hv]
   exact .cons (AG (Yw.mp hs t (YH hx)) rv).2 ih
theorem xQ {st:Expr} {lo hi:Option Expr} {cl ch cs:Option Ex} {p2:Pos} (ha:PV G X a ca) (hl:PVO G X lo cl) (hh:PVO G X hi ch) (hst:PVO G X (some st) cs) (hK:X.K=G.K:=by rfl):PV G X (.Subscript a (.Slice lo hi (some st) p2) pos) (tf ca cl ch cs) :=
 PE.weak (tD ya ha hl hh hst) fun σ H Q ⟨Φ,η,m,t,s,e,k⟩=>by
  unfold tf at e
  obtain ⟨⟨mx,x⟩,ea,w1⟩:=Zz.mp e
  obtain ⟨l,el,w2⟩:=Zz.mp w1
  obtain ⟨h,eh,w3⟩:=Zz.mp w2
  obtain ⟨c,ec,w4⟩:=Zz.mp w3
  clear e w1 w2 w3
  refine ⟨Φ,η,mx,x,s,ea,fun v H1 F e1 r1 f1=>⟨Φ,η,l,s.same e1,el,fun H2 e2=>⟨Φ,η,h,(s.same e1).same e2,eh,fun H3 e3=>⟨Φ,η,c,((s.same e1).same e2).same e3,ec,fun H4 e4=>?_⟩⟩⟩⟩
  have e04:aS H H4:=((e1.trans e2).trans e3).trans e4
  have r4:=((r1.same e2).same e3).same e4
  unfold sl3 at w4
  split at w4
  ·rename_i m' ts q
   cases q
   split at w4
   ·rename_i hc
    cases w4
    obtain ⟨a',vs,Fs,rfl,rfl,ha',ra⟩:=r4.lst_inv
    refine ⟨a',vs,rfl,by rw [hK];exact SqL.of ha',hc.2,fun p hp=>?_⟩
    have fl:(List.replicate (iz ts l h c).length ([]:Xf)).flatten=[]:=by simp
    refine k (.ref p) _ (p :: (List.replicate (iz ts l h c).length ([]:Xf)).flatten) (e04.trans (cE hp)) (.lst aI ?_) ⟨?_,fun b hb=>?_⟩
    ·have el:vs.length=ts.length:=ra.len.1
     unfold iz
     rw [el]
     exact yi ra hc.1 _
    ·rw [fl]
     exact ZY.mpr ⟨(fun z=>nomatch z),Wv⟩
    ·rw [fl] at hb
     rw [Zj.mp hb]
     exact e04.free hp
   ·cases w4
  ·cases w4
end
end VS
end
section
namespace L2
open PySem PySem.Spec PyProof.Rows
end L2
namespace VS
open PySem PySem.Spec PyProof.Rows L2
end VS
end
section
namespace ST
open PySem PySem.Spec PyProof.Rows
variable {prog:Program} {w:World} {A:Around} {E:Yy} {s:Shared}
end ST
namespace L2
open PySem PySem.Spec PyProof.Rows TS
end L2
namespace VS
open PySem PySem.Spec PyProof.Rows L2
end VS
end
section
namespace L2
theorem E1 {α:Type} {n:Nat} {us:List α} (hl:us.length=n+1):∃ a t,us=a :: t/\t.length=n:=by
 obtain ⟨a,t,e⟩:=List.exists_cons_of_length_eq_add_one hl
 subst e
 exact ⟨a,t,rfl,Nat.succ.inj hl⟩
theorem lR {α:Type} {us:List α} (hl:us.length=1):∃ a,us=[a]:=List.length_eq_one_iff.mp hl
theorem mw {α:Type} {us:List α} (hl:us.length=2):∃ a b,us=[a,b]:=by
 obtain ⟨a,t,rfl,ht⟩:=E1 hl
 obtain ⟨b,rfl⟩:=lR ht
 exact ⟨a,b,rfl⟩
end L2
end
section
namespace ST
open PySem PySem.Spec PyProof.Rows
variable {prog:Program} {w:World} {A:Around} {E:Yy} {s:Shared}
end ST
namespace VS
end VS
namespace VS
open PySem PySem.Spec PyProof.Rows L2
noncomputable def lg (i:Nat) (cs:Exs):Vl->Vl->VS.Env->Option VS.Env
 | _,[],η=>some η
 | d,x :: r,η=>(cs η).bind fun xs=>(aV x xs).bind fun z=>lg i cs (d++[z.1]) r (η.set i (some (.ow (.lst (d++z.1 :: r)))))
noncomputable def sy (i j:Nat) (cs:Exs) (η:VS.Env):Option Out:=match η[i]?,η[j]? with
 | some (some (.ow (.lst l))),some none=>(lg i cs [] l η).map .nx
 | _,_=>none
theorem SR.any {G:Gx} {Φ:Fps} {η:VS.Env} {σ:L2.St} {H:Hp} {j:Nat} (s:SR G Φ η σ H) (hj:η[j]?=some none) (v:Option V):SR G Φ η (σ.set j v) H :=
 ⟨by rw [Xq];exact s.len,fun i c h=>by
  obtain ⟨u,h1,h2⟩:=s.rp i c h
  have n:j ≠ i:=fun z=>by
   rw [z,h] at hj
   cases hj
  exact ⟨u,by rw [YU n];exact h1,h2⟩,s.nd,s.sep⟩
theorem r6 {α:Type} (x y:α) (r:List α):∀ d:List α,(d++x :: r).set d.length y=d++y :: r
 | []=>rfl
 | a :: d=>congrArg (a :: ·) (r6 x y r d)
theorem rS {α:Type} (x:α) (r:List α):∀ d:List α,(d++x :: r)[d.length]?=some x
 | []=>rfl
 | _ :: d=>rS x r d
section
variable {G:Gx} {X:Cx} {e:Expr} {cs:Exs} {pos p0 p1 p2 pe apos cpos:Pos} {x y:Str}
theorem Cd (i j:Nat) (hp:PassesOwn (model X.prog X.w) X.A X.env X.xe) (hc:X.calm=true) (hnd:X.N.Nodup) (hN:X.N[i]?=some x) (hv:Vis X.env.scope x) (hd:(x == ("__debug__" : Str))=false) (hcd:(x == ("__classdict__" : Str))=false)
  (hj:X.N[j]?=some y) (hx:Loc X.env.scope y) (hf:X.fn y=true\/X.env.scope.names.lookup y=some .local) (hvy:Vis X.env.scope y) (hdy:(y == ("__debug__" : Str))=false) (hcdy:(y == ("__classdict__" : Str))=false) (ha:PVs G X [e] cs) (hK:X.K=G.K)
  (hbase:attributeBase (.Name y p2) "append" X.env (eval (.Name y p2) X.env)=eval (.Name y p2) X.env)
  (hfew:((backTo cpos (starEach [e] X.env)).all (fun x=>!x.1) && (backToKw cpos (keywordEach [] X.env)).all (fun x=>x.1.isSome)
   && decide ([e].length+([]:List Keyword).length+(if ([]:List Keyword).isEmpty then 0 else 1) < 30))=true)
  (hline:(apos.endLine == cpos.line)=true) (hs:starEach [e] X.env=(false,eval e X.env) :: starEach [] X.env) (hplain:(backTo cpos (starEach [] X.env)).any (·.1)=false)
  (hsw:swapsWith (.Call (.Attribute (.Name y p2) "append" apos) [e] [] cpos) none pe.line X.env=pure false) (hsi:∀ z,foldedSetIterable (.Name x p1) X.env z=pure z) :
  PSV G X (.For (.Name y p0) (.Name x p1) [.Expr (.Call (.Attribute (.Name y p2) "append" apos) [e] [] cpos) pe] [] pos) (sy i j cs) :=
 PS.weak (wI hp hc (Cq (eI hN hv hd hcd)) (oF hnd hj hx hf) (rW (iU (nr Xy Y9 Y8 fN (eI hj hvy hdy hcdy) ha hbase hfew hline hs hplain) hsw)) hsi) fun D σ H ⟨Φ,η,out,s,e,k⟩=>by
  unfold sy at e
  split at e
  ·rename_i l ht hn
   obtain ⟨η',e1,e2⟩:=Zm.mp e
   cases e2
   obtain ⟨v,g1,g2⟩:=s.rp _ _ ht
   obtain ⟨a,vs,Fs,rfl,eF,ha0,ra⟩:=g2.lst_inv
   have ne:i ≠ j:=fun z=>by
    rw [z,hn] at ht
    cases ht
   refine ⟨.ref a,g1,.inl ⟨a,rfl,⟨vs,SqL.of ha0⟩,fun n m σ2 H2=>m=l.length - n/\∃ Φ2 η2 d,d.length=n/\SR G Φ2 η2 σ2 H2/\Frm Φ η H Φ2 η2 H2/\η2[i]?=some (some (.ow (.lst (d++l.drop n))))/\η2[j]?=some none/\σ2[i]?=some (some (.ref a))/\lg i cs d (l.drop n) η2=some η',
    ⟨l.length - 0,rfl,Φ,η,[],rfl,s,Frm.refl _ _ _,ht,hn,g1,e1⟩,?_⟩⟩
   rintro n m σ2 H2 ⟨rfl,Φ2,η2,d,hdl,s2,f2,h2,n2,g3,e3⟩
   obtain ⟨v2,q1,q2⟩:=s2.rp _ _ h2
   rw [g3] at q1
   cases q1
   have nd:=s2.nd i _ h2
   obtain ⟨a2,vs2,Fs2,ea,eF2,ha2,ra2⟩:=q2.lst_inv
   cases ea
   cases hit:l.drop n with
   | nil =>
    have hl:l.length<=n:=List.drop_eq_nil_iff.mp hit
    rw [hit] at e3 ra2
    cases e3
    exact .inl ⟨⟨vs2,SqL.of ha2,by rw [ra2.len.1,ZG,hdl];exact Zr _⟩,k Φ2 σ2 H2 s2 f2⟩
   | cons t r =>
    right
    have hl:n < l.length:=Wi fun z=>by rw [YC z] at hit;cases hit
    have er:l.drop (n+1)=r:=by rw [← WS,hit];rfl
    rw [hit] at e3 ra2 h2 q2
    subst hdl
    obtain ⟨xs,el,e3⟩:=Zz.mp e3
    obtain ⟨⟨x3,y3⟩,w4,e3⟩:=Zz.mp e3
    obtain ⟨u,Fj,u1,u2,u3⟩:=ra2.get d.length (rS t r d)
    rw [eF2] at nd
    have ndj:Fj.Nodup:=((ZY.mp nd).2).sublist (eY u2)
    refine ⟨⟨vs2,u,SqL.of ha2,u1⟩,fun σ4 H4=>∃ Φ4 η4 d4,d4.length=d.length+1/\SR G Φ4 η4 σ4 H4/\Frm Φ η H Φ4 η4 H4/\η4[i]?=some (some (.ow (.lst (d4++l.drop (d.length+1)))))/\η4[j]?=some none/\σ4[i]?=some (some (.ref a))/\lg i cs d4 (l.drop (d.length+1)) η4=some η',fun σ4 H4 q=>⟨l.length - (d.length+1),by lia,rfl,q⟩,fun z H3 ⟨e4,e5⟩=>?_⟩
    subst e4
    have ez:=e5 vs2 (SqL.of ha2)
    rw [u1] at ez
    cases ez
    have s3:=s2.any n2 (some u)
    have hj2:j < σ2.length:=by rw [← s2.len];exact (ZZ.mp n2).1
    refine ⟨u,by rw [YQ hj2],by rw [hK];exact ff u3 w4,Φ2,η2,xs,s3,el,fun vs3 H4 Fs3 q1 q2 q3=>?_⟩
    refine gH Φ2 η2 _ H4 u t x3 Fj xs vs3 Fs3 y3 _ u3 ndj ⟨q1,q2,q3⟩ w4 fun u' H5 F' g=>?_
    obtain ⟨c1,c2,c3,c4,c5⟩:=kN ha2 ra2 nd u1 u2 g
    have g6:Chg G H3 (.ref a) (Φ2 i) (.lst ((d++t :: r).set d.length x3)) H5 (a :: (Fs2.set d.length F').flatten):=by
     rw [eF2]
     exact ⟨g.kept,c5,g.dom,.lst c1 c2,c3,c4⟩
    rw [r6] at g6
    have g7:(σ2.set j (some u))[i]?=some (some (.ref a)):=by rw [YU (YE ne)];exact g3
    obtain ⟨z1,z2⟩:=s3.mut h2 g7 g6
    have hi2:i < η2.length:=(ZZ.mp h2).1
    refine ⟨_,_,d++[x3],by rw [Zu];rfl,z1,f2.trans z2,?_,?_,g7,?_⟩
    ·rw [YQ hi2,er,Zl]
     rfl
    ·rw [YU ne]
     exact n2
    ·rw [er]
     exact e3
  ·cases e
end
structure Q (p:Prop):Prop where h:p
section
variable {G:Gx} {X:Cx} {a b c e tg iter elt:Expr} {es rest:List Expr} {ca cb cc ce:Ex} {cs:Exs} {pos pos' spos p p1 p2 apos cpos tpos:Pos} {k k' n i:Nat} {x:Str} {st:Stmt} {sts:List Stmt} {c1 c2:Sx} {sc:Scope} {N:List Str} {ci:Its} {g:Tg} {elts:List Expr} {ps:List Str}
theorem ae {i j pos}:Q (PV G X (.Constant (.int i) j pos) (eC (.int i))):=⟨CJ⟩
theorem jJ {i j pos}:Q (PV G X (.Constant (.bool i) j pos) (eC (.bl i))):=⟨Dg⟩
theorem wX {j pos}:Q (PV G X (.Constant .none j pos) (eC .non)):=⟨C1⟩
theorem iB {x:Str} {t:Tx} {j pos} (h:x=sx t) (hl:i4 t):Q (PV G X (.Constant (.str x) j pos) (eC (.str t))):=⟨Bd h hl⟩
theorem aa (i:Nat) {x:Str} {pos:Pos} (hN:X.N[i]?=some x) (hv:Vis X.env.scope x) (hd:(x == ("__debug__" : Str))=false) (hcd:(x == ("__classdict__" : Str))=false):Q (PV G X (.Name x pos) (ah i)):=⟨BX i hN hv hd hcd⟩
theorem ag  : Q (PVs G X [] av):=⟨AB⟩
theorem ab (ha:Q (PV G X e ca)) (hr:Q (PVs G X es cs)) (hs:starEach (e :: es) X.env=(false,eval e X.env) :: starEach es X.env):Q (PVs G X (e :: es) (af ca cs)):=⟨uR ha.h hr.h hs⟩
theorem bH (h:Q (PVs G X es cs)):Q (PV G X (.List es pos) (eO cs)):=⟨Ba h.h⟩
theorem gK {x1} (h:Q (PVs G X es cs)):Q (PV G X (.Tuple es x1 pos) (jT cs)):=⟨BE h.h⟩
theorem fM (h:Q (PV G X a ca)) (hK:X.K=G.K) (he:∀ whole,isTrue a X.env whole=(do let v ← whole;standAt a.pos;holding [v] (truthy v))):Q (PVT G X a ca):=⟨AD h.h hK he⟩
theorem eR (h:Q (PVW G X e ca)):Q (PVT G X e ca):=⟨PVW.pvt h.h⟩
theorem jo (ha:Q (PVT G X a ca)):Q (PVW G X (.BoolOp .And [a] pos) ca):=⟨vN ha.h⟩
theorem iS (ha:Q (PVT G X a ca)):Q (PVW G X (.BoolOp .Or [a] pos) ca):=⟨zv ha.h⟩
theorem i0 (ha:Q (PVT G X a ca)) (hb:Q (PVW G X (.BoolOp .And (b :: rest) pos) cb)):Q (PVW G X (.BoolOp .And (a :: b :: rest) pos) (iI ca cb)):=⟨zi ha.h hb.h⟩
theorem ju (ha:Q (PVT G X a ca)) (hb:Q (PVW G X (.BoolOp .Or (b :: rest) pos) cb)):Q (PVW G X (.BoolOp .Or (a :: b :: rest) pos) (eOr ca cb)):=⟨Bc ha.h hb.h⟩
theorem fJ (ha:Q (PVT G X a ca)):Q (PVT G X (.UnaryOp .Not a pos) (gq ca)):=⟨zj ha.h⟩
theorem xE (ha:Q (PV G X a ca)):Q (PV G X (.UnaryOp .Not a pos) (gq ca)):=⟨A7 ha.h⟩
theorem lB {op} (h:Q (PV G X a ca)):Q (PV G X (.BoolOp op [a] pos) ca):=⟨BM h.h⟩
theorem iu (ha:Q (PV G X a ca)) (hb:Q (PV G X (.BoolOp .And (b :: rest) pos) cb)):Q (PV G X (.BoolOp .And (a :: b :: rest) pos) (iI ca cb)):=⟨Bf ha.h hb.h⟩
theorem dD  : Q (PVO G X none none):=⟨vV⟩
theorem bU (h:Q (PV G X a ca)):Q (PVO G X (some a) (some ca)):=⟨vf h.h⟩
theorem dE {lo hi:Option Expr} {cl ch:Option Ex} {p2:Pos} (ha:Q (PV G X a ca)) (hl:Q (PVO G X lo cl)) (hh:Q (PVO G X hi ch)) (hK:X.K=G.K):Q (PV G X (.Subscript a (.Slice lo hi none p2) pos) (eSl ca cl ch)):=⟨wj ha.h hl.h hh.h hK⟩
theorem bG  : Q (fE G X [] iF):=⟨zZ⟩
theorem aj (h1:Q (PSV G X st c1)) (h2:Q (fE G X sts c2)):Q (fE G X (st :: sts) (au c1 c2)):=⟨vZ h1.h h2.h⟩
theorem ak (h1:Q (PSV G X st c1)):Q (fE G X [st] c1):=⟨zq h1.h⟩
theorem bS {t:Expr} {ct:Ex} {a b:List Stmt} (hc:Q (PVT G X t ct)) (ha:Q (fE G X a c1)) (hb:Q (fE G X b c2)):Q (PSV G X (.If t a b pos) (sIf ct c1 c2)):=⟨BP hc.h ha.h hb.h⟩
theorem ba (he:Q (PV G X e ce)):Q (PSV G X (.Return (some e) pos) (fH ce)):=⟨zf he.h⟩
theorem cO (i:Nat) {x:Str} {p:Pos} (hN:X.N[i]?=some x) (hv:Vis X.env.scope x) (hd:(x == ("__debug__" : Str))=false) (hcd:(x == ("__classdict__" : Str))=false):Q (PSV G X (.Return (some (.Name x p)) pos) (gG i)):=⟨xF i hN hv hd hcd⟩
theorem cK {i:Nat} {x:Str} {pos':Pos} (he:Q (PV G X e ce)) (hN:X.N.Nodup) (hi:X.N[i]?=some x) (hx:Loc X.env.scope x) (hs:swapsWith e (some (.Name x pos')) pos.line X.env=pure false) (hf:X.fn x=true\/X.env.scope.names.lookup x=some .local):Q (PSV G X (.Assign [.Name x pos'] e pos) (hU i ce)):=⟨ye he.h hN hi hx hs hf⟩
theorem ar {i:Nat} {x:Str} {pos':Pos} (he:Q (PV G X e ce)) (hN:X.N.Nodup) (hi:X.N[i]?=some x) (hx:Loc X.env.scope x) (hs:swapsWith e (some (.Name x pos')) pos.line X.env=pure false) (hf:X.fn x=true\/X.env.scope.names.lookup x=some .local):Q (PSV G X (.Assign [.Name x pos'] e pos) (aN i ce)):=⟨wg he.h hN hi hx hs hf⟩
theorem mL {c:Sx} (i:Nat) (h:Q (fE G X sts c)):Q (fE G X sts (au (wY i) c)):=⟨zA i h.h⟩
theorem bT (ha:Q (PV G X a ca)) (hg:Gl X "range") (hm:X.mg "range" = none) (hs:starEach [a] X.env=(false,eval a X.env) :: starEach [] X.env) (hs':starEach [a] X.env=[(false,eval a X.env)]):Q (PVI G X tg (.Call (.Name "range" p) [a] [] pos) (cw ca)):=⟨rj ha.h hg hm hs hs'⟩
theorem aE (i:Nat) {x:Str} (hN:X.N.Nodup) (hi:X.N[i]?=some x) (hx:Loc X.env.scope x) (hf:X.fn x=true\/X.env.scope.names.lookup x=some .local):Q (PVG G X (.Name x pos) (bg i)):=⟨xD i hN hi hx hf⟩
theorem gQ  : Q (pD G X [] []):=⟨u9⟩
theorem cf {g:Tg} {gs:List Tg} (h1:Q (PVG G X e g)) (h2:Q (pD G X es gs)) (hs:(assignEach (e :: es) X.env).map (·.2)=assign e X.env :: (assignEach es X.env).map (·.2)):Q (pD G X (e :: es) (g :: gs)):=⟨t5 h1.h h2.h hs⟩
theorem iV {gs:List Tg} {k:Nat} (hc:X.calm=true) (h:Q (pD G X es gs)) (hn:(assignEach es X.env).length=gs.length) (hst:(assignEach es X.env).findIdx? (·.1)=none) (hK:X.K=G.K):Q (PVG G X (.Tuple es k pos) (jM gs)):=⟨yP hc h.h hn hst hK⟩
theorem aZ {iter:Expr} {body:List Stmt} {ci:Its} {g:Tg} {cb:Sx} (hp:PassesOwn (model X.prog X.w) X.A X.env X.xe) (hc:X.calm=true) (hi:Q (PVI G X tg iter ci)) (hg:Q (PVG G X tg g)) (hb:Q (fE G X body cb)) (hs:∀ x,foldedSetIterable iter X.env x=pure x):Q (PSV G X (.For tg iter body [] pos) (dG g ci cb)):=⟨yJ hp hc hi.h hg.h hb.h hs⟩
theorem ua (k:Nat) (N:List Str) (hcalm:X.calm=true) (hi:Q (PVI G X tg iter ci)) (hin:qx k g) (hg:∀ cl C s H fp,Q (PVG G (aW X N sc cl C s H fp) tg g)) (he:∀ cl C s H fp,Q (PV G (aW X N sc cl C s H fp) elt ce)) (hsc:jB X.env sc=true) (hnm:iO sc (N.drop k) X.N=true) (hNl:k<=N.length) (hs:∀ x,foldedSetIterable iter X.env x=pure x):Q (PV G X (.ListComp elt [⟨tg,iter,[],0⟩] sc pos) (dX k g ci none ce)):=⟨yY k N hcalm hi.h hin (fun cl C s H fp=>(hg cl C s H fp).h) (fun cl C s H fp=>(he cl C s H fp).h) hsc hnm hNl hs⟩
theorem kl (k:Nat) (N:List Str) (hcalm:X.calm=true) (hi:Q (PVI G X tg iter ci)) (hin:qx k g) (hg:∀ cl C s H fp,Q (PVG G (aW X N sc cl C s H fp) tg g)) (hc:∀ cl C s H fp,Q (PVT G (aW X N sc cl C s H fp) c cc)) (he:∀ cl C s H fp,Q (PV G (aW X N sc cl C s H fp) elt ce)) (hsc:jB X.env sc=true) (hnm:iO sc (N.drop k) X.N=true) (hNl:k<=N.length) (hs:∀ x,foldedSetIterable iter X.env x=pure x):Q (PV G X (.ListComp elt [⟨tg,iter,[c],0⟩] sc pos) (dX k g ci (some cc) ce)):=⟨uj k N hcalm hi.h hin (fun cl C s H fp=>(hg cl C s H fp).h) (fun cl C s H fp=>(hc cl C s H fp).h) (fun cl C s H fp=>(he cl C s H fp).h) hsc hnm hNl hs⟩
theorem lh (k:Nat) (N:List Str) {cS:Sx} (hS:∀ D σ H,tS G cS D σ H->tE G (dX k g ci none ce) σ H fun v H1=>D.nx (σ.set i (some v)) H1) (hcalm:X.calm=true) (hi:Q (PVI G X tg iter ci)) (hin:qx k g) (hg:∀ cl C s H fp,Q (PVG G (aW X N sc cl C s H fp) tg g)) (he:∀ cl C s H fp,Q (PV G (aW X N sc cl C s H fp) elt ce)) (hN:X.N.Nodup) (hiN:X.N[i]?=some x) (hx:Loc X.env.scope x) (hsc:jB X.env sc=true) (hnm:iO sc (N.drop k) X.N=true) (hNl:k<=N.length) (hsw:swapsWith (.ListComp elt [⟨tg,iter,[],0⟩] sc pos) (some (.Name x pos')) spos.line X.env=pure true) (hf:X.fn x=true\/X.env.scope.names.lookup x=some .local) (hs:∀ x,foldedSetIterable iter X.env x=pure x):Q (PSV G X (.Assign [.Name x pos'] (.ListComp elt [⟨tg,iter,[],0⟩] sc pos) spos) cS):=⟨vY k N hS hcalm hi.h hin (fun cl C s H fp=>(hg cl C s H fp).h) (fun cl C s H fp=>(he cl C s H fp).h) hN hiN hx hsc hnm hNl hsw hf hs⟩
theorem ig (ha:Q (PV G X a ca)) (hg:Gl X "enumerate") (hm:X.mg "enumerate" = none) (hs:starEach [a] X.env=(false,eval a X.env) :: starEach [] X.env) (hs':starEach [a] X.env=[(false,eval a X.env)]):Q (PVI G X (.Tuple elts n tpos) (.Call (.Name "enumerate" p) [a] [] pos) (ir ca)):=⟨vo ha.h hg hm hs hs'⟩
theorem bt (ha:Q (PV G X a ca)) (hb:Q (PV G X b cb)):Q (PV G X (.BinOp a .Add b pos) (e2 bZ ca cb)):=⟨w_add ha.h hb.h⟩
theorem kG (ha:Q (PV G X a ca)) (hb:Q (PV G X b cb)):Q (PV G X (.BinOp a .Sub b pos) (e2 qk ca cb)):=⟨w_sub ha.h hb.h⟩
theorem eT (ha:Q (PV G X a ca)) (hb:Q (PV G X b cb)):Q (PV G X (.BinOp a .Mult b pos) (e2 ft ca cb)):=⟨w_mul ha.h hb.h⟩
theorem d8 (ha:Q (PV G X a ca)) (hb:Q (PV G X b cb)):Q (PV G X (.BinOp a .FloorDiv b pos) (e2 gf ca cb)):=⟨Bg ha.h hb.h⟩
theorem aX (ha:Q (PV G X a ca)) (hb:Q (PV G X b cb)):Q (PV G X (.BinOp a .Mod b pos) (e2 oMod ca cb)):=⟨w_mod ha.h hb.h⟩
theorem Aj (ha:Q (PV G X a ca)) (hb:Q (PV G X b cb)):Q (PVT G X (.Compare a [.Lt] [b] pos) (e2 oLt ca cb)):=⟨DT ha.h hb.h⟩
theorem v7 (hr:Room k X.A) (ha:Q (PV G X a ca)) (hb:Q (PV G X b cb)):Q (PV G X (.Compare a [.Eq] [b] pos) (e2 oEq ca cb)):=⟨w_eq hr ha.h hb.h⟩
theorem kM (hr:Room k X.A) (ha:Q (PV G X a ca)) (hb:Q (PV G X b cb)):Q (PVT G X (.Compare a [.Eq] [b] pos) (e2 oEq ca cb)):=⟨D2 hr ha.h hb.h⟩
theorem nO (hr:Room k X.A) (ha:Q (PV G X a ca)) (hb:Q (PV G X b cb)):Q (PVT G X (.Compare a [.NotEq] [b] pos) (e2 oNe ca cb)):=⟨Eo hr ha.h hb.h⟩
theorem aY (ha:Q (PV G X a ca)) (hb:Q (PV G X b cb)) (hs:fF b) (hK:X.K=G.K):Q (PV G X (.Subscript a b pos) (e2 bq ca cb)):=⟨D5 ha.h hb.h hs hK⟩
theorem cN (hm:X.mg "len" = none) (ha:Q (PVs G X [e] cs)) (hg:Gl X "len") (hK:X.K=G.K) (he:starEach [e] X.env=(false,eval e X.env) :: starEach [] X.env):Q (PV G X (.Call (.Name "len" p) [e] [] pos) (eN fz cs)):=⟨Ei hm ha.h hg hK he⟩
theorem pB (hm:X.mg "min" = none) (ha:Q (PVs G X [a,b] cs)) (hc:X.calm=true) (hg:Gl X "min") (he:starEach [a,b] X.env=(false,eval a X.env) :: starEach [b] X.env) (hpl:(backTo pos (starEach [b] X.env)).any (·.1)=false):Q (PV G X (.Call (.Name "min" p) [a,b] [] pos) (eN mO cs)):=⟨Cs hm ha.h hc hg he hpl⟩
theorem jS (t:Ty) (hm:X.mg "isinstance" = none) (hm2:X.mg (tyN t)=none) (ha:Q (PV G X a ca)) (hg:Gl X "isinstance") (hg2:Gl X (tyN t)) (hK:X.K=G.K) (hs:starEach [a,.Name (tyN t) p2] X.env=(false,eval a X.env) :: starEach [.Name (tyN t) p2] X.env):Q (PV G X (.Call (.Name "isinstance" p1) [a,.Name (tyN t) p2] [] pos) (eIs t ca)):=⟨w_is t hm hm2 ha.h hg hg2 hK hs⟩
theorem cP (i:Nat) {x:Str} (ha:Q (PVs G X [e] cs)) (hK:X.K=G.K) (hN:X.N[i]?=some x) (hv:Vis X.env.scope x) (hd:(x == ("__debug__" : Str))=false) (hcd:(x == ("__classdict__" : Str))=false) (hfew:((backTo cpos (starEach [e] X.env)).all (fun x=>!x.1) && (backToKw cpos (keywordEach [] X.env)).all (fun x=>x.1.isSome)
   && decide ([e].length+([]:List Keyword).length+(if ([]:List Keyword).isEmpty then 0 else 1) < 30))=true) (hline:(apos.endLine == cpos.line)=true) (hs:starEach [e] X.env=(false,eval e X.env) :: starEach [] X.env):Q (PSV G X (.Expr (.Call (.Attribute (.Name x p1) "append" apos) [e] [] cpos) pos) (sX (j5 i [] aV cs))):=⟨xo i ha.h hK hN hv hd hcd hfew hline hs⟩
theorem aH {g:Fn} (F:FnAt X.prog X.w X.K X.mg X.base k x ps G g) (hr:Room k' X.A) (ha:Q (PVs G X (e :: es) cs)) (hk:k<=k') (hg:Gl X x) (hdb:(x == ("__debug__" : Str))=false) (he:starEach (e :: es) X.env=(false,eval e X.env) :: starEach es X.env) (hpl:(backTo pos (starEach es X.env)).any (·.1)=false):Q (PV G X (.Call (.Name x p) (e :: es) [] pos) (aL g cs)):=⟨CO F hr ha.h hk hg hdb he hpl⟩
theorem bY (ha:Q (PV G X a ca)) (hK:X.K=G.K):Q (PVI G X tg a (fS ca)):=⟨AF ha.h hK⟩
theorem nj (hm:X.mg "tuple" = none) (ha:Q (PVs G X [e] cs)) (hg:Gl X "tuple") (hK:X.K=G.K) (he:starEach [e] X.env=(false,eval e X.env) :: starEach [] X.env):Q (PV G X (.Call (.Name "tuple" p) [e] [] pos) (eN gy cs)):=⟨zp hm ha.h hg hK he⟩
theorem jL (ha:Q (PV G X a ca)) (hb:Q (PV G X b cb)):Q (PVT G X (.Compare a [.Gt] [b] pos) (e2 oGt ca cb)):=⟨Er ha.h hb.h⟩
theorem sV (ha:Q (PV G X a ca)) (hb:Q (PV G X b cb)):Q (PVT G X (.Compare a [.GtE] [b] pos) (e2 oGe ca cb)):=⟨Ey ha.h hb.h⟩
theorem xY (ha:Q (PV G X a ca)) (hb:Q (PV G X b cb)):Q (PV G X (.BinOp a .Mult b pos) (e2 lq ca cb)):=⟨BZ ha.h hb.h⟩
theorem vJ  : Q (PV G X (.Dict [] [] pos) (ly 0 [])):=⟨Ci⟩
theorem oG {body:List Stmt} {cb:Sx} (hp:PassesOwn (model X.prog X.w) X.A X.env X.xe) (hc:Q (PVT G X c cc)) (hb:Q (fE G X body cb)):Q (PSV G X (.While c body [] pos) (qN cc cb)):=⟨tF hp hc.h hb.h⟩
theorem xV {st:Stmt}:Q (PSV G X st sNo):=⟨CM⟩
theorem lN (hr:Room k X.A) (ha:Q (PV G X a ca)) (hb:Q (PV G X b cb)) (hs:fF b) (hK:X.K=G.K):Q (PV G X (.Subscript a b pos) (e2 oIx ca cb)):=⟨EY hr ha.h hb.h hs hK⟩
theorem yD (hr:Room k X.A) (ha:Q (PV G X a ca)) (hb:Q (PV G X b cb)) (hm:behindInMarks .In b=false) (hK:X.K=G.K):Q (PVT G X (.Compare a [.In] [b] pos) (e2 ml ca cb)):=⟨D3 hr ha.h hb.h hm hK⟩
theorem vE (hr:Room k X.A) (ha:Q (PV G X a ca)) (hb:Q (PV G X b cb)) (hm:behindInMarks .NotIn b=false) (hK:X.K=G.K):Q (PVT G X (.Compare a [.NotIn] [b] pos) (e2 fG ca cb)):=⟨BG hr ha.h hb.h hm hK⟩
theorem mS (hm:X.mg "list" = none) (ha:Q (PVs G X [e] cs)) (hg:Gl X "list") (hK:X.K=G.K) (hc:X.calm=true) (he:starEach [e] X.env=(false,eval e X.env) :: starEach [] X.env):Q (PV G X (.Call (.Name "list" p) [e] [] pos) (eN eD cs)):=⟨zw hm ha.h hg hK hc he⟩
theorem nL {G:Gx} {X:Cx} {i:Int} {j:Nat} {pos p:Pos}:Q (PV G X (.UnaryOp .USub (.Constant (.int i) j p) pos) (eC (.int (-i)))):=⟨DB⟩
theorem qR (J:Cc G) (i:Nat) {x:Str} (hk:Q (PV G X b ck)) (hv:Q (PVs G X [e] cs)) (hK:X.K=G.K) (hN:X.N[i]?=some x) (hvis:Vis X.env.scope x) (hd:(x == ("__debug__" : Str))=false) (hcd:(x == ("__classdict__" : Str))=false) (hb1:attributeBase (.Name x p1) "setdefault" X.env (eval (.Name x p1) X.env)=eval (.Name x p1) X.env) (hf1:((backTo cp1 (starEach [b,.List [] lp] X.env)).all (fun x=>!x.1) && (backToKw cp1 (keywordEach [] X.env)).all (fun x=>x.1.isSome)
   && decide ([b,Expr.List [] lp].length+([]:List Keyword).length+(if ([]:List Keyword).isEmpty then 0 else 1) < 30))=true) (hl1:(ap1.endLine == cp1.line)=true) (hs1:starEach [b,.List [] lp] X.env=(false,eval b X.env) :: starEach [.List [] lp] X.env) (hs1':starEach [.List [] lp] X.env=(false,eval (.List [] lp) X.env) :: starEach [] X.env) (hp1:(backTo cp1 (starEach [.List [] lp] X.env)).any (·.1)=false) (hb2:attributeBase (.Call (.Attribute (.Name x p1) "setdefault" ap1) [b,.List [] lp] [] cp1) "append" X.env (eval (.Call (.Attribute (.Name x p1) "setdefault" ap1) [b,.List [] lp] [] cp1) X.env)=eval (.Call (.Attribute (.Name x p1) "setdefault" ap1) [b,.List [] lp] [] cp1) X.env) (hf2:((backTo cpos (starEach [e] X.env)).all (fun x=>!x.1) && (backToKw cpos (keywordEach [] X.env)).all (fun x=>x.1.isSome)
   && decide ([e].length+([]:List Keyword).length+(if ([]:List Keyword).isEmpty then 0 else 1) < 30))=true) (hl2:(apos.endLine == cpos.line)=true) (hs2:starEach [e] X.env=(false,eval e X.env) :: starEach [] X.env) (hp2:(backTo cpos (starEach [] X.env)).any (·.1)=false) (hsw:swapsWith (.Call (.Attribute (.Call (.Attribute (.Name x p1) "setdefault" ap1) [b,.List [] lp] [] cp1) "append" apos) [e] [] cpos) none pos.line X.env=pure false):Q (PSV G X (.Expr (.Call (.Attribute (.Call (.Attribute (.Name x p1) "setdefault" ap1) [b,.List [] lp] [] cp1) "append" apos) [e] [] cpos) pos) (iR i ck cs)):=⟨wM J i hk.h hv.h hK hN hvis hd hcd hb1 hf1 hl1 hs1 hs1' hp1 hb2 hf2 hl2 hs2 hp2 hsw⟩
theorem qd (i:Nat) {x:Str} (hr:Room kr X.A) (hk:Q (PV G X b ck)) (hv:Q (PVs G X [e] cs)) (hK:X.K=G.K) (hN:X.N[i]?=some x) (hvis:Vis X.env.scope x) (hd:(x == ("__debug__" : Str))=false) (hcd:(x == ("__classdict__" : Str))=false) (hb1:attributeBase (.Name x p1) "setdefault" X.env (eval (.Name x p1) X.env)=eval (.Name x p1) X.env) (hf1:((backTo cp1 (starEach [b,.List [] lp] X.env)).all (fun x=>!x.1) && (backToKw cp1 (keywordEach [] X.env)).all (fun x=>x.1.isSome)
   && decide ([b,Expr.List [] lp].length+([]:List Keyword).length+(if ([]:List Keyword).isEmpty then 0 else 1) < 30))=true) (hl1:(ap1.endLine == cp1.line)=true) (hs1:starEach [b,.List [] lp] X.env=(false,eval b X.env) :: starEach [.List [] lp] X.env) (hs1':starEach [.List [] lp] X.env=(false,eval (.List [] lp) X.env) :: starEach [] X.env) (hp1:(backTo cp1 (starEach [.List [] lp] X.env)).any (·.1)=false) (hb2:attributeBase (.Call (.Attribute (.Name x p1) "setdefault" ap1) [b,.List [] lp] [] cp1) "append" X.env (eval (.Call (.Attribute (.Name x p1) "setdefault" ap1) [b,.List [] lp] [] cp1) X.env)=eval (.Call (.Attribute (.Name x p1) "setdefault" ap1) [b,.List [] lp] [] cp1) X.env) (hf2:((backTo cpos (starEach [e] X.env)).all (fun x=>!x.1) && (backToKw cpos (keywordEach [] X.env)).all (fun x=>x.1.isSome)
   && decide ([e].length+([]:List Keyword).length+(if ([]:List Keyword).isEmpty then 0 else 1) < 30))=true) (hl2:(apos.endLine == cpos.line)=true) (hs2:starEach [e] X.env=(false,eval e X.env) :: starEach [] X.env) (hp2:(backTo cpos (starEach [] X.env)).any (·.1)=false) (hsw:swapsWith (.Call (.Attribute (.Call (.Attribute (.Name x p1) "setdefault" ap1) [b,.List [] lp] [] cp1) "append" apos) [e] [] cpos) none pos.line X.env=pure false):Q (PSV G X (.Expr (.Call (.Attribute (.Call (.Attribute (.Name x p1) "setdefault" ap1) [b,.List [] lp] [] cp1) "append" apos) [e] [] cpos) pos) (gE i ck cs)):=⟨ur i hr hk.h hv.h hK hN hvis hd hcd hb1 hf1 hl1 hs1 hs1' hp1 hb2 hf2 hl2 hs2 hp2 hsw⟩
theorem ub  : Q (PV G X (.Dict [] [] pos) (ly 2 [])):=⟨yM⟩
theorem p9 (i:Nat) (N:List Str) {x y:Str} (hr:Room kr X.A) (hcalm:X.calm=true) (hN:X.N[i]?=some x) (hv:Vis X.env.scope x) (hd:(x == ("__debug__" : Str))=false) (hcd:(x == ("__classdict__" : Str))=false) (hin:∀ cl C s H fp,PG (aW X N sc cl C s H fp) (.Name y p3) (sT 0)/\PE (aW X N sc cl C s H fp) (.Name x p1) (uv (i+1))/\PE (aW X N sc cl C s H fp) (.Name y p2) (uv 0)/\(aW X N sc cl C s H fp).A.units=X.A.units) (hix:fF (.Name y p2)) (hsc:jB X.env sc=true) (hnm:iO sc (N.drop 1) X.N=true) (hNl:1<=N.length) (hs:∀ z,foldedSetIterable (.Name x p4) X.env z=pure z):Q (PSV G X (.Return (some (.ListComp (.Subscript (.Name x p1) (.Name y p2) p) [⟨.Name y p3,.Name x p4,[],0⟩] sc pos)) spos) (jz i)):=⟨uO i N hr hcalm hN hv hd hcd hin hix hsc hnm hNl hs⟩
theorem tK {x:Str} {t:Tx} {j:Nat} {q q':Pos} (h:x=sx t) (hl:i4 t):Q (PV G X (.Dict [some (.Constant (.str x) j q)] [.List [] q'] pos) (ly 0 [(eC (.str t),eO av)])):=⟨zP h hl⟩
theorem pP {gk:Fn} (F:FnAt X.prog X.w X.K X.mg X.base k x ps G gk) (hk:k+2<=k') (hcg:∀ t:Tx,i4 t->gk [.str t]=some (.fr,.tup [.int t.length,.str t])) (hr:Room k' X.A) (hm:X.mg "sorted" = none) (ha:Q (PVs G X [e] cs)) (hgx:Gl X x) (hg:Gl X "sorted") (hc:X.calm=true) (hdx:(x == ("__debug__" : Str))=false) (he:backTo pos (starEach [e] X.env)=(false,eval e X.env) :: backTo pos (starEach [] X.env)) (hpl:(backTo pos (starEach [e] X.env)).any (·.1)=false):Q (PV G X (.Call (.Name "sorted" p) [e] [⟨some "key",.Name x p2,kp⟩] pos) (eN jc cs)):=⟨t6 F hk hcg hr hm ha.h hgx hg hc hdx he hpl⟩
theorem jY {a b c:Expr} {ca cb cc:Ex} (ha:Q (PV G X a ca)) (hb:Q (PV G X b cb)) (hc:Q (PV G X c cc)) (hm:lastMarks [.LtE,.Lt] [b,c]=false):Q (PVT G X (.Compare a [.LtE,.Lt] [b,c] pos) (ij oLe oLt ca cb cc)):=⟨lD ha.h hb.h hc.h hm⟩
theorem vb {ce:Ex} (h:Q (PV G X e ce)) (hsw:swapsWith e none pos.line X.env=pure false):Q (PSV G X (.Expr e pos) (sX (xP ce))):=⟨B3 h.h hsw⟩
theorem yc (i:Nat) (hN:X.N[i]?=some x) (hv:Vis X.env.scope x) (hd:(x == ("__debug__" : Str))=false) (hcd:(x == ("__classdict__" : Str))=false) (hb:Q (PV G X b cb)) (hix:fF b) (ha:Q (PVs G X [e] cs)) (hK:X.K=G.K) (hbase:attributeBase (.Subscript (.Name x p1) b p2) "append" X.env (eval (.Subscript (.Name x p1) b p2) X.env)=eval (.Subscript (.Name x p1) b p2) X.env) (hfew:((backTo cpos (starEach [e] X.env)).all (fun x=>!x.1) && (backToKw cpos (keywordEach [] X.env)).all (fun x=>x.1.isSome)
   && decide ([e].length+([]:List Keyword).length+(if ([]:List Keyword).isEmpty then 0 else 1) < 30))=true) (hline:(apos.endLine == cpos.line)=true) (hs:starEach [e] X.env=(false,eval e X.env) :: starEach [] X.env) (hplain:(backTo cpos (starEach [] X.env)).any (·.1)=false) (hsw:swapsWith (.Call (.Attribute (.Subscript (.Name x p1) b p2) "append" apos) [e] [] cpos) none pos.line X.env=pure false):Q (PSV G X (.Expr (.Call (.Attribute (.Subscript (.Name x p1) b p2) "append" apos) [e] [] cpos) pos) (sX (mR i cb cs))):=⟨Bp i hN hv hd hcd hb.h hix ha.h hK hbase hfew hline hs hplain hsw⟩
theorem tj {j pos'} (ha:Q (PV G X a ca)):Q (PVT G X (.Compare a [.IsNot] [.Constant .none j pos'] pos) (kZ ca)):=⟨zS ha.h⟩
theorem vC (i:Nat) {x:Str} (hr:Room kr X.A) (hk:Q (PV G X b ck)) (he:Q (PV G X e ce)) (hN:X.N[i]?=some x) (hv:Vis X.env.scope x) (hd:(x == ("__debug__" : Str))=false) (hcd:(x == ("__classdict__" : Str))=false) (ha:∀ v,assign (.Subscript (.Name x p1) b pos') X.env v=(do
   let ov ← holding [v] (eval (.Name x p1) X.env)
   let iv ← holding [v,ov] (eval b X.env)
   standAt pos'
   holding [v,ov,iv] (setItem ov iv v)
   release [v,ov,iv] [])) (hs:swapsWithSole [.Subscript (.Name x p1) b pos'] e pos.line X.env=pure false) (hw:swappedStores [.Subscript (.Name x p1) b pos'] e X.env=pure none) (h1:(assignEach [.Subscript (.Name x p1) b pos'] X.env).map (·.2)=[assign (.Subscript (.Name x p1) b pos') X.env]):Q (PSV G X (.Assign [.Subscript (.Name x p1) b pos'] e pos) (ny i ck ce)):=⟨Be i hr hk.h he.h hN hv hd hcd ha hs hw h1⟩
theorem uK (hm:X.mg "dict" = none) (ha:Q (PVs G X [e] cs)) (hg:Gl X "dict") (hc:X.calm=true) (he:starEach [e] X.env=(false,eval e X.env) :: starEach [] X.env):Q (PV G X (.Call (.Name "dict" p) [e] [] pos) (eN jg cs)):=⟨zY hm ha.h hg hc he⟩
theorem qE {st:Expr} {lo hi:Option Expr} {cl ch cs:Option Ex} {p2:Pos} (ha:Q (PV G X a ca)) (hl:Q (PVO G X lo cl)) (hh:Q (PVO G X hi ch)) (hst:Q (PVO G X (some st) cs)) (hK:X.K=G.K):Q (PV G X (.Subscript a (.Slice lo hi (some st) p2) pos) (tf ca cl ch cs)):=⟨xQ ha.h hl.h hh.h hst.h hK⟩
theorem xI (i j:Nat) (hp:PassesOwn (model X.prog X.w) X.A X.env X.xe) (hc:X.calm=true) (hnd:X.N.Nodup) (hN:X.N[i]?=some x) (hv:Vis X.env.scope x) (hd:(x == ("__debug__" : Str))=false) (hcd:(x == ("__classdict__" : Str))=false) (hj:X.N[j]?=some y) (hx:Loc X.env.scope y) (hf:X.fn y=true\/X.env.scope.names.lookup y=some .local) (hvy:Vis X.env.scope y) (hdy:(y == ("__debug__" : Str))=false) (hcdy:(y == ("__classdict__" : Str))=false) (ha:Q (PVs G X [e] cs)) (hK:X.K=G.K) (hbase:attributeBase (.Name y p2) "append" X.env (eval (.Name y p2) X.env)=eval (.Name y p2) X.env) (hfew:((backTo cpos (starEach [e] X.env)).all (fun x=>!x.1) && (backToKw cpos (keywordEach [] X.env)).all (fun x=>x.1.isSome)
   && decide ([e].length+([]:List Keyword).length+(if ([]:List Keyword).isEmpty then 0 else 1) < 30))=true) (hline:(apos.endLine == cpos.line)=true) (hs:starEach [e] X.env=(false,eval e X.env) :: starEach [] X.env) (hplain:(backTo cpos (starEach [] X.env)).any (·.1)=false) (hsw:swapsWith (.Call (.Attribute (.Name y p2) "append" apos) [e] [] cpos) none pe.line X.env=pure false) (hsi:∀ z,foldedSetIterable (.Name x p1) X.env z=pure z):Q (PSV G X (.For (.Name y p0) (.Name x p1) [.Expr (.Call (.Attribute (.Name y p2) "append" apos) [e] [] cpos) pe] [] pos) (sy i j cs)):=⟨Cd i j hp hc hnd hN hv hd hcd hj hx hf hvy hdy hcdy ha.h hK hbase hfew hline hs hplain hsw hsi⟩
end
section
variable {G:Gx} {P:Program} {w:World} {K:Xs} {mg:Xg} {base:Heap}
theorem dU {x:Str} {st:Stmt} {f:Addr} {fd:FuncData} {N ps:List Str} {k np nn:Nat} {c:Sx} (F:Fun K x x st f fd) (hm:mg x=some (.ref f)) (S:FnScope N ps (ao st)) (hp:ps.length=np) (hn:N.length=nn)
  (hbd:∀ (kV doc pm:Value) (an:Option Addr) (cdv ct:Value) (us:Xb),us.length=ps.length->bindArgs (PySem.W.fnOf x x (aT st) (aM st) (ao st) .none kV doc pm an cdv ct) ⟨us,[]⟩=pure (ps.zip us))
  (hb:∀ (cdv:Value) (A:Around) (outer:List PySem.Env) (s:Shared) (H:Hp) (E:XK),Room k (A.deeper (envOfC x (ao st) s.heap.objs.size f cdv))->Q (fE G (mI CX0 P w K mg base N x (ao st) f cdv A outer s H E).nox (aM st) c)) :
  FnAt P w K mg base (k+1) x ps G (fn np nn c):=Ea F hm S hp hn hbd fun cdv A outer s H E hr=>(hb cdv A outer s H E hr).h
theorem E4 {x qual:Str} {st:Stmt} {f:Addr} {fd:FuncData} {N ps:List Str} {k np nn:Nat} {c:Sx} (F:Fun K x qual st f fd) (S:FnScope N ps (ao st)) (hp:ps.length=np) (hn:N.length=nn)
  (hb:∀ (cdv:Value) (A:Around) (outer:List PySem.Env) (s:Shared) (H:Hp) (E:XK),Room k (A.deeper (envOfC qual (ao st) s.heap.objs.size f cdv))->Q (fE G (mI CX0 P w K mg base N qual (ao st) f cdv A outer s H E).nox (aM st) c)) :
  FnOk P w K mg base CX0 (k+1) f fd ps (spF G (fn np nn c)):=fnV F S hp hn fun cdv A outer s H E hr=>(hb cdv A outer s H E hr).h
end
end VS
end
section
namespace T21
open VS
noncomputable def gS:Fn:=fn 1 1
  (fH (iI (eIs .int (ah 0)) (gq (eIs .bool (ah 0)))))
noncomputable def bX:Sx :=
  (au (aN 4 (eN jg (af (e2 bq (e2 bq (ah 0) (e2 bq (ah 2) (eC (.int (-1))))) (eC (.int 3))) av)))
  (au (sIf (e2 fG (ah 3) (ah 4)) (gG 2) iF)
  (sX (j5 2 [] aV (af (e2 oIx (ah 4) (ah 3)) av)))))
noncomputable def je:Fn:=fn 2 5
  (au (hU 2 (eO (af (eC (.int 0)) av)))
  (au (dG (bg 3) (fS (ah 1)) bX)
  (gG 2)))
noncomputable def bP:Fn:=fn 2 2
  (sIf (eOr (gq (aL gS (af (ah 1) av))) (gq (ij oLe oLt (eC (.int 0)) (ah 1) (eN fz (af (ah 0) av))))) sNo iF)
noncomputable def fO:Sx :=
  (au (sX (j5 2 [] aV (af (ah 1) av)))
  (aN 1 (e2 bq (e2 bq (ah 0) (ah 1)) (eC (.int 2)))))
noncomputable def iZ:Fn:=fn 2 3
  (au (sX (xP (aL bP (af (ah 0) (af (ah 1) av)))))
  (au (hU 2 (eO av))
  (au (qN (kZ (ah 1)) fO)
  (gG 2))))
noncomputable def eg:Sx :=
  (sX (mR 2 (ah 7) (af (jT (af (ah 3) (af (ah 5) av))) av)))
noncomputable def d7:Sx :=
  (dG (bg 7) (fS (aL iZ (af (ah 1) (af (ah 6) av)))) eg)
noncomputable def d5:Sx :=
  (dG (jM [(bg 5),(bg 6)]) (ir (aL je (af (ah 1) (af (ah 4) av)))) d7)
noncomputable def dW:Fn:=fn 2 8
  (au (hU 2 (dX 1 (bg 0) (fS (ah 1)) none (eO av)))
  (au (dG (jM [(bg 3),(bg 4)]) (ir (ah 0)) d5)
  (gG 2)))
noncomputable def eS:Fn:=fn 2 2
  (au (sIf (e2 oLt (ah 1) (eN fz (af (ah 0) av))) (fH (e2 bq (ah 0) (ah 1))) iF)
  (fH (eC (.int 0))))
noncomputable def aw:Fn:=fn 2 4
  (au (aN 2 (eC (.int 7)))
  (au (sIf (e2 oGt (eN fz (af (ah 0) av)) (eC (.int 0))) (aN 2 (e2 bq (ah 0) (e2 oMod (ah 1) (eN fz (af (ah 0) av))))) iF)
  (au (aN 3 (e2 oMod (e2 ft (e2 bZ (e2 bZ (e2 oMod (ah 2) (eC (.int 2147483629))) (e2 ft (eC (.int 40503)) (ah 1))) (eC (.int 1))) (eC (.int 48271))) (eC (.int 2147483647))))
  (au (aN 3 (e2 oMod (e2 ft (ah 3) (ah 3)) (eC (.int 2147483629))))
  (au (aN 3 (e2 oMod (e2 ft (e2 bZ (ah 3) (ah 1)) (eC (.int 69621))) (eC (.int 2147483587))))
  (fH (e2 gf (e2 oMod (e2 ft (ah 3) (ah 3)) (eC (.int 2147483563))) (eC (.int 3)))))))))
noncomputable def bE:Fn:=fn 1 3
  (au (aN 1 (e2 oMod (ah 0) (eC (.int 26))))
  (au (aN 2 (e2 bq (eO (af (eC (.int 1)) (af (eC (.int 3)) (af (eC (.int 5)) (af (eC (.int 7)) (af (eC (.int 9)) av)))))) (e2 oMod (e2 gf (ah 0) (eC (.int 26))) (eC (.int 5)))))
  (fH (dX 1 (bg 0) (cw (eC (.int 26))) none (e2 bq (eC (.str [97,98,99,100,101,102,103,104,105,106,107,108,109,110,111,112,113,114,115,116,117,118,119,120,121,122])) (e2 oMod (e2 bZ (ah 2) (e2 ft (ah 3) (ah 0))) (eC (.int 26))))))))
noncomputable def dA:Sx :=
  (au (aN 8 (e2 bZ (ah 8) (e2 bq (ah 1) (e2 oMod (ah 0) (ah 2)))))
  (aN 0 (e2 gf (ah 0) (ah 2))))
noncomputable def cq:Sx :=
  (au (aN 7 (eN mO (af (ah 4) (af (e2 oMod (ah 0) (eC (.int 25))) av))))
  (au (aN 0 (e2 gf (ah 0) (eC (.int 25))))
  (au (aN 4 (e2 qk (ah 4) (ah 7)))
  (au (aN 8 (eC (.str [])))
  (au (dG (bg 9) (cw (ah 7)) dA)
  (sX (j5 5 [] aV (af (ah 8) av))))))))
noncomputable def cF:Fn:=fn 1 10
  (au (aN 1 (aL bE (af (ah 0) av)))
  (au (aN 2 (e2 bq (eO (af (eC (.int 1)) (af (eC (.int 2)) (af (eC (.int 3)) (af (eC (.int 4)) (af (eC (.int 2)) (af (eC (.int 3)) (af (eC (.int 4)) (af (eC (.int 26)) av))))))))) (e2 oMod (e2 gf (ah 0) (eC (.int 130))) (eC (.int 8)))))
  (au (aN 3 (e2 oMod (e2 gf (ah 0) (eC (.int 1040))) (eC (.int 5))))
  (au (aN 0 (e2 gf (ah 0) (eC (.int 5200))))
  (au (aN 4 (eC (.int 24)))
  (au (hU 5 (eO av))
  (au (dG (bg 6) (cw (ah 3)) cq)
  (gG 5))))))))
noncomputable def cm:Sx :=
  (au (aN 11 (aL aw (af (ah 0) (af (e2 bZ (e2 bZ (e2 ft (eC (.int 20)) (ah 6)) (eC (.int 6))) (ah 10)) av))))
  (sIf (iI (e2 oGe (eN fz (af (ah 9) av)) (ah 8)) (e2 oGt (e2 oMod (ah 11) (eC (.int 4))) (eC (.int 0)))) (aN 9 (e2 bZ (ah 9) (e2 bq (ah 9) (e2 qk (eN fz (af (ah 9) av)) (ah 8))))) (aN 9 (e2 bZ (ah 9) (e2 bq (ah 2) (e2 oMod (e2 gf (ah 11) (eC (.int 4))) (ah 3)))))))
noncomputable def cp:Sx :=
  (au (aN 7 (eN mO (af (ah 4) (af (e2 oMod (aL aw (af (ah 0) (af (e2 bZ (e2 ft (eC (.int 20)) (ah 6)) (eC (.int 4))) av))) (e2 bZ (ah 1) (eC (.int 1)))) av))))
  (au (aN 4 (e2 qk (ah 4) (ah 7)))
  (au (aN 8 (e2 bZ (eC (.int 1)) (e2 oMod (aL aw (af (ah 0) (af (e2 bZ (e2 ft (eC (.int 20)) (ah 6)) (eC (.int 5))) av))) (eC (.int 5)))))
  (au (aN 9 (eC (.str [])))
  (au (dG (bg 10) (cw (ah 7)) cm)
  (au (sX (j5 5 [] aV (af (ah 9) av)))
  (sIf (iI (e2 oGt (ah 7) (eC (.int 2))) (iI (e2 oEq (e2 oMod (aL aw (af (ah 0) (af (e2 bZ (e2 ft (eC (.int 20)) (ah 6)) (eC (.int 5))) av))) (eC (.int 3))) (eC (.int 0))) (e2 oGe (ah 4) (eC (.int 2))))) (au (sX (j5 5 [] aV (af (eSl (ah 9) (some (eC (.int 1))) (some (eC (.int 3)))) av)))
  (aN 4 (e2 qk (ah 4) (eC (.int 2))))) iF)))))))
noncomputable def cy:Fn:=fn 2 12
  (au (aN 2 (aL bE (af (aL aw (af (ah 0) (af (eC (.int 1)) av))) av)))
  (au (aN 3 (e2 bq (eO (af (eC (.int 1)) (af (eC (.int 2)) (af (eC (.int 3)) (af (eC (.int 4)) (af (eC (.int 2)) (af (eC (.int 3)) (af (eC (.int 9)) (af (eC (.int 26)) av))))))))) (e2 oMod (aL aw (af (ah 0) (af (eC (.int 2)) av))) (eC (.int 8)))))
  (au (aN 4 (ah 1))
  (au (hU 5 (eO av))
  (au (dG (bg 6) (cw (e2 oMod (aL aw (af (ah 0) (af (eC (.int 3)) av))) (eC (.int 6)))) cp)
  (au (wY 5)
  (fH (eSl (ah 5) none (some (eC (.int 8)))))))))))
noncomputable def dM:Fn:=fn 1 4
  (au (aN 1 (aL bE (af (aL aw (af (ah 0) (af (eC (.int 1)) av))) av)))
  (au (aN 2 (e2 lq (e2 bq (ah 1) (eC (.int 0))) (e2 bZ (eC (.int 100)) (e2 oMod (aL aw (af (ah 0) (af (eC (.int 2)) av))) (eC (.int 21))))))
  (au (sIf (e2 oEq (e2 oMod (aL aw (af (ah 0) (af (eC (.int 3)) av))) (eC (.int 2))) (eC (.int 0))) (au (aN 3 (e2 oMod (aL aw (af (ah 0) (af (eC (.int 4)) av))) (eN fz (af (ah 2) av))))
  (aN 2 (e2 bZ (e2 bZ (eSl (ah 2) none (some (ah 3))) (e2 bq (ah 1) (eC (.int 1)))) (eSl (ah 2) (some (e2 bZ (ah 3) (eC (.int 1)))) none)))) iF)
  (fH (eO (af (ah 2) av))))))
noncomputable def fY:Fn:=fn 2 2
  (au (sIf (e2 oEq (e2 oMod (aL eS (af (ah 0) (af (eC (.int 0)) av))) (eC (.int 2))) (eC (.int 0))) (fH (aL cF (af (e2 gf (aL eS (af (ah 0) (af (eC (.int 0)) av))) (eC (.int 2))) av))) iF)
  (au (sIf (iI (e2 oGt (ah 1) (eC (.int 30))) (e2 oEq (e2 oMod (aL aw (af (ah 0) (af (eC (.int 5)) av))) (eC (.int 16))) (eC (.int 0)))) (fH (aL dM (af (ah 0) av))) iF)
  (fH (aL cy (af (ah 0) (af (e2 bq (eO (af (eC (.int 24)) (af (eC (.int 24)) (af (eC (.int 24)) (af (ah 1) av))))) (e2 oMod (aL aw (af (ah 0) (af (eC (.int 0)) av))) (eC (.int 4)))) av))))))
noncomputable def dy:Sx :=
  (iR 1 (eSl (ah 3) (some (ah 5)) (some (ah 4))) (af (jT (af (ah 2) (af (ah 4) av))) av))
noncomputable def dw:Sx :=
  (dG (bg 5) (cw (e2 bZ (ah 4) (eC (.int 1)))) dy)
noncomputable def cz:Sx :=
  (dG (bg 4) (cw (e2 bZ (eN fz (af (ah 3) av)) (eC (.int 1)))) dw)
noncomputable def cY:Fn:=fn 1 6
  (au (hU 1 (ly 0 [((eC (.str [])),(eO av))]))
  (au (dG (jM [(bg 2),(bg 3)]) (ir (ah 0)) cz)
  (gG 1)))
noncomputable def eU:Fn:=fn 1 1
  (fH (jT (af (eN fz (af (ah 0) av)) (af (ah 0) av))))
noncomputable def dz:Sx :=
  (gE 1 (eN gy (af (e2 oIx (ah 0) (ah 2)) av)) (af (ah 2) av))
noncomputable def cZ:Fn:=fn 1 3
  (au (hU 1 (ly 2 []))
  (au (dG (bg 2) (fS (eN jc (af (ah 0) av))) dz)
  (jz 1)))
noncomputable def dj:Sx :=
  (ny 1 (ah 4) (ah 2))
noncomputable def eE:Sx :=
  (dG (bg 4) (fS (ah 3)) dj)
noncomputable def cJ:Fn:=fn 1 5
  (au (hU 1 (ly 0 []))
  (au (dG (jM [(bg 2),(bg 3)]) (ir (ah 0)) eE)
  (gG 1)))
noncomputable def iD:Sx :=
  (sIf (e2 ml (e2 bZ (e2 bq (ah 3) (eC (.int 0))) (ah 5)) (ah 1)) (sX (j5 4 [] aV (af (jT (af (ah 5) (af (e2 oIx (ah 1) (e2 bZ (e2 bq (ah 3) (eC (.int 0))) (ah 5))) av))) av))) iF)
noncomputable def eu:Sx :=
  (au (hU 4 (eO av))
  (au (dG (bg 5) (fS (eC (.str [97,98,99,100,101,102,103,104,105,106,107,108,109,110,111,112,113,114,115,116,117,118,119,120,121,122]))) iD)
  (au (wY 4)
  (au (aN 6 (eC .non))
  (au (sIf (e2 oNe (e2 bq (ah 3) (eC (.int 0))) (eC (.str []))) (aN 6 (e2 oIx (ah 1) (eSl (e2 bq (ah 3) (eC (.int 0))) (some (eC (.int 1))) none))) iF)
  (sX (j5 2 [] aV (af (jT (af (eN fz (af (e2 bq (ah 3) (eC (.int 0))) av)) (af (eN fz (af (e2 bq (ah 3) (eC (.int (-1)))) av)) (af (ah 6) (af (eN gy (af (ah 4) av)) av))))) av))))))))
noncomputable def dN:Fn:=fn 2 7
  (au (hU 2 (eO av))
  (au (dG (bg 3) (fS (ah 0)) eu)
  (gG 2)))
noncomputable def d3:Fn:=fn 1 1
  (fH (iI (eIs .tuple (ah 0)) (iI (e2 oEq (eN fz (af (ah 0) av)) (eC (.int 2))) (e2 oEq (eN fz (af (dX 1 (bg 0) (fS (ah 0)) (some (eIs .bool (ah 0))) (ah 0)) av)) (eC (.int 0))))))
noncomputable def fZ:Sx :=
  (sIf (eOr (gq (eIs .list (ah 2))) (e2 oGt (eN fz (af (dX 1 (bg 0) (fS (ah 2)) (some (gq (aL d3 (af (ah 0) av)))) (ah 0)) av)) (eC (.int 0)))) (fH (eC (.bl false))) iF)
noncomputable def cV:Fn:=fn 2 3
  (au (sIf (eOr (gq (eIs .list (ah 0))) (e2 oNe (ah 0) (ah 1))) (fH (eC (.bl false))) iF)
  (au (dG (bg 2) (fS (ah 0)) fZ)
  (fH (eC (.bl true)))))
noncomputable def fT:Sx :=
  (au (aN 6 (eO (af (eN eD (af (ah 0) av)) (af (eN eD (af (ah 3) av)) av))))
  (au (hU 7 (aL dW (af (e2 bq (ah 6) (eC (.int 0))) (af (e2 bq (ah 6) (eC (.int 1))) av))))
  (au (sIf (eOr (gq (aL cV (af (ah 7) (af (ah 4) av)))) (e2 oNe (ah 6) (eO (af (ah 0) (af (ah 3) av))))) (fH (eC (.bl false))) iF)
  (au (sy 7 8 (af (jT (af (eC (.int 0)) (af (eC (.int 0)) av))) av))
  (sX (j5 7 [] aV (af (eO av) av)))))))
noncomputable def bx:Fn:=fn 1 9
  (au (aN 1 (aL cY (af (ah 0) av)))
  (au (aN 2 (aL cZ (af (ah 1) av)))
  (au (aN 3 (aL dN (af (ah 2) (af (aL cJ (af (ah 2) av)) av))))
  (au (aN 4 (dX 1 (bg 0) (fS (ah 2)) none (e2 oIx (ah 2) (e2 bq (ah 0) (eC (.int 0))))))
  (au (dG (bg 5) (cw (eC (.int 2))) fT)
  (fH (eC (.bl true))))))))
noncomputable def qq:Fn:=fn 1 2
  (au (aN 1 (aL fY (af (ah 0) (af (eC (.int 60)) av))))
  (fH (iI (aL bx (af (ah 1) av)) (iI (aL bx (af (tf (ah 1) none none (some (eC (.int (-1))))) av)) (aL bx (af (eSl (ah 1) (some (eC (.int 1))) none) av))))))
theorem mh (t:Tx) (h:i4 t):eU [.str t]=some (.fr,.tup [.int t.length,.str t]):=by
 have h1:=h.1
 simp [eU,fn,fz,De,qz]
 rw [Zs (by decide)]
 rfl
theorem e2v {f:Val->Val->Vm} {a b:Ex} {η:Env} {x y z:Val} (h1:a η=some x) (h2:b η=some y) (h3:f x y=some z):e2 f a b η=some z:=by
 show (a η).bind _=_
 rw [h1,Zn,h2]
 exact h3
theorem xv {a:Ex} {r:Exs} {η:Env} {x:Val} {xs:Vn} (h1:a η=some x) (h2:r η=some xs):af a r η=some (x :: xs):=by
 show (a η).bind _=_
 rw [h1,Zn,h2]
 rfl
theorem mH {c:Ex} {a b:Sx} {η:Env} {m:Md} (h:c η=some (m,.bl true)):sIf c a b η=a η:=by
 show (c η).bind _=_
 rw [h]
 rfl
theorem kg {c:Ex} {a b:Sx} {η:Env} {m:Md} (h:c η=some (m,.bl false)):sIf c a b η=b η:=by
 show (c η).bind _=_
 rw [h]
 rfl
theorem kA {f:Vn->Vm} {as:Exs} {η:Env} {xs:Vn} {v:Val} (h:as η=some xs) (h2:f xs=some v):eN f as η=some v:=by
 show (as η).bind f=_
 rw [h,Zn,h2]
theorem jh {e:Ex} {η:Env} {t:T} (h:e η=some (.fr,t)):fH e η=some (.rt (.fr,t) η):=by
 show (e η).bind _=_
 rw [h]
 rfl
theorem nW {a b:Sx} {η η1:Env} {v:Val} (h:a η=some (.rt v η1)):au a b η=some (.rt v η1):=by
 show (a η).bind _=_
 rw [h]
 rfl
theorem AU {n:Nat} {i:Int} (h0:0<=i) (h1:i < n):ixP n i=some i.toNat:=by rw [ixP,Zs h0,Zs h1]
theorem sJ {m n:Md} (l:Vq) (i:Int) (h0:0<=i) (h1:i < l.length):bq (m,.scr l) (n,.int i)=some (.fr,.int (l.getD i.toNat 0)):=by
 have b2:i.toNat < l.length:=by lia
 show (ixP l.length i).bind _=_
 rw [AU h0 h1,Zn,Z3,Za b2]
 rfl
theorem BQ (ns:Vq):∃ c,eS [.scr ns,.int 0]=some (.fr,.int c):=by
 cases ns with
 | cons a r =>
  have h2:(0:Int) < ((a :: r).length:Int):=by rw [Zg];lia
  exact ⟨_,vz [some (.pu (.scr (a :: r))),some (.pu (.int 0))] rfl rfl (nW ((mH (m:=.fr) (e2v (x:=(.fr,.int 0)) rfl (kA (xv rfl rfl) rfl) (congrArg (fun b=>some (Md.fr,T.bl b)) (decide_eq_true h2)))).trans (jh (e2v (x:=(.fr,.scr (a :: r))) rfl rfl (sJ _ 0 (by decide) h2)))))⟩
 | nil=>exact ⟨0,rfl⟩
theorem dv (ns:Vq) (k:Int) (h0:0<=k) (h1:k < 1000):∃ n,aw [.scr ns,.int k]=some (.fr,.int n)/\0<=n/\n < 2147483648:=by
 obtain ⟨c,hc⟩:∃ c,(sIf (e2 oGt (eN fz (af (ah 0) av)) (eC (.int 0))) (aN 2 (e2 bq (ah 0) (e2 oMod (ah 1) (eN fz (af (ah 0) av))))) iF) [some (.pu (.scr ns)),some (.pu (.int k)),some (.pu (.int 7)),none]=some (.nx [some (.pu (.scr ns)),some (.pu (.int k)),some (.pu (.int c)),none]):=by
  cases ns with
  | nil=>exact ⟨7,rfl⟩
  | cons a r =>
   have hp:(0:Int) < ((a :: r).length:Int):=by rw [Zg];lia
   exact ⟨_,(mH (m:=.fr) (e2v (kA (xv rfl rfl) rfl) rfl (congrArg (fun b=>some (Md.fr,T.bl b)) (decide_eq_true hp)))).trans (aJ (m:=.fr) (e2v (x:=(.fr,.scr (a :: r))) rfl (e2v (x:=(.fr,.int k)) rfl (kA (xv rfl rfl) rfl) (bh hp)) (sJ _ _ (ZC k (Int.ne_of_gt hp)) (ZP k hp))) (by decide) (by decide:2 < 4))⟩
 have a0:=ZC c (b:=2147483629) (by decide)
 have a1:=ZP c (b:=2147483629) (by decide)
 generalize hx1:c % 2147483629=x1 at a0 a1
 have b0:=ZC ((x1+40503 * k+1) * 48271) (b:=2147483647) (by decide)
 have b1:=ZP ((x1+40503 * k+1) * 48271) (b:=2147483647) (by decide)
 generalize hx2:(x1+40503 * k+1) * 48271 % 2147483647=x2 at b0 b1
 have c0:=ZC (x2 * x2) (b:=2147483629) (by decide)
 have c1:=ZP (x2 * x2) (b:=2147483629) (by decide)
 generalize hx3:x2 * x2 % 2147483629=x3 at c0 c1
 have d0:=ZC ((x3+k) * 69621) (b:=2147483587) (by decide)
 have d1:=ZP ((x3+k) * 69621) (b:=2147483587) (by decide)
 generalize hx4:(x3+k) * 69621 % 2147483587=x4 at d0 d1
 have e0:=ZC (x4 * x4) (b:=2147483563) (by decide)
 have e1:=ZP (x4 * x4) (b:=2147483563) (by decide)
 refine ⟨x4 * x4 % 2147483563 / 3,?_,by lia,by lia⟩
 have m1:∀ m n,ft (m,.int (x1+40503 * k+1)) (n,.int 48271)=some (.fr,.int ((x1+40503 * k+1) * 48271)):=fun m n=>ki (by lia)
 have m2:∀ m n,ft (m,.int x2) (n,.int x2)=some (.fr,.int (x2 * x2)):=fun m n=>ki (by lia)
 have m3:∀ m n,ft (m,.int (x3+k)) (n,.int 69621)=some (.fr,.int ((x3+k) * 69621)):=fun m n=>ki (by lia)
 have m4:∀ m n,ft (m,.int x4) (n,.int x4)=some (.fr,.int (x4 * x4)):=fun m n=>ki (by lia)
 have m0:∀ m n,ft (m,.int 40503) (n,.int k)=some (.fr,.int (40503 * k)):=fun m n=>ki (by decide)
 unfold aw
 refine vz [some (.pu (.scr ns)),some (.pu (.int k)),none,none] (η':=[some (.pu (.scr ns)),some (.pu (.int k)),some (.pu (.int c)),some (.pu (.int x4))]) rfl rfl ?_
 rw [fX (η':=[some (.pu (.scr ns)),some (.pu (.int k)),some (.pu (.int 7)),none]) rfl,fX hc]
 rw [fX (aJ (m:=.fr) (t:=.int x2) (e2v (e2v (e2v (e2v (e2v rfl rfl ((bh (by decide)).trans (by rw [hx1]))) (e2v rfl rfl (m0 _ _)) rfl) rfl rfl) rfl (m1 _ _)) rfl ((bh (by decide)).trans (by rw [hx2]))) (by decide) (by decide:3 < 4))]
 refine (show au _ _ [some (.pu (.scr ns)),some (.pu (.int k)),some (.pu (.int c)),some (.pu (.int x2))]=_ from ?_)
 rw [fX (aJ (m:=.fr) (t:=.int x3) (e2v (e2v rfl rfl (m2 _ _)) rfl ((bh (by decide)).trans (by rw [hx3]))) (by decide) (by decide:3 < 4))]
 refine (show au _ _ [some (.pu (.scr ns)),some (.pu (.int k)),some (.pu (.int c)),some (.pu (.int x3))]=_ from ?_)
 rw [fX (aJ (m:=.fr) (t:=.int x4) (e2v (e2v (e2v rfl rfl rfl) rfl (m3 _ _)) rfl ((bh (by decide)).trans (by rw [hx4]))) (by decide) (by decide:3 < 4))]
 refine (show fH _ [some (.pu (.scr ns)),some (.pu (.int k)),some (.pu (.int c)),some (.pu (.int x4))]=_ from ?_)
 refine jh ?_
 have r:=e2v (f:=gf) (η:=[some (.pu (.scr ns)),some (.pu (.int k)),some (.pu (.int c)),some (.pu (.int x4))]) (e2v (f:=oMod) (a:=e2 ft (ah 3) (ah 3)) (b:=eC (.int 2147483563)) (e2v rfl rfl (m4 _ _)) rfl (bh (by decide))) (show eC (.int 3) _=some (.fr,.int 3) from rfl) (fQ (by decide))
 exact r
noncomputable abbrev abc:Tx:=[97,98,99,100,101,102,103,104,105,106,107,108,109,110,111,112,113,114,115,116,117,118,119,120,121,122]
theorem wQ {m n:Md} (t:Tx) (i:Int) (h0:0<=i) (h1:i < t.length):bq (m,.str t) (n,.int i)=some (.fr,.str [t.getD i.toNat 0]):=by
 have b2:i.toNat < t.length:=by lia
 show (ixP t.length i).bind _=_
 rw [AU h0 h1,Zn,Z3,Za b2]
 rfl
theorem By (i:Nat) (h:i < 26):97<=abc.getD i 0/\abc.getD i 0<=122:=by
 have:∀ i,i < 26->97<=abc.getD i 0/\abc.getD i 0<=122:=by decide
 exact this i h
theorem oj (c:Int):∃ sg:Vr,bE [.int c]=some (.fr,.lst (sg.map fun x=>T.str [x]))/\sg.length=26/\∀ x∈sg,97<=x/\x<=122:=by
 have a0:=ZC (c / 26) (b:=5) (by decide)
 have a1:=ZP (c / 26) (b:=5) (by decide)
 have li:=lZ (m:=.fr) (n:=.fr) T.int [1,3,5,7,9] (c / 26 % 5) 0 a0 (by simpa using a1) rfl
 simp only [Zt,YX] at li
 obtain ⟨st,hst,s0,s1⟩:∃ st:Int,List.getD [1,3,5,7,9] (c / 26 % 5).toNat 0=st/\0<=st/\st < 10:=by
  have pk:∀ i,i < 5->0<=(List.getD [1,3,5,7,9] i 0:Int)/\(List.getD [1,3,5,7,9] i 0:Int) < 10:=by decide
  have h:=pk (c / 26 % 5).toNat (by lia)
  exact ⟨_,rfl,h.1,h.2⟩
 rw [hst] at li
 have k0:=ZC c (b:=26) (by decide)
 have k1:=ZP c (b:=26) (by decide)
 generalize hs:c % 26=s at k0 k1
 have comp:=nq (k:=1) (tg:=bg 0) (it:=cw (eC (.int 26))) (elt:=e2 bq (eC (.str abc)) (e2 oMod (e2 bZ (ah 2) (e2 ft (ah 3) (ah 0))) (eC (.int 26))))
  (η:=[some (.pu (.int c)),some (.pu (.int s)),some (.pu (.int st))]) (m:=.fr) (fun (j:Nat)=>T.int (j:Int)) (fun j:Nat=>T.str [abc.getD ((s+st * (j:Int)) % 26).toNat 0]) (List.range 26)
  (by rw [kT (m:=.fr) (j:=26) rfl (by lia),pW];rfl) rfl (by decide) (fun j hj=>⟨[some (.pu (.int j)),some (.pu (.int c)),some (.pu (.int s)),some (.pu (.int st))],rfl,by
   have e0:=ZC (s+st * (j:Int)) (b:=26) (by decide)
   have e1:=ZP (s+st * (j:Int)) (b:=26) (by decide)
   have ix:=wQ (m:=.fr) (n:=.fr) abc ((s+st * (j:Int)) % 26) e0 (by exact e1)
   have mu:∀ m n,ft (m,.int st) (n,.int (j:Int))=some (.fr,.int (st * (j:Int))):=fun m n=>ki (by lia)
   exact e2v (x:=(.fr,.str abc)) rfl (e2v (x:=(.fr,.int (s+st * (j:Int)))) (e2v (x:=(.fr,.int s)) rfl (e2v (x:=(.fr,.int st)) rfl rfl (mu _ _)) rfl) rfl (bh (by decide))) ix⟩)
 refine ⟨(List.range 26).map fun j:Nat=>abc.getD ((s+st * (j:Int)) % 26).toNat 0,?_,by simp,fun x hx=>?_⟩
 ·unfold bE
  refine vz [some (.pu (.int c)),none,none] (η':=[some (.pu (.int c)),some (.pu (.int s)),some (.pu (.int st))]) rfl rfl ?_
  rw [fX (η':=[some (.pu (.int c)),some (.pu (.int s)),none]) (aJ (m:=.fr) (e2v (x:=(.fr,.int c)) rfl rfl ((bh (by decide)).trans (by rw [hs]))) (by decide) (by decide:1 < 3)),
   fX (η':=[some (.pu (.int c)),some (.pu (.int s)),some (.pu (.int st))]) (aJ (m:=.fr) (e2v rfl (e2v (e2v (x:=(.fr,.int c)) rfl rfl (fQ (by decide))) rfl (bh (by decide))) li) (by decide) (by decide:2 < 3))]
  refine (jh comp).trans ?_
  rw [Ya]
  rfl
 ·obtain ⟨j,_,rfl⟩:=Yz.mp hx
  have e0:=ZC (s+st * (j:Int)) (b:=26) (by decide)
  have e1:=ZP (s+st * (j:Int)) (b:=26) (by decide)
  exact By _ (by lia)
noncomputable def Az (t:Vr):Prop:=∀ x∈t,97<=x/\x<=122
theorem Az.app {s t:Vr} (a:Az s) (b:Az t):Az (s++t):=fun x hx=>(Zd.mp hx).elim (a x) (b x)
noncomputable abbrev sgT (sg:Vr):T:=.lst (sg.map fun x=>T.str [x])
theorem nH {m n:Md} (sg:Vr) (i:Int) (h0:0<=i) (h1:i < sg.length):bq (m,sgT sg) (n,.int i)=some (.fr,.str [sg.getD i.toNat 0]):=lZ (fun x=>T.str [x]) sg i 0 h0 h1 rfl
theorem jv {sg:Vr} (h:Az sg) {i:Nat} (hi:i < sg.length):Az [sg.getD i 0]:=fun x hx=>by
 rw [Zj.mp hx,Z3,Za hi]
 exact h _ (Xc hi)
noncomputable abbrev ED (c:Int) (sg:Vr) (so many room:Int) (bk:Vl) (z6 z7 z8 z9:Vo):Env:=[some (.pu (.int c)),some (.pu (sgT sg)),some (.pu (.int so)),some (.pu (.int many)),some (.pu (.int room)),some (.ow (.lst bk)),z6,z7,z8,z9]
theorem aq {a b:Sx} {η η1:Env} (h:a η=some (.nx η1)):au a b η=b η1:=by simp [au,h]
theorem E9 (sg:Vr) (hsg:Az sg) (so many room size:Int) (h0:0 < so) (h1:so<=sg.length) (h2:so < 1000) (bk:Vl) (k6:Vo) (ks:Vr):∀ (c:Int) (t:Tx) (z:Vo),t.length+ks.length<=1000->Az t →
  ∃ c' t' z',forL (bg 9) dA (ks.map fun (k:Nat)=>T.int (k:Int)) (ED c sg so many room bk k6 (some (.pu (.int size))) (some (.pu (.str t))) z)=some (.nx (ED c' sg so many room bk k6 (some (.pu (.int size))) (some (.pu (.str t'))) z'))/\t'.length=t.length+ks.length/\Az t':=by
 induction ks with
 | nil=>exact fun c t z _ ht=>⟨c,t,z,rfl,rfl,ht⟩
 | cons k ks ih =>
  intro c t z hl ht
  have e0:=ZC c (b:=so) (by lia)
  have e1:=ZP c (b:=so) h0
  rw [Zg] at hl
  have ad:bZ (.fr,.str t) (.fr,.str [sg.getD (c % so).toNat 0])=some (.fr,.str (t++[sg.getD (c % so).toNat 0])):=iN (show t.length+1<=16777216 by lia)
  obtain ⟨c',t',z',e,hl',ht'⟩:=ih (c / so) (t++[sg.getD (c % so).toNat 0]) (some (.pu (.int k))) (by rw [Zu,ZX];lia) (ht.app (jv hsg (by lia)))
  refine ⟨c',t',z',?_,by rw [hl',Zu,ZX,Zg];lia,ht'⟩
  rw [Zt,bB (η1:=ED c sg so many room bk k6 (some (.pu (.int size))) (some (.pu (.str t))) (some (.pu (.int k)))) (η2:=ED (c / so) sg so many room bk k6 (some (.pu (.int size))) (some (.pu (.str (t++[sg.getD (c % so).toNat 0])))) (some (.pu (.int k)))) rfl (by
   unfold dA
   rw [aq (η1:=ED c sg so many room bk k6 (some (.pu (.int size))) (some (.pu (.str (t++[sg.getD (c % so).toNat 0])))) (some (.pu (.int k)))) (aJ (m:=.fr) (e2v (x:=(.fr,.str t)) rfl (e2v (x:=(.pu,sgT sg)) rfl (e2v rfl rfl (bh h0)) (nH sg _ e0 (by lia))) ad) (by decide) (by decide:8 < 10))]
   exact aJ (m:=.fr) (e2v rfl rfl (fQ (show 0 < so/\so < 1073741824 by lia))) (by decide) (by decide:0 < 10)),e]
structure Bk (most:Nat) (bk:List Tx):Prop where
 n:bk.flatten.length<=most
 az:∀ t∈bk,Az t
theorem Bk.snoc {m m':Nat} {bk:List Tx} {t:Tx} (B:Bk m bk) (h:m+t.length<=m') (ht:Az t):Bk m' (bk++[t]):=by
 refine ⟨?_,fun s hs=>?_⟩
 ·have:=B.n
  rw [Z5,Zu,show [t].flatten=t by simp]
  lia
 ·rcases Zd.mp hs with hs | hs
  ·exact B.az s hs
  ·rw [Zj.mp hs];exact ht
theorem nA {a:Ex} {η:Env} {m:Md} {n:Nat} (e:a η=some (m,.int (n:Int))) (h:n < 100000):cw a η=some (.fr,(List.range n).map fun (k:Nat)=>T.int (k:Int)):=by
 rw [kT e (by lia),pW]
 rfl
theorem fB {tg:Tg} {it:Its} {body:Sx} {η:Env} {l:Vl} (h:it η=some (.fr,l)):dG tg it body η=forL tg body l η:=by
 simp [dG,h]
theorem iH {i:Nat} {η:Env} {l:Vl} {t:T} {e:Ex} (h:η[i]?=some (some (.ow (.lst l)))) (he:e η=some (.fr,t)) (hl:l.length < 16777216):(sX (j5 i [] aV (af e av))) η=some (.nx (η.set i (some (.ow (.lst (l++[t])))))):=by
 simp [h,he,dB hl]
theorem tV (sg:Vr) (hsg:Az sg) (so many:Int) (h0:0 < so) (h1:so<=sg.length) (h2:so < 1000) (k:Nat) (c:Int) (room:Nat) (bk:List Tx) (z7 z8 z9:Vo) (hr:room<=24) (B:Bk (24 - room) bk) (hl:bk.length < 1000) :
  ∃ (c1:Int) (sz:Nat) (t1:Tx) (z1:Vo),sz<=room/\Bk (24 - (room - sz)) (bk++[t1])/\cq (ED c sg so many room (bk.map T.str) (some (.pu (.int k))) z7 z8 z9)=some (.nx (ED c1 sg so many ((room - sz:Nat):Int) ((bk++[t1]).map T.str) (some (.pu (.int k))) (some (.pu (.int sz))) (some (.pu (.str t1))) z1)):=by
 have e0:=ZC c (b:=25) (by decide)
 have e1:=ZP c (b:=25) (by decide)
 obtain ⟨sz,hsz,hsr,hs2⟩:∃ sz:Nat,(if c % 25 < (room:Int) then c % 25 else (room:Int))=(sz:Int)/\sz<=room/\sz<=24:=by
  by_cases h:c % 25 < (room:Int)
  ·exact ⟨(c % 25).toNat,by rw [Zs h];lia,by lia,by lia⟩
  ·exact ⟨room,by rw [Zp h],Zr _,hr⟩
 have er:((room:Int) - (sz:Int))=((room - sz:Nat):Int):=by lia
 generalize ht:(room - sz:Nat)=r1 at er
 obtain ⟨c1,t1,z1,ee,hl1,ht1⟩:=E9 sg hsg so many (r1:Int) (sz:Int) h0 h1 h2 (bk.map T.str) (some (.pu (.int k))) (List.range sz) (c / 25) [] z9 (by rw [Z0,YW];lia) (fun x hx=>nomatch hx)
 rw [Z0,YW,Xu] at hl1
 refine ⟨c1,sz,t1,z1,hsr,B.snoc (by lia) ht1,?_⟩
 rw [ht]
 unfold cq
 rw [aq (η1:=ED c sg so many room (bk.map T.str) (some (.pu (.int k))) (some (.pu (.int sz))) z8 z9) (aJ (m:=.fr) (t:=.int sz) (by rw [← hsz];rfl) (by decide) (by decide:7 < 10))]
 rw [aq (η1:=ED (c / 25) sg so many room (bk.map T.str) (some (.pu (.int k))) (some (.pu (.int sz))) z8 z9) rfl]
 rw [aq (η1:=ED (c / 25) sg so many r1 (bk.map T.str) (some (.pu (.int k))) (some (.pu (.int sz))) z8 z9) (aJ (m:=.fr) (t:=.int r1) (by rw [← er];rfl) (by decide) (by decide:4 < 10))]
 rw [aq (η1:=ED (c / 25) sg so many r1 (bk.map T.str) (some (.pu (.int k))) (some (.pu (.int sz))) (some (.pu (.str []))) z9) rfl]
 rw [aq (η1:=ED c1 sg so many r1 (bk.map T.str) (some (.pu (.int k))) (some (.pu (.int sz))) (some (.pu (.str t1))) z1) (by rw [fB (nA (m:=.fr) (n:=sz) rfl (by lia))];exact ee)]
 rw [iH (l:=bk.map T.str) (t:=.str t1) rfl rfl (by rw [Zv];lia),Yu]
 rfl
theorem E7 (sg:Vr) (hsg:Az sg) (so many:Int) (h0:0 < so) (h1:so<=sg.length) (h2:so < 1000) (ks:Vr):∀ (c:Int) (room:Nat) (bk:List Tx) (z6 z7 z8 z9:Vo),room<=24->Bk (24 - room) bk->bk.length+ks.length<=1000 →
  ∃ c' r' bk' z6' z7' z8' z9',forL (bg 6) cq (ks.map fun (k:Nat)=>T.int (k:Int)) (ED c sg so many room (bk.map T.str) z6 z7 z8 z9)=some (.nx (ED c' sg so many r' (bk'.map T.str) z6' z7' z8' z9'))/\Bk 24 bk'/\bk'.length=bk.length+ks.length:=by
 induction ks with
 | nil=>exact fun c room bk z6 z7 z8 z9 hr B _=>⟨c,room,bk,z6,z7,z8,z9,rfl,⟨ZW B.n (YS _ _),B.az⟩,rfl⟩
 | cons k ks ih =>
  intro c room bk z6 z7 z8 z9 hr B hl
  rw [Zg] at hl
  obtain ⟨c1,sz,t1,z1,hsr,B1,eb⟩:=tV sg hsg so many h0 h1 h2 k c room bk z7 z8 z9 hr B (by lia)
  obtain ⟨c',r',bk',z6',z7',z8',z9',e,B',hl'⟩:=ih c1 (room - sz) (bk++[t1]) (some (.pu (.int k))) (some (.pu (.int sz))) (some (.pu (.str t1))) z1 (ZW (YS _ _) hr) B1 (by rw [Zu,ZX];lia)
  refine ⟨c',r',bk',z6',z7',z8',z9',?_,B',by rw [hl',Zu,ZX,Zg];lia⟩
  rw [Zt,bB rfl eb,e]
theorem eA {np nn:Nat} {b:Sx} {ts:Vl} {v:Val} {η:Env} (hl:ts.length=np) (h:b (ts.map (fun t=>some (.pu t))++List.replicate (nn - np) none)=some (.rt v η)):fn np nn b ts=some v:=by
 unfold fn
 rw [Zs hl]
 subst hl
 rw [h]
 rfl
theorem wz (c:Int):∃ bk:List Tx,cF [.int c]=some (.fr,.lst (bk.map T.str))/\Bk 24 bk/\bk.length<=4:=by
 obtain ⟨sg,hs,hl,haz⟩:=oj c
 have a0:=ZC (c / 130) (b:=8) (by decide)
 have a1:=ZP (c / 130) (b:=8) (by decide)
 have li:bq (.fr,.lst [.int 1,.int 2,.int 3,.int 4,.int 2,.int 3,.int 4,.int 26]) (.fr,.int (c / 130 % 8))=_:=lZ T.int [1,2,3,4,2,3,4,26] (c / 130 % 8) 0 a0 a1 rfl
 obtain ⟨so,hso,s0,s1⟩:∃ so:Int,List.getD [1,2,3,4,2,3,4,26] (c / 130 % 8).toNat 0=so/\0 < so/\so<=26:=by
  have pk:∀ i,i < 8->0 < (List.getD [1,2,3,4,2,3,4,26] i 0:Int)/\(List.getD [1,2,3,4,2,3,4,26] i 0:Int)<=26:=by decide
  have h:=pk (c / 130 % 8).toNat (by lia)
  exact ⟨_,rfl,h.1,h.2⟩
 rw [hso] at li
 have b0:=ZC (c / 1040) (b:=5) (by decide)
 have b1:=ZP (c / 1040) (b:=5) (by decide)
 obtain ⟨mn,hmn,m1⟩:∃ mn:Nat,c / 1040 % 5=(mn:Int)/\mn<=4:=⟨(c / 1040 % 5).toNat,by lia,by lia⟩
 obtain ⟨c',r',bk',z6',z7',z8',z9',e,B',hl'⟩:=E7 sg haz so mn s0 (by lia) (by lia) (List.range mn) (c / 5200) 24 [] none none none none (Zr _) ⟨ZO _,fun t ht=>nomatch ht⟩ (by rw [Z0,YW];lia)
 rw [Z0,YW,Xu] at hl'
 refine ⟨bk',?_,B',by lia⟩
 unfold cF
 refine eA rfl (η:=[some (.pu (.int c')),some (.pu (sgT sg)),some (.pu (.int so)),some (.pu (.int mn)),some (.pu (.int r')),none,z6',z7',z8',z9']) ?_
 refine (show au _ _ [some (.pu (.int c)),none,none,none,none,none,none,none,none,none]=_ from ?_)
 rw [aq (η1:=[some (.pu (.int c)),some (.pu (sgT sg)),none,none,none,none,none,none,none,none]) (aJ (aP (xs:=[(.fr,.int c)]) rfl hs) (by decide) (by decide:1 < 10))]
 rw [aq (η1:=[some (.pu (.int c)),some (.pu (sgT sg)),some (.pu (.int so)),none,none,none,none,none,none,none]) (aJ (m:=.fr) (e2v rfl (e2v (e2v rfl rfl (fQ (j:=130) (by decide))) rfl (bh (j:=8) (by decide))) li) (by decide) (by decide:2 < 10))]
 rw [aq (η1:=[some (.pu (.int c)),some (.pu (sgT sg)),some (.pu (.int so)),some (.pu (.int mn)),none,none,none,none,none,none]) (aJ (m:=.fr) (e2v (e2v rfl rfl (fQ (j:=1040) (by decide))) rfl (by rw [← hmn];exact bh (j:=5) (by decide))) (by decide) (by decide:3 < 10))]
 rw [aq (η1:=[some (.pu (.int (c / 5200))),some (.pu (sgT sg)),some (.pu (.int so)),some (.pu (.int mn)),none,none,none,none,none,none]) rfl]
 rw [aq (η1:=[some (.pu (.int (c / 5200))),some (.pu (sgT sg)),some (.pu (.int so)),some (.pu (.int mn)),some (.pu (.int ((24:Nat):Int))),none,none,none,none,none]) rfl]
 rw [aq (η1:=ED (c / 5200) sg so mn ((24:Nat):Int) (([]:List Tx).map T.str) none none none none) rfl]
 rw [aq (show dG _ _ _ _=_ from by
  rw [fB (nA (m:=.fr) (n:=mn) rfl (by lia))]
  exact e)]
 rfl
noncomputable abbrev EM (ns:Vq) (sg:Vr) (most so room:Int) (bk:Vl) (k:Nat) (z7 z8 z9 z10 z11:Vo):Env:=[some (.pu (.scr ns)),some (.pu (.int most)),some (.pu (sgT sg)),some (.pu (.int so)),some (.pu (.int room)),some (.ow (.lst bk)),some (.pu (.int k)),z7,z8,z9,z10,z11]
noncomputable abbrev cI (i:Int):Vo:=some (.pu (.int i))
noncomputable abbrev cS (t:Tx):Vo:=some (.pu (.str t))
theorem ie {a b:Ex} {η:Env} {x y:Bool} (h1:a η=some (.fr,.bl x)) (h2:b η=some (.fr,.bl y)):iI a b η=some (.fr,.bl (x && y)):=by
 unfold iI
 rw [h1,Zn]
 cases x with
 | true=>exact h2
 | false=>rfl
theorem ux (ns:Vq) (sg:Vr) (hsg:Az sg) (most so room size:Int) (h0:0 < so) (h1:so<=sg.length) (bk:Vl) (k back:Nat) (hk:k < 6) (hb:1<=back) (hb2:back<=5) (j:Nat) (hj:j < 200) (t:Tx) (ht:Az t) (hl:t.length<=1000) (z11:Vo) :
  ∃ x n,Az [x]/\cm (EM ns sg most so room bk k (cI size) (cI back) (cS t) (cI j) z11)=some (.nx (EM ns sg most so room bk k (cI size) (cI back) (cS (t++[x])) (cI j) (cI n))):=by
 obtain ⟨n,hn,n0,n1⟩:=dv ns (20 * (k:Int)+6+(j:Int)) (by lia) (by lia)
 have ad:∀ x:Nat,bZ (.fr,.str t) (.fr,.str [x])=some (.fr,.str (t++[x])):=fun x=>iN (ZW (Nat.add_le_add_right hl 1) (by decide))
 have c1:e2 oGe (eN fz (af (ah 9) av)) (ah 8) (EM ns sg most so room bk k (cI size) (cI back) (cS t) (cI j) (cI n))=some (.fr,.bl (decide ((back:Int)<=(t.length:Int)))):=rfl
 have c2:e2 oGt (e2 oMod (ah 11) (eC (.int 4))) (eC (.int 0)) (EM ns sg most so room bk k (cI size) (cI back) (cS t) (cI j) (cI n))=some (.fr,.bl (decide (0 < n % 4))):=e2v (e2v rfl rfl (bh (by decide))) rfl rfl
 have st:∀ {e:Ex} {x:Nat},e (EM ns sg most so room bk k (cI size) (cI back) (cS t) (cI j) (cI n))=some (.fr,.str [x])->aN 9 (e2 bZ (ah 9) e) (EM ns sg most so room bk k (cI size) (cI back) (cS t) (cI j) (cI n))=some (.nx (EM ns sg most so room bk k (cI size) (cI back) (cS (t++[x])) (cI j) (cI n))):=fun {e x} h =>
  aJ (m:=.fr) (e2v (x:=(.fr,.str t)) rfl h (ad x)) (by decide) (by decide:9 < 12)
 unfold cm
 rw [aq (η1:=EM ns sg most so room bk k (cI size) (cI back) (cS t) (cI j) (cI n)) (aJ (aP (xs:=[(.fr,.scr ns),(.fr,.int (20 * (k:Int)+6+(j:Int)))]) rfl hn) (by decide) (by decide:11 < 12))]
 by_cases p:(back:Int)<=(t.length:Int)/\0 < n % 4
 ·refine ⟨t.getD ((t.length:Int) - (back:Int)).toNat 0,n,jv ht (by lia),?_⟩
  rw [mH (m:=.fr) (by rw [ie c1 c2,decide_eq_true p.1,decide_eq_true p.2];rfl)]
  exact st (e2v (x:=(.fr,.str t)) (y:=(.fr,.int ((t.length:Int) - (back:Int)))) rfl rfl (wQ t _ (by lia) (by lia)))
 ·have e0:=ZC (n / 4) (b:=so) (by lia)
  have e1:=ZP (n / 4) (b:=so) h0
  refine ⟨sg.getD (n / 4 % so).toNat 0,n,jv hsg (by lia),?_⟩
  rw [kg (m:=.fr) (by
   rw [ie c1 c2,← Bool.decide_and,decide_eq_false p])]
  exact st (e2v (x:=(.pu,sgT sg)) rfl (e2v (e2v rfl rfl (fQ (by decide))) rfl (bh h0)) (nH sg _ e0 (by lia)))
theorem Fb (ns:Vq) (sg:Vr) (hsg:Az sg) (most so room size:Int) (h0:0 < so) (h1:so<=sg.length) (bk:Vl) (k back:Nat) (hk:k < 6) (hb:1<=back) (hb2:back<=5) (js:Vr):∀ (t:Tx) (z10 z11:Vo),(∀ j∈js,j < 200)->t.length+js.length<=1000->Az t →
  ∃ t' z10' z11',forL (bg 10) cm (js.map fun (j:Nat)=>T.int (j:Int)) (EM ns sg most so room bk k (cI size) (cI back) (cS t) z10 z11)=some (.nx (EM ns sg most so room bk k (cI size) (cI back) (cS t') z10' z11'))/\t'.length=t.length+js.length/\Az t':=by
 induction js with
 | nil=>exact fun t z10 z11 _ _ ht=>⟨t,z10,z11,rfl,rfl,ht⟩
 | cons j js ih =>
  intro t z10 z11 hj hl ht
  rw [Zg] at hl
  obtain ⟨x,n,hx,eb⟩:=ux ns sg hsg most so room size h0 h1 bk k back hk hb hb2 j (hj j Zw) t ht (by lia) z11
  obtain ⟨t',a,b,e,hl',ht'⟩:=ih (t++[x]) (cI j) (cI n) (fun i hi=>hj i (Zx _ hi)) (by rw [Zu,ZX];lia) (ht.app hx)
  refine ⟨t',a,b,?_,by rw [hl',Zu,ZX,Zg];lia,ht'⟩
  rw [Zt,bB rfl eb,e]
theorem sv (t:Tx) (i L:Nat) (h:i<=t.length):cut t (some (i:Int)) (some ((i:Int)+(L:Int)))=(t.drop i).take L:=by
 have h1:¬ ((i:Int) < 0):=by lia
 have h2:¬ ((i:Int)+(L:Int) < 0):=by lia
 simp only [cut,clip,Zp h1,Zp h2,YN]
 rw [show ((i:Int)+(L:Int)).toNat=i+L by lia,Yv h]
 by_cases q:i+L<=t.length
 ·rw [Yv q,show i+L - i=L by exact YG _ _]
 ·rw [XD (by exact YA q),ZK (l:=t.drop i) (by simp),ZK (l:=t.drop i) (by simp;lia)]
theorem uM (ns:Vq) (sg:Vr) (hsg:Az sg) (most so:Int) (hm0:0<=most) (hm1:most<=120) (h0:0 < so) (h1:so<=sg.length) (k:Nat) (hk:k < 6) (room:Nat) (hr:(room:Int)<=most) (bk:List Tx) (B:Bk (most.toNat - room) bk) (hl:bk.length<=100) (z7 z8 z9 z10 z11:Vo) :
  ∃ (room':Nat) (bk':List Tx) (y7 y8 y9 y10 y11:Vo),room'<=room/\Bk (most.toNat - room') bk'/\bk'.length<=bk.length+2/\cp (EM ns sg most so room (bk.map T.str) k z7 z8 z9 z10 z11)=some (.nx (EM ns sg most so room' (bk'.map T.str) k y7 y8 y9 y10 y11)):=by
 obtain ⟨n4,hn4,n40,n41⟩:=dv ns (20 * (k:Int)+4) (by lia) (by lia)
 obtain ⟨n5,hn5,n50,n51⟩:=dv ns (20 * (k:Int)+5) (by lia) (by lia)
 have e0:=ZC n4 (b:=most+1) (by lia)
 have e1:=ZP n4 (b:=most+1) (by lia)
 have f0:=ZC n5 (b:=5) (by decide)
 have f1:=ZP n5 (b:=5) (by decide)
 obtain ⟨sz,hsz,hsr⟩:∃ sz:Nat,(if n4 % (most+1) < (room:Int) then n4 % (most+1) else (room:Int))=(sz:Int)/\sz<=room:=by
  by_cases h:n4 % (most+1) < (room:Int)
  ·exact ⟨(n4 % (most+1)).toNat,by rw [Zs h];lia,by lia⟩
  ·exact ⟨room,by rw [Zp h],Zr _⟩
 have er:((room:Int) - (sz:Int))=((room - sz:Nat):Int):=by lia
 generalize ht:(room - sz:Nat)=r1 at er
 obtain ⟨bc,hbc,c0,c1⟩:∃ bc:Nat,1+n5 % 5=(bc:Int)/\1<=bc/\bc<=5:=⟨(1+n5 % 5).toNat,by lia,by lia,by lia⟩
 obtain ⟨t1,y10,y11,ee,hl1,ht1⟩:=Fb ns sg hsg most so (r1:Int) (sz:Int) h0 h1 (bk.map T.str) k bc hk c0 c1 (List.range sz) [] z10 z11 (fun j hj=>by have:=Z6.mp hj;lia) (by rw [Z0,YW];lia) (fun x hx=>nomatch hx)
 rw [Z0,YW,Xu] at hl1
 have B1:Bk (most.toNat - r1) (bk++[t1]):=B.snoc (by lia) ht1
 have m5:∀ (r:Int) (b:Vl) (z7 z8 z9 z10 z11:Vo),aL aw (af (ah 0) (af (e2 bZ (e2 ft (eC (.int 20)) (ah 6)) (eC (.int 5))) av)) (EM ns sg most so r b k z7 z8 z9 z10 z11)=some (.fr,.int n5):=fun r b _ _ _ _ _=>aP (xs:=[(.fr,.scr ns),(.fr,.int (20 * (k:Int)+5))]) rfl hn5
 have m4:aL aw (af (ah 0) (af (e2 bZ (e2 ft (eC (.int 20)) (ah 6)) (eC (.int 4))) av)) (EM ns sg most so room (bk.map T.str) k z7 z8 z9 z10 z11)=some (.fr,.int n4):=aP (xs:=[(.fr,.scr ns),(.fr,.int (20 * (k:Int)+4))]) rfl hn4
 have mp:∀ (b:List Tx) (t:Tx),(b++[t]).map T.str=b.map T.str++[T.str t]:=fun b t=>by rw [Yu];rfl
 unfold cp
 rw [aq (η1:=EM ns sg most so room (bk.map T.str) k (cI sz) z8 z9 z10 z11) (aJ (m:=.fr) (t:=.int sz) (by
  have a:=xv (a:=ah 4) (x:=(.fr,.int room)) (η:=EM ns sg most so room (bk.map T.str) k z7 z8 z9 z10 z11) rfl (xv (e2v (z:=(.fr,.int (n4 % (most+1)))) m4 (b:=e2 bZ (ah 1) (eC (.int 1))) (y:=(.fr,.int (most+1))) rfl (bh (by lia))) (xs:=[]) (r:=av) rfl)
  show (af _ _ _).bind _=_
  rw [a,← hsz]
  rfl) (by decide) (by decide:7 < 12))]
 rw [aq (η1:=EM ns sg most so r1 (bk.map T.str) k (cI sz) z8 z9 z10 z11) (aJ (m:=.fr) (t:=.int r1) (by rw [← er];rfl) (by decide) (by decide:4 < 12))]
 rw [aq (η1:=EM ns sg most so r1 (bk.map T.str) k (cI sz) (cI bc) z9 z10 z11) (aJ (m:=.fr) (t:=.int bc) (e2v (x:=(.fr,.int 1)) rfl (e2v (m5 r1 _ _ _ _ _ _) rfl (bh (j:=5) (by decide))) (by rw [← hbc];rfl)) (by decide) (by decide:8 < 12))]
 rw [aq (η1:=EM ns sg most so r1 (bk.map T.str) k (cI sz) (cI bc) (cS []) z10 z11) rfl]
 rw [aq (η1:=EM ns sg most so r1 (bk.map T.str) k (cI sz) (cI bc) (cS t1) y10 y11) (by rw [fB (nA (m:=.fr) (n:=sz) rfl (by lia))];exact ee)]
 rw [aq (η1:=EM ns sg most so r1 ((bk++[t1]).map T.str) k (cI sz) (cI bc) (cS t1) y10 y11) (by rw [mp,iH (l:=bk.map T.str) (t:=.str t1) rfl rfl (by rw [Zv];lia)];rfl)]
 have g1:e2 oGt (ah 7) (eC (.int 2)) (EM ns sg most so r1 ((bk++[t1]).map T.str) k (cI sz) (cI bc) (cS t1) y10 y11)=some (.fr,.bl (decide ((2:Int) < (sz:Int)))):=rfl
 have g2:e2 oEq (e2 oMod (aL aw (af (ah 0) (af (e2 bZ (e2 ft (eC (.int 20)) (ah 6)) (eC (.int 5))) av))) (eC (.int 3))) (eC (.int 0)) (EM ns sg most so r1 ((bk++[t1]).map T.str) k (cI sz) (cI bc) (cS t1) y10 y11)=some (.fr,.bl (n5 % 3 == 0)):=e2v (e2v (m5 _ _ _ _ _ _ _) rfl (bh (by decide))) rfl rfl
 have g3:e2 oGe (ah 4) (eC (.int 2)) (EM ns sg most so r1 ((bk++[t1]).map T.str) k (cI sz) (cI bc) (cS t1) y10 y11)=some (.fr,.bl (decide ((2:Int)<=(r1:Int)))):=rfl
 have g:=ie g1 (ie g2 g3)
 cases hg:(decide ((2:Int) < (sz:Int)) && ((n5 % 3 == 0) && decide ((2:Int)<=(r1:Int)))) with
 | true =>
  rw [hg] at g
  have q:=X4.mp hg
  have q3:=of_decide_eq_true (X4.mp q.2).2
  have q1:=of_decide_eq_true q.1
  have cu:cut t1 (some 1) (some 3)=(t1.drop 1).take 2:=sv t1 1 2 (by lia)
  have az2:Az ((t1.drop 1).take 2):=fun x hx=>ht1 x (Ym (Yn hx))
  have l2:((t1.drop 1).take 2).length<=2:=by rw [ZR];exact Nat.min_le_left _ _
  have e2':((r1:Int) - 2)=((r1 - 2:Nat):Int):=by lia
  refine ⟨r1 - 2,bk++[t1]++[(t1.drop 1).take 2],cI sz,cI bc,cS t1,y10,y11,by lia,B1.snoc (by lia) az2,by rw [Zu,Zu,ZX,ZX];exact Zr _,?_⟩
  rw [mH (m:=.fr) g]
  rw [aq (η1:=EM ns sg most so r1 ((bk++[t1]++[(t1.drop 1).take 2]).map T.str) k (cI sz) (cI bc) (cS t1) y10 y11) (by
   rw [mp (bk++[t1]),iH (l:=(bk++[t1]).map T.str) (t:=.str ((t1.drop 1).take 2)) rfl (by rw [← cu];rfl) (by rw [Zv,Zu,ZX];lia)];rfl)]
  rw [← e2']
  rfl
 | false =>
  rw [hg] at g
  refine ⟨r1,bk++[t1],cI sz,cI bc,cS t1,y10,y11,by lia,B1,by rw [Zu,ZX];exact Nat.le_succ _,?_⟩
  rw [kg (m:=.fr) g]
  rfl
theorem Ft (ns:Vq) (sg:Vr) (hsg:Az sg) (most so:Int) (hm0:0<=most) (hm1:most<=120) (h0:0 < so) (h1:so<=sg.length) (ks:Vr):∀ (room:Nat) (bk:List Tx) (z6 z7 z8 z9 z10 z11:Vo),(∀ k∈ks,k < 6)->(room:Int)<=most->Bk (most.toNat - room) bk->bk.length+2 * ks.length<=100 →
  ∃ (room':Int) (bk':List Tx) (y6 y7 y8 y9 y10 y11:Vo),Bk most.toNat bk'/\bk'.length<=bk.length+2 * ks.length/\forL (bg 6) cp (ks.map fun (k:Nat)=>T.int (k:Int)) [some (.pu (.scr ns)),some (.pu (.int most)),some (.pu (sgT sg)),some (.pu (.int so)),some (.pu (.int (room:Int))),some (.ow (.lst (bk.map T.str))),z6,z7,z8,z9,z10,z11] =
   some (.nx [some (.pu (.scr ns)),some (.pu (.int most)),some (.pu (sgT sg)),some (.pu (.int so)),some (.pu (.int room')),some (.ow (.lst (bk'.map T.str))),y6,y7,y8,y9,y10,y11]):=by
 induction ks with
 | nil=>exact fun room bk z6 z7 z8 z9 z10 z11 _ hr B _=>⟨room,bk,z6,z7,z8,z9,z10,z11,⟨ZW B.n (YS _ _),B.az⟩,Zr _,rfl⟩
 | cons k ks ih =>
  intro room bk z6 z7 z8 z9 z10 z11 hk hr B hl
  rw [Zg] at hl
  obtain ⟨r1,b1,y7,y8,y9,y10,y11,hr1,B1,hl1,eb⟩:=uM ns sg hsg most so hm0 hm1 h0 h1 k (hk k Zw) room hr bk B (by lia) z7 z8 z9 z10 z11
  obtain ⟨r2,b2,x6,x7,x8,x9,x10,x11,B2,hl2,e⟩:=ih r1 b1 (cI k) y7 y8 y9 y10 y11 (fun i hi=>hk i (Zx _ hi)) (by lia) B1 (by lia)
  refine ⟨r2,b2,x6,x7,x8,x9,x10,x11,B2,by rw [Zg];lia,?_⟩
  rw [Zt,bB rfl eb,e]
theorem EN {α:Type} (l:List α):cut l none (some 8)=l.take 8:=by
 simp only [cut,clip]
 by_cases h:8<=l.length
 ·simp [Yv h]
 ·simp [XD (ZS (Wi h))]
  rw [ZK (by exact YA h)]
theorem Bk.take {m:Nat} {bk:List Tx} (B:Bk m bk) (n:Nat):Bk m (bk.take n):=by
 refine ⟨?_,fun t ht=>B.az t (Yn ht)⟩
 have h:bk.flatten=(bk.take n).flatten++(bk.drop n).flatten:=by rw [← Z5,Yg]
 have:=B.n
 rw [h,Zu] at this
 lia
theorem xn (l:List Tx):fA (l.map T.str)=true:=by
 induction l with
 | nil=>rfl
 | cons a l ih=>simpa [fA,imm] using ih
theorem vS (ns:Vq) (most:Int) (hm0:0<=most) (hm1:most<=120):∃ bk:List Tx,cy [.scr ns,.int most]=some (.fr,.lst (bk.map T.str))/\Bk most.toNat bk/\bk.length<=8:=by
 obtain ⟨n1,hn1,_,_⟩:=dv ns 1 (by decide) (by decide)
 obtain ⟨n2,hn2,_,_⟩:=dv ns 2 (by decide) (by decide)
 obtain ⟨n3,hn3,_,_⟩:=dv ns 3 (by decide) (by decide)
 obtain ⟨sg,hs,hl,haz⟩:=oj n1
 have a0:=ZC n2 (b:=8) (by decide)
 have a1:=ZP n2 (b:=8) (by decide)
 have li:bq (.fr,.lst [.int 1,.int 2,.int 3,.int 4,.int 2,.int 3,.int 9,.int 26]) (.fr,.int (n2 % 8))=_:=lZ T.int [1,2,3,4,2,3,9,26] (n2 % 8) 0 a0 a1 rfl
 obtain ⟨so,hso,s0,s1⟩:∃ so:Int,List.getD [1,2,3,4,2,3,9,26] (n2 % 8).toNat 0=so/\0 < so/\so<=26:=by
  have pk:∀ i,i < 8->0 < (List.getD [1,2,3,4,2,3,9,26] i 0:Int)/\(List.getD [1,2,3,4,2,3,9,26] i 0:Int)<=26:=by decide
  have h:=pk (n2 % 8).toNat (by lia)
  exact ⟨_,rfl,h.1,h.2⟩
 rw [hso] at li
 have b0:=ZC n3 (b:=6) (by decide)
 have b1:=ZP n3 (b:=6) (by decide)
 obtain ⟨mn,hmn,m1⟩:∃ mn:Nat,n3 % 6=(mn:Int)/\mn < 6:=⟨(n3 % 6).toNat,by lia,by lia⟩
 obtain ⟨rm,rfl⟩:∃ rm:Nat,most=(rm:Int):=⟨most.toNat,by lia⟩
 obtain ⟨r2,b2,x6,x7,x8,x9,x10,x11,B2,hl2,e⟩:=Ft ns sg haz rm so hm0 hm1 s0 (by lia) (List.range mn) rm [] none none none none none none (fun k hk=>Wz (Z6.mp hk) m1) (Int.le_refl _) ⟨ZO _,fun t ht=>nomatch ht⟩ (by rw [Z0,YW];lia)
 have mx:∀ (i n:Int) (r:Env),aw [.scr ns,.int i]=some (.fr,.int n)->aL aw (af (ah 0) (af (eC (.int i)) av)) (some (.pu (.scr ns)) :: r)=some (.fr,.int n):=fun i n r h=>aP (xs:=[(.fr,.scr ns),(.fr,.int i)]) rfl h
 have mk:mkL .pu ((b2.take 8).map T.str)=some (.fr,.lst ((b2.take 8).map T.str)):=by
  unfold mkL
  rw [Zs (show ((b2.take 8).map T.str).length<=gN by rw [Zv,ZR];exact ZW (Nat.min_le_left _ _) (by decide)),Zs (xn _)]
 refine ⟨b2.take 8,?_,B2.take 8,by rw [ZR];exact Nat.min_le_left _ _⟩
 unfold cy
 refine eA rfl (η:=[some (.pu (.scr ns)),some (.pu (.int rm)),some (.pu (sgT sg)),some (.pu (.int so)),some (.pu (.int r2)),some (.pu (.lst (b2.map T.str))),x6,x7,x8,x9,x10,x11]) ?_
 refine (show au _ _ [some (.pu (.scr ns)),some (.pu (.int rm)),none,none,none,none,none,none,none,none,none,none]=_ from ?_)
 rw [aq (η1:=[some (.pu (.scr ns)),some (.pu (.int rm)),some (.pu (sgT sg)),none,none,none,none,none,none,none,none,none]) (aJ (aP (xs:=[(.fr,.int n1)]) (xv (mx 1 n1 _ hn1) rfl) hs) (by decide) (by decide:2 < 12))]
 rw [aq (η1:=[some (.pu (.scr ns)),some (.pu (.int rm)),some (.pu (sgT sg)),some (.pu (.int so)),none,none,none,none,none,none,none,none]) (aJ (m:=.fr) (e2v rfl (e2v (mx 2 n2 _ hn2) rfl (bh (j:=8) (by decide))) li) (by decide) (by decide:3 < 12))]
 rw [aq (η1:=[some (.pu (.scr ns)),some (.pu (.int rm)),some (.pu (sgT sg)),some (.pu (.int so)),some (.pu (.int (rm:Int))),none,none,none,none,none,none,none]) rfl]
 rw [aq (η1:=[some (.pu (.scr ns)),some (.pu (.int rm)),some (.pu (sgT sg)),some (.pu (.int so)),some (.pu (.int (rm:Int))),some (.ow (.lst (([]:List Tx).map T.str))),none,none,none,none,none,none]) rfl]
 rw [aq (show dG _ _ _ _=_ from by
  rw [fB (nA (m:=.fr) (n:=mn) (e2v (mx 3 n3 _ hn3) rfl (by rw [← hmn];exact bh (by decide))) (by lia))]
  exact e)]
 rw [aq (η1:=[some (.pu (.scr ns)),some (.pu (.int rm)),some (.pu (sgT sg)),some (.pu (.int so)),some (.pu (.int r2)),some (.pu (.lst (b2.map T.str))),x6,x7,x8,x9,x10,x11]) rfl]
 have sl:eSl (ah 5) none (some (eC (.int 8))) [some (.pu (.scr ns)),some (.pu (.int rm)),some (.pu (sgT sg)),some (.pu (.int so)),some (.pu (.int r2)),some (.pu (.lst (b2.map T.str))),x6,x7,x8,x9,x10,x11]=some (.fr,.lst ((b2.take 8).map T.str)):=by
  show mkL .pu (cut (b2.map T.str) none (some 8))=_
  rw [EN,← List.map_take,mk]
 simp only [fH,sl,Zn]
theorem wb {α:Type} (l:List α) (n:Nat) (h:n<=l.length):cut l none (some (n:Int))=l.take n:=by
 have h1:¬ ((n:Int) < 0):=by lia
 simp only [cut,clip,Zp h1,YN,Yv h]
 simp
theorem vt {α:Type} (l:List α) (n:Nat) (h:n<=l.length):cut l (some (n:Int)) none=l.drop n:=by
 have h1:¬ ((n:Int) < 0):=by lia
 simp only [cut,clip,Zp h1,YN,Yv h]
 rw [ZK (by simp)]
theorem vQ (n x:Nat):(List.replicate n [x]).flatten=List.replicate n x:=by
 induction n with
 | zero=>rfl
 | succ n ih=>rw [X8,Zf,ih];rfl
noncomputable abbrev EG (ns:Vq) (sg:Vr) (z2 z3:Vo):Env:=[some (.pu (.scr ns)),some (.pu (sgT sg)),z2,z3]
theorem yp (ns:Vq):∃ bk:List Tx,dM [.scr ns]=some (.fr,.lst (bk.map T.str))/\Bk 120 bk/\bk.length<=8:=by
 obtain ⟨n1,hn1,_,_⟩:=dv ns 1 (by decide) (by decide)
 obtain ⟨n2,hn2,_,_⟩:=dv ns 2 (by decide) (by decide)
 obtain ⟨n3,hn3,_,_⟩:=dv ns 3 (by decide) (by decide)
 obtain ⟨n4,hn4,_,_⟩:=dv ns 4 (by decide) (by decide)
 obtain ⟨sg,hs,hl,haz⟩:=oj n1
 have a0:=ZC n2 (b:=21) (by decide)
 have a1:=ZP n2 (b:=21) (by decide)
 obtain ⟨L,hL,l0,l1⟩:∃ L:Nat,100+n2 % 21=(L:Int)/\100<=L/\L<=120:=⟨(100+n2 % 21).toNat,by lia,by lia,by lia⟩
 have ix0:=nH (m:=.pu) (n:=.fr) sg 0 (by decide) (by rw [hl];decide)
 have ix1:=nH (m:=.pu) (n:=.fr) sg 1 (by decide) (by rw [hl];decide)
 have z0:Az [sg.getD (0:Int).toNat 0]:=jv haz (by rw [hl];decide)
 have z1:Az [sg.getD (1:Int).toNat 0]:=jv haz (by rw [hl];decide)
 generalize sg.getD (0:Int).toNat 0=x at ix0 z0
 generalize sg.getD (1:Int).toNat 0=y at ix1 z1
 have rp:lq (.fr,.str [x]) (.fr,.int (L:Int))=some (.fr,.str (List.replicate L x)):=by
  refine (Zs ⟨?_,?_,?_⟩).trans (by rw [YN,vQ])
  ·show 1 * (L:Int).toNat<=16777216
   rw [YN,Nat.one_mul]
   exact ZW l1 (by decide)
  ·show -4611686018427387904<=(L:Int)
   lia
  ·show (L:Int) < 4611686018427387904
   lia
 have tl:(List.replicate L x).length=L:=Y2
 have ta:Az (List.replicate L x):=fun c hc=>by
  rw [(List.mem_replicate.mp hc).2]
  exact z0 x Zw
 generalize List.replicate L x=t at rp tl ta
 have bk1:∀ t':Tx,t'.length<=120->Az t'->Bk 120 [t']:=fun t' h1 h2=>⟨by rw [Zf,List.flatten_nil,ZG];exact h1,fun s hs=>by rw [Zj.mp hs];exact h2⟩
 have mx:∀ (i n:Int) (r:Env),aw [.scr ns,.int i]=some (.fr,.int n)->aL aw (af (ah 0) (af (eC (.int i)) av)) (some (.pu (.scr ns)) :: r)=some (.fr,.int n):=fun i n r h=>aP (xs:=[(.fr,.scr ns),(.fr,.int i)]) rfl h
 have st1:(aN 1 (aL bE (af (aL aw (af (ah 0) (af (eC (.int 1)) av))) av))) [some (.pu (.scr ns)),none,none,none]=some (.nx (EG ns sg none none)) :=
  aJ (aP (xs:=[(.fr,.int n1)]) (xv (mx 1 n1 _ hn1) rfl) hs) (by decide) (by decide:1 < 4)
 have st2:(aN 2 (e2 lq (e2 bq (ah 1) (eC (.int 0))) (e2 bZ (eC (.int 100)) (e2 oMod (aL aw (af (ah 0) (af (eC (.int 2)) av))) (eC (.int 21)))))) (EG ns sg none none)=some (.nx (EG ns sg (some (.pu (.str t))) none)) :=
  aJ (m:=.fr) (e2v (e2v (x:=(.pu,sgT sg)) rfl rfl ix0) (e2v (x:=(.fr,.int 100)) rfl (e2v (mx 2 n2 _ hn2) rfl (bh (j:=21) (by decide))) (z:=(.fr,.int L)) (by rw [← hL];rfl)) rp) (by decide) (by decide:2 < 4)
 have cd:e2 oEq (e2 oMod (aL aw (af (ah 0) (af (eC (.int 3)) av))) (eC (.int 2))) (eC (.int 0)) (EG ns sg (some (.pu (.str t))) none)=some (.fr,.bl (n3 % 2 == 0)):=e2v (e2v (mx 3 n3 _ hn3) rfl (bh (by decide))) rfl rfl
 cases hp:(n3 % 2 == 0) with
 | true =>
  rw [hp] at cd
  have tp:(0:Int) < (t.length:Int):=by lia
  have b0:=ZC n4 (b:=(t.length:Int)) (by lia)
  have b1:=ZP n4 (b:=(t.length:Int)) tp
  obtain ⟨q,hq,hq2⟩:∃ q:Nat,n4 % (t.length:Int)=(q:Int)/\q < t.length:=⟨(n4 % (t.length:Int)).toNat,by lia,by lia⟩
  have c1:=wb t q (ZS hq2)
  have c2:=vt t (q+1) (WA hq2)
  have l3:(t.take q++[y]++t.drop (q+1)).length=t.length:=by
   rw [Zu,Zu,ZR,ZQ,ZX,Yv (ZS hq2)]
   lia
  have len:(t.take q++[y]++t.drop (q+1)).length<=120:=by rw [l3,tl];exact l1
  have az:Az (t.take q++[y]++t.drop (q+1)):=(Az.app (Az.app (fun c hc=>ta c (Yn hc)) z1) (fun c hc=>ta c (Ym hc)))
  refine ⟨[t.take q++[y]++t.drop (q+1)],?_,bk1 _ len az,(by decide:1<=8)⟩
  have big:e2 bZ (e2 bZ (eSl (ah 2) none (some (ah 3))) (e2 bq (ah 1) (eC (.int 1)))) (eSl (ah 2) (some (e2 bZ (ah 3) (eC (.int 1)))) none) (EG ns sg (some (.pu (.str t))) (some (.pu (.int q))))=some (.fr,.str (t.take q++[y]++t.drop (q+1))) :=
   e2v (e2v (x:=(.fr,.str (t.take q))) (by rw [← c1];rfl) (e2v (x:=(.pu,sgT sg)) rfl rfl ix1) (iN (ZW (ZW (ZM _ (t.drop (q+1)).length) (by rw [← Zu,← Zu];exact len)) (by decide)))) (y:=(.fr,.str (t.drop (q+1)))) (by rw [← c2];rfl) (iN (ZW (by rw [← Zu];exact len) (by decide)))
  unfold dM
  refine eA rfl (η:=EG ns sg (some (.pu (.str (t.take q++[y]++t.drop (q+1))))) (some (.pu (.int q)))) ?_
  refine (show au _ _ [some (.pu (.scr ns)),none,none,none]=_ from ?_)
  rw [aq st1,aq st2]
  rw [aq (η1:=EG ns sg (some (.pu (.str (t.take q++[y]++t.drop (q+1))))) (some (.pu (.int q)))) (by
   rw [mH (m:=.fr) cd]
   rw [aq (η1:=EG ns sg (some (.pu (.str t))) (some (.pu (.int q)))) (aJ (m:=.fr) (t:=.int q) (e2v (mx 4 n4 _ hn4) (y:=(.fr,.int t.length)) rfl (by rw [← hq];exact bh tp)) (by decide) (by decide:3 < 4))]
   exact aJ big (by decide) (by decide:2 < 4))]
  rfl
 | false =>
  rw [hp] at cd
  refine ⟨[t],?_,bk1 t (by rw [tl];exact l1) ta,(by decide:1<=8)⟩
  unfold dM
  refine eA rfl (η:=EG ns sg (some (.pu (.str t))) none) ?_
  refine (show au _ _ [some (.pu (.scr ns)),none,none,none]=_ from ?_)
  rw [aq st1,aq st2]
  rw [aq (η1:=EG ns sg (some (.pu (.str t))) none) (by
   rw [kg (m:=.fr) cd]
   rfl)]
  rfl
theorem Bk.up {m n:Nat} {bk:List Tx} (B:Bk m bk) (h:m<=n):Bk n bk:=⟨ZW B.n h,B.az⟩
theorem eq0 {m n:Md} (i:Int):oEq (m,.int i) (n,.int 0)=some (.fr,.bl (decide (i=0))):=by
 show (if _ then some (Md.fr,T.bl (eqT (.int i) (.int 0))) else none)=_
 rw [Zs ⟨rfl,rfl⟩]
 rfl
theorem Co (ns:Vq):∃ bk:List Tx,fY [.scr ns,.int 60]=some (.fr,.lst (bk.map T.str))/\Bk 120 bk/\bk.length<=8:=by
 obtain ⟨c,hc⟩:=BQ ns
 obtain ⟨n5,hn5,_,_⟩:=dv ns 5 (by decide) (by decide)
 obtain ⟨n0,hn0,_,_⟩:=dv ns 0 (by decide) (by decide)
 have ca:aL eS (af (ah 0) (af (eC (.int 0)) av)) [some (.pu (.scr ns)),some (.pu (.int 60))]=some (.fr,.int c):=aP (xs:=[(.fr,.scr ns),(.fr,.int 0)]) rfl hc
 have c1:=e2v (f:=oEq) (b:=eC (.int 0)) (e2v (f:=oMod) (b:=eC (.int 2)) ca rfl (bh (by decide))) rfl (eq0 (c % 2))
 unfold fY
 by_cases p:c % 2=0
 ·rw [decide_eq_true p] at c1
  obtain ⟨bk,hb,B,hl⟩:=wz (c / 2)
  exact ⟨bk,eA rfl (nW ((mH c1).trans (jh (aP (xs:=[(.fr,.int (c / 2))]) (xv (e2v ca rfl (fQ (by decide))) rfl) hb)))),B.up (by decide),ZW hl (by decide)⟩
 rw [decide_eq_false p] at c1
 have c2:=ie (a:=e2 oGt (ah 1) (eC (.int 30))) (x:=true) rfl (e2v (f:=oEq) (b:=eC (.int 0)) (e2v (f:=oMod) (b:=eC (.int 16)) (aP (as:=af (ah 0) (af (eC (.int 5)) av)) (η:=[some (.pu (.scr ns)),some (.pu (.int 60))]) (xs:=[(.fr,.scr ns),(.fr,.int 5)]) rfl hn5) rfl (bh (by decide))) rfl (eq0 (n5 % 16)))
 rw [Bool.true_and] at c2
 by_cases r:n5 % 16=0
 ·rw [decide_eq_true r] at c2
  obtain ⟨bk,hb,B,hl⟩:=yp ns
  exact ⟨bk,eA rfl ((aq (kg c1)).trans (nW ((mH c2).trans (jh (aP (xs:=[(.fr,.scr ns)]) rfl hb))))),B,hl⟩
 rw [decide_eq_false r] at c2
 have a0:=ZC n0 (b:=4) (by decide)
 have a1:=ZP n0 (b:=4) (by decide)
 have li:=fun m n=>lZ (m:=m) (n:=n) T.int [24,24,24,60] (n0 % 4) 0 a0 a1 rfl
 obtain ⟨mo,hmo,m0,m1⟩:∃ mo:Int,List.getD [24,24,24,60] (n0 % 4).toNat 0=mo/\0<=mo/\mo<=120:=by
  have pk:∀ i,i < 4->0<=(List.getD [24,24,24,60] i 0:Int)/\(List.getD [24,24,24,60] i 0:Int)<=120:=by decide
  have h:=pk (n0 % 4).toNat (by lia)
  exact ⟨_,rfl,h.1,h.2⟩
 rw [hmo] at li
 obtain ⟨bk,hb,B,hl⟩:=vS ns mo m0 m1
 exact ⟨bk,eA rfl ((aq (kg c1)).trans ((aq (kg c2)).trans (jh (aP (xs:=[(.fr,.scr ns),(.fr,.int mo)]) (xv rfl (xv (e2v rfl (e2v (aP (xs:=[(.fr,.scr ns),(.fr,.int 0)]) rfl hn0) rfl (bh (by decide))) (li _ _)) rfl)) hb)))),B.up (by lia),hl⟩
noncomputable abbrev Pl:=Nat×Nat
noncomputable def tP (p:Pl):T:=.tup [.int p.1,.int p.2]
noncomputable abbrev Fd:=List (Tx×List Pl)
noncomputable def dT (d:Fd):List (T×T):=d.map fun p=>(T.str p.1,T.lst (p.2.map tP))
noncomputable def cW:Fd->Tx->Pl->Fd
 | [],w,p=>[(w,[p])]
 | (x,l) :: d,w,p=>if x=w then (x,l++[p]) :: d else (x,l) :: cW d w p
noncomputable def qD (f:T->Option (T×Val)) (w:Tx) (L:List (T×T)):Option (List (T×T)):=(L.findIdx? fun q=>eqT q.1 (.str w)).bind fun i=>(L[i]?).bind fun q=>(f q.2).map fun z=>L.set i (q.1,z.1)
theorem uh {f:T->Option (T×Val)} {w:Tx} {a:T×T} {L:List (T×T)} (h:eqT a.1 (.str w)=false):qD f w (a :: L)=(qD f w L).map (a :: ·):=by
 unfold qD
 rw [Yd,Zp (by rw [h];simp)]
 cases e:L.findIdx? fun q=>eqT q.1 (.str w) with
 | none=>rfl
 | some i =>
  simp only [Yc,Zn,List.getElem?_cons_succ]
  cases e2:L[i]? with
  | none=>rfl
  | some q =>
   simp only [Zn]
   cases f q.2 with
   | none=>rfl
   | some z=>rfl
theorem pO {f:T->Option (T×Val)} {w:Tx} {a:T×T} {L:List (T×T)} (h:eqT a.1 (.str w)=true):qD f w (a :: L)=(f a.2).map fun z=>(a.1,z.1) :: L:=by
 unfold qD
 rw [Yd,Zs h]
 rfl
theorem qw {k:T} {a:T×T} {L:List (T×T)} (h:eqT a.1 k=false):cM (a :: L) k=a :: cM L k:=by
 unfold cM bN
 rw [Yt,h]
 dsimp only
 by_cases q:(Option.map (fun x=>x.2) (L.find? fun p=>eqT p.1 k)).isSome=true
 ·rw [Zs q,Zs q]
 ·rw [Zp q,Zp q]
  rfl
theorem qQ {k:T} {a:T×T} {L:List (T×T)} (h:eqT a.1 k=true):cM (a :: L) k=a :: L:=by
 unfold cM bN
 rw [Yt,h]
 rfl
theorem oy (d:Fd) (w:Tx) (p:Pl) (hl:∀ q∈d,q.2.length < 16777216):qD (fun x=>aV x [(.fr,tP p)]) w (cM (dT d) (.str w))=some (dT (cW d w p)):=by
 induction d with
 | nil =>
  have:cM (dT []) (.str w)=[(.str w,.lst [])]:=rfl
  rw [this,pO (by simp),dB (by decide)]
  rfl
 | cons a d ih =>
  obtain ⟨x,l⟩:=a
  by_cases e:x=w
  ·subst e
   have h:eqT (T.str x) (.str x)=true:=by simp
   rw [show dT ((x,l) :: d)=(T.str x,T.lst (l.map tP)) :: dT d from rfl,qQ h,pO h,dB (by rw [Zv];exact hl (x,l) Zw)]
   simp [cW,dT]
  ·have h:eqT (T.str x) (.str w)=false:=by simpa using e
   rw [show dT ((x,l) :: d)=(T.str x,T.lst (l.map tP)) :: dT d from rfl,qw h,uh h,ih fun q hq=>hl q (Zx _ hq)]
   simp [cW,dT,e]
theorem uu {i:Nat} {ck:Ex} {cv:Ex} {η:Env} {d:Fd} {w:Tx} {p:Pl} {m:Md} (h:η[i]?=some (some (.ow (.dct 0 (dT d))))) (hk:ck η=some (m,.str w)) (hv:∀ c,cv (η.set i c)=some (.fr,tP p)) (hl:∀ q∈d,q.2.length < 16777216) (hd:d.length < 16777216) :
  iR i ck (af cv av) η=some (.nx (η.set i (some (.ow (.dct 0 (dT (cW d w p))))))):=by
 unfold iR
 simp only [h]
 rw [hk,Zn,Zs ⟨rfl,by rw [dT,Zv];exact hd⟩]
 have e:af cv av (η.set i (some (.ow (.dct 0 (cM (dT d) (.str w))))))=some [(.fr,tP p)]:=by simp [hv]
 rw [e,Zn]
 have pk:=oy d w p hl
 unfold qD at pk
 obtain ⟨j,h1,pk⟩:=Zz.mp pk
 obtain ⟨q,h2,pk⟩:=Zz.mp pk
 obtain ⟨z,h3,pk⟩:=Zm.mp pk
 have hp:pm (fun x=>aV x [(.fr,tP p)]) [.at (.str w)] (.dct 0 (cM (dT d) (.str w)))=some (.dct 0 (dT (cW d w p)),z.2):=by
  show (if il (.str w) then _ else none)=_
  rw [Zs (show il (.str w)=true from rfl),h1,Zn,h2,Zn]
  show (aV q.2 [(.fr,tP p)]).map _=_
  rw [show aV q.2 [(.fr,tP p)]=some z from h3,Yc,pk]
 rw [hp]
 rfl
noncomputable def Sz (N:Nat) (d:Fd):Prop:=d.length<=N/\∀ q∈d,q.2.length<=N
theorem xm (d:Fd) (w:Tx) (p:Pl):(cW d w p).length<=d.length+1:=by
 induction d with
 | nil=>simp [cW]
 | cons a d ih =>
  obtain ⟨x,l⟩:=a
  unfold cW
  split
  ·simp
  ·simp only [Zg];exact YB ih
theorem we (d:Fd) (w:Tx) (p:Pl) (N:Nat) (h:∀ q∈d,q.2.length<=N):∀ q∈cW d w p,q.2.length<=N+1:=by
 induction d with
 | nil=>intro q hq;simp [cW] at hq;rw [hq];simp
 | cons a d ih =>
  obtain ⟨x,l⟩:=a
  have h1:=h (x,l) Zw
  have ih:=ih fun q hq=>h q (Zx _ hq)
  unfold cW
  split
  ·intro q hq
   rcases Zo.mp hq with rfl | hq
   ·simp only [Zu,ZX];simp only at h1;exact YB h1
   ·have:=h q (Zx _ hq);exact YD this
  ·intro q hq
   rcases Zo.mp hq with rfl | hq
   ·simp only at h1 ⊢;exact YD h1
   ·exact ih q hq
theorem Sz.add {N:Nat} {d:Fd} (h:Sz N d) (w:Tx) (p:Pl):Sz (N+1) (cW d w p):=⟨by have:=xm d w p;have:=h.1;lia,we d w p N h.2⟩
noncomputable def adds (n:Nat) (t:Tx) (e:Nat) (ss:Vr) (d:Fd):Fd:=ss.foldl (fun d s=>cW d ((t.drop s).take (e - s)) (n,e)) d
theorem pl1 (bk:T) (n:Nat) (t:Tx) (e:Nat) (he:e<=t.length) (ss:Vr):∀ (d:Fd) (N:Nat) (z:Vo),(∀ s∈ss,s<=e)->Sz N d->N+ss.length < 16777216 →
  ∃ z',forL (bg 5) dy (ss.map fun (s:Nat)=>T.int (s:Int)) [some (.pu bk),some (.ow (.dct 0 (dT d))),some (.pu (.int n)),some (.pu (.str t)),some (.pu (.int e)),z] =
   some (.nx [some (.pu bk),some (.ow (.dct 0 (dT (adds n t e ss d)))),some (.pu (.int n)),some (.pu (.str t)),some (.pu (.int e)),z'])/\Sz (N+ss.length) (adds n t e ss d):=by
 induction ss with
 | nil=>exact fun d N z _ h _=>⟨z,by simp [forL,adds],by simpa [adds] using h⟩
 | cons s ss ih =>
  intro d N z hs h hN
  rw [Zg] at hN
  have hse:s<=e:=hs s Zw
  have cu:cut t (some (s:Int)) (some (e:Int))=(t.drop s).take (e - s):=by
   have:=sv t s (e - s) (by exact ZW hse he)
   rwa [show ((s:Int)+((e - s:Nat):Int))=(e:Int) by lia] at this
  obtain ⟨z',ee,hz⟩:=ih (cW d ((t.drop s).take (e - s)) (n,e)) (N+1) (some (.pu (.int s))) (fun i hi=>hs i (Zx _ hi)) (h.add _ _) (by lia)
  refine ⟨z',?_,by rw [Zg];rw [show N+(ss.length+1)=N+1+ss.length by lia];exact hz⟩
  have bo:dy [some (.pu bk),some (.ow (.dct 0 (dT d))),some (.pu (.int n)),some (.pu (.str t)),some (.pu (.int e)),some (.pu (.int s))] =
    some (.nx [some (.pu bk),some (.ow (.dct 0 (dT (cW d ((t.drop s).take (e - s)) (n,e))))),some (.pu (.int n)),some (.pu (.str t)),some (.pu (.int e)),some (.pu (.int s))]):=by
   unfold dy
   rw [uu (d:=d) (w:=(t.drop s).take (e - s)) (p:=(n,e)) (m:=.fr) rfl (by simp [cu]) (fun c=>by simp [ql,tP,up,imm,fA]) (fun q hq=>by have:=h.2 q hq;lia) (by have:=h.1;lia)]
   simp
  rw [Zt,bB rfl bo,ee]
  rfl
noncomputable def g0 (n:Nat) (t:Tx) (es:Vr) (d:Fd):Fd:=es.foldl (fun d e=>adds n t e (List.range (e+1)) d) d
theorem pl2 (bk:T) (n:Nat) (t:Tx) (ht:t.length<=120) (es:Vr):∀ (d:Fd) (N:Nat) (z4 z5:Vo),(∀ e∈es,e<=t.length)->Sz N d->N+121 * es.length < 16777216 →
  ∃ z4' z5',forL (bg 4) dw (es.map fun (e:Nat)=>T.int (e:Int)) [some (.pu bk),some (.ow (.dct 0 (dT d))),some (.pu (.int n)),some (.pu (.str t)),z4,z5] =
   some (.nx [some (.pu bk),some (.ow (.dct 0 (dT (g0 n t es d)))),some (.pu (.int n)),some (.pu (.str t)),z4',z5'])/\Sz (N+121 * es.length) (g0 n t es d):=by
 induction es with
 | nil=>exact fun d N z4 z5 _ h _=>⟨z4,z5,by simp [forL,g0],by simpa [g0] using h⟩
 | cons e es ih =>
  intro d N z4 z5 hs h hN
  rw [Zg] at hN
  have he:e<=t.length:=hs e Zw
  obtain ⟨y5,e1,h1⟩:=pl1 bk n t e he (List.range (e+1)) d N z5 (fun s hs=>by have:=Z6.mp hs;exact Ye this) h (by rw [Z0];lia)
  rw [Z0] at h1
  have h2:Sz (N+121) (adds n t e (List.range (e+1)) d):=⟨by have:=h1.1;lia,fun q hq=>by have:=h1.2 q hq;lia⟩
  obtain ⟨x4,x5,ee,hz⟩:=ih (adds n t e (List.range (e+1)) d) (N+121) (some (.pu (.int e))) y5 (fun i hi=>hs i (Zx _ hi)) h2 (by lia)
  refine ⟨x4,x5,?_,by rw [Zg,show N+121 * (es.length+1)=N+121+121 * es.length by lia];exact hz⟩
  have bo:dw [some (.pu bk),some (.ow (.dct 0 (dT d))),some (.pu (.int n)),some (.pu (.str t)),some (.pu (.int e)),z5] =
    some (.nx [some (.pu bk),some (.ow (.dct 0 (dT (adds n t e (List.range (e+1)) d)))),some (.pu (.int n)),some (.pu (.str t)),some (.pu (.int e)),y5]):=by
   unfold dw
   rw [fB (nA (m:=.fr) (n:=e+1) rfl (by lia))]
   exact e1
  rw [Zt,bB rfl bo,ee]
  rfl
theorem pl3 (bk:T) (n:Nat) (t:Tx) (ht:t.length<=120) (d:Fd) (N:Nat) (z4 z5:Vo) (h:Sz N d) (hN:N+14641 < 16777216):∃ z4' z5',cz [some (.pu bk),some (.ow (.dct 0 (dT d))),some (.pu (.int n)),some (.pu (.str t)),z4,z5] =
   some (.nx [some (.pu bk),some (.ow (.dct 0 (dT (g0 n t (List.range (t.length+1)) d)))),some (.pu (.int n)),some (.pu (.str t)),z4',z5'])/\Sz (N+14641) (g0 n t (List.range (t.length+1)) d):=by
 obtain ⟨z4',z5',e,hz⟩:=pl2 bk n t ht (List.range (t.length+1)) d N z4 z5 (fun e he=>by have:=Z6.mp he;exact Ye this) h (by rw [Z0];lia)
 rw [Z0] at hz
 refine ⟨z4',z5',?_,⟨by have:=hz.1;lia,fun q hq=>by have:=hz.2 q hq;lia⟩⟩
 unfold cz
 rw [fB (nA (m:=.fr) (n:=t.length+1) rfl (by lia))]
 exact e
noncomputable def ic:Nat->List Tx->Fd->Fd
 | _,[],d=>d
 | n,t :: l,d=>ic (n+1) l (g0 n t (List.range (t.length+1)) d)
theorem pl4 (bk:T) (l:List Tx):∀ (n:Nat) (d:Fd) (N:Nat) (z2 z3 z4 z5:Vo),(∀ t∈l,t.length<=120)->Sz N d->N+14641 * l.length < 16000000 →
  ∃ z2' z3' z4' z5',forL (jM [bg 2,bg 3]) cz ((l.zipIdx n).map fun p=>T.tup [.int p.2,.str p.1]) [some (.pu bk),some (.ow (.dct 0 (dT d))),z2,z3,z4,z5] =
   some (.nx [some (.pu bk),some (.ow (.dct 0 (dT (ic n l d)))),z2',z3',z4',z5'])/\Sz (N+14641 * l.length) (ic n l d):=by
 induction l with
 | nil=>exact fun n d N z2 z3 z4 z5 _ h _=>⟨z2,z3,z4,z5,by simp [forL,ic],by simpa [ic] using h⟩
 | cons t l ih =>
  intro n d N z2 z3 z4 z5 ht h hN
  rw [Zg] at hN
  obtain ⟨y4,y5,e1,h1⟩:=pl3 bk n t (ht t Zw) d N z4 z5 h (by lia)
  obtain ⟨x2,x3,x4,x5,ee,hz⟩:=ih (n+1) (g0 n t (List.range (t.length+1)) d) (N+14641) (some (.pu (.int n))) (some (.pu (.str t))) y4 y5 (fun s hs=>ht s (Zx _ hs)) h1 (by lia)
  refine ⟨x2,x3,x4,x5,?_,by rw [Zg,show N+14641 * (l.length+1)=N+14641+14641 * l.length by lia];exact hz⟩
  rw [Xe,Zt,bB (η1:=[some (.pu bk),some (.ow (.dct 0 (dT d))),some (.pu (.int n)),some (.pu (.str t)),z4,z5]) rfl e1,ee]
  rfl
theorem enum_zip (l:List Tx):∀ n:Nat,dq n (l.map T.str)=(l.zipIdx n).map fun p=>T.tup [.int p.2,.str p.1]:=by
 induction l with
 | nil=>intro n;rfl
 | cons t l ih=>intro n;rw [Xe,Zt,Zt,dq,ih (n+1)]
noncomputable def found (bk:List Tx):Fd:=ic 0 bk [([],[])]
theorem uW (bk:List Tx) (B:Bk 120 bk) (hl:bk.length<=8):cY [.lst (bk.map T.str)]=some (.fr,.dct 0 (dT (found bk)))/\Sz 117129 (found bk):=by
 have hlen:∀ t∈bk,t.length<=120:=fun t ht=>by
  have h:t.length<=bk.flatten.length:=by
   obtain ⟨a,b,rfl⟩:=WH ht
   simp only [Z5,Zf,Zu]
   lia
  have:=B.n
  exact ZW h this
 obtain ⟨z2,z3,z4,z5,e,hz⟩:=pl4 (.lst (bk.map T.str)) bk 0 [([],[])] 1 none none none none hlen ⟨by simp,fun q hq=>by rw [Zj.mp hq];simp⟩ (by lia)
 refine ⟨?_,⟨by have:=hz.1;unfold found;lia,fun q hq=>by have:=hz.2 q hq;lia⟩⟩
 unfold cY
 refine eA rfl (η:=[some (.pu (.lst (bk.map T.str))),none,z2,z3,z4,z5]) ?_
 refine (show au _ _ [some (.pu (.lst (bk.map T.str))),none,none,none,none,none]=_ from ?_)
 rw [aq (η1:=[some (.pu (.lst (bk.map T.str))),some (.ow (.dct 0 (dT [([],[])]))),none,none,none,none]) (by
  have:ly 0 [((eC (.str [])),(eO av))] [some (.pu (.lst (bk.map T.str))),none,none,none,none,none]=some (.fr,.dct 0 (dT [([],[])])):=rfl
  simp [this])]
 have fo:dG (jM [bg 2,bg 3]) (ir (ah 0)) cz [some (.pu (.lst (bk.map T.str))),some (.ow (.dct 0 (dT [([],[])]))),none,none,none,none]=some (.nx [some (.pu (.lst (bk.map T.str))),some (.ow (.dct 0 (dT (ic 0 bk [([],[])])))),z2,z3,z4,z5]):=by
  rw [← enum_zip] at e
  simp [-forL,AZ]
  exact e
 rw [aq fo]
 simp [found]
noncomputable def aR (d:Fd):List Tx:=d.map (·.1)
theorem qL (d:Fd) (w:Tx) (p:Pl):aR (cW d w p)=if w∈aR d then aR d else aR d++[w]:=by
 induction d with
 | nil=>simp [aR,cW]
 | cons a d ih =>
  obtain ⟨x,l⟩:=a
  unfold cW
  by_cases e:x=w
  ·rw [Zs e];subst e;simp [aR]
  ·rw [Zp e]
   have:aR ((x,l) :: cW d w p)=x :: aR (cW d w p):=rfl
   rw [this,ih]
   have e':¬ w=x:=fun z=>e z.symm
   by_cases m:w∈aR d
   ·rw [Zs m,Zs (by simp only [aR,Zt,Zo];exact .inr m)];rfl
   ·rw [Zp m,Zp (by simp only [aR,Zt,Zo,not_or];exact ⟨e',m⟩)];rfl
theorem zh {d:Fd} {w x:Tx} {p:Pl}:x∈aR (cW d w p) ↔ x∈aR d\/x=w:=by
 rw [qL]
 by_cases m:w∈aR d
 ·rw [Zs m]
  constructor
  ·exact .inl
  ·rintro (h | rfl)
   ·exact h
   ·exact m
 ·rw [Zp m];simp
theorem CQ {d:Fd} (w:Tx) (p:Pl) (h:(aR d).Nodup):(aR (cW d w p)).Nodup:=by
 rw [qL]
 by_cases m:w∈aR d
 ·rw [Zs m];exact h
 ·rw [Zp m]
  exact ZJ.mpr ⟨h,by simp,fun a ha b hb e=>m (by rw [Zj] at hb;rw [← hb,← e];exact ha)⟩
theorem CL {d:Fd} {r:List Tx} (w:Tx) (p:Pl) (h:aR d=[] :: r):∃ r',aR (cW d w p)=[] :: r':=by
 rw [qL]
 split
 ·exact ⟨r,h⟩
 ·exact ⟨r++[w],by rw [h];rfl⟩
theorem ng {P:Fd->Prop} (hP:∀ d w p,P d->P (cW d w p)):∀ (l:List Tx) (n:Nat) (d:Fd),P d->P (ic n l d):=by
 have h1:∀ (n:Nat) (t:Tx) (e:Nat) (ss:Vr) (d:Fd),P d->P (adds n t e ss d):=by
  intro n t e ss
  induction ss with
  | nil=>exact fun d h=>h
  | cons s ss ih=>exact fun d h=>ih _ (hP _ _ _ h)
 have h2:∀ (n:Nat) (t:Tx) (es:Vr) (d:Fd),P d->P (g0 n t es d):=by
  intro n t es
  induction es with
  | nil=>exact fun d h=>h
  | cons e es ih=>exact fun d h=>ih _ (h1 n t e _ d h)
 intro l
 induction l with
 | nil=>exact fun n d h=>h
 | cons t l ih=>exact fun n d h=>ih (n+1) _ (h2 n t _ d h)
theorem v8 (bk:List Tx):(aR (found bk)).Nodup:=ng (P:=fun d=>(aR d).Nodup) (fun d w p h=>CQ w p h) bk 0 _ (by simp [aR])
theorem vT (bk:List Tx):∃ r,aR (found bk)=[] :: r:=ng (P:=fun d=>∃ r,aR d=[] :: r) (fun d w p ⟨r,h⟩=>CL w p h) bk 0 _ ⟨[],rfl⟩
theorem vc (n:Nat) (t:Tx) (e:Nat) (x:Tx) (ss:Vr):∀ d,x∈aR (adds n t e ss d) ↔ x∈aR d\/∃ s∈ss,x=(t.drop s).take (e - s):=by
 induction ss with
 | nil=>intro d;simp [adds]
 | cons s ss ih =>
  intro d
  have:=ih (cW d ((t.drop s).take (e - s)) (n,e))
  rw [show adds n t e (s :: ss) d=adds n t e ss (cW d ((t.drop s).take (e - s)) (n,e)) from rfl,this,zh]
  simp [or_assoc]
theorem vq (n:Nat) (t:Tx) (x:Tx) (es:Vr):∀ d,x∈aR (g0 n t es d) ↔ x∈aR d\/∃ e∈es,∃ s∈List.range (e+1),x=(t.drop s).take (e - s):=by
 induction es with
 | nil=>intro d;simp [g0]
 | cons e es ih =>
  intro d
  rw [show g0 n t (e :: es) d=g0 n t es (adds n t e (List.range (e+1)) d) from rfl,ih,vc,or_assoc]
  simp only [Zo,exists_eq_or_imp]
theorem jI (x:Tx) (l:List Tx):∀ n d,x∈aR (ic n l d) ↔ x∈aR d\/∃ t∈l,∃ e∈List.range (t.length+1),∃ s∈List.range (e+1),x=(t.drop s).take (e - s):=by
 induction l with
 | nil=>intro n d;simp [ic]
 | cons t l ih =>
  intro n d
  rw [show ic n (t :: l) d=ic (n+1) l (g0 n t (List.range (t.length+1)) d) from rfl,ih,vq,or_assoc]
  simp only [Zo,exists_eq_or_imp]
theorem qX (bk:List Tx) (x:Tx) (h:x∈aR (found bk)):x.drop 1∈aR (found bk):=by
 unfold found at h ⊢
 rw [jI] at h ⊢
 rcases h with h | ⟨t,ht,e,he,s,hs,rfl⟩
 ·left
  simp [aR] at h ⊢
  rw [h];rfl
 ·have h1:=Z6.mp he
  have h2:=Z6.mp hs
  by_cases q:s=e
  ·left
   subst q
   simp [aR]
  ·right
   refine ⟨t,ht,e,he,s+1,Z6.mpr (by lia),?_⟩
   rw [Wu,WS]
   congr 1
theorem vj (bk:List Tx) (B:Bk 120 bk) (x:Tx) (h:x∈aR (found bk)):Az x/\x.length<=120:=by
 unfold found at h
 rw [jI] at h
 rcases h with h | ⟨t,ht,e,he,s,hs,rfl⟩
 ·simp [aR] at h
  subst h
  exact ⟨fun c hc=>by simp at hc,by simp⟩
 ·refine ⟨fun c hc=>B.az t ht c (Ym (Yn hc)),?_⟩
  have h1:=Z6.mp he
  have hl:t.length<=bk.flatten.length:=by
   obtain ⟨a,b,rfl⟩:=WH ht
   simp only [Z5,Zf,Zu]
   lia
  have:=B.n
  rw [ZR]
  lia
end T21
end
section
namespace T21
open VS L2
noncomputable abbrev Gr:=List (List Pl×List Tx)
noncomputable def nkP (l:List Pl):br:=l.map fun q=>[(q.1:Int),(q.2:Int)]
theorem r9:∀ {x y:List Pl},nkP x=nkP y->x=y
 | [],[],_=>rfl
 | [],_ :: _,h=>by simp [nkP] at h
 | _ :: _,[],h=>by simp [nkP] at h
 | (a,b) :: x,(c,d) :: y,h=>by
  simp only [nkP,Zt,YL,Int.natCast_inj,and_true] at h
  obtain ⟨⟨rfl,rfl⟩,h⟩:=h
  rw [r9 h]
theorem Eh (l:List Pl):nkT (nkP l)=T.tup (l.map tP):=by simp [nkT,nkP,tP]
theorem zW (l:List Pl):yh (T.tup (l.map tP))=some (nkP l):=by
 show (l.map tP).mapM nk1=_
 induction l with
 | nil=>rfl
 | cons a l ih =>
  rw [Zt,List.mapM_cons,ih]
  rfl
noncomputable def gT (g:Gr):List (T×T):=g.map fun p=>(nkT (nkP p.1),T.lst (p.2.map T.str))
noncomputable def dk:Gr->List Pl->Tx->Gr
 | [],k,w=>[(k,[w])]
 | (x,l) :: g,k,w=>if x=k then (x,l++[w]) :: g else (x,l) :: dk g k w
theorem uE {f:T->Option (T×Val)} {k:T} {a:T×T} {L:List (T×T)} (h:eqT a.1 k=false):pG f (a :: L) k=(pG f L k).map (a :: ·):=by
 unfold pG
 rw [Yd,Zp (by rw [h];simp)]
 cases e:L.findIdx? fun q=>eqT q.1 k with
 | none=>rfl
 | some i =>
  simp only [Yc,Zn,List.getElem?_cons_succ]
  cases e2:L[i]? with
  | none=>rfl
  | some q =>
   simp only [Zn]
   cases f q.2 with
   | none=>rfl
   | some z=>rfl
theorem oI {f:T->Option (T×Val)} {k:T} {a:T×T} {L:List (T×T)} (h:eqT a.1 k=true):pG f (a :: L) k=(f a.2).map fun z=>(a.1,z.1) :: L:=by
 unfold pG
 rw [Yd,Zs h]
 rfl
theorem n8 {k:T} {a:T×T} {L:List (T×T)} (h:eqT a.1 k=false):bK (a :: L) k=a :: bK L k:=by
 have q:(a :: L).findIdx? (fun q=>eqT q.1 k)=(L.findIdx? fun q=>eqT q.1 k).map (·+1):=by
  rw [Yd,Zp (by rw [h];exact Zi)]
 unfold bK
 rw [q]
 cases e:L.findIdx? fun q=>eqT q.1 k with
 | none=>rfl
 | some i=>rfl
theorem pT {k:T} {a:T×T} {L:List (T×T)} (h:eqT a.1 k=true):bK (a :: L) k=a :: L:=by
 unfold bK
 rw [Yd,Zs h]
 rfl
theorem yG (g:Gr) (k:List Pl) (w:Tx) (hl:∀ q∈g,q.2.length < 16777216):pG (fun x=>aV x [(.fr,.str w)]) (bK (gT g) (nkT (nkP k))) (nkT (nkP k))=some (gT (dk g k w)):=by
 induction g with
 | nil =>
  have:bK (gT []) (nkT (nkP k))=[(nkT (nkP k),.lst [])]:=rfl
  rw [this,oI (by rw [mm];simp),dB (by decide)]
  rfl
 | cons a g ih =>
  obtain ⟨x,l⟩:=a
  by_cases e:x=k
  ·subst e
   have h:eqT (nkT (nkP x)) (nkT (nkP x))=true:=by rw [mm];simp
   rw [show gT ((x,l) :: g)=(nkT (nkP x),T.lst (l.map T.str)) :: gT g from rfl,pT h,oI h,dB (by rw [Zv];exact hl (x,l) Zw)]
   simp [dk,gT]
  ·have h:eqT (nkT (nkP x)) (nkT (nkP k))=false:=by rw [mm];exact decide_eq_false fun z=>e (r9 z)
   rw [show gT ((x,l) :: g)=(nkT (nkP x),T.lst (l.map T.str)) :: gT g from rfl,n8 h,uE h,ih fun q hq=>hl q (Zx _ hq)]
   simp [dk,gT,e]
theorem qY {i:Nat} {ck:Ex} {cv:Ex} {η:Env} {g:Gr} {w:Tx} {k:List Pl} {m:Md} (h:η[i]?=some (some (.ow (.dct 2 (gT g))))) (hk:ck η=some (m,.tup (k.map tP))) (hv:∀ c,cv (η.set i c)=some (.fr,.str w)) (hl:∀ q∈g,q.2.length < 16777216) (hd:g.length < 16777216) :
  gE i ck (af cv av) η=some (.nx (η.set i (some (.ow (.dct 2 (gT (dk g k w))))))):=by
 unfold gE
 simp only [h]
 rw [hk,Zn,Zs ⟨by rw [zW];rfl,by rw [gT,Zv];exact hd⟩]
 have e:af cv av (η.set i (some (.ow (.dct 2 (bK (gT g) (T.tup (k.map tP)))))))=some [(.fr,.str w)]:=xv (hv _) rfl
 rw [e,Zn,← Eh,yG g k w hl]
 rfl
noncomputable def look:Fd->Tx->List Pl
 | [],_=>[]
 | (x,l) :: d,w=>if x=w then l else look d w
theorem qu (d:Fd) (w:Tx) (h:w∈aR d):bN (dT d) (.str w)=some (.lst ((look d w).map tP)):=by
 induction d with
 | nil=>simp [aR] at h
 | cons a d ih =>
  obtain ⟨x,l⟩:=a
  rw [show dT ((x,l) :: d)=(T.str x,T.lst (l.map tP)) :: dT d from rfl]
  unfold bN
  by_cases e:x=w
  ·rw [Yt,show eqT (T.str x) (T.str w)=true by simp [e]]
   simp [look,e]
  ·rw [Yt,show eqT (T.str x) (T.str w)=false by simpa using e]
   have hm:w∈aR d:=by
    rcases Zo.mp (show w∈x :: aR d from h) with h | h
    ·exact absurd h.symm e
    ·exact h
   rw [show look ((x,l) :: d) w=look d w by simp [look,e]]
   exact ih hm
theorem oO (d:Fd) (w:Tx) (N:Nat) (h:∀ q∈d,q.2.length<=N):(look d w).length<=N:=by
 induction d with
 | nil=>simp [look]
 | cons a d ih =>
  obtain ⟨x,l⟩:=a
  unfold look
  split
  ·exact h _ Zw
  ·exact ih fun q hq=>h q (Zx _ hq)
noncomputable def grp (d:Fd) (ws:List Tx) (g:Gr):Gr:=ws.foldl (fun g w=>dk g (look d w) w) g
theorem ym (g:Gr) (k:List Pl) (w:Tx) (N:Nat) (h:g.length<=N/\∀ q∈g,q.2.length<=N):(dk g k w).length<=N+1/\∀ q∈dk g k w,q.2.length<=N+1:=by
 induction g generalizing N with
 | nil=>simp [dk]
 | cons a g ih =>
  obtain ⟨x,l⟩:=a
  have h1:=h.2 (x,l) Zw
  have h0:=h.1
  unfold dk
  split
  ·refine ⟨by simp only [Zg] at h0 ⊢;exact YD h0,fun q hq=>?_⟩
   rcases Zo.mp hq with rfl | hq
   ·simp only [Zu,ZX];simp only at h1;exact YB h1
   ·have:=h.2 q (Zx _ hq);exact YD this
  ·have hN:∀ (g:Gr),(dk g k w).length<=g.length+1:=by
    intro g
    induction g with
    | nil=>simp [dk]
    | cons a g ih=>obtain ⟨x,l⟩:=a;unfold dk;split <;> simp only [Zg] <;> lia
   refine ⟨by have:=hN g;simp only [Zg] at h0 ⊢;lia,fun q hq=>?_⟩
   rcases Zo.mp hq with rfl | hq
   ·simp only at h1 ⊢;exact YD h1
   ·exact (ih N ⟨by simp only [Zg] at h0;exact XI h0,fun q hq=>h.2 q (Zx _ hq)⟩).2 q hq
theorem st1 (d:Fd) (hd:∀ q∈d,q.2.length<=117129) (ws:List Tx):∀ (g:Gr) (N:Nat) (z:Vo),(∀ w∈ws,w∈aR d)->(g.length<=N/\∀ q∈g,q.2.length<=N)->N+ws.length < 16777216 →
  ∃ z',forL (bg 2) dz (ws.map T.str) [some (.pu (.dct 0 (dT d))),some (.ow (.dct 2 (gT g))),z]=some (.nx [some (.pu (.dct 0 (dT d))),some (.ow (.dct 2 (gT (grp d ws g)))),z']):=by
 induction ws with
 | nil=>exact fun g N z _ _ _=>⟨z,rfl⟩
 | cons w ws ih =>
  intro g N z hw hN hl
  rw [Zg] at hl
  obtain ⟨z',e⟩:=ih (dk g (look d w) w) (N+1) (some (.pu (.str w))) (fun x hx=>hw x (Zx _ hx)) (ym g _ w N hN) (by lia)
  refine ⟨z',?_⟩
  have lk:=qu d w (hw w Zw)
  have ll:=oO d w 117129 hd
  have bo:dz [some (.pu (.dct 0 (dT d))),some (.ow (.dct 2 (gT g))),some (.pu (.str w))]=some (.nx [some (.pu (.dct 0 (dT d))),some (.ow (.dct 2 (gT (dk g (look d w) w)))),some (.pu (.str w))]):=by
   unfold dz
   have im:fA ((look d w).map tP)=true:=gJ tP (fun _=>rfl) _
   have h2:gy [(.pu,.lst ((look d w).map tP))]=some (.fr,.tup ((look d w).map tP)):=by
    show (if _ then _ else _)=_
    rw [Zs (by rw [Zv];exact ZW ll (by decide)),up,imm,im]
    rfl
   exact qY (g:=g) (w:=w) (k:=look d w) (m:=.fr) rfl (kA (xv (e2v (x:=(.pu,.dct 0 (dT d))) (y:=(.fr,.str w)) rfl rfl (by
    show (bN (dT d) (.str w)).map _=_
    rw [lk]
    rfl)) rfl) h2) (fun c=>rfl) (fun q hq=>by have:=hN.2 q hq;lia) (by have:=hN.1;lia)
  rw [Zt,bB rfl bo,e]
  rfl
noncomputable def stT (st:Vp):T:=.lst (st.map fun s=>T.lst (s.map T.str))
noncomputable def fh (d:Fd):Vp:=(grp d (cB (aR d)) []).map (·.2)
theorem vW (d:Fd) (hz:Sz 117129 d) (haz:∀ x∈aR d,Az x/\x.length<=120):cZ [.dct 0 (dT d)]=some (.fr,stT (fh d)):=by
 have pm:=dC (aR d)
 obtain ⟨z',e⟩:=st1 d hz.2 (cB (aR d)) [] 0 none (fun w hw=>pm.mem_iff.mp hw) ⟨by simp,fun q hq=>by simp at hq⟩ (by rw [pm.length_eq,aR,Zv];have:=hz.1;lia)
 have so:jc [(.pu,.dct 0 (dT d))]=some (.fr,.lst ((cB (aR d)).map T.str)):=by
  show ((strs? ((dT d).map (·.1))).bind _)=_
  rw [show (dT d).map (·.1)=d.map fun p=>T.str p.1 by simp [dT],strs_map (fun p:Tx×List Pl=>p.1) d,Zn,show d.map (fun p=>p.1)=aR d from rfl,Zs (show ((aR d).all txB)=true from Yw.mpr fun x hx=>by
   obtain ⟨h1,h2⟩:=haz x hx
   simp only [txB,Yq,decide_eq_true_eq,Yw]
   exact ⟨ZW h2 (by decide),fun c hc=>by have:=h1 c hc;lia⟩)]
 unfold cZ
 refine eA rfl (η:=[some (.pu (.dct 0 (dT d))),none,z']) ?_
 refine (show au _ _ [some (.pu (.dct 0 (dT d))),none,none]=_ from ?_)
 rw [aq (η1:=[some (.pu (.dct 0 (dT d))),some (.ow (.dct 2 (gT []))),none]) rfl,
  aq ((fB (l:=(cB (aR d)).map T.str) (by
   show (eN jc (af (ah 0) av) _).bind _=_
   rw [kA (xv (x:=(.pu,.dct 0 (dT d))) rfl rfl) so]
   rfl)).trans e)]
 show some _=_
 rw [gT,Ya,stT,fh,Ya]
 rfl
structure Stn (st:Vp) (ks:List Tx):Prop where
 ne:∀ s∈st,s ≠ []
 pm:st.flatten.Perm ks
 hd:∃ a b,st=([] :: a) :: b
theorem As (g:Gr) (k:List Pl) (w:Tx) (h:∀ q∈g,q.2 ≠ []):∀ q∈dk g k w,q.2 ≠ []:=by
 induction g with
 | nil=>intro q hq;simp [dk] at hq;rw [hq];simp
 | cons a g ih =>
  obtain ⟨x,l⟩:=a
  have ih:=ih fun q hq=>h q (Zx _ hq)
  unfold dk
  split
  ·intro q hq
   rcases Zo.mp hq with rfl | hq
   ·simp
   ·exact h q (Zx _ hq)
  ·intro q hq
   rcases Zo.mp hq with rfl | hq
   ·exact h _ Zw
   ·exact ih q hq
theorem zJ (g:Gr) (k:List Pl) (w:Tx):((dk g k w).map (·.2)).flatten.Perm (w :: (g.map (·.2)).flatten):=by
 induction g with
 | nil=>simp [dk]
 | cons a g ih =>
  obtain ⟨x,l⟩:=a
  unfold dk
  split
  ·rw [Zt,Zf,Zt,Zf]
   show (l++[w]++_).Perm (w :: (l++_))
   rw [Zl]
   exact Vt
  ·rw [Zt,Zf,Zt,Zf]
   exact (List.Perm.append_left l ih).trans Vt
theorem zG (g:Gr) (k:List Pl) (w:Tx) (k0:List Pl) (a:List Tx) (b:Gr) (h:g=(k0,[] :: a) :: b):∃ a' b',dk g k w=(k0,[] :: a') :: b':=by
 subst h
 unfold dk
 split
 ·exact ⟨a++[w],b,rfl⟩
 ·exact ⟨a,_,rfl⟩
theorem B5 (d:Fd) (ws:List Tx):∀ g:Gr,(∀ q∈g,q.2 ≠ [])->∀ q∈grp d ws g,q.2 ≠ []:=by
 induction ws with
 | nil=>exact fun g h=>h
 | cons w ws ih=>exact fun g h=>ih _ (As g _ w h)
theorem CZ (d:Fd) (ws:List Tx):∀ g:Gr,((grp d ws g).map (·.2)).flatten.Perm (ws++(g.map (·.2)).flatten):=by
 induction ws with
 | nil=>exact fun g=>by simp [grp]
 | cons w ws ih =>
  intro g
  refine (ih (dk g (look d w) w)).trans ?_
  refine ((zJ g (look d w) w).append_left ws).trans ?_
  exact Vt
theorem Bb (d:Fd) (ws:List Tx):∀ (g:Gr) (k0:List Pl) (a:List Tx) (b:Gr),g=(k0,[] :: a) :: b->∃ a' b',grp d ws g=(k0,[] :: a') :: b':=by
 induction ws with
 | nil=>exact fun g k0 a b h=>⟨a,b,h⟩
 | cons w ws ih =>
  intro g k0 a b h
  obtain ⟨a',b',h'⟩:=zG g (look d w) w k0 a b h
  exact ih _ k0 a' b' h'
theorem wL (l:List Tx) (h:[]∈l):∃ r,cB l=[] :: r:=by
 have pm:=dC l
 have pw:=jP l
 have m:[]∈cB l:=pm.mem_iff.mpr h
 cases e:cB l with
 | nil=>rw [e] at m;simp at m
 | cons x r =>
  rw [e] at m pw
  rcases Zo.mp m with m1 | m2
  ·exact ⟨r,by rw [m1]⟩
  ·cases x with
   | nil=>exact ⟨r,rfl⟩
   | cons c x=>exact absurd (.inl (by simp)) ((XQ.mp pw).1 [] m2)
theorem CU (d:Fd) (h:[]∈aR d):Stn (fh d) (aR d):=by
 refine ⟨fun s hs=>?_,?_,?_⟩
 ·obtain ⟨q,hq,rfl⟩:=Yz.mp hs
  exact B5 d _ [] (fun q hq=>by simp at hq) q hq
 ·have:=CZ d (cB (aR d)) []
  simp only [YX,List.flatten_nil,ZG] at this
  exact this.trans (dC _)
 ·obtain ⟨r,e⟩:=wL _ h
  obtain ⟨a,b,h'⟩:=Bb d r (dk [] (look d []) []) (look d []) [] [] rfl
  refine ⟨a,b.map (·.2),?_⟩
  unfold fh
  rw [e,show grp d ([] :: r) []=grp d r (dk [] (look d []) []) from rfl,h']
  rfl
noncomputable def num:Vp->Tx->Nat
 | [],_=>0
 | s :: st,w=>if w∈s then 0 else num st w+1
theorem hV (st:Vp) (w:Tx) (h:w∈st.flatten):num st w < st.length:=by
 induction st with
 | nil=>simp at h
 | cons s st ih =>
  unfold num
  split
  ·simp
  ·rename_i hn
   have:w∈st.flatten:=by
    rw [Zf] at h
    exact (Zd.mp h).resolve_left hn
   have:=ih this
   simp only [Zg];exact Nat.succ_lt_succ this
noncomputable def nT (m:List (Tx×Nat)):List (T×T):=m.map fun p=>(T.str p.1,T.int (p.2:Int))
noncomputable def nums:Nat->Vp->List (Tx×Nat)
 | _,[]=>[]
 | k,s :: st=>s.map (fun w=>(w,k))++nums (k+1) st
theorem oQ (a b:List (T×T)) (k:T):bN (a++b) k=(bN a k).or (bN b k):=by
 unfold bN
 rw [List.find?_append]
 cases a.find? fun p=>eqT p.1 k <;> rfl
theorem xh (s:List Tx) (k:Nat) (w:Tx):bN (nT (s.map fun w=>(w,k))) (.str w)=if w∈s then some (.int (k:Int)) else none:=by
 induction s with
 | nil=>rfl
 | cons x s ih =>
  rw [Zt,show nT ((x,k) :: s.map fun w=>(w,k))=(T.str x,T.int (k:Int)) :: nT (s.map fun w=>(w,k)) from rfl]
  by_cases e:x=w
  ·rw [bN,Yt,show eqT (T.str x) (T.str w)=true by simp [e],Zs (by rw [e];simp)]
   rfl
  ·rw [bN,Yt,show eqT (T.str x) (T.str w)=false by simpa using e]
   have e':¬ w=x:=fun z=>e z.symm
   refine (show bN (nT (s.map fun w=>(w,k))) (.str w)=_ from ?_)
   rw [ih]
   by_cases q:w∈s
   ·rw [Zs q,Zs (Zx _ q)]
   ·rw [Zp q,Zp fun z=>(Zo.mp z).elim e' q]
theorem nB (st:Vp) (w:Tx):∀ k,bN (nT (nums k st)) (.str w)=if w∈st.flatten then some (.int ((k+num st w:Nat):Int)) else none:=by
 induction st with
 | nil=>exact fun k=>rfl
 | cons s st ih =>
  intro k
  rw [nums,nT,Yu,oQ]
  rw [show bN ((s.map fun w=>(w,k)).map fun p=>(T.str p.1,T.int (p.2:Int))) (.str w)=_ from xh s k w]
  rw [show bN ((nums (k+1) st).map fun p=>(T.str p.1,T.int (p.2:Int))) (.str w)=_ from ih (k+1),Zf]
  by_cases h:w∈s
  ·rw [Zs h,Zs (Zd.mpr (.inl h)),show num (s :: st) w=0 by simp [num,h]]
   rfl
  ·rw [Zp h]
   by_cases h2:w∈st.flatten
   ·rw [Zs h2,Zs (Zd.mpr (.inr h2)),show num (s :: st) w=num st w+1 by simp [num,h],show k+(num st w+1)=k+1+num st w by lia]
    rfl
   ·rw [Zp h2,Zp fun z=>(Zd.mp z).elim h h2]
    rfl
theorem Ai (m:List (Tx×Nat)) (w:Tx) (k:Nat) (h:w ∉ m.map (·.1)):dput (nT m) (.str w) (.int (k:Int))=nT (m++[(w,k)]):=by
 unfold dput
 rw [Zp (by
  simp only [List.any_eq_true,not_exists,not_and]
  intro p hp
  obtain ⟨q,hq,rfl⟩:=Yz.mp hp
  simp only [eqT,beq_iff_eq]
  intro e
  exact h (Yz.mpr ⟨q,hq,e⟩))]
 simp [nT]
theorem yK {i:Nat} {k e:Ex} {η:Env} {l:List (T×T)} {kv v:T} {m n:Md} (h:η[i]?=some (some (.ow (.dct 0 l)))) (he:e η=some (m,v)) (hk:k η=some (n,kv)) (h1:il kv=true) (h2:imm v=true) (h3:l.length < 16777216):ny i k e η=some (.nx (η.set i (some (.ow (.dct 0 (dput l kv v)))))):=by
 unfold ny
 rw [he,Zn,h,hk]
 exact Zs ⟨h1,h2,h3⟩
theorem nm1 (st:T) (some_:T) (k:Nat) (s:List Tx):∀ (m:List (Tx×Nat)) (z:Vo),(m.map (·.1)++s).Nodup->m.length+s.length < 16777216 →
  ∃ z',forL (bg 4) dj (s.map T.str) [some (.pu st),some (.ow (.dct 0 (nT m))),some (.pu (.int k)),some (.pu some_),z]=some (.nx [some (.pu st),some (.ow (.dct 0 (nT (m++s.map fun w=>(w,k))))),some (.pu (.int k)),some (.pu some_),z']):=by
 induction s with
 | nil=>exact fun m z _ _=>⟨z,by simp [forL]⟩
 | cons w s ih =>
  intro m z hn hl
  rw [Zg] at hl
  obtain ⟨z',e⟩:=ih (m++[(w,k)]) (some (.pu (.str w))) (by simpa using hn) (by rw [Zu,ZX];lia)
  refine ⟨z',?_⟩
  have nw:w ∉ m.map (·.1):=fun hm=>by
   have:=(ZJ.mp hn).2.2 w hm w Zw
   exact this rfl
  have bo:dj [some (.pu st),some (.ow (.dct 0 (nT m))),some (.pu (.int k)),some (.pu some_),some (.pu (.str w))]=some (.nx [some (.pu st),some (.ow (.dct 0 (nT (m++[(w,k)])))),some (.pu (.int k)),some (.pu some_),some (.pu (.str w))]):=by
   unfold dj
   rw [yK (l:=nT m) (kv:=.str w) (v:=.int (k:Int)) (m:=.fr) (n:=.fr) rfl rfl rfl rfl rfl (by rw [nT,Zv];lia),Ai m w k nw]
   rfl
  rw [Zt,bB rfl bo,e]
  simp
theorem nm2 (st:T) (l:Vp):∀ (n:Nat) (m:List (Tx×Nat)) (z2 z3 z4:Vo),(m.map (·.1)++l.flatten).Nodup->m.length+l.flatten.length < 16777216 →
  ∃ z2' z3' z4',forL (jM [bg 2,bg 3]) eE (dq n (l.map fun s=>T.lst (s.map T.str))) [some (.pu st),some (.ow (.dct 0 (nT m))),z2,z3,z4]=some (.nx [some (.pu st),some (.ow (.dct 0 (nT (m++nums n l)))),z2',z3',z4']):=by
 induction l with
 | nil=>exact fun n m z2 z3 z4 _ _=>⟨z2,z3,z4,by simp [forL,dq,nums]⟩
 | cons s l ih =>
  intro n m z2 z3 z4 hn hl
  rw [Zf,Zu] at hl
  rw [Zf,← Zl] at hn
  obtain ⟨y4,e1⟩:=nm1 st (.lst (s.map T.str)) n s m z4 (ZJ.mp hn).1 (by lia)
  obtain ⟨x2,x3,x4,e⟩:=ih (n+1) (m++s.map fun w=>(w,n)) (some (.pu (.int n))) (some (.pu (.lst (s.map T.str)))) y4 (by rw [Yu,Ya,show ((fun x:Tx×Nat=>x.1) ∘ fun w:Tx=>(w,n))=id from rfl,List.map_id];exact hn) (by rw [Zu,Zv];lia)
  refine ⟨x2,x3,x4,?_⟩
  rw [Zt,dq,bB (η1:=[some (.pu st),some (.ow (.dct 0 (nT m))),some (.pu (.int n)),some (.pu (.lst (s.map T.str))),z4]) rfl (by
   unfold eE
   rw [jA (m:=.pu) (l:=s.map T.str) rfl rfl,e1]),e,Zl]
  rfl
theorem uL (st:Vp) (hn:st.flatten.Nodup) (hl:st.flatten.length < 16777216):cJ [stT st]=some (.fr,.dct 0 (nT (nums 0 st))):=by
 obtain ⟨z2,z3,z4,e⟩:=nm2 (stT st) st 0 [] none none none (by simpa using hn) (by simpa using hl)
 unfold cJ
 refine eA rfl (η:=[some (.pu (stT st)),none,z2,z3,z4]) ?_
 refine (show au _ _ [some (.pu (stT st)),none,none,none,none]=_ from ?_)
 rw [aq (η1:=[some (.pu (stT st)),some (.ow (.dct 0 (nT []))),none,none,none]) (by
  have:ly 0 [] [some (.pu (stT st)),none,none,none,none]=some (.fr,.dct 0 (nT [])):=rfl
  simp [this])]
 rw [aq (η1:=[some (.pu (stT st)),some (.ow (.dct 0 (nT (nums 0 st)))),z2,z3,z4]) (by
  rw [jA (m:=.pu) (l:=dq 0 (st.map fun s=>T.lst (s.map T.str))) rfl rfl]
  exact e)]
 simp
noncomputable def hdW (s:List Tx):Tx:=s.headD []
noncomputable def laW (s:List Tx):Tx:=s.getLast?.getD []
theorem qf {m n:Md} {s:List Tx} (h:s ≠ []):bq (m,.lst (s.map T.str)) (n,.int 0)=some (.fr,.str (hdW s)):=by
 cases s with
 | nil=>exact absurd rfl h
 | cons a s =>
  have:ixP ((T.str a :: s.map T.str).length) 0=some 0:=oo (k:=0) (by simp)
  show (ixP ((T.str a :: s.map T.str).length) 0).bind _=_
  rw [this]
  rfl
theorem DE {m n:Md} {s:List Tx} (h:s ≠ []):bq (m,.lst (s.map T.str)) (n,.int (-1))=some (.fr,.str (laW s)):=by
 have hl:0 < s.length:=WN.mpr h
 have:ixP ((s.map T.str).length) (-1)=some (s.length - 1):=by
  unfold ixP
  rw [Zp (by lia),Zv,Zs (by lia)]
  congr 1
  lia
 show (ixP ((s.map T.str).length) (-1)).bind _=_
 rw [this,Zn,Z1,Za (show s.length - 1 < s.length by omega)]
 unfold laW
 rw [List.getLast?_eq_getElem?,Za (show s.length - 1 < s.length by omega)]
 rfl
noncomputable def wT (p:Nat×Nat):T:=.tup [.str [p.1],.int (p.2:Int)]
noncomputable def fD (st:Vp) (h:Tx) (c:Nat):List (Nat×Nat):=if h++[c]∈st.flatten then [(c,num st (h++[c]))] else []
noncomputable def bI (st:Vp) (h:Tx) (cs:Vr):List (Nat×Nat):=cs.flatMap (fD st h)
theorem v9 (st:Vp) (h:Tx) (cs:Vr):(bI st h cs).length<=cs.length:=by
 induction cs with
 | nil=>simp [bI]
 | cons c cs ih =>
  have:bI st h (c :: cs)=fD st h c++bI st h cs:=rfl
  rw [this,Zu,Zg]
  have:(fD st h c).length<=1:=by unfold fD;split <;> simp
  lia
noncomputable abbrev ET (st:Vp) (S tb:T) (s:List Tx) (z4 z5 z6:Vo):Env:=[some (.pu S),some (.pu (.dct 0 (nT (nums 0 st)))),some (.ow tb),some (.pu (.lst (s.map T.str))),z4,z5,z6]
theorem C9 {m n:Md} {l:List (T×T)} {k:Tx} {r:Option T} (h:bN l (.str k)=r):ml (m,.str k) (n,.dct 0 l)=some (.fr,.bl r.isSome):=by
 subst h
 rfl
theorem AR {m n:Md} {l:List (T×T)} {k:Tx} {i:Int} (h:bN l (.str k)=some (.int i)):oIx (m,.dct 0 l) (n,.str k)=some (.fr,.int i):=by
 show (bN l (.str k)).map _=_
 rw [h]
 rfl
theorem uZ {as:Exs} {η:Env} {l:Vn} {t:T} (h:as η=some l) (hl:l.length<=16777216) (ht:T.tup (trees l)=t) (hi:imm t=true):jT as η=some (.fr,t):=by
 subst ht
 show (as η).bind qz=_
 rw [h,Zn,ql hl,up,hi]
 rfl
theorem tb1 (st:Vp) (S:T) (tb:T) (s:List Tx) (hs:s ≠ []) (hl:(hdW s).length<=120) (l6:Vo) (cs:Vr):∀ (ws:List (Nat×Nat)) (z:Vo),ws.length+cs.length < 1000 →
  ∃ z',forL (bg 5) iD (cs.map fun c=>T.str [c]) (ET st S tb s (some (.ow (.lst (ws.map wT)))) z l6)=some (.nx (ET st S tb s (some (.ow (.lst ((ws++bI st (hdW s) cs).map wT)))) z' l6)):=by
 induction cs with
 | nil=>exact fun ws z _=>⟨z,by rw [show bI st (hdW s) []=[] from rfl,ZG];rfl⟩
 | cons c cs ih =>
  intro ws z hw
  rw [Zg] at hw
  have hq:=nB st (hdW s++[c]) 0
  rw [Xu] at hq
  have ad:e2 bZ (e2 bq (ah 3) (eC (.int 0))) (ah 5) (ET st S tb s (some (.ow (.lst (ws.map wT)))) (some (.pu (.str [c]))) l6)=some (.fr,.str (hdW s++[c])):=e2v (y:=(.fr,.str [c])) (e2v rfl rfl (qf hs)) rfl (iN (show (hdW s).length+1<=16777216 by lia))
  have cd:=e2v (f:=ml) (b:=ah 1) ad rfl (C9 hq)
  rw [show bI st (hdW s) (c :: cs)=fD st (hdW s) c++bI st (hdW s) cs from rfl,← Zl,Zt]
  by_cases p:hdW s++[c]∈st.flatten
  ·rw [Zs p] at hq cd
   rw [fD,Zs p]
   obtain ⟨z',e⟩:=ih (ws++[(c,num st (hdW s++[c]))]) (some (.pu (.str [c]))) (by rw [Zu,ZX];lia)
   refine ⟨z',?_⟩
   rw [← e]
   refine bB rfl ((mH cd).trans ((iH (l:=ws.map wT) (t:=wT (c,num st (hdW s++[c]))) rfl (uZ (l:=[(.fr,.str [c]),(.fr,.int (num st (hdW s++[c])))]) (xv rfl (xv (e2v rfl ad (AR hq)) rfl)) (show 2<=16777216 by decide) rfl rfl) (by rw [Zv];lia)).trans ?_))
   rw [Yu]
   rfl
  ·rw [Zp p] at cd
   rw [fD,Zp p,ZG]
   obtain ⟨z',e⟩:=ih ws (some (.pu (.str [c]))) (by lia)
   exact ⟨z',(bB rfl (kg cd)).trans e⟩
noncomputable def cX:Vr:=[97,98,99,100,101,102,103,104,105,106,107,108,109,110,111,112,113,114,115,116,117,118,119,120,121,122]
noncomputable def lkT (st:Vp) (s:List Tx):T:=if hdW s=[] then .non else .int (num st ((hdW s).drop 1):Nat)
noncomputable def gp (st:Vp) (s:List Tx):T:=.tup [.int (hdW s).length,.int (laW s).length,lkT st s,.tup ((bI st (hdW s) cX).map wT)]
theorem nR (l:List (Nat×Nat)):fA (l.map wT)=true:=gJ wT (fun x=>by simp [wT]) l
theorem sP (st:Vp) (s:List Tx):imm (lkT st s)=true:=by unfold lkT;split <;> rfl
theorem lV (st:Vp) (s:List Tx):imm (gp st s)=true:=by simp [gp,sP,nR]
theorem Fc (t:Tx):cut t (some 1) none=t.drop 1:=by
 unfold cut clip
 simp only [show ¬ ((1:Int) < 0) by lia,if_false]
 by_cases h:1<=t.length
 ·rw [Yv (by simpa using h),show (1:Int).toNat=1 from rfl,ZK (by simp)]
 ·have:t=[]:=XN.mp (by lia)
  subst this
  rfl
theorem ne_nil {m n:Md} (t:Tx):oNe (m,.str t) (n,.str [])=some (.fr,.bl (!decide (t=[]))):=by
 cases t with
 | nil=>rfl
 | cons a t=>rfl
theorem wR (st:Vp) (S:T) (s:List Tx) (hs:s ≠ []) (hl:(hdW s).length<=120) (ht:hdW s ≠ []->(hdW s).drop 1∈st.flatten) (tb:Vl) (hb:tb.length < 16777216) (z4 z5 z6:Vo) :
  ∃ z4' z5' z6',eu (ET st S (.lst tb) s z4 z5 z6)=some (.nx (ET st S (.lst (tb++[gp st s])) s z4' z5' z6')):=by
 obtain ⟨z',e⟩:=tb1 st S (.lst tb) s hs hl z6 cX [] z5 (by decide)
 rw [Yr] at e
 refine ⟨some (.pu (.lst ((bI st (hdW s) cX).map wT))),z',some (.pu (lkT st s)),?_⟩
 unfold eu
 rw [aq (η1:=ET st S (.lst tb) s (some (.ow (.lst (([]:List (Nat×Nat)).map wT)))) z5 z6) rfl,
  aq ((fB (l:=cX.map fun c=>T.str [c]) rfl).trans e),
  aq (η1:=ET st S (.lst tb) s (some (.pu (.lst ((bI st (hdW s) cX).map wT)))) z' z6) rfl,
  aq (η1:=ET st S (.lst tb) s (some (.pu (.lst ((bI st (hdW s) cX).map wT)))) z' (some (.pu .non))) rfl,
  aq (η1:=ET st S (.lst tb) s (some (.pu (.lst ((bI st (hdW s) cX).map wT)))) z' (some (.pu (lkT st s)))) (by
  have cd:=e2v (f:=oNe) (η:=ET st S (.lst tb) s (some (.pu (.lst ((bI st (hdW s) cX).map wT)))) z' (some (.pu .non))) (b:=eC (.str [])) (e2v (a:=ah 3) (b:=eC (.int 0)) rfl rfl (qf hs)) rfl (ne_nil _)
  unfold lkT
  by_cases p:hdW s=[]
  ·rw [decide_eq_true p] at cd
   rw [Zs p]
   exact kg cd
  ·have hq:=nB st ((hdW s).drop 1) 0
   rw [Xu,Zs (ht p)] at hq
   rw [decide_eq_false p] at cd
   rw [Zp p]
   refine (mH cd).trans (aJ (m:=.fr) (e2v (y:=(.fr,.str ((hdW s).drop 1))) rfl ?_ (AR hq)) (by decide) (by decide:6 < 7))
   show (e2 bq (ah 3) (eC (.int 0)) _).bind _=_
   rw [e2v (a:=ah 3) (b:=eC (.int 0)) rfl rfl (qf hs),Zn]
   exact congrArg (fun t=>some (Md.fr,T.str t)) (Fc _))]
 have wi:=nR (bI st (hdW s) cX)
 have wl:(bI st (hdW s) cX).length<=16777216:=ZW (v9 _ _ _) (by decide)
 have tl:∀ m,gy [(m,.lst ((bI st (hdW s) cX).map wT))]=some (.fr,.tup ((bI st (hdW s) cX).map wT)):=fun m=>by
  show (if _ then _ else _)=_
  rw [Zs (by rw [Zv];exact wl),up,imm,wi]
  rfl
 exact iH (l:=tb) (t:=gp st s) rfl (uZ (xv (kA (xv (e2v rfl rfl (qf hs)) rfl) rfl) (xv (kA (xv (e2v rfl rfl (DE hs)) rfl) rfl) (xv (x:=(_,lkT st s)) rfl (xv (kA (xv rfl rfl) (tl _)) (xs:=[]) rfl)))) (show 4<=16777216 by decide) rfl (lV st s)) hb
theorem tb2 (st:Vp) (S:T) (l:Vp):∀ (tb:Vl) (z3 z4 z5 z6:Vo),(∀ s∈l,s ≠ []/\(hdW s).length<=120/\(hdW s ≠ []->(hdW s).drop 1∈st.flatten))->tb.length+l.length < 16777216 →
  ∃ z3' z4' z5' z6',forL (bg 3) eu (l.map fun s=>T.lst (s.map T.str)) [some (.pu S),some (.pu (.dct 0 (nT (nums 0 st)))),some (.ow (.lst tb)),z3,z4,z5,z6] =
   some (.nx [some (.pu S),some (.pu (.dct 0 (nT (nums 0 st)))),some (.ow (.lst (tb++l.map (gp st)))),z3',z4',z5',z6']):=by
 induction l with
 | nil=>exact fun tb z3 z4 z5 z6 _ _=>⟨z3,z4,z5,z6,by rw [YX,YX,ZG];rfl⟩
 | cons s l ih =>
  intro tb z3 z4 z5 z6 h hl
  rw [Zg] at hl
  obtain ⟨h1,h2,h3⟩:=h s Zw
  obtain ⟨y4,y5,y6,eb⟩:=wR st S s h1 h2 h3 tb (by lia) z4 z5 z6
  obtain ⟨x3,x4,x5,x6,e⟩:=ih (tb++[gp st s]) (some (.pu (.lst (s.map T.str)))) y4 y5 y6 (fun x hx=>h x (Zx _ hx)) (by rw [Zu,ZX];lia)
  refine ⟨x3,x4,x5,x6,?_⟩
  rw [Zt,bB rfl eb,e,Zl]
  rfl
noncomputable def bQ (st:Vp):T:=.lst (st.map (gp st))
theorem yz (st:Vp) (h:∀ s∈st,s ≠ []/\(hdW s).length<=120/\(hdW s ≠ []->(hdW s).drop 1∈st.flatten)) (hl:st.length < 16777216):dN [stT st,.dct 0 (nT (nums 0 st))]=some (.fr,bQ st):=by
 obtain ⟨z3,z4,z5,z6,e⟩:=tb2 st (stT st) st [] none none none none h (by simpa using hl)
 rw [Yr] at e
 unfold dN
 refine eA rfl (η:=[some (.pu (stT st)),some (.pu (.dct 0 (nT (nums 0 st)))),none,z3,z4,z5,z6]) ?_
 refine (show au _ _ [some (.pu (stT st)),some (.pu (.dct 0 (nT (nums 0 st)))),none,none,none,none,none]=_ from ?_)
 rw [aq (η1:=[some (.pu (stT st)),some (.pu (.dct 0 (nT (nums 0 st)))),some (.ow (.lst [])),none,none,none,none]) rfl]
 rw [aq (η1:=[some (.pu (stT st)),some (.pu (.dct 0 (nT (nums 0 st)))),some (.ow (.lst (st.map (gp st)))),z3,z4,z5,z6]) (by
  rw [jA (m:=.pu) (l:=st.map fun s=>T.lst (s.map T.str)) rfl rfl]
  exact e)]
 simp [bQ]
structure GI (f:Tx->List Pl) (g:Gr) (pre:List Tx):Prop where
 nd:(g.map (·.1)).Nodup
 eq:∀ q∈g,q.2=pre.filter fun w=>decide (f w=q.1)
 al:∀ w∈pre,f w∈g.map (·.1)
theorem nC (g:Gr) (k:List Pl) (w:Tx):(dk g k w).map (·.1)=if k∈g.map (·.1) then g.map (·.1) else g.map (·.1)++[k]:=by
 induction g with
 | nil=>simp [dk]
 | cons a g ih =>
  obtain ⟨x,l⟩:=a
  unfold dk
  by_cases e:x=k
  ·rw [Zs e];subst e;simp
  ·rw [Zp e,Zt,ih]
   have e':¬ k=x:=fun z=>e z.symm
   by_cases m:k∈g.map (·.1)
   ·rw [Zs m,Zs (by rw [Zt];exact Zx _ m)];rfl
   ·rw [Zp m,Zp (by rw [Zt,Zo,not_or];exact ⟨e',m⟩)];rfl
theorem wq (g:Gr) (k:List Pl) (w:Tx) (nd:(g.map (·.1)).Nodup) (q:List Pl×List Tx) (h:q∈dk g k w):(q.1 ≠ k/\q∈g)\/(q.1=k/\((∃ l,(k,l)∈g/\q.2=l++[w])\/(k ∉ g.map (·.1)/\q.2=[w]))):=by
 induction g with
 | nil =>
  simp only [dk,Zj] at h
  subst h
  exact .inr ⟨rfl,.inr ⟨by simp,rfl⟩⟩
 | cons a g ih =>
  obtain ⟨x,l⟩:=a
  rw [Zt,ZY] at nd
  unfold dk at h
  by_cases e:x=k
  ·rw [Zs e] at h
   rcases Zo.mp h with rfl | h
   ·exact .inr ⟨e,.inl ⟨l,by rw [← e];exact Zw,rfl⟩⟩
   ·exact .inl ⟨fun z=>nd.1 (Yz.mpr ⟨q,h,z.trans e.symm⟩),Zx _ h⟩
  ·rw [Zp e] at h
   rcases Zo.mp h with rfl | h
   ·exact .inl ⟨e,Zw⟩
   ·rcases ih nd.2 h with ⟨h1,h2⟩ | ⟨h1,⟨l',h2,h3⟩ | ⟨h2,h3⟩⟩
    ·exact .inl ⟨h1,Zx _ h2⟩
    ·exact .inr ⟨h1,.inl ⟨l',Zx _ h2,h3⟩⟩
    ·exact .inr ⟨h1,.inr ⟨by rw [Zt,Zo,not_or];exact ⟨fun z=>e z.symm,h2⟩,h3⟩⟩
theorem GI.add {f:Tx->List Pl} {g:Gr} {pre:List Tx} (I:GI f g pre) (w:Tx):GI f (dk g (f w) w) (pre++[w]):=by
 refine ⟨?_,fun q hq=>?_,fun x hx=>?_⟩
 ·rw [nC]
  by_cases m:f w∈g.map (·.1)
  ·rw [Zs m];exact I.nd
  ·rw [Zp m]
   exact ZJ.mpr ⟨I.nd,by simp,fun a ha b hb e=>m (by rw [Zj] at hb;rw [← hb,← e];exact ha)⟩
 ·rw [List.filter_append]
  rcases wq g (f w) w I.nd q hq with ⟨h1,h2⟩ | ⟨h1,⟨l,h2,h3⟩ | ⟨h2,h3⟩⟩
  ·rw [I.eq q h2,show [w].filter (fun w=>decide (f w=q.1))=[] by rw [XM (by simp only [decide_eq_true_eq];exact fun z=>h1 z.symm)];rfl,ZG]
  ·rw [h3,show l=pre.filter fun w'=>decide (f w'=f w) from I.eq (f w,l) h2,h1,show [w].filter (fun w'=>decide (f w'=f w))=[w] by simp]
  ·rw [h3,h1,show [w].filter (fun w'=>decide (f w'=f w))=[w] by simp,List.filter_eq_nil_iff.mpr fun x hx=>by
    have:=I.al x hx
    simp only [decide_eq_true_eq]
    intro z
    rw [z] at this
    exact h2 this]
   rfl
 ·rw [nC]
  rcases Zd.mp hx with hx | hx
  ·have:=I.al x hx
   by_cases m:f w∈g.map (·.1)
   ·rw [Zs m];exact this
   ·rw [Zp m];exact Zd.mpr (.inl this)
  ·rw [Zj.mp hx]
   by_cases m:f w∈g.map (·.1)
   ·rw [Zs m];exact m
   ·rw [Zp m];simp
theorem GI.grp {d:Fd} (ws:List Tx):∀ {g:Gr} {pre:List Tx},GI (look d) g pre->GI (look d) (grp d ws g) (pre++ws):=by
 induction ws with
 | nil=>intro g pre I;rw [ZG];exact I
 | cons w ws ih =>
  intro g pre I
  have:=ih (I.add w)
  rw [Zl] at this
  exact this
theorem EE (d:Fd):GI (look d) (grp d (cB (aR d)) []) (cB (aR d)):=GI.grp (cB (aR d)) (g:=[]) (pre:=[]) ⟨by simp,fun q hq=>by simp at hq,fun w hw=>by simp at hw⟩
theorem AY (d:Fd) (s:List Tx) (h:s∈fh d):∃ k,s=(cB (aR d)).filter fun w=>decide (look d w=k):=by
 obtain ⟨q,hq,rfl⟩:=Yz.mp h
 exact ⟨q.1,(EE d).eq q hq⟩
theorem xu (d:Fd) (s:List Tx) (h:s∈fh d):s.Pairwise (fun a b=>¬ lL b a):=by
 obtain ⟨k,rfl⟩:=AY d s h
 exact (jP _).filter _
theorem jt (d:Fd) (s:List Tx) (h:s∈fh d) (w:Tx) (hw:w∈s):(hdW s).length<=w.length:=by
 have p:=xu d s h
 cases s with
 | nil=>simp at hw
 | cons a s =>
  rcases Zo.mp hw with rfl | hw
  ·exact Zr _
  ·have:=(XQ.mp p).1 w hw
   unfold lL at this
   show a.length<=_
   lia
theorem nJ (st:Vp) (w:Tx) (h:w∈st.flatten):w∈st.getD (num st w) []:=by
 induction st with
 | nil=>simp at h
 | cons s st ih =>
  by_cases m:w∈s
  ·rw [show num (s :: st) w=0 by simp [num,m]];exact m
  ·rw [show num (s :: st) w=num st w+1 by simp [num,m],XZ]
   rw [Zf] at h
   exact ih ((Zd.mp h).resolve_left m)
theorem getD_mem (st:Vp) (i:Nat) (h:i < st.length):st.getD i []∈st:=by
 rw [Z3,Za h]
 exact Xc h
theorem u5 (d:Fd) (w x:Tx) (p:Pl):look (cW d w p) x=if x=w then look d x++[p] else look d x:=by
 induction d with
 | nil =>
  by_cases e:x=w
  ·simp [cW,look,e]
  ·have e':¬ w=x:=fun z=>e z.symm
   simp [cW,look,e,e']
 | cons a d ih =>
  obtain ⟨y,l⟩:=a
  unfold cW
  by_cases e:y=w
  ·rw [Zs e]
   subst e
   by_cases e2:y=x
   ·simp [look,e2]
   ·have e3:¬ x=y:=fun z=>e2 z.symm
    simp [look,e2,e3]
  ·rw [Zp e]
   by_cases e2:y=x
   ·have e3:¬ x=w:=fun z=>e (e2.trans z)
    simp [look,e2,e3]
   ·rw [show look ((y,l) :: cW d w p) x=look (cW d w p) x by simp [look,e2],show look ((y,l) :: d) x=look d x by simp [look,e2],ih]
theorem uD (n:Nat) (t:Tx) (e:Nat) (x:Tx) (ss:Vr):∀ d,look (adds n t e ss d) x=look d x++(ss.filter fun s=>decide ((t.drop s).take (e - s)=x)).map fun _=>(n,e):=by
 induction ss with
 | nil=>intro d;simp [adds]
 | cons s ss ih =>
  intro d
  rw [show adds n t e (s :: ss) d=adds n t e ss (cW d ((t.drop s).take (e - s)) (n,e)) from rfl,ih,u5]
  by_cases h:x=(t.drop s).take (e - s)
  ·rw [Zs h,Wf (by simpa using h.symm)]
   simp
  ·rw [Zp h,XM (by simpa using fun z=>h z.symm)]
theorem kS {P:Nat->Bool} {s0:Nat}:∀ {l:Vr},l.Nodup->(∀ s∈l,P s=true->s=s0)->l.filter P=if s0∈l/\P s0=true then [s0] else []
 | [],_,_=>by simp
 | a :: l,hn,h=>by
  obtain ⟨h1,h2⟩:=ZY.mp hn
  have ih:=kS h2 fun s hs=>h s (Zx _ hs)
  by_cases q:P a=true
  ·have e:=h a Zw q
   subst e
   rw [Wf q,ih,Zp fun z=>h1 z.1,Zs ⟨Zw,q⟩]
  ·rw [XM q,ih]
   by_cases z:s0∈l/\P s0=true
   ·rw [Zs z,Zs ⟨Zx _ z.1,z.2⟩]
   ·rw [Zp z,Zp]
    rintro ⟨z1,z2⟩
    rcases Zo.mp z1 with rfl | z1
    ·exact q z2
    ·exact z ⟨z1,z2⟩
theorem starts (t x:Tx) (e:Nat) (he:e<=t.length):((List.range (e+1)).filter fun s=>decide ((t.drop s).take (e - s)=x)).map (fun _=>())=if x <:+ t.take e then [()] else []:=by
 have cut:∀ s,s<=e->(t.drop s).take (e - s)=(t.take e).drop s:=fun s hs=>by rw [Wu]
 have len:∀ s,s<=e->((t.take e).drop s).length=e - s:=fun s hs=>by rw [ZQ,ZR];lia
 rw [kS (s0:=e - x.length) List.nodup_range fun s hs hp=>by
  have h1:=Z6.mp hs
  have h2:=of_decide_eq_true hp
  rw [cut s (by exact Ye h1)] at h2
  have:=len s (by exact Ye h1)
  rw [h2] at this
  omega]
 by_cases h:x <:+ t.take e
 ·have hl:x.length<=e:=by have:=h.length_le;rw [ZR] at this;lia
  rw [Zs h,Zs]
  ·rfl
  ·refine ⟨Z6.mpr (by omega),decide_eq_true ?_⟩
   rw [cut _ (by exact YS _ _)]
   obtain ⟨y,hy⟩:=h
   have h1:(t.take e).length=e:=by rw [ZR];exact Yv he
   rw [← hy,Zu] at h1
   rw [← hy,show e - x.length=y.length by lia,List.drop_left]
 ·rw [Zp h,Zp]
  ·rfl
  ·rintro ⟨h1,h2⟩
   have h1:=Z6.mp h1
   have h2:=of_decide_eq_true h2
   rw [cut _ (by exact YS _ _)] at h2
   exact h (by rw [← h2];exact XC _ _)
theorem nt (n:Nat) (t x:Tx) (es:Vr):∀ d,(∀ e∈es,e<=t.length)->look (g0 n t es d) x=look d x++(es.filter fun e=>decide (x <:+ t.take e)).map fun e=>(n,e):=by
 induction es with
 | nil=>intro d _;simp [g0]
 | cons e es ih =>
  intro d h
  rw [show g0 n t (e :: es) d=g0 n t es (adds n t e (List.range (e+1)) d) from rfl,ih _ fun i hi=>h i (Zx _ hi),uD]
  have st:=starts t x e (h e Zw)
  have:((List.range (e+1)).filter fun s=>decide ((t.drop s).take (e - s)=x)).map (fun _=>(n,e))=(if x <:+ t.take e then [()] else []).map fun _=>(n,e):=by
   rw [← st,Ya];rfl
  rw [this]
  by_cases q:x <:+ t.take e
  ·rw [Zs q,Wf (by simpa using q)]
   simp
  ·rw [Zp q,XM (by simpa using q)]
   simp
noncomputable def jQ:Nat->List Tx->List Pl
 | _,[]=>[]
 | n,t :: l=>(List.range (t.length+1)).map (fun e=>(n,e))++jQ (n+1) l
theorem yX (l:List Tx):∀ n p,p∈jQ n l->n<=p.1:=by
 induction l with
 | nil=>intro n p h;simp [jQ] at h
 | cons t l ih =>
  intro n p h
  rcases Zd.mp h with h | h
  ·obtain ⟨e,_,rfl⟩:=Yz.mp h
   exact Zr _
  ·have:=ih (n+1) p h
   exact XI this
theorem uf (x:Tx) (l:List Tx):∀ n d,look (ic n l d) x=look d x++(jQ n l).filter fun p=>decide (x <:+ (l.getD (p.1 - n) []).take p.2):=by
 induction l with
 | nil=>intro n d;simp [ic,jQ]
 | cons t l ih =>
  intro n d
  rw [show ic n (t :: l) d=ic (n+1) l (g0 n t (List.range (t.length+1)) d) from rfl,ih,nt n t x _ d fun e he=>by have:=Z6.mp he;exact Ye this,Zl]
  congr 1
  rw [jQ,List.filter_append,List.filter_map]
  congr 1
  ·congr 1
   apply W6
   intro e _
   simp
  ·apply W6
   intro p hp
   have:=yX l (n+1) p hp
   rw [show p.1 - n=(p.1 - (n+1))+1 by lia,XZ]
noncomputable def En (bk:List Tx) (x:Tx) (p:Pl):Prop:=x <:+ (bk.getD p.1 []).take p.2
noncomputable instance (bk:List Tx) (x:Tx) (p:Pl):Decidable (En bk x p):=inferInstanceAs (Decidable (_ <:+ _))
theorem jl (bk:List Tx) (x:Tx):look (found bk) x=(jQ 0 bk).filter fun p=>decide (En bk x p):=by
 unfold found
 rw [uf,show look [([],[])] x=[] by unfold look;split <;> rfl,Yr]
 rfl
theorem oU {bk:List Tx} {x:Tx} {p:Pl}:p∈look (found bk) x ↔ p∈jQ 0 bk/\En bk x p:=by
 rw [jl,X6,decide_eq_true_eq]
theorem Vz {bk:List Tx} {x y:Tx}:look (found bk) x=look (found bk) y ↔ ∀ p∈jQ 0 bk,En bk x p ↔ En bk y p:=by
 constructor
 ·intro h p hp
  have h1:=oU (bk:=bk) (x:=x) (p:=p)
  have h2:=oU (bk:=bk) (x:=y) (p:=p)
  rw [h] at h1
  exact ⟨fun z=>(h2.mp (h1.mpr ⟨hp,z⟩)).2,fun z=>(h1.mp (h2.mpr ⟨hp,z⟩)).2⟩
 ·intro h
  rw [jl,jl]
  apply W6
  intro p hp
  exact decide_eq_decide.mpr (h p hp)
theorem gF (l:List Tx):∀ n p,p∈jQ n l ↔ n<=p.1/\p.1 < n+l.length/\p.2<=(l.getD (p.1 - n) []).length:=by
 induction l with
 | nil=>intro n p;simp [jQ];lia
 | cons t l ih =>
  intro n p
  obtain ⟨i,e⟩:=p
  rw [jQ,Zd,ih,Yz]
  simp only [Z6,Prod.mk.injEq,Zg]
  constructor
  ·rintro (⟨a,h1,h2,h3⟩ | ⟨h1,h2,h3⟩)
   ·subst h2 h3
    simp
    exact Ye h1
   ·refine ⟨by exact XI h1,by lia,?_⟩
    rw [show i - n=(i - (n+1))+1 by lia,XZ]
    exact h3
  ·rintro ⟨h1,h2,h3⟩
   by_cases q:i=n
   ·subst q
    simp at h3
    exact .inl ⟨e,by exact Nat.lt_succ_of_le h3,rfl,rfl⟩
   ·rw [show i - n=(i - (n+1))+1 by lia,XZ] at h3
    exact .inr ⟨by lia,by lia,h3⟩
theorem j7 {bk:List Tx} {x:Tx}:x∈aR (found bk) ↔ x=[]\/∃ p∈jQ 0 bk,En bk x p:=by
 unfold found
 rw [jI]
 constructor
 ·rintro (h | ⟨t,ht,e,he,s,hs,rfl⟩)
  ·left;simpa [aR] using h
  ·right
   obtain ⟨i,hi,rfl⟩:=Ys ht
   have h1:=Z6.mp he
   refine ⟨(i,e),(gF bk 0 (i,e)).mpr ⟨ZO _,by simpa using hi,?_⟩,?_⟩
   ·simp [hi];exact Ye h1
   ·show _ <:+ (bk.getD i []).take e
    rw [Z3,Za hi,XE,← Wu]
    exact XC _ _
 ·rintro (h | ⟨⟨i,e⟩,hp,h⟩)
  ·left;rw [h];simp [aR]
  ·right
   obtain ⟨_,h2,h3⟩:=(gF bk 0 (i,e)).mp hp
   have hi:i < bk.length:=by simpa using h2
   have hg:bk.getD i []=bk[i]:=by rw [Z3,Za hi,XE]
   have h3:e<=bk[i].length:=by simpa [hi] using h3
   have h4:x <:+ bk[i].take e:=by rw [← hg];exact h
   have hl:x.length<=e:=by have:=h4.length_le;rw [ZR] at this;lia
   refine ⟨bk[i],Xc hi,e,Z6.mpr (by exact Nat.lt_succ_of_le h3),e - x.length,Z6.mpr (by lia),?_⟩
   obtain ⟨y,hy⟩:=h4
   have h5:(bk[i].take e).length=e:=by rw [ZR];exact Yv h3
   rw [← hy,Zu] at h5
   rw [← Wu,← hy,show e - x.length=y.length by lia,List.drop_left]
theorem jw {s:List Tx} (h:s ≠ []):hdW s∈s:=by
 cases s with
 | nil=>exact absurd rfl h
 | cons a s=>exact Zw
theorem sF {s:List Tx} (h:s ≠ []):laW s∈s:=by
 unfold laW
 rw [List.getLast?_eq_some_getLast h]
 exact List.getLast_mem h
theorem nM {d:Fd} {s:List Tx} (hs:s∈fh d) (hne:s ≠ []) (w:Tx):w∈s ↔ w∈aR d/\look d w=look d (hdW s):=by
 obtain ⟨k,e⟩:=AY d s hs
 have hk:look d (hdW s)=k:=by
  have:=jw hne
  rw [e] at this
  have:=(X6.mp this).2
  rw [← e] at this
  exact of_decide_eq_true this
 rw [hk]
 conv=>lhs;rw [e]
 rw [X6,decide_eq_true_eq,(dC (aR d)).mem_iff]
theorem t4 (st:Vp) (u v:Tx) (h:∀ s∈st,u∈s ↔ v∈s):num st u=num st v:=by
 induction st with
 | nil=>rfl
 | cons s st ih =>
  have e:=ih fun x hx=>h x (Zx _ hx)
  have e2:=h s Zw
  unfold num
  by_cases q:u∈s
  ·rw [Zs q,Zs (e2.mp q)]
  ·rw [Zp q,Zp fun z=>q (e2.mpr z),e]
theorem xi {d:Fd} (h0:∀ s∈fh d,s ≠ []) {u v:Tx} (hu:u∈aR d) (hv:v∈aR d) (h:look d u=look d v):num (fh d) u=num (fh d) v :=
 t4 _ u v fun s hs=>by rw [nM hs (h0 s hs),nM hs (h0 s hs),h];exact ⟨fun z=>⟨hv,z.2⟩,fun z=>⟨hu,z.2⟩⟩
theorem oe {bk:List Tx} {x y:Tx} {p:Pl} (h:x <:+ y) (e:En bk y p):En bk x p:=h.trans e
theorem rg {bk:List Tx} {x:Tx} {c n e:Nat} (h:e+1<=(bk.getD n []).length):En bk (x++[c]) (n,e+1) ↔ En bk x (n,e)/\(bk.getD n [])[e]?=some c:=by
 unfold En
 dsimp only
 have ht:(bk.getD n []).take (e+1)=(bk.getD n []).take e++[(bk.getD n [])[e]]:=by rw [List.take_add_one,Za (show e < (bk.getD n []).length by exact W3 h)];rfl
 rw [ht,Za (show e < (bk.getD n []).length by exact W3 h)]
 constructor
 ·rintro ⟨y,hy⟩
  rw [← Zl] at hy
  obtain ⟨h1,h2⟩:=List.append_inj' hy rfl
  refine ⟨⟨y,h1⟩,?_⟩
  simp only [YL,and_true] at h2
  rw [h2]
 ·rintro ⟨⟨y,hy⟩,h2⟩
  refine ⟨y,?_⟩
  rw [← Zl,hy,ZI h2]
theorem oi {bk:List Tx} {x:Tx} {n:Nat} (h:En bk x (n,0)):x=[]:=by
 unfold En at h
 simpa using h
theorem xf {bk:List Tx} {x y:Tx} (c:Nat) (h:look (found bk) x=look (found bk) y):look (found bk) (x++[c])=look (found bk) (y++[c]):=by
 rw [Vz] at h ⊢
 rintro ⟨n,e⟩ hp
 cases e with
 | zero=>exact ⟨fun z=>absurd (oi z) (by simp),fun z=>absurd (oi z) (by simp)⟩
 | succ e =>
  have hp':=(gF bk 0 (n,e+1)).mp hp
  have hl:e+1<=(bk.getD n []).length:=by simpa using hp'.2.2
  rw [rg hl,rg hl]
  have hq:(n,e)∈jQ 0 bk:=(gF bk 0 (n,e)).mpr ⟨hp'.1,hp'.2.1,by simpa using (by (exact XI hl):e<=(bk.getD n []).length)⟩
  rw [h _ hq]
theorem zO {bk:List Tx} {x y:Tx} (hx:x ≠ []) (hy:y ≠ []) (h:look (found bk) x=look (found bk) y):x∈aR (found bk) ↔ y∈aR (found bk):=by
 rw [Vz] at h
 rw [j7,j7]
 constructor
 ·rintro (z | ⟨p,hp,z⟩)
  ·exact absurd z hx
  ·exact .inr ⟨p,hp,(h p hp).mp z⟩
 ·rintro (z | ⟨p,hp,z⟩)
  ·exact absurd z hy
  ·exact .inr ⟨p,hp,(h p hp).mpr z⟩
theorem yR {bk:List Tx} {x:Tx} {c:Nat} (h:x++[c]∈aR (found bk)):x∈aR (found bk):=by
 rw [j7] at h ⊢
 rcases h with h | ⟨⟨n,e⟩,hp,h⟩
 ·simp at h
 ·cases e with
  | zero=>have:=oi h;simp at this
  | succ e =>
   have hp':=(gF bk 0 (n,e+1)).mp hp
   have hl:e+1<=(bk.getD n []).length:=by simpa using hp'.2.2
   exact .inr ⟨(n,e),(gF bk 0 (n,e)).mpr ⟨hp'.1,hp'.2.1,by simpa using (by (exact XI hl):e<=(bk.getD n []).length)⟩,((rg hl).mp h).1⟩
theorem zB (d:Fd) (s:List Tx) (h:s∈fh d) (w:Tx) (hw:w∈s):w.length<=(laW s).length:=by
 have p:=xu d s h
 have hne:s ≠ []:=List.ne_nil_of_mem hw
 obtain ⟨a,b,rfl⟩:∃ a b,s=a++[b]:=⟨_,_,(List.dropLast_concat_getLast hne).symm⟩
 rw [show laW (a++[b])=b by simp [laW]]
 rcases Zd.mp hw with hw | hw
 ·have:=(ZE.mp p).2.2 w hw b (by simp)
  unfold lL at this
  lia
 ·rw [Zj.mp hw]
  exact Zr _
noncomputable def i9 (h L:Tx):List Tx:=(List.range' h.length (L.length - h.length+1)).map fun l=>L.drop (L.length - l)
theorem iW {h L y:Tx} (hl:h.length<=L.length):y∈i9 h L ↔ y <:+ L/\h.length<=y.length:=by
 unfold i9
 rw [Yz]
 constructor
 ·rintro ⟨l,hl',rfl⟩
  have:=Wr.mp hl'
  exact ⟨XC _ _,by rw [ZQ];omega⟩
 ·rintro ⟨h1,h2⟩
  have:=h1.length_le
  exact ⟨y.length,Wr.mpr ⟨h2,by lia⟩,(List.suffix_iff_eq_drop.mp h1).symm⟩
theorem wJ (h L:Tx) (hl:h.length<=L.length):(i9 h L).Pairwise (fun a b=>a.length < b.length):=by
 unfold i9
 rw [W5]
 have pw:=List.pairwise_lt_range' (s:=h.length) (n:=L.length - h.length+1)
 exact pw.imp_of_mem fun {a b} ha hb hab=>by
  have h1:=Wr.mp ha
  have h2:=Wr.mp hb
  rw [ZQ,ZQ]
  omega
theorem u7 (bk:List Tx) (s:List Tx) (hs:s∈fh (found bk)) (hne:s ≠ []) (hn:s.Nodup):s=i9 (hdW s) (laW s):=by
 have hh:=jw hne
 have hL:=sF hne
 have hl:=jt (found bk) s hs _ hL
 have m:=fun w=>nM hs hne (d:=found bk) w
 have kL:=(m _).mp hL
 have suf:∀ x∈s,x <:+ laW s:=fun x hx=>by
  have hx':=(m x).mp hx
  have len:=zB (found bk) s hs x hx
  rcases j7.mp kL.1 with z | ⟨p,hp,z⟩
  ·rw [z] at len
   have:x=[]:=XN.mp (by simpa using len)
   rw [this];exact List.nil_suffix
  ·have zx:En bk x p:=(Vz.mp (hx'.2.trans kL.2.symm) p hp).mpr z
   exact YK zx z len
 have mem:∀ y,y∈s ↔ y∈i9 (hdW s) (laW s):=fun y=>by
  rw [iW hl]
  constructor
  ·exact fun hy=>⟨suf y hy,jt (found bk) s hs y hy⟩
  ·rintro ⟨h1,h2⟩
   have h3:hdW s <:+ y:=YK (suf _ hh) h1 h2
   have hlk:look (found bk) y=look (found bk) (hdW s):=by
    rw [Vz]
    intro p hp
    exact ⟨oe h3,fun z=>oe h1 ((Vz.mp kL.2 p hp).mpr z)⟩
   refine (m y).mpr ⟨?_,hlk⟩
   rcases j7.mp kL.1 with z | ⟨p,hp,z⟩
   ·rw [z] at h1
    rw [List.suffix_nil.mp h1,← z]
    exact kL.1
   ·exact j7.mpr (.inr ⟨p,hp,oe h1 z⟩)
 have pw:=wJ (hdW s) (laW s) hl
 have nd:(i9 (hdW s) (laW s)).Nodup:=pw.imp fun h e=>by rw [e] at h;lia
 have pm:(i9 (hdW s) (laW s)).Perm s:=(List.perm_ext_iff_of_nodup nd hn).mpr fun y=>(mem y).symm
 have e1:=ja pm (pw.imp fun h=>by unfold lL;lia)
 have e2:=ja (XH s) (xu (found bk) s hs)
 rw [e1,← e2]
theorem lJ {f:Val->Val->Vm} {a b:Ex} {η:Env} {x y:Val} (h1:a η=some x) (h2:b η=some y):e2 f a b η=f x y:=by
 show (a η).bind _=_
 rw [h1,Zn,h2]
 rfl
theorem wA {a:Ex} {r:Exs} {η:Env} {x:Val} {xs:Vn} (h1:a η=some x) (h2:r η=some xs):af a r η=some (x :: xs):=xv h1 h2
theorem uy {α:Type} (f:α->T) (l:List α):∀ n:Nat,dq n (l.map f)=(l.zipIdx n).map fun p=>T.tup [.int p.2,f p.1]:=by
 induction l with
 | nil=>intro n;rfl
 | cons t l ih=>intro n;rw [Xe,Zt,Zt,dq,ih (n+1)]
theorem Ar {f g:Val->Val->Vm} {a b c:Ex} {η:Env} {x y z v:Val} (h1:a η=some x) (h2:b η=some y) (h3:f x y=some (.fr,.bl true)) (h4:c η=some z) (h5:g y z=some v):ij f g a b c η=some v:=by
 show (a η).bind _=_
 rw [h1,Zn,h2,Zn,h3,Zn]
 show (c η).bind _=_
 rw [h4]
 exact h5
theorem vL {a:Ex} {η:Env} {b:Bool} (h:a η=some (.fr,.bl b)):gq a η=some (.fr,.bl (!b)):=by
 show (a η).bind _=_
 rw [h]
 rfl
theorem xC (l:Vl) (k:Nat) (h:k < l.length):bP [.lst l,.int k]=some (.fr,.non):=by
 have c2:gq (ij oLe oLt (eC (.int 0)) (ah 1) (eN fz (af (ah 0) av))) [some (.pu (.lst l)),some (.pu (.int k))]=some (.fr,.bl false):=vL (b:=true) (Ar (x:=(.fr,.int 0)) (y:=(.fr,.int k)) rfl rfl (congrArg (fun b=>some (Md.fr,T.bl b)) (decide_eq_true (by lia:(0:Int)<=(k:Int)))) (kA (xv rfl rfl) rfl) (congrArg (fun b=>some (Md.fr,T.bl b)) (decide_eq_true (show (k:Int) < (l.length:Int) by lia))))
 have c3:eOr (gq (aL gS (af (ah 1) av))) (gq (ij oLe oLt (eC (.int 0)) (ah 1) (eN fz (af (ah 0) av)))) [some (.pu (.lst l)),some (.pu (.int k))]=some (.fr,.bl false):=c2
 unfold bP fn
 rw [Zs (show [T.lst l,T.int k].length=2 from rfl)]
 exact congrArg (fun z:Option Out=>z.bind _) (kg c3)
theorem zU (st:Vp) (s:List Tx) (n:Nat):eqD (n+3) (gp st s)=true:=by
 have d1:eqD (n+2) (lkT st s)=true:=by unfold lkT;split <;> rfl
 have d2:((bI st (hdW s) cX).map wT).all (eqD (n+1))=true:=by
  rw [Yw]
  intro x hx
  obtain ⟨p,_,rfl⟩:=Yz.mp hx
  simp [wT]
 unfold gp
 rw [eqD]
 simp only [XX,List.all_nil,d1,eqD,d2,Bool.and_self,Bool.true_and]
theorem Do (l:Vp):(∀ s∈l,s ≠ [])->l.length<=l.flatten.length:=by
 induction l with
 | nil=>exact fun _=>by simp
 | cons s l ih =>
  intro h
  have h1:=WN.mpr (h s Zw)
  have h2:=ih fun x hx=>h x (Zx _ hx)
  rw [Zf,Zu,Zg]
  lia
theorem Cm (st:Vp) (h:st.length < 16777216):eD [(.pu,bQ st)]=some (.fr,bQ st):=by
 have im:fA (st.map (gp st))=true:=gJ (gp st) (fun s=>lV st s) st
 show mkL .pu (st.map (gp st))=_
 rw [jd (by rw [Zv];exact ZS h),im]
 rfl
theorem DK {f:Vn->Vm} {as:Exs} {η:Env} {xs:Vn} (h:as η=some xs):eN f as η=f xs:=by
 show (as η).bind f=_
 rw [h]
 rfl
theorem uY {m n:Md} (st:Vp) (i:Nat) (h:i < st.length):bq (m,bQ st) (n,.int (i:Int))=some (.fr,gp st (st.getD i [])):=by
 show (ixP ((st.map (gp st)).length) (i:Int)).bind _=_
 rw [oo (by rw [Zv];exact h),Zn,Z1,Za h,Z3,Za h,Yc,Yc,XE]
 unfold sub up
 rw [lV,Zs rfl]
theorem D6 {m n:Md} (st:Vp) (s:List Tx):bq (m,gp st s) (n,.int 2)=some (.fr,lkT st s):=by
 show some (sub m (lkT st s))=_
 rw [sub,up,sP,Zs rfl]
theorem A9 {m n:Md} (l:Vl) (t:T):bq (m,.lst (l++[t])) (n,.int (-1))=some (sub m t):=by
 have:ixP ((l++[t]).length) (-1)=some l.length:=by
  unfold ixP
  rw [Zp (by lia),Zu,ZX,Zs (by lia)]
  congr 1
  lia
 show (ixP ((l++[t]).length) (-1)).bind _=_
 rw [this,Zn,Yx (Zr _)]
 simp
noncomputable def wd (ws:List (Nat×Nat)):List (T×T):=ws.map fun p=>(T.str [p.1],T.int (p.2:Int))
theorem Dz (ws:List (Nat×Nat)):nS (ws.map wT)=some (wd ws):=by
 induction ws with
 | nil=>rfl
 | cons w ws ih =>
  show (if il (T.str [w.1])/\imm (T.int (w.2:Int)) then (nS (ws.map wT)).map _ else none)=_
  rw [Zs ⟨rfl,rfl⟩,ih]
  rfl
theorem qh:∀ (ws acc:List (Nat×Nat)),((acc++ws).map (·.1)).Nodup->(wd ws).foldl (fun d q=>dput d q.1 q.2) (wd acc)=wd (acc++ws)
 | [],acc,_=>by rw [ZG];rfl
 | w :: ws,acc,h=>by
  have hn:w.1 ∉ acc.map (·.1):=fun z=>by
   rw [Yu,Zt] at h
   exact (ZJ.mp h).2.2 w.1 z w.1 Zw rfl
  have e:dput (wd acc) (T.str [w.1]) (T.int (w.2:Int))=wd (acc++[w]):=by
   unfold dput
   rw [Zp (by
    simp only [List.any_eq_true,not_exists,not_and]
    intro p hp
    obtain ⟨q,hq,rfl⟩:=Yz.mp hp
    simp only [eqT,beq_iff_eq,YL,and_true]
    intro z
    exact hn (Yz.mpr ⟨q,hq,z⟩))]
   simp [wd]
  show (wd ws).foldl _ (dput (wd acc) (T.str [w.1]) (T.int (w.2:Int)))=_
  rw [e,qh ws (acc++[w]) (by rw [Zl];exact h),Zl]
  rfl
theorem sO (st:Vp) (h:Tx):∀ (cs:Vr),cs.Nodup->((bI st h cs).map (·.1)).Sublist cs
 | [],_=>by simp [bI]
 | c :: cs,hn=>by
  obtain ⟨h1,h2⟩:=ZY.mp hn
  have ih:=sO st h cs h2
  have:bI st h (c :: cs)=fD st h c++bI st h cs:=rfl
  rw [this,Yu]
  unfold fD
  split
  ·exact ih.cons₂ c
  ·exact ih.cons c
theorem Bn {m:Md} (st:Vp) (h:Tx):jg [(m,.tup ((bI st h cX).map wT))]=some (.fr,.dct 0 (wd (bI st h cX))):=by
 show (nS ((bI st h cX).map wT)).map _=_
 rw [Dz,Yc]
 have nd:((bI st h cX).map (·.1)).Nodup:=(sO st h cX (by decide)).nodup (by decide)
 have:=qh (bI st h cX) [] (by simpa using nd)
 rw [Yr] at this
 exact congrArg (fun z=>some (Md.fr,T.dct 0 z)) this
theorem nE (st:Vp) (h:Tx) (c:Nat):∀ (cs:Vr),bN (wd (bI st h cs)) (.str [c])=if c∈cs/\h++[c]∈st.flatten then some (.int (num st (h++[c]):Nat)) else none
 | []=>by simp [bI,wd,bN]
 | a :: cs=>by
  have ih:=nE st h c cs
  have e:bI st h (a :: cs)=fD st h a++bI st h cs:=rfl
  rw [e,wd,Yu,oQ,show bN ((bI st h cs).map fun p=>(T.str [p.1],T.int (p.2:Int))) (.str [c])=_ from ih]
  by_cases q:a=c
  ·subst q
   by_cases p:h++[a]∈st.flatten
   ·have h0:bN ((fD st h a).map fun p=>(T.str [p.1],T.int (p.2:Int))) (.str [a])=some (.int (num st (h++[a]):Nat)):=by rw [fD,Zs p];simp [bN]
    rw [h0]
    exact (Zs ⟨Zw,p⟩).symm
   ·have h0:bN ((fD st h a).map fun p=>(T.str [p.1],T.int (p.2:Int))) (.str [a])=none:=by rw [fD,Zp p];rfl
    rw [h0,Zp fun z=>p z.2]
    exact (Zp fun z=>p z.2).symm
  ·have hn:bN ((fD st h a).map fun p=>(T.str [p.1],T.int (p.2:Int))) (.str [c])=none:=by
    unfold fD
    split
    ·simp [bN,q]
    ·rfl
   rw [hn]
   have q':¬ c=a:=fun z=>q z.symm
   by_cases z:c∈cs/\h++[c]∈st.flatten
   ·rw [Zs z,Zs ⟨Zx _ z.1,z.2⟩];rfl
   ·rw [Zp z,Zp fun y=>z ⟨(Zo.mp y.1).resolve_left q',y.2⟩];rfl
noncomputable def wl (st:Vp):Tx->Tx->Vr
 | _,[]=>[]
 | u,c :: cs=>if u++[c]∈st.flatten then num st (u++[c]) :: wl st (u++[c]) cs else []
structure Wk (st:Vp):Prop where
 ne:∀ s∈st,s ≠ []
 len:st.length<=117129
 z0:num st []=0
 nil:[]∈st.flatten
 az:∀ x∈st.flatten,Az x
 ext:∀ u∈st.flatten,∀ c,(hdW (st.getD (num st u) [])++[c]∈st.flatten ↔ u++[c]∈st.flatten)/\(u++[c]∈st.flatten->num st (hdW (st.getD (num st u) [])++[c])=num st (u++[c]))
theorem Ah:∀ c,c < 123->97<=c->c∈cX:=by decide
theorem Wk.way {st:Vp} (W:Wk st) {u:Tx} (hu:u∈st.flatten) (c:Nat):bN (wd (bI st (hdW (st.getD (num st u) [])) cX)) (.str [c])=if u++[c]∈st.flatten then some (.int (num st (u++[c]):Nat)) else none:=by
 rw [nE]
 obtain ⟨e1,e2⟩:=W.ext u hu c
 by_cases p:u++[c]∈st.flatten
 ·have hc:=W.az _ p c (by simp)
  rw [Zs p,Zs ⟨Ah c (by lia) hc.1,e1.mpr p⟩,e2 p]
 ·rw [Zp p,Zp fun z=>p (e1.mp z.2)]
theorem FA {m n:Md} (st:Vp) (s:List Tx):bq (m,gp st s) (n,.int 3)=some (.fr,.tup ((bI st (hdW s) cX).map wT)):=by
 have wi:=nR (bI st (hdW s) cX)
 unfold gp
 simp [ixP,wi]
noncomputable abbrev iL (ms:Vr):T:=.lst (ms.map fun i:Nat=>T.int (i:Int))
noncomputable abbrev E5 (st:Vp) (w:Tx) (ms:Vr) (z3 z4:Vo):Env:=[some (.pu (bQ st)),some (.pu (.str w)),some (.ow (iL ms)),z3,z4]
theorem xS {a b:Ex} {η:Env} {m n:Md} {k:T} {l:List (T×T)} (h1:a η=some (m,k)) (h2:b η=some (n,.dct 0 l)) (hk:il k=true):e2 fG a b η=some (.fr,.bl (!(bN l k).isSome)):=by
 rw [lJ h1 h2]
 simp [hk]
theorem Cu {m n:Md} {k v:T} {l:List (T×T)} (hk:il k=true) (h:bN l k=some v) (hv:imm v=true):oIx (m,.dct 0 l) (n,k)=some (.fr,v):=by
 show (if il k=true then (bN l k).map (sub m) else none)=_
 rw [Zs hk,h]
 simp [hv]
theorem yA {st:Vp} (W:Wk st) (w:Tx) {u:Tx} (hu:u∈st.flatten) (ms:Vr) (c:Nat) (z4:Vo) :
  aN 4 (eN jg (af (e2 bq (e2 bq (ah 0) (e2 bq (ah 2) (eC (.int (-1))))) (eC (.int 3))) av)) (E5 st w (ms++[num st u]) (some (.pu (.str [c]))) z4)=some (.nx (E5 st w (ms++[num st u]) (some (.pu (.str [c]))) (some (.pu (.dct 0 (wd (bI st (hdW (st.getD (num st u) [])) cX))))))):=by
 have hi:=hV st u hu
 have h1:e2 bq (ah 2) (eC (.int (-1))) (E5 st w (ms++[num st u]) (some (.pu (.str [c]))) z4)=some (.fr,.int (num st u:Nat)):=by
  rw [lJ (x:=(.bo,.lst ((ms.map fun i:Nat=>T.int (i:Int))++[.int (num st u:Nat)]))) (y:=(.fr,.int (-1))) (by simp) rfl,A9]
  rfl
 have h2:e2 bq (e2 bq (ah 0) (e2 bq (ah 2) (eC (.int (-1))))) (eC (.int 3)) (E5 st w (ms++[num st u]) (some (.pu (.str [c]))) z4)=some (.fr,.tup ((bI st (hdW (st.getD (num st u) [])) cX).map wT)):=by
  rw [lJ (x:=(.fr,gp st (st.getD (num st u) []))) (y:=(.fr,.int 3)) (by rw [lJ (x:=(.pu,bQ st)) (by simp [bQ]) h1,uY st _ hi]) rfl,FA]
 rw [aJ (m:=.fr) (t:=.dct 0 (wd (bI st (hdW (st.getD (num st u) [])) cX))) (by rw [DK (wA h2 rfl),Bn]) (by decide) (by simp)]
 rfl
theorem wk1 {st:Vp} (W:Wk st) (w:Tx) (cs:Tx):∀ (u:Tx) (ms:Vr) (z3 z4:Vo),u∈st.flatten->ms.length+cs.length < 1000000 →
  (∃ z3' z4',forL (bg 3) bX (cs.map fun c=>T.str [c]) (E5 st w (ms++[num st u]) z3 z4)=some (.nx (E5 st w (ms++[num st u]++wl st u cs) z3' z4'))) ∨
  ∃ η',forL (bg 3) bX (cs.map fun c=>T.str [c]) (E5 st w (ms++[num st u]) z3 z4)=some (.rt (.fr,iL (ms++[num st u]++wl st u cs)) η'):=by
 induction cs with
 | nil=>exact fun u ms z3 z4 _ _=>.inl ⟨z3,z4,by simp [forL,wl]⟩
 | cons c cs ih =>
  intro u ms z3 z4 hu hl
  rw [Zg] at hl
  have dg:=W.way hu c
  have s1:=yA W w hu ms c z4
  have ni:e2 fG (ah 3) (ah 4) (E5 st w (ms++[num st u]) (some (.pu (.str [c]))) (some (.pu (.dct 0 (wd (bI st (hdW (st.getD (num st u) [])) cX))))))=some (.fr,.bl (!(bN (wd (bI st (hdW (st.getD (num st u) [])) cX)) (.str [c])).isSome)):=xS (m:=.fr) (n:=.pu) rfl rfl rfl
  by_cases p:u++[c]∈st.flatten
  ·rw [Zs p] at dg
   have bo:bX (E5 st w (ms++[num st u]) (some (.pu (.str [c]))) z4)=some (.nx (E5 st w (ms++[num st u]++[num st (u++[c])]) (some (.pu (.str [c]))) (some (.pu (.dct 0 (wd (bI st (hdW (st.getD (num st u) [])) cX))))))):=by
    unfold bX
    rw [aq s1,aq (η1:=E5 st w (ms++[num st u]) (some (.pu (.str [c]))) (some (.pu (.dct 0 (wd (bI st (hdW (st.getD (num st u) [])) cX)))))) (by rw [kg (m:=.fr) (by rw [ni,dg];rfl)];rfl)]
    rw [iH (l:=(ms++[num st u]).map fun i:Nat=>T.int (i:Int)) (t:=.int (num st (u++[c]):Nat)) rfl (by rw [lJ (x:=(.pu,.dct 0 (wd (bI st (hdW (st.getD (num st u) [])) cX)))) (y:=(.fr,.str [c])) rfl rfl];exact Cu rfl dg rfl) (by rw [Zv,Zu,ZX];lia)]
    simp
   have hw:wl st u (c :: cs)=num st (u++[c]) :: wl st (u++[c]) cs:=by rw [wl,Zs p]
   rw [hw]
   have:=ih (u++[c]) (ms++[num st u]) (some (.pu (.str [c]))) (some (.pu (.dct 0 (wd (bI st (hdW (st.getD (num st u) [])) cX))))) p (by rw [Zu,ZX];lia)
   rw [Zt,bB (η1:=E5 st w (ms++[num st u]) (some (.pu (.str [c]))) z4) rfl bo]
   simpa [Zl] using this
  ·rw [Zp p] at dg
   right
   have hw:wl st u (c :: cs)=[]:=by rw [wl,Zp p]
   rw [hw,ZG]
   have bo:bX (E5 st w (ms++[num st u]) (some (.pu (.str [c]))) z4)=some (.rt (.fr,iL (ms++[num st u])) [some (.pu (bQ st)),some (.pu (.str w)),none,some (.pu (.str [c])),some (.pu (.dct 0 (wd (bI st (hdW (st.getD (num st u) [])) cX))))]):=by
    unfold bX
    rw [aq s1,pb (η':=[some (.pu (bQ st)),some (.pu (.str w)),none,some (.pu (.str [c])),some (.pu (.dct 0 (wd (bI st (hdW (st.getD (num st u) [])) cX))))]) (v:=(.fr,iL (ms++[num st u]))) (by rw [mH (m:=.fr) (by rw [ni,dg];rfl)];rfl)]
   exact ⟨_,yF (η1:=E5 st w (ms++[num st u]) (some (.pu (.str [c]))) z4) rfl bo⟩
theorem B9 {st:Vp} (W:Wk st) (w:Tx) (hw:w.length<=1000):je [bQ st,.str w]=some (.fr,iL (0 :: wl st [] w)):=by
 have key:=wk1 W w w [] [] none none W.nil (by simp;lia)
 rw [Yr,W.z0] at key
 have h0:au (hU 2 (eO (af (eC (.int 0)) av))) (au (dG (bg 3) (fS (ah 1)) bX) (gG 2)) [some (.pu (bQ st)),some (.pu (.str w)),none,none,none]=au (dG (bg 3) (fS (ah 1)) bX) (gG 2) (E5 st w [0] none none):=by
  rw [aq (η1:=E5 st w [0] none none) rfl]
 have it:dG (bg 3) (fS (ah 1)) bX (E5 st w [0] none none)=forL (bg 3) bX (w.map fun c=>T.str [c]) (E5 st w [0] none none):=fB rfl
 unfold je
 rcases key with ⟨z3,z4,e⟩ | ⟨η',e⟩
 ·refine eA rfl (η:=[some (.pu (bQ st)),some (.pu (.str w)),none,z3,z4]) ?_
  refine (show au _ _ [some (.pu (bQ st)),some (.pu (.str w)),none,none,none]=_ from ?_)
  rw [h0,aq (it.trans e)]
  rfl
 ·refine eA rfl (η:=η') ?_
  refine (show au _ _ [some (.pu (bQ st)),some (.pu (.str w)),none,none,none]=_ from ?_)
  rw [h0,pb (it.trans e)]
  rfl
noncomputable def lk (st:Vp) (i:Nat):Nat:=num st ((hdW (st.getD i [])).drop 1)
noncomputable def chF (st:Vp):Nat->Nat->Vr
 | 0,i=>[i]
 | n+1,i=>i :: (if hdW (st.getD i [])=[] then [] else chF st n (lk st i))
theorem sj {c:Ex} {body:Sx} {f:Nat} {η η2:Env} {m:Md} (h:c η=some (m,.bl true)) (hb:body η=some (.nx η2)):ef c body (f+1) η=ef c body f η2:=by
 simp [ef,h,hb]
theorem yC {c:Ex} {body:Sx} {f:Nat} {η:Env} {m:Md} (h:c η=some (m,.bl false)):ef c body (f+1) η=some (.nx η):=by
 simp [ef,h]
structure Lk (st:Vp):Prop where
 ne:∀ s∈st,s ≠ []
 len:st.length < 1000000
 lt:∀ i < st.length,(hdW (st.getD i [])).drop 1∈st.flatten
 dn:∀ i < st.length,hdW (st.getD i []) ≠ []->(hdW (st.getD (lk st i) [])).length < (hdW (st.getD i [])).length
 sz:∀ i < st.length,(hdW (st.getD i [])).length<=120
theorem Lk.in {st:Vp} (L:Lk st) {i:Nat} (h:i < st.length):lk st i < st.length:=hV st _ (L.lt i h)
theorem Lk.non {st:Vp} (L:Lk st) {i:Nat} (h:i < st.length):st.getD i [] ≠ []:=L.ne _ (getD_mem st i h)
noncomputable abbrev EC (st:Vp) (c:T) (ms:Vr):Env:=[some (.pu (bQ st)),some (.pu c),some (.ow (.lst (ms.map fun i:Nat=>T.int (i:Int))))]
theorem sd {st:Vp} (L:Lk st) {i:Nat} (h:i < st.length) (ms:Vr) (hl:ms.length < 16777216):fO (EC st (.int i) ms)=some (.nx (EC st (lkT st (st.getD i [])) (ms++[i]))):=by
 unfold fO
 rw [aq (η1:=EC st (.int i) (ms++[i])) (by
  rw [iH (l:=ms.map fun i:Nat=>T.int (i:Int)) (t:=.int i) rfl (by simp) (by rw [Zv];exact hl)]
  simp)]
 rw [aJ (m:=.fr) (t:=lkT st (st.getD i [])) (by
  rw [lJ (x:=(.fr,gp st (st.getD i []))) (y:=(.fr,.int 2)) (by
   rw [lJ (x:=(.pu,bQ st)) (y:=(.fr,.int i)) (by simp [bQ]) (by simp),uY st i h]) rfl,D6]) (by decide) (by simp)]
 rfl
theorem xN {st:Vp} (L:Lk st) {i:Nat} (hi:i < st.length) (ms:Vr) (hm:ms.length < 16777216) (f:Nat) (p:hdW (st.getD i [])=[]):ef (kZ (ah 1)) fO (f+2) (EC st (.int i) ms)=some (.nx (EC st .non (ms++[i]))):=by
 rw [sj (m:=.fr) rfl (sd L hi ms hm),show lkT st (st.getD i [])=.non by unfold lkT;rw [Zs p],yC (m:=.fr) rfl]
theorem ch1 {st:Vp} (L:Lk st) (n:Nat):∀ (i:Nat) (ms:Vr) (f:Nat),i < st.length->(hdW (st.getD i [])).length<=n->n<=f->ms.length+n+1 < 16777216 →
  ef (kZ (ah 1)) fO (f+2) (EC st (.int i) ms)=some (.nx (EC st .non (ms++chF st n i))):=by
 induction n with
 | zero=>exact fun i ms f hi hn hf hm=>xN L hi ms (Y5 hm) f (XN.mp (Nat.le_zero.mp hn))
 | succ n ih =>
  intro i ms f hi hn hf hm
  by_cases p:hdW (st.getD i [])=[]
  ·rw [chF,Zs p]
   exact xN L hi ms (by lia) f p
  ·obtain ⟨g,rfl⟩:=Nat.exists_eq_add_of_le' hf
   have d:=L.dn i hi p
   rw [sj (m:=.fr) rfl (sd L hi ms (by lia)),show lkT st (st.getD i [])=.int (lk st i:Nat) by unfold lkT lk;rw [Zp p]]
   refine (ih (lk st i) (ms++[i]) (g+n) (L.in hi) (by lia) (YM _ _) (by rw [Zu,ZX];lia)).trans ?_
   rw [chF,Zp p,Zl]
   rfl
theorem yj {st:Vp} (L:Lk st) (k:Nat) (h:k < st.length):iZ [bQ st,.int k]=some (.fr,.lst ((chF st 120 k).map fun i:Nat=>T.int (i:Int))):=by
 have rf:=xC (st.map (gp st)) k (by rw [Zv];exact h)
 unfold iZ
 refine eA rfl (η:=[some (.pu (bQ st)),some (.pu .non),none]) ?_
 refine (show au _ _ [some (.pu (bQ st)),some (.pu (.int k)),none]=_ from ?_)
 rw [aq (η1:=[some (.pu (bQ st)),some (.pu (.int k)),none]) (by simp [bQ,rf])]
 rw [aq (η1:=EC st (.int k) []) (by simp [jd])]
 rw [aq (η1:=EC st .non (chF st 120 k)) (by
  refine (show ef _ _ (999998+2) _=_ from ?_)
  rw [ch1 L 120 k [] 999998 h (L.sz k h) (by decide) (by decide)]
  rfl)]
 simp
theorem vP {st:Vp} (h:st.flatten.Nodup) {s:List Tx} (hs:s∈st):s.Nodup:=by
 obtain ⟨a,b,rfl⟩:=WH hs
 rw [Z5,Zf] at h
 exact (ZJ.mp (ZJ.mp h).2.1).1
theorem lX {st:Vp} (h:st.flatten.Nodup) {x:Tx}:∀ {j:Nat},x∈st.getD j []->num st x=j:=by
 induction st with
 | nil=>intro j hx;simp at hx
 | cons s st ih =>
  rw [Zf] at h
  obtain ⟨h1,h2,h3⟩:=ZJ.mp h
  intro j hx
  cases j with
  | zero=>rw [List.getD_cons_zero] at hx;simp [num,hx]
  | succ j =>
   rw [XZ] at hx
   have hn:x ∉ s:=fun z=>by
    have hj:j < st.length:=by
     rcases Wy j st.length with q | q
     ·exact q
     ·rw [Z3,Xo q] at hx
      simp at hx
    exact h3 x z x (Wh.mpr ⟨_,getD_mem st j hj,hx⟩) rfl
   rw [num,Zp hn,ih h2 hx]
structure Pb (st:Vp):Prop where
 L:Lk st
 nf:st.flatten.Nodup
 tl:∀ s∈st,s=i9 (hdW s) (laW s)
 sh:∀ s∈st,(hdW s).length<=(laW s).length
 pc:∀ x c,x++[c]∈st.flatten->x∈st.flatten
section
variable {st:Vp} (P:Pb st)
noncomputable abbrev hW (st:Vp) (i:Nat):Tx:=hdW (st.getD i [])
include P
theorem Pb.hd {u:Tx} (hu:u∈st.flatten):hW st (num st u) <:+ u/\u <:+ laW (st.getD (num st u) []):=by
 have hi:=hV st u hu
 have hs:=getD_mem st _ hi
 have hm:=nJ st u hu
 have ht:=P.tl _ hs
 have m1:=hm
 rw [ht] at m1
 have h2:=(iW (P.sh _ hs)).mp m1
 have h3:hdW (st.getD (num st u) [])∈i9 (hdW (st.getD (num st u) [])) (laW (st.getD (num st u) [])):=by
  rw [← ht]
  exact jw (P.L.non hi)
 have h4:=(iW (P.sh _ hs)).mp h3
 exact ⟨YK h4.1 h2.1 h2.2,h2.1⟩
theorem Pb.step {u:Tx} (hu:u∈st.flatten) {i:Nat} (hi:i < st.length):hW st i <:+ u ↔ i=num st u\/(hW st (num st u) ≠ []/\hW st i <:+ (hW st (num st u)).drop 1):=by
 obtain ⟨h1,h2⟩:=P.hd hu
 have hk:=hV st u hu
 have hs:=getD_mem st _ hk
 have hx:=jw (P.L.non hi)
 constructor
 ·intro h
  by_cases q:(hW st (num st u)).length<=(hW st i).length
  ·left
   have:hW st i∈st.getD (num st u) []:=by
    rw [P.tl _ hs]
    exact (iW (P.sh _ hs)).mpr ⟨h.trans h2,q⟩
   rw [← lX P.nf hx,lX P.nf this]
  ·right
   have h5:hW st i <:+ hW st (num st u):=YK h h1 (by exact YA q)
   refine ⟨fun z=>by rw [z] at q;simp at q,?_⟩
   refine YK h5 (XC 1 _) ?_
   rw [ZQ]
   omega
 ·rintro (rfl | ⟨_,h⟩)
  ·exact h1
  ·exact (h.trans (XC 1 _)).trans h1
theorem Pb.mem:∀ (n:Nat) {u:Tx},u∈st.flatten->(hW st (num st u)).length<=n->∀ i < st.length,i∈chF st n (num st u) ↔ hW st i <:+ u
 | 0,u,hu,hn,i,hi=>by
  rw [chF,P.step hu hi]
  have z:hW st (num st u)=[]:=XN.mp (by lia)
  rw [Zj]
  exact ⟨.inl,fun h=>h.elim id fun q=>absurd z q.1⟩
 | n+1,u,hu,hn,i,hi=>by
  rw [chF,P.step hu hi]
  have hk:=hV st u hu
  by_cases z:hdW (st.getD (num st u) [])=[]
  ·rw [Zs z,Zj]
   exact ⟨.inl,fun h=>h.elim id fun q=>absurd z q.1⟩
  ·have hd:=P.L.dn _ hk z
   rw [Zp z,Zo,lk,Pb.mem n (P.L.lt _ hk) (by have:(hdW (st.getD (lk st (num st u)) [])).length < _:=hd;unfold lk at this;lia) i hi]
   exact ⟨fun h=>h.imp id fun q=>⟨z,q⟩,fun h=>h.imp id fun q=>q.2⟩
theorem Pb.lt:∀ (n k:Nat),k < st.length->∀ i∈chF st n k,i < st.length
 | 0,k,hk,i,h=>by rw [chF,Zj] at h;rw [h];exact hk
 | n+1,k,hk,i,h=>by
  rw [chF] at h
  rcases Zo.mp h with rfl | h
  ·exact hk
  ·by_cases z:hdW (st.getD k [])=[]
   ·rw [Zs z] at h;exact nomatch h
   ·rw [Zp z] at h;exact Pb.lt n _ (P.L.in hk) i h
theorem Pb.le:∀ (n k:Nat),k < st.length->∀ i∈chF st n k,(hW st i).length<=(hW st k).length
 | 0,k,hk,i,h=>by rw [chF,Zj] at h;rw [h];exact Zr _
 | n+1,k,hk,i,h=>by
  rw [chF] at h
  rcases Zo.mp h with rfl | h
  ·exact Zr _
  ·by_cases z:hdW (st.getD k [])=[]
   ·rw [Zs z] at h;exact nomatch h
   ·rw [Zp z] at h
    exact ZW (Pb.le n _ (P.L.in hk) i h) (ZS (P.L.dn k hk z))
theorem Pb.nd:∀ (n k:Nat),k < st.length->(chF st n k).Nodup
 | 0,k,hk=>by rw [chF];exact ZY.mpr ⟨Xd,Wv⟩
 | n+1,k,hk=>by
  rw [chF]
  by_cases z:hdW (st.getD k [])=[]
  ·rw [Zs z];exact ZY.mpr ⟨Xd,Wv⟩
  ·rw [Zp z]
   refine ZY.mpr ⟨fun h=>?_,Pb.nd n _ (P.L.in hk)⟩
   have h1:=Pb.le P n _ (P.L.in hk) k h
   have h2:=P.L.dn k hk z
   exact absurd h2 (Nat.not_lt.mpr h1)
noncomputable abbrev ch (st:Vp) (u:Tx):Vr:=chF st 120 (num st u)
theorem Pb.ch_mem {u:Tx} (hu:u∈st.flatten) {i:Nat} (hi:i < st.length):i∈ch st u ↔ hW st i <:+ u:=Pb.mem P 120 hu (P.L.sz _ (hV st u hu)) i hi
theorem rE:∀ (y x:Tx),x++y∈st.flatten->x∈st.flatten
 | [],x,h=>by rw [ZG] at h;exact h
 | c :: y,x,h=>P.pc x c (rE y (x++[c]) (by rw [Zl];exact h))
theorem sW {t:Tx} (h:t∈st.flatten) (e:Nat):t.take e∈st.flatten:=rE P (t.drop e) (t.take e) (by rw [Yg];exact h)
theorem sf:∀ (cs u:Tx),u++cs∈st.flatten->num st u :: wl st u cs=(List.range (cs.length+1)).map fun e=>num st (u++cs.take e)
 | [],u,_=>by rw [wl];simp
 | c :: cs,u,h=>by
  have h':u++[c]++cs∈st.flatten:=by rw [Zl];exact h
  have ih:=sf cs (u++[c]) h'
  have r:(List.range ((c :: cs).length+1)).map (fun e=>num st (u++(c :: cs).take e))=num st (u++[]) :: (List.range (cs.length+1)).map ((fun e=>num st (u++(c :: cs).take e)) ∘ Nat.succ):=by
   rw [Zg,List.range_succ_eq_map,Zt,Ya]
   rfl
  rw [r,wl,Zs (rE P cs _ h'),ih,ZG]
  congr 1
  refine WO fun e _=>?_
  show _=num st (u++(c :: cs).take (e+1))
  rw [List.take_succ_cons,Zl]
  rfl
end
noncomputable abbrev plT (m:Nat) (g:Nat->List Pl):T:=.lst ((List.range m).map fun i=>T.lst ((g i).map tP))
noncomputable def g9 (g:Nat->List Pl) (c:Vr) (p:Pl):Nat->List Pl:=fun j=>if j∈c then g j++[p] else g j
noncomputable abbrev E8 (bk:T) (st:Vp) (g:Nat->List Pl) (z3 z4 z5 z6 z7:Vo):Env:=[some (.pu bk),some (.pu (bQ st)),some (.ow (plT st.length g)),z3,z4,z5,z6,z7]
noncomputable abbrev iC (n:Nat):Vo:=some (.pu (.int (n:Int)))
theorem xj (bk:T) (st:Vp) (g:Nat->List Pl) (n e i:Nat) (hi:i < st.length) (hl:(g i).length < 16777216) (z4 z6:Vo) :
  eg (E8 bk st g (iC n) z4 (iC e) z6 (iC i))=some (.nx (E8 bk st (g9 g [i] (n,e)) (iC n) z4 (iC e) z6 (iC i))):=by
 have h1:((List.range st.length).map fun i=>T.lst ((g i).map tP))[i]?=some (T.lst ((g i).map tP)):=by
  rw [Z1,List.getElem?_range hi]
  rfl
 have h2:((List.range st.length).map fun i=>T.lst ((g i).map tP)).set i (T.lst ((g i).map tP++[tP (n,e)]))=(List.range st.length).map fun j=>T.lst ((g9 g [i] (n,e) j).map tP):=by
  refine List.ext_getElem (by rw [Xq,Zv,Zv]) fun j a b=>?_
  rw [List.getElem_set,Wg,Wg,List.getElem_range]
  unfold g9
  by_cases q:i=j
  ·subst q
   rw [Zs rfl,Zs (Zj.mpr rfl),Yu]
   rfl
  ·rw [Zp q,Zp fun z=>q (Zj.mp z).symm]
 have h3:mR 2 (ah 7) (af (jT (af (ah 3) (af (ah 5) av))) av) (E8 bk st g (iC n) z4 (iC e) z6 (iC i))=some ((.fr,.non),E8 bk st (g9 g [i] (n,e)) (iC n) z4 (iC e) z6 (iC i)):=by
  show (ixP ((List.range st.length).map fun i=>T.lst ((g i).map tP)).length (i:Int)).bind _=_
  rw [oo (by rw [Zv,Z0];exact hi),Zn,h1,Zn]
  show (aV (T.lst ((g i).map tP)) [(.fr,tP (n,e))]).map _=_
  rw [dB (by rw [Zv];exact hl),Yc]
  show some ((Md.fr,T.non),List.set _ 2 (some (Cell.ow (T.lst (List.set _ i _)))))=_
  rw [h2]
  rfl
 unfold eg
 show (mR 2 (ah 7) (af (jT (af (ah 3) (af (ah 5) av))) av) (E8 bk st g (iC n) z4 (iC e) z6 (iC i))).map _=_
 rw [h3]
 rfl
theorem tJ (g:Nat->List Pl) (i:Nat) (c:Vr) (p:Pl) (h:i ∉ c):g9 (g9 g [i] p) c p=g9 g (i :: c) p:=by
 funext j
 unfold g9
 by_cases q:j∈c
 ·have:j ≠ i:=fun z=>h (z ▸ q)
  rw [Zs q,Zp fun z=>this (Zj.mp z),Zs (Zx _ q)]
 ·by_cases z:j=i
  ·rw [Zp q,Zs (Zj.mpr z),Zs (by rw [z];exact Zw)]
  ·rw [Zp q,Zp fun y=>z (Zj.mp y),Zp fun y=>(Zo.mp y).elim z q]
theorem pb1 (bk:T) (st:Vp) (n e:Nat) (z4 z6:Vo) (c:Vr):∀ (g:Nat->List Pl) (z7:Vo),c.Nodup->(∀ i∈c,i < st.length)->(∀ i∈c,(g i).length < 16777216) →
  ∃ z7',forL (bg 7) eg (c.map fun i:Nat=>T.int (i:Int)) (E8 bk st g (iC n) z4 (iC e) z6 z7)=some (.nx (E8 bk st (g9 g c (n,e)) (iC n) z4 (iC e) z6 z7')):=by
 induction c with
 | nil=>exact fun g z7 _ _ _=>⟨z7,by
   have:g9 g [] (n,e)=g:=by funext j;unfold g9;rw [Zp Xd]
   rw [this]
   rfl⟩
 | cons i c ih =>
  intro g z7 nd hi hl
  obtain ⟨n1,n2⟩:=ZY.mp nd
  obtain ⟨x7,ex⟩:=ih (g9 g [i] (n,e)) (iC i) n2 (fun j hj=>hi j (Zx _ hj)) fun j hj=>by
   unfold g9
   rw [Zp fun z=>n1 (by rw [← Zj.mp z];exact hj)]
   exact hl j (Zx _ hj)
  exact ⟨x7,by rw [Zt,bB (η1:=E8 bk st g (iC n) z4 (iC e) z6 (iC i)) rfl (xj bk st g n e i (hi i Zw) (hl i Zw) z4 z6),ex,tJ g i c (n,e) n1]⟩
section
variable {st:Vp} (P:Pb st)
include P
theorem uQ (bk:T) (g:Nat->List Pl) (hg:∀ i,(g i).length < 16777216) (n e:Nat) {u:Tx} (hu:u∈st.flatten) (z4 z7:Vo) :
  ∃ z7',d7 (E8 bk st g (iC n) z4 (iC e) (iC (num st u)) z7)=some (.nx (E8 bk st (g9 g (ch st u) (n,e)) (iC n) z4 (iC e) (iC (num st u)) z7')):=by
 have hk:=hV st u hu
 have c1:=aP (g:=iZ) (as:=af (ah 1) (af (ah 6) av)) (η:=E8 bk st g (iC n) z4 (iC e) (iC (num st u)) z7) (xs:=[(.pu,bQ st),(.fr,.int (num st u:Nat))]) rfl (yj P.L _ hk)
 obtain ⟨x7,ex⟩:=pb1 bk st n e z4 (iC (num st u)) (ch st u) g z7 (P.nd 120 _ hk) (P.lt 120 _ hk) fun i _=>hg i
 refine ⟨x7,?_⟩
 unfold d7
 rw [fB (jO c1)]
 exact ex
noncomputable def ke (st:Vp) (t:Tx) (n:Nat) (es:Vr) (g:Nat->List Pl):Nat->List Pl:=fun i=>g i++(es.filter fun e=>decide (i∈ch st (t.take e))).map fun e=>(n,e)
omit P in
theorem tu (t:Tx) (n e:Nat) (es:Vr) (g:Nat->List Pl):ke st t n es (g9 g (ch st (t.take e)) (n,e))=ke st t n (e :: es) g:=by
 funext i
 unfold ke g9
 rw [List.filter_cons]
 by_cases q:i∈ch st (t.take e)
 ·rw [Zs q,decide_eq_true q,Zs rfl,Zt,Zl]
  rfl
 ·rw [Zp q,decide_eq_false q,Zp Zi]
omit P in
theorem ve (g:Nat->List Pl) (c:Vr) (p:Pl) {k:Nat} (h:∀ i,(g i).length<=k) (i:Nat):(g9 g c p i).length<=k+1:=by
 unfold g9
 have:=h i
 split
 ·rw [Zu,ZX];exact YB this
 ·exact YD this
theorem pb2 (bk:T) {t:Tx} (ht:t∈st.flatten) (n:Nat) (z4:Vo) (es:Vr):∀ (g:Nat->List Pl) (k:Nat) (z5 z6 z7:Vo),(∀ i,(g i).length<=k)->k+es.length < 16777216 →
  ∃ z5' z6' z7',forL (jM [bg 5,bg 6]) d7 (es.map fun e:Nat=>T.tup [.int (e:Int),.int (num st (t.take e):Nat)]) (E8 bk st g (iC n) z4 z5 z6 z7)=some (.nx (E8 bk st (ke st t n es g) (iC n) z4 z5' z6' z7')):=by
 induction es with
 | nil=>exact fun g k z5 z6 z7 _ _=>⟨z5,z6,z7,by
   have:ke st t n [] g=g:=by funext j;unfold ke;rw [List.filter_nil,YX,ZG]
   rw [this]
   rfl⟩
 | cons e es ih =>
  intro g k z5 z6 z7 hg hk
  rw [Zg] at hk
  obtain ⟨y7,eb⟩:=uQ P bk g (fun i=>XR (hg i) (by lia)) n e (sW P ht e) z4 z7
  obtain ⟨x5,x6,x7,ex⟩:=ih (g9 g (ch st (t.take e)) (n,e)) (k+1) (iC e) (iC (num st (t.take e))) y7 (ve g _ _ hg) (by lia)
  exact ⟨x5,x6,x7,by rw [Zt,bB (η1:=E8 bk st g (iC n) z4 (iC e) (iC (num st (t.take e))) z7) rfl eb,ex,tu]⟩
omit P in
theorem rC (f:Nat->T) (k:Nat):∀ n:Nat,dq n ((List.range' n k).map f)=(List.range' n k).map fun e:Nat=>T.tup [.int (e:Int),f e]:=by
 induction k with
 | zero=>intro n;rfl
 | succ k ih=>intro n;rw [List.range'_succ,Zt,Zt,dq,ih (n+1)]
theorem vH (W:Wk st) (bk:T) {t:Tx} (ht:t∈st.flatten) (hl:t.length<=120) (n:Nat) (g:Nat->List Pl) (k:Nat) (hg:∀ i,(g i).length<=k) (hk:k+121 < 16777216) (z5 z6 z7:Vo) :
  ∃ z5' z6' z7',d5 (E8 bk st g (iC n) (some (.pu (.str t))) z5 z6 z7)=some (.nx (E8 bk st (ke st t n (List.range (t.length+1)) g) (iC n) (some (.pu (.str t))) z5' z6' z7')):=by
 have wk:=B9 W t (by lia)
 have w2:=sf P t [] (by rw [Yr];exact ht)
 rw [W.z0] at w2
 rw [w2] at wk
 have c1:=aP (g:=je) (as:=af (ah 1) (af (ah 4) av)) (η:=E8 bk st g (iC n) (some (.pu (.str t))) z5 z6 z7) (xs:=[(.pu,bQ st),(.fr,.str t)]) rfl wk
 have it:ir (aL je (af (ah 1) (af (ah 4) av))) (E8 bk st g (iC n) (some (.pu (.str t))) z5 z6 z7)=some (.fr,(List.range (t.length+1)).map fun e:Nat=>T.tup [.int (e:Int),.int (num st (t.take e):Nat)]):=by
  unfold ir
  rw [c1]
  show some (Md.fr,dq 0 (List.map _ (List.map _ (List.range (t.length+1)))))=_
  rw [Ya,List.range_eq_range',rC]
  rfl
 obtain ⟨x5,x6,x7,ex⟩:=pb2 P bk ht n (some (.pu (.str t))) (List.range (t.length+1)) g k z5 z6 z7 hg (by rw [Z0];lia)
 refine ⟨x5,x6,x7,?_⟩
 unfold d5
 rw [fB it]
 exact ex
noncomputable def qI (st:Vp):Nat->List Tx->(Nat->List Pl)->Nat->List Pl
 | _,[],g=>g
 | n,t :: l,g=>qI st (n+1) l (ke st t n (List.range (t.length+1)) g)
omit P in
theorem vk (t:Tx) (n:Nat) (es:Vr) (g:Nat->List Pl) {k:Nat} (h:∀ i,(g i).length<=k) (i:Nat):(ke st t n es g i).length<=k+es.length:=by
 unfold ke
 have h1:=h i
 have h2:=List.length_filter_le (fun e=>decide (i∈ch st (t.take e))) es
 rw [Zu,Zv]
 exact Nat.add_le_add h1 h2
theorem pb3 (W:Wk st) (bk:T) (l:List Tx):∀ (n:Nat) (g:Nat->List Pl) (k:Nat) (z3 z4 z5 z6 z7:Vo),(∀ t∈l,t∈st.flatten/\t.length<=120)->(∀ i,(g i).length<=k)->k+121 * l.length < 16777216 →
  ∃ z3' z4' z5' z6' z7',forL (jM [bg 3,bg 4]) d5 ((l.zipIdx n).map fun p=>T.tup [.int p.2,.str p.1]) (E8 bk st g z3 z4 z5 z6 z7)=some (.nx (E8 bk st (qI st n l g) z3' z4' z5' z6' z7')):=by
 induction l with
 | nil=>exact fun n g k z3 z4 z5 z6 z7 _ _ _=>⟨z3,z4,z5,z6,z7,rfl⟩
 | cons t l ih =>
  intro n g k z3 z4 z5 z6 z7 ht hg hk
  rw [Zg] at hk
  obtain ⟨h1,h2⟩:=ht t Zw
  obtain ⟨y5,y6,y7,eb⟩:=vH P W bk h1 h2 n g k hg (by lia) z5 z6 z7
  obtain ⟨x3,x4,x5,x6,x7,ex⟩:=ih (n+1) (ke st t n (List.range (t.length+1)) g) (k+121) (iC n) (some (.pu (.str t))) y5 y6 y7 (fun x hx=>ht x (Zx _ hx)) (fun i=>by
   have:=vk (st:=st) t n (List.range (t.length+1)) g hg i
   rw [Z0] at this
   lia) (by lia)
  exact ⟨x3,x4,x5,x6,x7,by rw [Xe,Zt,bB (η1:=E8 bk st g (iC n) (some (.pu (.str t))) z5 z6 z7) rfl eb,ex];rfl⟩
theorem Dl (W:Wk st) (bk:List Tx) (ht:∀ t∈bk,t∈st.flatten/\t.length<=120) (hb:bk.length<=8):dW [.lst (bk.map T.str),bQ st]=some (.fr,plT st.length (qI st 0 bk fun _=>[])):=by
 have sl:=W.len
 obtain ⟨x3,x4,x5,x6,x7,ex⟩:=pb3 P W (.lst (bk.map T.str)) bk 0 (fun _=>[]) 0 none none none none none ht (fun _=>Zr _) (by lia)
 unfold dW
 refine eA rfl (η:=[some (.pu (.lst (bk.map T.str))),some (.pu (bQ st)),none,x3,x4,x5,x6,x7]) ?_
 refine (show au _ _ [some (.pu (.lst (bk.map T.str))),some (.pu (bQ st)),none,none,none,none,none,none]=_ from ?_)
 have co:dX 1 (bg 0) (fS (ah 1)) none (eO av) [some (.pu (.lst (bk.map T.str))),some (.pu (bQ st)),none,none,none,none,none,none]=some (.fr,plT st.length fun _=>[]):=by
  have:=nq (k:=1) (tg:=bg 0) (it:=fS (ah 1)) (elt:=eO av) (η:=[some (.pu (.lst (bk.map T.str))),some (.pu (bQ st)),none,none,none,none,none,none]) (m:=.pu) (gp st) (fun _=>T.lst []) st (jO rfl) rfl (by lia) fun s _=>⟨_,rfl,rfl⟩
  rw [this,plT,List.map_const',List.map_const',Z0]
  rfl
 rw [aq (η1:=E8 (.lst (bk.map T.str)) st (fun _=>[]) none none none none none) (by
  rw [rJ co rfl (by decide:2 < 8)]
  rfl)]
 have it:ir (ah 0) (E8 (.lst (bk.map T.str)) st (fun _=>[]) none none none none none)=some (.pu,(bk.zipIdx 0).map fun p=>T.tup [.int p.2,.str p.1]):=by
  show some (Md.pu,dq 0 (bk.map T.str))=_
  rw [uy]
 rw [aq (η1:=E8 (.lst (bk.map T.str)) st (qI st 0 bk fun _=>[]) x3 x4 x5 x6 x7) (by
  rw [jA it rfl]
  exact ex)]
 rfl
end
noncomputable def plX (x:Tx):Nat->List Tx->List Pl
 | _,[]=>[]
 | n,t :: l=>((List.range (t.length+1)).filter fun e=>decide (x <:+ t.take e)).map (fun e=>(n,e))++plX x (n+1) l
theorem pE (x:Tx):∀ (l:List Tx) (n:Nat) (d:Fd),look (ic n l d) x=look d x++plX x n l
 | [],n,d=>by rw [ic,plX,ZG]
 | t :: l,n,d=>by
  rw [ic,pE x l (n+1),nt n t x _ _ (fun e he=>Ye (Z6.mp he)),plX,Zl]
theorem Am (bk:List Tx) (x:Tx):look (found bk) x=plX x 0 bk:=by
 unfold found
 rw [pE,show look [([],[])] x=[] by unfold look;split <;> rfl,Yr]
theorem rM {st:Vp} (P:Pb st) {i:Nat} (hi:i < st.length):∀ (l:List Tx) (n:Nat) (g:Nat->List Pl),(∀ t∈l,t∈st.flatten)->qI st n l g i=g i++plX (hW st i) n l
 | [],n,g,_=>by rw [qI,plX,ZG]
 | t :: l,n,g,h=>by
  have ht:=h t Zw
  have e:((List.range (t.length+1)).filter fun e=>decide (i∈ch st (t.take e)))=(List.range (t.length+1)).filter fun e=>decide (hW st i <:+ t.take e):=by
   congr 1
   funext e
   exact decide_eq_decide.mpr (P.ch_mem (sW P ht e) hi)
  rw [qI,rM P hi l (n+1) _ fun x hx=>h x (Zx _ hx),plX]
  show ke st t n (List.range (t.length+1)) g i++_=_
  unfold ke
  rw [e,Zl]
theorem map_getD {β:Type} (f:List Tx->β) (st:Vp):(List.range st.length).map (fun i=>f (st.getD i []))=st.map f:=by
 refine List.ext_getElem (by rw [Zv,Z0,Zv]) fun i a b=>?_
 rw [Zv,Z0] at a
 rw [Wg,Wg,List.getElem_range,Z3,Za a]
 rfl
theorem xA {α:Type} (l:List α):(List.range l.length).filterMap (l[·]?)=l:=by
 induction l with
 | nil=>rfl
 | cons a l ih =>
  rw [Zg,List.range_succ_eq_map,Yi,List.filterMap_map]
  show a :: List.filterMap (fun k=>(a :: l)[k+1]?) (List.range l.length)=_
  congr 1
theorem pj {α:Type} {f g:Nat->Option α}:∀ (is:Vr),(∀ k∈is,f k=g k)->is.filterMap f=is.filterMap g
 | [],_=>rfl
 | k :: is,h=>by rw [Yi,Yi,h k Zw,pj is fun x hx=>h x (Zx _ hx)]
theorem yU {α:Type} (l:List α):iz l none none (some (-1))=l.reverse:=by
 unfold iz PySem.sliceBounds PySem.sliceRange pick
 simp only [XE,show ¬ ((-1:Int) > 0) by decide,if_false]
 have hc:(if ((l.length:Int) - 1) > -1 then ((l.length:Int) - 1 - -1 - -1 - 1) / (- -1) else 0).toNat=l.length:=by
  by_cases h:((l.length:Int) - 1) > -1
  ·rw [Zs h]
   have:((l.length:Int) - 1 - -1 - -1 - 1) / (- -1)=l.length:=by
    rw [show (- -1:Int)=1 by decide,Int.ediv_one]
    lia
   rw [this,YN]
  ·rw [Zp h]
   lia
 rw [hc,List.filterMap_map]
 have:=xA l.reverse
 rw [List.length_reverse] at this
 refine Eq.trans ?_ this
 refine pj _ fun k hk=>?_
 have hk:=Z6.mp hk
 show l[((l.length:Int) - 1+-1 * (k:Int)).toNat]?=_
 rw [List.getElem?_reverse hk]
 congr 1
 lia
structure Ak (bk:List Tx) (st:Vp):Prop where
 P:Pb st
 W:Wk st
 tx:∀ t∈bk,t∈st.flatten/\t.length<=120
 few:bk.length<=8
noncomputable abbrev pl (bk:List Tx) (s:List Tx):List Pl:=look (found bk) (hdW s)
section
variable {bk:List Tx} {st:Vp} (A:Ak bk st)
include A
theorem FB:dW [.lst (bk.map T.str),bQ st]=some (.fr,.lst (st.map fun s=>T.lst ((pl bk s).map tP))):=by
 rw [Dl A.P A.W bk A.tx A.few,plT,← map_getD (fun s=>T.lst ((pl bk s).map tP)) st]
 congr 3
 refine WO fun i hi=>?_
 rw [rM A.P (Z6.mp hi) bk 0 _ fun t ht=>(A.tx t ht).1,Yr,← Am]
end
noncomputable abbrev duT (bk:List Tx) (st:Vp):T:=.lst (st.map fun s=>T.lst ((pl bk s).map tP))
theorem qC (f d:Vo) (ps:List Pl) (h:ps.length < 16777216):fZ [f,d,some (.pu (.lst (ps.map tP)))]=some (.nx [f,d,some (.pu (.lst (ps.map tP)))]):=by
 have co:=nK (m:=.pu) (k:=1) (tg:=bg 0) (it:=fS (ah 2)) (c:=gq (aL d3 (af (ah 0) av))) (elt:=ah 0) (η:=[f,d,some (.pu (.lst (ps.map tP)))]) tP (fun _=>false) tP ps rfl rfl (ZS h) fun p _ =>
  ⟨[some (.pu (tP p)),f,d,some (.pu (.lst (ps.map tP)))],(.fr,.bl false),rfl,rfl,rfl,fun z=>nomatch z⟩
 rw [show ps.filter (fun _=>false)=[] from List.filter_eq_nil_iff.mpr (fun _ _=>Zi)] at co
 have c0:=e2v (f:=oGt) (b:=eC (.int 0)) (kA (f:=fz) (xv co (h2:=(rfl:av _=some []))) rfl) rfl (show oGt (.fr,.int 0) (.fr,.int 0)=some (.fr,.bl false) from rfl)
 exact kg (m:=.fr) (show eOr (gq (eIs .list (ah 2))) _ _=_ from c0)
theorem qZ (f d:Vo) (l:List (List Pl)):∀ z:Vo,(∀ x∈l,x.length < 16777216)->∃ z',forL (bg 2) fZ (l.map fun x=>T.lst (x.map tP)) [f,d,z]=some (.nx [f,d,z']):=by
 induction l with
 | nil=>exact fun z _=>⟨z,rfl⟩
 | cons t ts ih =>
  intro z h
  obtain ⟨z',e⟩:=ih (some (.pu (.lst (t.map tP)))) fun x hx=>h x (Zx _ hx)
  exact ⟨z',(bB (η1:=[f,d,some (.pu (.lst (t.map tP)))]) rfl (qC f d t (h t Zw))).trans e⟩
theorem zI (l:List (List Pl)) (h:∀ x∈l,x.length < 16777216):cV [.lst (l.map fun x=>T.lst (x.map tP)),.lst (l.map fun x=>T.lst (x.map tP))]=some (.fr,.bl true):=by
 have d:eqD 60 (.lst (l.map fun x=>T.lst (x.map tP)))=true:=by
  rw [eqD,Yw]
  intro t ht
  obtain ⟨x,_,rfl⟩:=Yz.mp ht
  rw [eqD,Yw]
  intro t ht
  obtain ⟨p,_,rfl⟩:=Yz.mp ht
  rfl
 obtain ⟨z',e⟩:=qZ (some (.pu (.lst (l.map fun x=>T.lst (x.map tP))))) (some (.pu (.lst (l.map fun x=>T.lst (x.map tP))))) l none h
 have ne:e2 oNe (ah 0) (ah 1) [some (.pu (.lst (l.map fun x=>T.lst (x.map tP)))),some (.pu (.lst (l.map fun x=>T.lst (x.map tP)))),none]=some (.fr,.bl false):=e2v (x:=(.pu,_)) (y:=(.pu,_)) rfl rfl (oW d)
 have cn:eOr (gq (eIs .list (ah 0))) (e2 oNe (ah 0) (ah 1)) [some (.pu (.lst (l.map fun x=>T.lst (x.map tP)))),some (.pu (.lst (l.map fun x=>T.lst (x.map tP)))),none]=some (.fr,.bl false):=ne
 unfold cV
 exact eA rfl ((aq (kg cn)).trans ((aq ((jA (m:=.pu) (l:=l.map fun x=>T.lst (x.map tP)) (jO rfl) rfl).trans e)).trans rfl))
theorem pK {α:Type} (f:α->T):∀ l:List α,bF (l.map fun a=>(Md.pu,f a)) ≠ .bo
 | []=>fun z=>nomatch z
 | a :: r=>by
  have:=pK f r
  show Md.join .pu (bF (r.map fun a=>(Md.pu,f a))) ≠ .bo
  cases h:bF (r.map fun a=>(Md.pu,f a)) with
  | bo=>exact absurd h this
  | fr=>exact fun z=>nomatch z
  | pu=>exact fun z=>nomatch z
theorem wD {α:Type} {k:Nat} {tg:Tg} {it:Its} {elt:Ex} {η:Env} {m:Md} (g:α->T) (f:α->T) (l:List α) (hi:it η=some (m,l.map g)) (hk:okI m (l.map g)=true) (hl:l.length<=16777216)
  (h:∀ a∈l,∃ η',tg (g a) (List.replicate k none++η)=some η'/\elt η'=some (.pu,f a)):∃ m,m ≠ Md.bo/\dX k tg it none elt η=some (m,.lst (l.map f)):=by
 refine ⟨if fA (l.map f) then .fr else bF (l.map fun a=>(Md.pu,f a)),?_,?_⟩
 ·split
  ·exact fun z=>nomatch z
  ·exact pK f l
 ·unfold dX
  rw [hi,Zn]
  dsimp only
  rw [Zs hk,jZ g (fun a=>(Md.pu,f a)) l h,Zn,j4,jd (by rw [Zv];exact hl)]
theorem rH (i:Nat) (cs:Exs) (v:T) (η:Env) (hc:∀ c,cs (η.set i c)=some [(.fr,v)]):∀ (l:List (Vl)) (d:Vl),(∀ x∈l,x.length < 16777216) →
  lg i cs d (l.map T.lst) (η.set i (some (.ow (.lst (d++l.map T.lst)))))=some (η.set i (some (.ow (.lst (d++l.map fun x=>T.lst (x++[v]))))))
 | [],d,_=>rfl
 | x :: l,d,h=>by
  have ih:=rH i cs v η hc l (d++[T.lst (x++[v])]) fun y hy=>h y (Zx _ hy)
  rw [Zl,Zl] at ih
  rw [Zt,lg,hc,Zn,dB (h x Zw),Zn,List.set_set]
  exact ih
section
variable {bk:List Tx} {st:Vp} (A:Ak bk st)
noncomputable abbrev bkT (bk:List Tx):T:=.lst (bk.map T.str)
noncomputable abbrev hnT (bk:List Tx) (st:Vp):T:=.lst [bkT bk,bQ st]
noncomputable abbrev EA (bk:List Tx) (st:Vp) (z5 z6 z7:Vo):Env:=[some (.pu (bkT bk)),some (.pu (.dct 0 (dT (found bk)))),some (.pu (stT st)),some (.pu (bQ st)),some (.pu (duT bk st)),z5,z6,z7,none]
noncomputable abbrev toT (bk:List Tx) (st:Vp):Vl:=st.map fun s=>T.lst ((pl bk s).map tP++[.tup [.int 0,.int 0]])
include A
theorem rP (hpl:∀ s∈st,(pl bk s).length < 16777216) (z5 z6 z7:Vo):∃ y6 y7,fT (EA bk st z5 z6 z7)=some (.nx (EA bk st z5 y6 y7)):=by
 have sl:=A.W.len
 have few:=A.few
 have imb:fA (bk.map T.str)=true:=gJ _ (fun _=>rfl) _
 have lb:eN eD (af (ah 0) av) (EA bk st z5 z6 z7)=some (.fr,bkT bk):=kA (xs:=[(.pu,bkT bk)]) rfl (by
  show mkL .pu (bk.map T.str)=_
  rw [jd (by rw [Zv];lia),imb]
  rfl)
 have lt:eN eD (af (ah 3) av) (EA bk st z5 z6 z7)=some (.fr,bQ st):=kA (xs:=[(.pu,bQ st)]) rfl (Cm st (by lia))
 have cr:=zI (st.map (pl bk)) fun x hx=>by
  obtain ⟨s,hs,rfl⟩:=Yz.mp hx
  exact hpl s hs
 rw [Ya] at cr
 have dh:eqD 60 (hnT bk st)=true:=by
  have d1:eqD 59 (bkT bk)=true:=by
   rw [eqD,Yw]
   intro t ht
   obtain ⟨x,_,rfl⟩:=Yz.mp ht
   rfl
  have d2:eqD 59 (bQ st)=true:=by
   unfold bQ
   rw [eqD,Yw]
   intro t ht
   obtain ⟨x,_,rfl⟩:=Yz.mp ht
   exact zU st x 55
  rw [eqD,XX,XX,List.all_nil,d1,d2]
  rfl
 refine ⟨some (.pu (hnT bk st)),some (.ow (.lst (toT bk st++[.lst []]))),?_⟩
 unfold fT
 have ls:(af (eN eD (af (ah 0) av)) (af (eN eD (af (ah 3) av)) av)) (EA bk st z5 z6 z7)=some [(.fr,bkT bk),(.fr,bQ st)]:=xv lb (xv lt rfl)
 rw [aq (η1:=EA bk st z5 (some (.pu (hnT bk st))) z7) (aJ (m:=.fr) (t:=hnT bk st) (by
   show (af (eN eD (af (ah 0) av)) (af (eN eD (af (ah 3) av)) av) _).bind _=_
   rw [ls]
   rfl) (by decide) (by decide:6 < 9))]
 rw [aq (η1:=EA bk st z5 (some (.pu (hnT bk st))) (some (.ow (duT bk st)))) (rJ (aP (xs:=[(.pu,bkT bk),(.pu,bQ st)]) rfl (FB A)) rfl (by decide:7 < 9))]
 have c1:aL cV (af (ah 7) (af (ah 4) av)) (EA bk st z5 (some (.pu (hnT bk st))) (some (.ow (duT bk st))))=some (.fr,.bl true):=aP (xs:=[(.bo,duT bk st),(.pu,duT bk st)]) rfl cr
 have c2:e2 oNe (ah 6) (eO (af (ah 0) (af (ah 3) av))) (EA bk st z5 (some (.pu (hnT bk st))) (some (.ow (duT bk st))))=some (.fr,.bl false):=e2v (x:=(.pu,hnT bk st)) (y:=(.pu,hnT bk st)) rfl rfl (oW dh)
 have c3:eOr (gq (aL cV (af (ah 7) (af (ah 4) av)))) (e2 oNe (ah 6) (eO (af (ah 0) (af (ah 3) av)))) (EA bk st z5 (some (.pu (hnT bk st))) (some (.ow (duT bk st))))=some (.fr,.bl false):=by
  show (gq _ _).bind _=_
  rw [vL c1]
  exact c2
 rw [aq (kg c3)]
 have ea:=rH 7 (af (jT (af (eC (.int 0)) (af (eC (.int 0)) av))) av) (.tup [.int 0,.int 0]) (EA bk st z5 (some (.pu (hnT bk st))) none) (fun _=>rfl) (st.map fun s=>(pl bk s).map tP) [] fun x hx=>by
  obtain ⟨s,hs,rfl⟩:=Yz.mp hx
  rw [Zv]
  exact hpl s hs
 rw [Ya,Ya] at ea
 rw [aq (η1:=EA bk st z5 (some (.pu (hnT bk st))) (some (.ow (.lst (toT bk st))))) (show (lg 7 _ [] _ (EA bk st z5 (some (.pu (hnT bk st))) (some (.ow (duT bk st))))).map Out.nx=_ from congrArg (Option.map Out.nx) ea)]
 exact iH (l:=toT bk st) (t:=.lst []) rfl rfl (by rw [Zv];lia)
end
theorem Cf (bk:List Tx) (st:Vp) (A:Ak bk st) (hpl:∀ s∈st,(pl bk s).length < 16777216) (kh:∀ s∈st,hdW s∈aR (found bk))
  (hp:cY [bkT bk]=some (.fr,.dct 0 (dT (found bk)))) (hsd:cZ [.dct 0 (dT (found bk))]=some (.fr,stT st))
  (hn:cJ [stT st]=some (.fr,.dct 0 (nT (nums 0 st)))) (ht:dN [stT st,.dct 0 (nT (nums 0 st))]=some (.fr,bQ st)):bx [bkT bk]=some (.fr,.bl true):=by
 have sl:=A.W.len
 obtain ⟨a6,a7,b1⟩:=rP A hpl (iC 0) none none
 obtain ⟨b6,b7,b2⟩:=rP A hpl (iC 1) a6 a7
 obtain ⟨md,nb,ed⟩:=wD (k:=1) (tg:=bg 0) (it:=fS (ah 2)) (elt:=e2 oIx (ah 2) (e2 bq (ah 0) (eC (.int 0)))) (η:=[some (.pu (bkT bk)),some (.pu (.dct 0 (dT (found bk)))),some (.pu (stT st)),some (.pu (bQ st)),none,none,none,none,none]) (m:=.pu) (fun s:List Tx=>T.lst (s.map T.str)) (fun s=>T.lst ((pl bk s).map tP)) st (jO rfl) rfl (by lia)
  fun s hs=>⟨[some (.pu (.lst (s.map T.str))),some (.pu (bkT bk)),some (.pu (.dct 0 (dT (found bk)))),some (.pu (stT st)),some (.pu (bQ st)),none,none,none,none,none],rfl,e2v (x:=(.pu,.dct 0 (dT (found bk)))) rfl (e2v rfl rfl (qf (A.W.ne s hs))) (by
   show (bN (dT (found bk)) (T.str (hdW s))).map (sub .pu)=_
   rw [qu _ _ (kh s hs)]
   rfl)⟩
 unfold bx
 refine eA rfl (η:=EA bk st (iC 1) b6 b7) ?_
 refine (show au _ _ [some (.pu (bkT bk)),none,none,none,none,none,none,none,none]=_ from ?_)
 rw [aq (η1:=[some (.pu (bkT bk)),some (.pu (.dct 0 (dT (found bk)))),none,none,none,none,none,none,none]) (aJ (aP (xs:=[(.pu,bkT bk)]) rfl hp) (by decide) (by decide:1 < 9))]
 rw [aq (η1:=[some (.pu (bkT bk)),some (.pu (.dct 0 (dT (found bk)))),some (.pu (stT st)),none,none,none,none,none,none]) (aJ (aP (xs:=[(.pu,.dct 0 (dT (found bk)))]) rfl hsd) (by decide) (by decide:2 < 9))]
 rw [aq (η1:=[some (.pu (bkT bk)),some (.pu (.dct 0 (dT (found bk)))),some (.pu (stT st)),some (.pu (bQ st)),none,none,none,none,none])
  (aJ (aP (xs:=[(.pu,stT st),(.fr,.dct 0 (nT (nums 0 st)))]) (xv rfl (xv (aP (xs:=[(.pu,stT st)]) rfl hn) rfl)) ht) (by decide) (by decide:3 < 9))]
 rw [aq (η1:=EA bk st none none none) (aJ (t:=duT bk st) ed nb (by decide:4 < 9))]
 rw [aq (η1:=EA bk st (iC 1) b6 b7) ((fB (l:=[T.int 0,T.int 1]) rfl).trans ((bB (η1:=EA bk st (iC 0) none none) rfl b1).trans ((bB (η1:=EA bk st (iC 1) a6 a7) rfl b2).trans rfl)))]
 rfl
theorem ox (bk:List Tx) (B:Bk 120 bk) (hbl:bk.length<=8):bx [bkT bk]=some (.fr,.bl true):=by
 obtain ⟨hp,hz⟩:=uW bk B hbl
 obtain ⟨r,hd⟩:=vT bk
 have haz:=vj bk B
 have hsd:=vW (found bk) hz haz
 have kn:[]∈aR (found bk):=by rw [hd];exact Zw
 have S0:=CU (found bk) kn
 have nd:=v8 bk
 have tl:=qX bk
 have nf:(fh (found bk)).flatten.Nodup:=S0.pm.nodup_iff.mpr nd
 have fl:(fh (found bk)).flatten.length<=117129:=by rw [S0.pm.length_eq,aR,Zv];exact hz.1
 have sl:=Do _ S0.ne
 have ksf:=fun {x:Tx}=>S0.pm.mem_iff (a:=x)
 have hm:∀ s∈fh (found bk),hdW s∈(fh (found bk)).flatten:=fun s hs=>Wh.mpr ⟨s,hs,jw (S0.ne s hs)⟩
 have dr:∀ x∈(fh (found bk)).flatten,x.drop 1∈(fh (found bk)).flatten:=fun x hx=>ksf.mpr (tl x (ksf.mp hx))
 have ht:=yz (fh (found bk)) (fun s hs=>⟨S0.ne s hs,(haz _ (ksf.mp (hm s hs))).2,fun _=>dr _ (hm s hs)⟩) (by lia)
 have W:Wk (fh (found bk)):=by
  refine ⟨S0.ne,by exact ZW sl fl,?_,ksf.mpr kn,fun x hx=>(haz x (ksf.mp hx)).1,fun u hu c=>?_⟩
  ·obtain ⟨a,b,hst⟩:=S0.hd
   rw [hst]
   simp [num]
  ·have hi:=hV _ _ hu
   have hin:=getD_mem (fh (found bk)) _ hi
   have lu:=((nM hin (S0.ne _ hin) u).mp (nJ _ _ hu)).2
   have lx:=xf c lu
   have kx:=zO (x:=u++[c]) (by simp) (by simp) lx
   refine ⟨ksf.trans (kx.symm.trans ksf.symm),fun h=>?_⟩
   have h':=ksf.mp h
   exact xi S0.ne (kx.mp h') h' lx.symm
 have L:Lk (fh (found bk)):=by
  refine ⟨S0.ne,by lia,fun i hi=>dr _ (hm _ (getD_mem _ i hi)),fun i hi h=>?_,fun i hi=>(haz _ (ksf.mp (hm _ (getD_mem _ i hi)))).2⟩
  have hx:=dr _ (hm _ (getD_mem _ i hi))
  have h1:=nJ _ _ hx
  have h2:=jt (found bk) _ (getD_mem _ _ (hV _ _ hx)) _ h1
  have h3:0 < (hdW ((fh (found bk)).getD i [])).length:=WN.mpr h
  rw [ZQ] at h2
  unfold lk
  omega
 have P:Pb (fh (found bk)):=⟨L,nf,fun s hs=>u7 bk s hs (S0.ne s hs) (vP nf hs),fun s hs=>jt (found bk) s hs _ (sF (S0.ne s hs)),fun x c h=>ksf.mpr (yR (ksf.mp h))⟩
 refine Cf bk (fh (found bk)) ⟨P,W,fun t ht=>?_,hbl⟩ (fun s hs=>XR (oO (found bk) _ 117129 hz.2) (by decide)) (fun s hs=>ksf.mp (hm s hs)) hp hsd (uL _ nf (by lia)) ht
 have k:t∈aR (found bk):=by
  unfold found
  refine (jI t bk 0 _).mpr (.inr ⟨t,ht,t.length,Z6.mpr (Vu _),0,Z6.mpr (Nat.succ_pos _),?_⟩)
  rw [Xj,Nat.sub_zero,List.take_length]
 exact ⟨ksf.mpr k,(haz t k).2⟩
theorem Ez {α:Type} (t:List α):cut t (some 1) none=t.drop 1:=by
 cases t with
 | nil=>rfl
 | cons a t =>
  show ((a :: t).drop (min 1 (t.length+1))).take (t.length+1 - min 1 (t.length+1))=_
  rw [Yv (YM 1 _)]
  exact ZK (Zr _)
theorem uP (ns:Vq):qq [.scr ns]=some (.fr,.bl true):=by
 obtain ⟨bk,hb,B,hbl⟩:=Co ns
 have a1:=ox bk B hbl
 have a2:=ox bk.reverse ⟨by
  have:bk.reverse.flatten.length=bk.flatten.length:=((List.reverse_perm bk).flatten).length_eq
  rw [this]
  exact B.n,fun t ht=>B.az t (Y0.mp ht)⟩ (by rw [List.length_reverse];exact hbl)
 have a3:=ox (bk.drop 1) ⟨by
  refine ZW ?_ B.n
  cases bk with
  | nil=>exact Zr _
  | cons t r=>rw [Zf,Zu];exact YM _ _,fun t ht=>B.az t (Ym ht)⟩ (by rw [ZQ];lia)
 unfold qq
 refine eA rfl (η:=[some (.pu (.scr ns)),some (.pu (bkT bk))]) ?_
 refine (show au _ _ [some (.pu (.scr ns)),none]=_ from ?_)
 rw [aq (η1:=[some (.pu (.scr ns)),some (.pu (bkT bk))]) (by
  rw [aJ (aP (xs:=[(.fr,.scr ns),(.fr,.int 60)]) rfl hb) (by decide) (by decide:1 < 2)];rfl)]
 have c1:=aP (g:=bx) (as:=af (ah 1) av) (η:=[some (.pu (.scr ns)),some (.pu (bkT bk))]) (xs:=[(.pu,bkT bk)]) rfl a1
 have sl:tf (ah 1) none none (some (eC (.int (-1)))) [some (.pu (.scr ns)),some (.pu (bkT bk))]=some (.fr,bkT bk.reverse):=by
  show sl3 (.pu,bkT bk) none none (some (-1))=_
  refine (Zs (⟨?_,by decide⟩:(bk.map T.str).all sca/\(some (-1):Option Int) ≠ some 0)).trans ?_
  ·rw [List.all_map,Yw]
   exact fun _ _=>rfl
  ·rw [o5,yU]
 have c2:=aP (g:=bx) (as:=af (tf (ah 1) none none (some (eC (.int (-1))))) av) (xs:=[(.fr,bkT bk.reverse)]) (wA sl rfl) a2
 have s2:eSl (ah 1) (some (eC (.int 1))) none [some (.pu (.scr ns)),some (.pu (bkT bk))]=some (.fr,bkT (bk.drop 1)):=by
  show mkL .pu (cut (bk.map T.str) (some 1) none)=_
  rw [Ez,← List.map_drop,jd (by rw [Zv,ZQ];lia),gJ _ (fun _=>rfl)]
  rfl
 have c3:=aP (g:=bx) (as:=af (eSl (ah 1) (some (eC (.int 1))) none) av) (xs:=[(.fr,bkT (bk.drop 1))]) (wA s2 rfl) a3
 exact jh (ie c1 (ie c2 c3))
end T21
end
section
namespace T21
open PySem PySem.Spec PyProof.Rows L2 VS
noncomputable def top (i:Nat):Stmt:=PySem.Challenge.pw_allparts_k21_places_by_stands.main.body.getD i (.Pass ⟨0,0,0,0⟩)
structure Blt (mg:Xg):Prop where
 b_bool:mg "bool" = none
 b_dict:mg "dict" = none
 b_enumerate:mg "enumerate" = none
 b_int:mg "int" = none
 b_isinstance:mg "isinstance" = none
 b_len:mg "len" = none
 b_list:mg "list" = none
 b_min:mg "min" = none
 b_range:mg "range" = none
 b_sorted:mg "sorted" = none
 b_tuple:mg "tuple" = none
section
variable {P:Program} {w:World} {K:Xs} {mg:Xg} {base:Heap}
noncomputable abbrev eL:Stmt:=top 4
theorem oV:FnScope ["thing"] ["thing"] (ao eL):=⟨rfl,rfl,rfl,by decide +kernel,rfl,by decide +kernel,by decide +kernel⟩
theorem fU {f:Addr} {fd:FuncData} (F:Fun K "is_whole" "is_whole" eL f fd) (hm:mg "is_whole" = some (.ref f)) (B:Blt mg) :
  FnAt P w K mg base 1 "is_whole" ["thing"] (gx0 K) gS:=dU F hm oV rfl rfl (fun _ _ _ _ _ _ us hl=>by obtain ⟨_,rfl⟩:=L2.lR hl;rfl) fun cdv A outer s H E hr =>
  (ak (ba (iu (jS .int B.b_isinstance B.b_int (aa 0 rfl (Or.inl rfl) rfl rfl) rfl rfl rfl rfl) (lB (xE (jS .bool B.b_isinstance B.b_bool (aa 0 rfl (Or.inl rfl) rfl rfl) rfl rfl rfl rfl))))))
noncomputable abbrev jW:Stmt:=top 6
theorem kJ:FnScope ["table", "word", "stands", "sign", "ways"] ["table", "word"] (ao jW):=⟨rfl,rfl,rfl,by decide +kernel,rfl,by decide +kernel,by decide +kernel⟩
theorem lQ {f:Addr} {fd:FuncData} (F:Fun K "walk" "walk" jW f fd) (hm:mg "walk" = some (.ref f)) (B:Blt mg) :
  FnAt P w K mg base 1 "walk" ["table", "word"] (gx0 K) je:=dU F hm kJ rfl rfl (fun _ _ _ _ _ _ us hl=>by obtain ⟨_,_,rfl⟩:=L2.mw hl;rfl) fun cdv A outer s H E hr =>
  (aj (cK (bH (ab ae ag rfl)) kJ.nd rfl (Or.inl rfl) rfl (Or.inl rfl))
  (aj (aZ Z7 rfl (bY (aa 1 rfl (Or.inl rfl) rfl rfl) rfl) (aE 3 kJ.nd rfl (Or.inl rfl) (Or.inl rfl))
  (aj (ar (uK B.b_dict (ab (aY (aY (aa 0 rfl (Or.inl rfl) rfl rfl) (aY (aa 2 rfl (Or.inl rfl) rfl rfl) nL (fun _ _=>rfl) rfl) (fun _ _=>rfl) rfl) ae (fun _ _=>rfl) rfl) ag rfl) rfl rfl rfl) kJ.nd rfl (Or.inl rfl) rfl (Or.inl rfl))
  (aj (bS (vE hr (aa 3 rfl (Or.inl rfl) rfl rfl) (aa 4 rfl (Or.inl rfl) rfl rfl) (by with_unfolding_all rfl) rfl) (ak (cO 2 rfl (Or.inl rfl) rfl rfl)) bG)
  (ak (cP 2 (ab (lN hr (aa 4 rfl (Or.inl rfl) rfl rfl) (aa 3 rfl (Or.inl rfl) rfl rfl) (fun _ _=>rfl) rfl) ag rfl) rfl rfl (Or.inl rfl) rfl rfl rfl rfl rfl)))) (fun _=>rfl))
  (ak (cO 2 rfl (Or.inl rfl) rfl rfl))))
noncomputable abbrev bz:Stmt:=top 7
theorem jb:FnScope ["table", "stand"] ["table", "stand"] (ao bz):=⟨rfl,rfl,rfl,by decide +kernel,rfl,by decide +kernel,by decide +kernel⟩
theorem bR {f:Addr} {fd:FuncData} (F:Fun K "refuse_no_stand" "refuse_no_stand" bz f fd) (hm:mg "refuse_no_stand" = some (.ref f)) (B:Blt mg) (fU:FnAt P w K mg base 1 "is_whole" ["thing"] (gx0 K) gS) :
  FnAt P w K mg base 2 "refuse_no_stand" ["table", "stand"] (gx0 K) bP:=dU F hm jb rfl rfl (fun _ _ _ _ _ _ us hl=>by obtain ⟨_,_,rfl⟩:=L2.mw hl;rfl) fun cdv A outer s H E hr =>
  (ak (bS (eR (ju (fJ (fM (aH fU hr (ab (aa 1 rfl (Or.inl rfl) rfl rfl) ag rfl) (by decide) rfl rfl rfl rfl) rfl (fun _=>rfl))) (iS (fJ (jY ae (aa 1 rfl (Or.inl rfl) rfl rfl) (cN B.b_len (ab (aa 0 rfl (Or.inl rfl) rfl rfl) ag rfl) rfl rfl rfl) (by with_unfolding_all rfl)))))) (ak xV) bG))
noncomputable abbrev iP:Stmt:=top 9
theorem lG:FnScope ["table", "stand", "met"] ["table", "stand"] (ao iP):=⟨rfl,rfl,rfl,by decide +kernel,rfl,by decide +kernel,by decide +kernel⟩
theorem jN {f:Addr} {fd:FuncData} (F:Fun K "chain" "chain" iP f fd) (hm:mg "chain" = some (.ref f)) (B:Blt mg) (bR:FnAt P w K mg base 2 "refuse_no_stand" ["table", "stand"] (gx0 K) bP) :
  FnAt P w K mg base 3 "chain" ["table", "stand"] (gx0 K) iZ:=dU F hm lG rfl rfl (fun _ _ _ _ _ _ us hl=>by obtain ⟨_,_,rfl⟩:=L2.mw hl;rfl) fun cdv A outer s H E hr =>
  (aj (vb (aH bR hr (ab (aa 0 rfl (Or.inl rfl) rfl rfl) (ab (aa 1 rfl (Or.inl rfl) rfl rfl) ag rfl) rfl) (by decide) rfl rfl rfl rfl) rfl)
  (aj (cK (bH ag) lG.nd rfl (Or.inl rfl) rfl (Or.inl rfl))
  (aj (oG Z7 (tj (aa 1 rfl (Or.inl rfl) rfl rfl))
  (aj (cP 2 (ab (aa 1 rfl (Or.inl rfl) rfl rfl) ag rfl) rfl rfl (Or.inl rfl) rfl rfl rfl rfl rfl)
  (ak (ar (aY (aY (aa 0 rfl (Or.inl rfl) rfl rfl) (aa 1 rfl (Or.inl rfl) rfl rfl) (fun _ _=>rfl) rfl) ae (fun _ _=>rfl) rfl) lG.nd rfl (Or.inl rfl) rfl (Or.inl rfl)))))
  (ak (cO 2 rfl (Or.inl rfl) rfl rfl)))))
noncomputable abbrev dJ:Stmt:=top 10
theorem cj:FnScope ["book", "table", "found", "number", "text", "end", "head", "stand"] ["book", "table"] (ao dJ):=⟨rfl,rfl,rfl,by decide +kernel,rfl,by decide +kernel,by decide +kernel⟩
theorem eX {f:Addr} {fd:FuncData} (F:Fun K "places_by" "places_by" dJ f fd) (hm:mg "places_by" = some (.ref f)) (B:Blt mg) (jN:FnAt P w K mg base 3 "chain" ["table", "stand"] (gx0 K) iZ) (lQ:FnAt P w K mg base 1 "walk" ["table", "word"] (gx0 K) je) :
  FnAt P w K mg base 4 "places_by" ["book", "table"] (gx0 K) dW:=dU F hm cj rfl rfl (fun _ _ _ _ _ _ us hl=>by obtain ⟨_,_,rfl⟩:=L2.mw hl;rfl) fun cdv A outer s H E hr =>
  (aj (lh 1 ["row", "book", "table", "found", "number", "text", "end", "head", "stand"] (fun _ _ _ h=>CA h) rfl (bY (aa 1 rfl (Or.inl rfl) rfl rfl) rfl) (jE (by decide)) (fun _ _ _ _ _=>(aE 0 (show List.Nodup (["row", "book", "table", "found", "number", "text", "end", "head", "stand"]:List Str) from by decide +kernel) rfl (Or.inl rfl) (Or.inr rfl))) (fun _ _ _ _ _=>(bH ag)) cj.nd rfl (Or.inl rfl) rfl rfl (by decide) rfl (Or.inl rfl) (fun _=>rfl))
  (aj (aZ Z7 rfl (ig (aa 0 rfl (Or.inl rfl) rfl rfl) rfl B.b_enumerate rfl rfl) (iV rfl (cf (aE 3 cj.nd rfl (Or.inl rfl) (Or.inl rfl)) (cf (aE 4 cj.nd rfl (Or.inl rfl) (Or.inl rfl)) gQ rfl) rfl) rfl rfl rfl)
  (ak (aZ Z7 rfl (ig (aH lQ hr (ab (aa 1 rfl (Or.inl rfl) rfl rfl) (ab (aa 4 rfl (Or.inl rfl) rfl rfl) ag rfl) rfl) (by decide) rfl rfl rfl rfl) rfl B.b_enumerate rfl rfl) (iV rfl (cf (aE 5 cj.nd rfl (Or.inl rfl) (Or.inl rfl)) (cf (aE 6 cj.nd rfl (Or.inl rfl) (Or.inl rfl)) gQ rfl) rfl) rfl rfl rfl)
  (ak (aZ Z7 rfl (bY (aH jN hr (ab (aa 1 rfl (Or.inl rfl) rfl rfl) (ab (aa 6 rfl (Or.inl rfl) rfl rfl) ag rfl) rfl) (by decide) rfl rfl rfl rfl) rfl) (aE 7 cj.nd rfl (Or.inl rfl) (Or.inl rfl))
  (ak (yc 2 rfl (Or.inl rfl) rfl rfl (aa 7 rfl (Or.inl rfl) rfl rfl) (fun _ _=>rfl) (ab (gK (ab (aa 3 rfl (Or.inl rfl) rfl rfl) (ab (aa 5 rfl (Or.inl rfl) rfl rfl) ag rfl) rfl)) ag rfl) rfl rfl rfl rfl rfl rfl rfl)) (fun _=>rfl))) (fun _=>rfl))) (fun _=>rfl))
  (ak (cO 2 rfl (Or.inl rfl) rfl rfl))))
noncomputable abbrev eB:Stmt:=top 12
theorem qg:FnScope ["_law_script", "_law_k"] ["_law_script", "_law_k"] (ao eB):=⟨rfl,rfl,rfl,by decide +kernel,rfl,by decide +kernel,by decide +kernel⟩
theorem eQ {f:Addr} {fd:FuncData} (F:Fun K "_law_cell" "_law_cell" eB f fd) (hm:mg "_law_cell" = some (.ref f)) (B:Blt mg) :
  FnAt P w K mg base 1 "_law_cell" ["_law_script", "_law_k"] (gx0 K) eS:=dU F hm qg rfl rfl (fun _ _ _ _ _ _ us hl=>by obtain ⟨_,_,rfl⟩:=L2.mw hl;rfl) fun cdv A outer s H E hr =>
  (aj (bS (Aj (aa 1 rfl (Or.inl rfl) rfl rfl) (cN B.b_len (ab (aa 0 rfl (Or.inl rfl) rfl rfl) ag rfl) rfl rfl rfl)) (ak (ba (aY (aa 0 rfl (Or.inl rfl) rfl rfl) (aa 1 rfl (Or.inl rfl) rfl rfl) (fun _ _=>rfl) rfl))) bG)
  (ak (ba ae)))
noncomputable abbrev dH:Stmt:=top 13
theorem di:FnScope ["_law_script", "_law_k", "_law_cell_here", "_law_number"] ["_law_script", "_law_k"] (ao dH):=⟨rfl,rfl,rfl,by decide +kernel,rfl,by decide +kernel,by decide +kernel⟩
theorem aK {f:Addr} {fd:FuncData} (F:Fun K "_law_mixed" "_law_mixed" dH f fd) (hm:mg "_law_mixed" = some (.ref f)) (B:Blt mg) :
  FnAt P w K mg base 1 "_law_mixed" ["_law_script", "_law_k"] (gx0 K) aw:=dU F hm di rfl rfl (fun _ _ _ _ _ _ us hl=>by obtain ⟨_,_,rfl⟩:=L2.mw hl;rfl) fun cdv A outer s H E hr =>
  (aj (ar ae di.nd rfl (Or.inl rfl) rfl (Or.inl rfl))
  (aj (bS (jL (cN B.b_len (ab (aa 0 rfl (Or.inl rfl) rfl rfl) ag rfl) rfl rfl rfl) ae) (ak (ar (aY (aa 0 rfl (Or.inl rfl) rfl rfl) (aX (aa 1 rfl (Or.inl rfl) rfl rfl) (cN B.b_len (ab (aa 0 rfl (Or.inl rfl) rfl rfl) ag rfl) rfl rfl rfl)) (fun _ _=>rfl) rfl) di.nd rfl (Or.inl rfl) rfl (Or.inl rfl))) bG)
  (aj (ar (aX (eT (bt (bt (aX (aa 2 rfl (Or.inl rfl) rfl rfl) ae) (eT ae (aa 1 rfl (Or.inl rfl) rfl rfl))) ae) ae) ae) di.nd rfl (Or.inl rfl) rfl (Or.inl rfl))
  (aj (ar (aX (eT (aa 3 rfl (Or.inl rfl) rfl rfl) (aa 3 rfl (Or.inl rfl) rfl rfl)) ae) di.nd rfl (Or.inl rfl) rfl (Or.inl rfl))
  (aj (ar (aX (eT (bt (aa 3 rfl (Or.inl rfl) rfl rfl) (aa 1 rfl (Or.inl rfl) rfl rfl)) ae) ae) di.nd rfl (Or.inl rfl) rfl (Or.inl rfl))
  (ak (ba (d8 (aX (eT (aa 3 rfl (Or.inl rfl) rfl rfl) (aa 3 rfl (Or.inl rfl) rfl rfl)) ae) ae))))))))
noncomputable abbrev dR:Stmt:=top 14
theorem gO:FnScope ["_law_cell_here", "_law_start", "_law_step"] ["_law_cell_here"] (ao dR):=⟨rfl,rfl,rfl,by decide +kernel,rfl,by decide +kernel,by decide +kernel⟩
theorem bw {f:Addr} {fd:FuncData} (F:Fun K "_law_signs" "_law_signs" dR f fd) (hm:mg "_law_signs" = some (.ref f)) (B:Blt mg) :
  FnAt P w K mg base 1 "_law_signs" ["_law_cell_here"] (gx0 K) bE:=dU F hm gO rfl rfl (fun _ _ _ _ _ _ us hl=>by obtain ⟨_,rfl⟩:=L2.lR hl;rfl) fun cdv A outer s H E hr =>
  (aj (ar (aX (aa 0 rfl (Or.inl rfl) rfl rfl) ae) gO.nd rfl (Or.inr rfl) rfl (Or.inl rfl))
  (aj (ar (aY (bH (ab ae (ab ae (ab ae (ab ae (ab ae ag rfl) rfl) rfl) rfl) rfl)) (aX (d8 (aa 0 rfl (Or.inl rfl) rfl rfl) ae) ae) (fun _ _=>rfl) rfl) gO.nd rfl (Or.inr rfl) rfl (Or.inl rfl))
  (ak (ba (ua 1 ["_law_k", "_law_cell_here", "_law_start", "_law_step"] rfl (bT ae rfl B.b_range rfl rfl) (jE (by decide)) (fun _ _ _ _ _=>(aE 0 (show List.Nodup (["_law_k", "_law_cell_here", "_law_start", "_law_step"]:List Str) from by decide +kernel) rfl (Or.inl rfl) (Or.inr rfl))) (fun _ _ _ _ _=>(aY (iB (by decide +kernel) (by decide)) (aX (bt (aa 2 rfl (Or.inr (Or.inl rfl)) rfl rfl) (eT (aa 3 rfl (Or.inr (Or.inl rfl)) rfl rfl) (aa 0 rfl (Or.inl rfl) rfl rfl))) ae) (fun _ _=>rfl) rfl)) rfl rfl (by decide) (fun _=>rfl))))))
noncomputable abbrev bL:Stmt:=top 15
theorem aF:FnScope ["_law_cell_here", "_law_signs_here", "_law_some", "_law_many", "_law_room", "_law_book_here", "_law_k", "_law_size", "_law_text", "_law_j"] ["_law_cell_here"] (ao bL):=⟨rfl,rfl,rfl,by decide +kernel,rfl,by decide +kernel,by decide +kernel⟩
theorem cA {f:Addr} {fd:FuncData} (F:Fun K "_law_by_digits" "_law_by_digits" bL f fd) (hm:mg "_law_by_digits" = some (.ref f)) (B:Blt mg) (bw:FnAt P w K mg base 1 "_law_signs" ["_law_cell_here"] (gx0 K) bE) :
  FnAt P w K mg base 2 "_law_by_digits" ["_law_cell_here"] (gx0 K) cF:=dU F hm aF rfl rfl (fun _ _ _ _ _ _ us hl=>by obtain ⟨_,rfl⟩:=L2.lR hl;rfl) fun cdv A outer s H E hr =>
  (aj (ar (aH bw hr (ab (aa 0 rfl (Or.inl rfl) rfl rfl) ag rfl) (by decide) rfl rfl rfl rfl) aF.nd rfl (Or.inl rfl) rfl (Or.inl rfl))
  (aj (ar (aY (bH (ab ae (ab ae (ab ae (ab ae (ab ae (ab ae (ab ae (ab ae ag rfl) rfl) rfl) rfl) rfl) rfl) rfl) rfl)) (aX (d8 (aa 0 rfl (Or.inl rfl) rfl rfl) ae) ae) (fun _ _=>rfl) rfl) aF.nd rfl (Or.inl rfl) rfl (Or.inl rfl))
  (aj (ar (aX (d8 (aa 0 rfl (Or.inl rfl) rfl rfl) ae) ae) aF.nd rfl (Or.inl rfl) rfl (Or.inl rfl))
  (aj (ar (d8 (aa 0 rfl (Or.inl rfl) rfl rfl) ae) aF.nd rfl (Or.inl rfl) rfl (Or.inl rfl))
  (aj (ar ae aF.nd rfl (Or.inl rfl) rfl (Or.inl rfl))
  (aj (cK (bH ag) aF.nd rfl (Or.inl rfl) rfl (Or.inl rfl))
  (aj (aZ Z7 rfl (bT (aa 3 rfl (Or.inl rfl) rfl rfl) rfl B.b_range rfl rfl) (aE 6 aF.nd rfl (Or.inl rfl) (Or.inl rfl))
  (aj (ar (pB B.b_min (ab (aa 4 rfl (Or.inl rfl) rfl rfl) (ab (aX (aa 0 rfl (Or.inl rfl) rfl rfl) ae) ag rfl) rfl) rfl rfl rfl rfl) aF.nd rfl (Or.inl rfl) rfl (Or.inl rfl))
  (aj (ar (d8 (aa 0 rfl (Or.inl rfl) rfl rfl) ae) aF.nd rfl (Or.inl rfl) rfl (Or.inl rfl))
  (aj (ar (kG (aa 4 rfl (Or.inl rfl) rfl rfl) (aa 7 rfl (Or.inl rfl) rfl rfl)) aF.nd rfl (Or.inl rfl) rfl (Or.inl rfl))
  (aj (ar (iB (by decide +kernel) (by decide)) aF.nd rfl (Or.inl rfl) rfl (Or.inl rfl))
  (aj (aZ Z7 rfl (bT (aa 7 rfl (Or.inl rfl) rfl rfl) rfl B.b_range rfl rfl) (aE 9 aF.nd rfl (Or.inl rfl) (Or.inl rfl))
  (aj (ar (bt (aa 8 rfl (Or.inl rfl) rfl rfl) (aY (aa 1 rfl (Or.inl rfl) rfl rfl) (aX (aa 0 rfl (Or.inl rfl) rfl rfl) (aa 2 rfl (Or.inl rfl) rfl rfl)) (fun _ _=>rfl) rfl)) aF.nd rfl (Or.inl rfl) rfl (Or.inl rfl))
  (ak (ar (d8 (aa 0 rfl (Or.inl rfl) rfl rfl) (aa 2 rfl (Or.inl rfl) rfl rfl)) aF.nd rfl (Or.inl rfl) rfl (Or.inl rfl)))) (fun _=>rfl))
  (ak (cP 5 (ab (aa 8 rfl (Or.inl rfl) rfl rfl) ag rfl) rfl rfl (Or.inl rfl) rfl rfl rfl rfl rfl))))))) (fun _=>rfl))
  (ak (cO 5 rfl (Or.inl rfl) rfl rfl)))))))))
noncomputable abbrev bM:Stmt:=top 16
theorem aG:FnScope ["_law_script", "_law_most", "_law_signs_here", "_law_some", "_law_room", "_law_book_here", "_law_k", "_law_size", "_law_back", "_law_text", "_law_j", "_law_number"] ["_law_script", "_law_most"] (ao bM):=⟨rfl,rfl,rfl,by decide +kernel,rfl,by decide +kernel,by decide +kernel⟩
theorem cD {f:Addr} {fd:FuncData} (F:Fun K "_law_by_mixing" "_law_by_mixing" bM f fd) (hm:mg "_law_by_mixing" = some (.ref f)) (B:Blt mg) (aK:FnAt P w K mg base 1 "_law_mixed" ["_law_script", "_law_k"] (gx0 K) aw) (bw:FnAt P w K mg base 1 "_law_signs" ["_law_cell_here"] (gx0 K) bE) :
  FnAt P w K mg base 2 "_law_by_mixing" ["_law_script", "_law_most"] (gx0 K) cy:=dU F hm aG rfl rfl (fun _ _ _ _ _ _ us hl=>by obtain ⟨_,_,rfl⟩:=L2.mw hl;rfl) fun cdv A outer s H E hr =>
  (aj (ar (aH bw hr (ab (aH aK hr (ab (aa 0 rfl (Or.inl rfl) rfl rfl) (ab ae ag rfl) rfl) (by decide) rfl rfl rfl rfl) ag rfl) (by decide) rfl rfl rfl rfl) aG.nd rfl (Or.inl rfl) rfl (Or.inl rfl))
  (aj (ar (aY (bH (ab ae (ab ae (ab ae (ab ae (ab ae (ab ae (ab ae (ab ae ag rfl) rfl) rfl) rfl) rfl) rfl) rfl) rfl)) (aX (aH aK hr (ab (aa 0 rfl (Or.inl rfl) rfl rfl) (ab ae ag rfl) rfl) (by decide) rfl rfl rfl rfl) ae) (fun _ _=>rfl) rfl) aG.nd rfl (Or.inl rfl) rfl (Or.inl rfl))
  (aj (ar (aa 1 rfl (Or.inl rfl) rfl rfl) aG.nd rfl (Or.inl rfl) rfl (Or.inl rfl))
  (aj (cK (bH ag) aG.nd rfl (Or.inl rfl) rfl (Or.inl rfl))
  (aj (aZ Z7 rfl (bT (aX (aH aK hr (ab (aa 0 rfl (Or.inl rfl) rfl rfl) (ab ae ag rfl) rfl) (by decide) rfl rfl rfl rfl) ae) rfl B.b_range rfl rfl) (aE 6 aG.nd rfl (Or.inl rfl) (Or.inl rfl))
  (aj (ar (pB B.b_min (ab (aa 4 rfl (Or.inl rfl) rfl rfl) (ab (aX (aH aK hr (ab (aa 0 rfl (Or.inl rfl) rfl rfl) (ab (bt (eT ae (aa 6 rfl (Or.inl rfl) rfl rfl)) ae) ag rfl) rfl) (by decide) rfl rfl rfl rfl) (bt (aa 1 rfl (Or.inl rfl) rfl rfl) ae)) ag rfl) rfl) rfl rfl rfl rfl) aG.nd rfl (Or.inl rfl) rfl (Or.inl rfl))
  (aj (ar (kG (aa 4 rfl (Or.inl rfl) rfl rfl) (aa 7 rfl (Or.inl rfl) rfl rfl)) aG.nd rfl (Or.inl rfl) rfl (Or.inl rfl))
  (aj (ar (bt ae (aX (aH aK hr (ab (aa 0 rfl (Or.inl rfl) rfl rfl) (ab (bt (eT ae (aa 6 rfl (Or.inl rfl) rfl rfl)) ae) ag rfl) rfl) (by decide) rfl rfl rfl rfl) ae)) aG.nd rfl (Or.inl rfl) rfl (Or.inl rfl))
  (aj (ar (iB (by decide +kernel) (by decide)) aG.nd rfl (Or.inl rfl) rfl (Or.inl rfl))
  (aj (aZ Z7 rfl (bT (aa 7 rfl (Or.inl rfl) rfl rfl) rfl B.b_range rfl rfl) (aE 10 aG.nd rfl (Or.inl rfl) (Or.inl rfl))
  (aj (ar (aH aK hr (ab (aa 0 rfl (Or.inl rfl) rfl rfl) (ab (bt (bt (eT ae (aa 6 rfl (Or.inl rfl) rfl rfl)) ae) (aa 10 rfl (Or.inl rfl) rfl rfl)) ag rfl) rfl) (by decide) rfl rfl rfl rfl) aG.nd rfl (Or.inl rfl) rfl (Or.inl rfl))
  (ak (bS (eR (i0 (sV (cN B.b_len (ab (aa 9 rfl (Or.inl rfl) rfl rfl) ag rfl) rfl rfl rfl) (aa 8 rfl (Or.inl rfl) rfl rfl)) (jo (jL (aX (aa 11 rfl (Or.inl rfl) rfl rfl) ae) ae)))) (ak (ar (bt (aa 9 rfl (Or.inl rfl) rfl rfl) (aY (aa 9 rfl (Or.inl rfl) rfl rfl) (kG (cN B.b_len (ab (aa 9 rfl (Or.inl rfl) rfl rfl) ag rfl) rfl rfl rfl) (aa 8 rfl (Or.inl rfl) rfl rfl)) (fun _ _=>rfl) rfl)) aG.nd rfl (Or.inl rfl) rfl (Or.inl rfl))) (ak (ar (bt (aa 9 rfl (Or.inl rfl) rfl rfl) (aY (aa 2 rfl (Or.inl rfl) rfl rfl) (aX (d8 (aa 11 rfl (Or.inl rfl) rfl rfl) ae) (aa 3 rfl (Or.inl rfl) rfl rfl)) (fun _ _=>rfl) rfl)) aG.nd rfl (Or.inl rfl) rfl (Or.inl rfl)))))) (fun _=>rfl))
  (aj (cP 5 (ab (aa 9 rfl (Or.inl rfl) rfl rfl) ag rfl) rfl rfl (Or.inl rfl) rfl rfl rfl rfl rfl)
  (ak (bS (eR (i0 (jL (aa 7 rfl (Or.inl rfl) rfl rfl) ae) (i0 (kM hr (aX (aH aK hr (ab (aa 0 rfl (Or.inl rfl) rfl rfl) (ab (bt (eT ae (aa 6 rfl (Or.inl rfl) rfl rfl)) ae) ag rfl) rfl) (by decide) rfl rfl rfl rfl) ae) ae) (jo (sV (aa 4 rfl (Or.inl rfl) rfl rfl) ae))))) (aj (cP 5 (ab (dE (aa 9 rfl (Or.inl rfl) rfl rfl) (bU ae) (bU ae) rfl) ag rfl) rfl rfl (Or.inl rfl) rfl rfl rfl rfl rfl)
  (ak (ar (kG (aa 4 rfl (Or.inl rfl) rfl rfl) ae) aG.nd rfl (Or.inl rfl) rfl (Or.inl rfl)))) bG)))))))) (fun _=>rfl))
  (mL 5 (ak (ba (dE (aa 5 rfl (Or.inl rfl) rfl rfl) dD (bU ae) rfl)))))))))
noncomputable abbrev dP:Stmt:=top 17
theorem d9:FnScope ["_law_script", "_law_signs_here", "_law_text", "_law_at"] ["_law_script"] (ao dP):=⟨rfl,rfl,rfl,by decide +kernel,rfl,by decide +kernel,by decide +kernel⟩
theorem eW {f:Addr} {fd:FuncData} (F:Fun K "_law_great" "_law_great" dP f fd) (hm:mg "_law_great" = some (.ref f)) (B:Blt mg) (aK:FnAt P w K mg base 1 "_law_mixed" ["_law_script", "_law_k"] (gx0 K) aw) (bw:FnAt P w K mg base 1 "_law_signs" ["_law_cell_here"] (gx0 K) bE) :
  FnAt P w K mg base 2 "_law_great" ["_law_script"] (gx0 K) dM:=dU F hm d9 rfl rfl (fun _ _ _ _ _ _ us hl=>by obtain ⟨_,rfl⟩:=L2.lR hl;rfl) fun cdv A outer s H E hr =>
  (aj (ar (aH bw hr (ab (aH aK hr (ab (aa 0 rfl (Or.inl rfl) rfl rfl) (ab ae ag rfl) rfl) (by decide) rfl rfl rfl rfl) ag rfl) (by decide) rfl rfl rfl rfl) d9.nd rfl (Or.inl rfl) rfl (Or.inl rfl))
  (aj (ar (xY (aY (aa 1 rfl (Or.inl rfl) rfl rfl) ae (fun _ _=>rfl) rfl) (bt ae (aX (aH aK hr (ab (aa 0 rfl (Or.inl rfl) rfl rfl) (ab ae ag rfl) rfl) (by decide) rfl rfl rfl rfl) ae))) d9.nd rfl (Or.inl rfl) rfl (Or.inl rfl))
  (aj (bS (kM hr (aX (aH aK hr (ab (aa 0 rfl (Or.inl rfl) rfl rfl) (ab ae ag rfl) rfl) (by decide) rfl rfl rfl rfl) ae) ae) (aj (ar (aX (aH aK hr (ab (aa 0 rfl (Or.inl rfl) rfl rfl) (ab ae ag rfl) rfl) (by decide) rfl rfl rfl rfl) (cN B.b_len (ab (aa 2 rfl (Or.inl rfl) rfl rfl) ag rfl) rfl rfl rfl)) d9.nd rfl (Or.inl rfl) rfl (Or.inl rfl))
  (ak (ar (bt (bt (dE (aa 2 rfl (Or.inl rfl) rfl rfl) dD (bU (aa 3 rfl (Or.inl rfl) rfl rfl)) rfl) (aY (aa 1 rfl (Or.inl rfl) rfl rfl) ae (fun _ _=>rfl) rfl)) (dE (aa 2 rfl (Or.inl rfl) rfl rfl) (bU (bt (aa 3 rfl (Or.inl rfl) rfl rfl) ae)) dD rfl)) d9.nd rfl (Or.inl rfl) rfl (Or.inl rfl)))) bG)
  (ak (ba (bH (ab (aa 2 rfl (Or.inl rfl) rfl rfl) ag rfl)))))))
noncomputable abbrev eJ:Stmt:=top 18
theorem oM:FnScope ["_law_script", "_law_most"] ["_law_script", "_law_most"] (ao eJ):=⟨rfl,rfl,rfl,by decide +kernel,rfl,by decide +kernel,by decide +kernel⟩
theorem fW {f:Addr} {fd:FuncData} (F:Fun K "_law_book" "_law_book" eJ f fd) (hm:mg "_law_book" = some (.ref f)) (B:Blt mg) (cA:FnAt P w K mg base 2 "_law_by_digits" ["_law_cell_here"] (gx0 K) cF) (cD:FnAt P w K mg base 2 "_law_by_mixing" ["_law_script", "_law_most"] (gx0 K) cy) (eQ:FnAt P w K mg base 1 "_law_cell" ["_law_script", "_law_k"] (gx0 K) eS) (eW:FnAt P w K mg base 2 "_law_great" ["_law_script"] (gx0 K) dM) (aK:FnAt P w K mg base 1 "_law_mixed" ["_law_script", "_law_k"] (gx0 K) aw) :
  FnAt P w K mg base 3 "_law_book" ["_law_script", "_law_most"] (gx0 K) fY:=dU F hm oM rfl rfl (fun _ _ _ _ _ _ us hl=>by obtain ⟨_,_,rfl⟩:=L2.mw hl;rfl) fun cdv A outer s H E hr =>
  (aj (bS (kM hr (aX (aH eQ hr (ab (aa 0 rfl (Or.inl rfl) rfl rfl) (ab ae ag rfl) rfl) (by decide) rfl rfl rfl rfl) ae) ae) (ak (ba (aH cA hr (ab (d8 (aH eQ hr (ab (aa 0 rfl (Or.inl rfl) rfl rfl) (ab ae ag rfl) rfl) (by decide) rfl rfl rfl rfl) ae) ag rfl) (by decide) rfl rfl rfl rfl))) bG)
  (aj (bS (eR (i0 (jL (aa 1 rfl (Or.inl rfl) rfl rfl) ae) (jo (kM hr (aX (aH aK hr (ab (aa 0 rfl (Or.inl rfl) rfl rfl) (ab ae ag rfl) rfl) (by decide) rfl rfl rfl rfl) ae) ae)))) (ak (ba (aH eW hr (ab (aa 0 rfl (Or.inl rfl) rfl rfl) ag rfl) (by decide) rfl rfl rfl rfl))) bG)
  (ak (ba (aH cD hr (ab (aa 0 rfl (Or.inl rfl) rfl rfl) (ab (aY (bH (ab ae (ab ae (ab ae (ab (aa 1 rfl (Or.inl rfl) rfl rfl) ag rfl) rfl) rfl) rfl)) (aX (aH aK hr (ab (aa 0 rfl (Or.inl rfl) rfl rfl) (ab ae ag rfl) rfl) (by decide) rfl rfl rfl rfl) ae) (fun _ _=>rfl) rfl) ag rfl) rfl) (by decide) rfl rfl rfl rfl)))))
noncomputable abbrev de:Stmt:=top 19
theorem cH:FnScope ["_law_book_here", "_law_found", "_law_number", "_law_text", "_law_end", "_law_start"] ["_law_book_here"] (ao de):=⟨rfl,rfl,rfl,by decide +kernel,rfl,by decide +kernel,by decide +kernel⟩
theorem d6 {f:Addr} {fd:FuncData} (F:Fun K "_law_places" "_law_places" de f fd) (hm:mg "_law_places" = some (.ref f)) (B:Blt mg) :
  FnAt P w K mg base 1 "_law_places" ["_law_book_here"] (gx0 K) cY:=dU F hm cH rfl rfl (fun _ _ _ _ _ _ us hl=>by obtain ⟨_,rfl⟩:=L2.lR hl;rfl) fun cdv A outer s H E hr =>
  (aj (cK (tK (by decide +kernel) (by decide)) cH.nd rfl (Or.inl rfl) rfl (Or.inl rfl))
  (aj (aZ Z7 rfl (ig (aa 0 rfl (Or.inl rfl) rfl rfl) rfl B.b_enumerate rfl rfl) (iV rfl (cf (aE 2 cH.nd rfl (Or.inl rfl) (Or.inl rfl)) (cf (aE 3 cH.nd rfl (Or.inl rfl) (Or.inl rfl)) gQ rfl) rfl) rfl rfl rfl)
  (ak (aZ Z7 rfl (bT (bt (cN B.b_len (ab (aa 3 rfl (Or.inl rfl) rfl rfl) ag rfl) rfl rfl rfl) ae) rfl B.b_range rfl rfl) (aE 4 cH.nd rfl (Or.inl rfl) (Or.inl rfl))
  (ak (aZ Z7 rfl (bT (bt (aa 4 rfl (Or.inl rfl) rfl rfl) ae) rfl B.b_range rfl rfl) (aE 5 cH.nd rfl (Or.inl rfl) (Or.inl rfl))
  (ak (qR (yL _) 1 (dE (aa 3 rfl (Or.inl rfl) rfl rfl) (bU (aa 5 rfl (Or.inl rfl) rfl rfl)) (bU (aa 4 rfl (Or.inl rfl) rfl rfl)) rfl) (ab (gK (ab (aa 2 rfl (Or.inl rfl) rfl rfl) (ab (aa 4 rfl (Or.inl rfl) rfl rfl) ag rfl) rfl)) ag rfl)  rfl rfl (Or.inl rfl) rfl rfl rfl rfl rfl rfl rfl rfl rfl rfl rfl rfl rfl rfl)) (fun _=>rfl))) (fun _=>rfl))) (fun _=>rfl))
  (ak (cO 1 rfl (Or.inl rfl) rfl rfl))))
noncomputable abbrev cG:Stmt:=top 20
theorem lK:FnScope ["_law_word"] ["_law_word"] (ao cG):=⟨rfl,rfl,rfl,by decide +kernel,rfl,by decide +kernel,by decide +kernel⟩
theorem dm {f:Addr} {fd:FuncData} (F:Fun K "_law_by_size" "_law_by_size" cG f fd) (hm:mg "_law_by_size" = some (.ref f)) (B:Blt mg) :
  FnAt P w K mg base 1 "_law_by_size" ["_law_word"] (gx0 K) eU:=dU F hm lK rfl rfl (fun _ _ _ _ _ _ us hl=>by obtain ⟨_,rfl⟩:=L2.lR hl;rfl) fun cdv A outer s H E hr =>
  (ak (ba (gK (ab (cN B.b_len (ab (aa 0 rfl (Or.inl rfl) rfl rfl) ag rfl) rfl rfl rfl) (ab (aa 0 rfl (Or.inl rfl) rfl rfl) ag rfl) rfl))))
noncomputable abbrev dc:Stmt:=top 21
theorem gD:FnScope ["_law_found", "_law_groups", "_law_word"] ["_law_found"] (ao dc):=⟨rfl,rfl,rfl,by decide +kernel,rfl,by decide +kernel,by decide +kernel⟩
theorem dZ {f:Addr} {fd:FuncData} (F:Fun K "_law_stands" "_law_stands" dc f fd) (hm:mg "_law_stands" = some (.ref f)) (B:Blt mg) (dm:FnAt P w K mg base 1 "_law_by_size" ["_law_word"] (gx0 K) eU) :
  FnAt P w K mg base 4 "_law_stands" ["_law_found"] (gx0 K) cZ:=dU F hm gD rfl rfl (fun _ _ _ _ _ _ us hl=>by obtain ⟨_,rfl⟩:=L2.lR hl;rfl) fun cdv A outer s H E hr =>
  (aj (cK ub gD.nd rfl (Or.inr rfl) rfl (Or.inl rfl))
  (aj (aZ Z7 rfl (bY (pP dm (by decide) mh hr B.b_sorted (ab (aa 0 rfl (Or.inl rfl) rfl rfl) ag rfl) rfl rfl rfl rfl rfl rfl) rfl) (aE 2 gD.nd rfl (Or.inl rfl) (Or.inl rfl))
  (ak (qd 1 hr (nj B.b_tuple (ab (lN hr (aa 0 rfl (Or.inl rfl) rfl rfl) (aa 2 rfl (Or.inl rfl) rfl rfl) (fun _ _=>rfl) rfl) ag rfl) rfl rfl rfl) (ab (aa 2 rfl (Or.inl rfl) rfl rfl) ag rfl)  rfl rfl (Or.inr (Or.inl rfl)) rfl rfl rfl rfl rfl rfl rfl rfl rfl rfl rfl rfl rfl rfl)) (fun _=>rfl))
  (ak (p9 1 ["_law_some", "_law_found", "_law_groups", "_law_word"] hr rfl rfl (Or.inr (Or.inl rfl)) rfl rfl (fun _ _ _ _ _=>⟨L2.oF (show List.Nodup (["_law_some", "_law_found", "_law_groups", "_law_word"]:List Str) from by decide +kernel) rfl (Or.inl rfl) (Or.inr rfl),L2.eI rfl (Or.inr (Or.inl rfl)) rfl rfl,L2.eI rfl (Or.inl rfl) rfl rfl,rfl⟩) (fun _ _=>rfl) rfl rfl (by decide) (fun _=>rfl)))))
noncomputable abbrev cL:Stmt:=top 22
theorem cQ:FnScope ["_law_stands_here", "_law_numbers_here", "_law_k", "_law_some", "_law_word"] ["_law_stands_here"] (ao cL):=⟨rfl,rfl,rfl,by decide +kernel,rfl,by decide +kernel,by decide +kernel⟩
theorem du {f:Addr} {fd:FuncData} (F:Fun K "_law_numbers" "_law_numbers" cL f fd) (hm:mg "_law_numbers" = some (.ref f)) (B:Blt mg) :
  FnAt P w K mg base 1 "_law_numbers" ["_law_stands_here"] (gx0 K) cJ:=dU F hm cQ rfl rfl (fun _ _ _ _ _ _ us hl=>by obtain ⟨_,rfl⟩:=L2.lR hl;rfl) fun cdv A outer s H E hr =>
  (aj (cK vJ cQ.nd rfl (Or.inl rfl) rfl (Or.inl rfl))
  (aj (aZ Z7 rfl (ig (aa 0 rfl (Or.inl rfl) rfl rfl) rfl B.b_enumerate rfl rfl) (iV rfl (cf (aE 2 cQ.nd rfl (Or.inl rfl) (Or.inl rfl)) (cf (aE 3 cQ.nd rfl (Or.inl rfl) (Or.inl rfl)) gQ rfl) rfl) rfl rfl rfl)
  (ak (aZ Z7 rfl (bY (aa 3 rfl (Or.inl rfl) rfl rfl) rfl) (aE 4 cQ.nd rfl (Or.inl rfl) (Or.inl rfl))
  (ak (vC 1 hr (aa 4 rfl (Or.inl rfl) rfl rfl) (aa 2 rfl (Or.inl rfl) rfl rfl) rfl (Or.inl rfl) rfl rfl (fun _=>rfl) rfl rfl rfl)) (fun _=>rfl))) (fun _=>rfl))
  (ak (cO 1 rfl (Or.inl rfl) rfl rfl))))
noncomputable abbrev dQ:Stmt:=top 23
theorem cx:FnScope ["_law_stands_here", "_law_numbers_here", "_law_table_here", "_law_some", "_law_ways", "_law_sign", "_law_link"] ["_law_stands_here", "_law_numbers_here"] (ao dQ):=⟨rfl,rfl,rfl,by decide +kernel,rfl,by decide +kernel,by decide +kernel⟩
theorem fq {f:Addr} {fd:FuncData} (F:Fun K "_law_table" "_law_table" dQ f fd) (hm:mg "_law_table" = some (.ref f)) (B:Blt mg) :
  FnAt P w K mg base 1 "_law_table" ["_law_stands_here", "_law_numbers_here"] (gx0 K) dN:=dU F hm cx rfl rfl (fun _ _ _ _ _ _ us hl=>by obtain ⟨_,_,rfl⟩:=L2.mw hl;rfl) fun cdv A outer s H E hr =>
  (aj (cK (bH ag) cx.nd rfl (Or.inl rfl) rfl (Or.inl rfl))
  (aj (aZ Z7 rfl (bY (aa 0 rfl (Or.inl rfl) rfl rfl) rfl) (aE 3 cx.nd rfl (Or.inl rfl) (Or.inl rfl))
  (aj (cK (bH ag) cx.nd rfl (Or.inl rfl) rfl (Or.inl rfl))
  (aj (aZ Z7 rfl (bY (iB (by decide +kernel) (by decide)) rfl) (aE 5 cx.nd rfl (Or.inl rfl) (Or.inl rfl))
  (ak (bS (yD hr (bt (aY (aa 3 rfl (Or.inl rfl) rfl rfl) ae (fun _ _=>rfl) rfl) (aa 5 rfl (Or.inl rfl) rfl rfl)) (aa 1 rfl (Or.inl rfl) rfl rfl) (by with_unfolding_all rfl) rfl) (ak (cP 4 (ab (gK (ab (aa 5 rfl (Or.inl rfl) rfl rfl) (ab (lN hr (aa 1 rfl (Or.inl rfl) rfl rfl) (bt (aY (aa 3 rfl (Or.inl rfl) rfl rfl) ae (fun _ _=>rfl) rfl) (aa 5 rfl (Or.inl rfl) rfl rfl)) (fun _ _=>rfl) rfl) ag rfl) rfl)) ag rfl) rfl rfl (Or.inl rfl) rfl rfl rfl rfl rfl)) bG)) (fun _=>rfl))
  (mL 4 (aj (ar wX cx.nd rfl (Or.inl rfl) rfl (Or.inl rfl))
  (aj (bS (nO hr (aY (aa 3 rfl (Or.inl rfl) rfl rfl) ae (fun _ _=>rfl) rfl) (iB (by decide +kernel) (by decide))) (ak (ar (lN hr (aa 1 rfl (Or.inl rfl) rfl rfl) (dE (aY (aa 3 rfl (Or.inl rfl) rfl rfl) ae (fun _ _=>rfl) rfl) (bU ae) dD rfl) (fun _ _=>rfl) rfl) cx.nd rfl (Or.inl rfl) rfl (Or.inl rfl))) bG)
  (ak (cP 2 (ab (gK (ab (cN B.b_len (ab (aY (aa 3 rfl (Or.inl rfl) rfl rfl) ae (fun _ _=>rfl) rfl) ag rfl) rfl rfl rfl) (ab (cN B.b_len (ab (aY (aa 3 rfl (Or.inl rfl) rfl rfl) nL (fun _ _=>rfl) rfl) ag rfl) rfl rfl rfl) (ab (aa 6 rfl (Or.inl rfl) rfl rfl) (ab (nj B.b_tuple (ab (aa 4 rfl (Or.inl rfl) rfl rfl) ag rfl) rfl rfl rfl) ag rfl) rfl) rfl) rfl)) ag rfl) rfl rfl (Or.inl rfl) rfl rfl rfl rfl rfl))))))) (fun _=>rfl))
  (ak (cO 2 rfl (Or.inl rfl) rfl rfl))))
noncomputable abbrev bW:Stmt:=top 24
theorem kC:FnScope ["_law_one"] ["_law_one"] (ao bW):=⟨rfl,rfl,rfl,by decide +kernel,rfl,by decide +kernel,by decide +kernel⟩
theorem cU {f:Addr} {fd:FuncData} (F:Fun K "_law_is_place" "_law_is_place" bW f fd) (hm:mg "_law_is_place" = some (.ref f)) (B:Blt mg) :
  FnAt P w K mg base 1 "_law_is_place" ["_law_one"] (gx0 K) d3:=dU F hm kC rfl rfl (fun _ _ _ _ _ _ us hl=>by obtain ⟨_,rfl⟩:=L2.lR hl;rfl) fun cdv A outer s H E hr =>
  (ak (ba (iu (jS .tuple B.b_isinstance B.b_tuple (aa 0 rfl (Or.inl rfl) rfl rfl) rfl rfl rfl rfl) (iu (v7 hr (cN B.b_len (ab (aa 0 rfl (Or.inl rfl) rfl rfl) ag rfl) rfl rfl rfl) ae) (lB (v7 hr (cN B.b_len (ab (kl 1 ["_law_k", "_law_one"] rfl (bY (aa 0 rfl (Or.inl rfl) rfl rfl) rfl) (jE (by decide)) (fun _ _ _ _ _=>(aE 0 (show List.Nodup (["_law_k", "_law_one"]:List Str) from by decide +kernel) rfl (Or.inl rfl) (Or.inr rfl))) (fun _ _ _ _ _=>(fM (jS .bool B.b_isinstance B.b_bool (aa 0 rfl (Or.inl rfl) rfl rfl) rfl rfl rfl rfl) rfl (fun _=>rfl))) (fun _ _ _ _ _=>(aa 0 rfl (Or.inl rfl) rfl rfl)) rfl rfl (by decide) (fun _=>rfl)) ag rfl) rfl rfl rfl) ae))))))
noncomputable abbrev dS:Stmt:=top 25
theorem jr:FnScope ["_law_found", "_law_due", "_law_some"] ["_law_found", "_law_due"] (ao dS):=⟨rfl,rfl,rfl,by decide +kernel,rfl,by decide +kernel,by decide +kernel⟩
theorem fg {f:Addr} {fd:FuncData} (F:Fun K "_law_right" "_law_right" dS f fd) (hm:mg "_law_right" = some (.ref f)) (B:Blt mg) (cU:FnAt P w K mg base 1 "_law_is_place" ["_law_one"] (gx0 K) d3) :
  FnAt P w K mg base 2 "_law_right" ["_law_found", "_law_due"] (gx0 K) cV:=dU F hm jr rfl rfl (fun _ _ _ _ _ _ us hl=>by obtain ⟨_,_,rfl⟩:=L2.mw hl;rfl) fun cdv A outer s H E hr =>
  (aj (bS (eR (ju (fJ (fM (jS .list B.b_isinstance B.b_list (aa 0 rfl (Or.inl rfl) rfl rfl) rfl rfl rfl rfl) rfl (fun _=>rfl))) (iS (nO hr (aa 0 rfl (Or.inl rfl) rfl rfl) (aa 1 rfl (Or.inl rfl) rfl rfl))))) (ak (ba jJ)) bG)
  (aj (aZ Z7 rfl (bY (aa 0 rfl (Or.inl rfl) rfl rfl) rfl) (aE 2 jr.nd rfl (Or.inl rfl) (Or.inl rfl))
  (ak (bS (eR (ju (fJ (fM (jS .list B.b_isinstance B.b_list (aa 2 rfl (Or.inl rfl) rfl rfl) rfl rfl rfl rfl) rfl (fun _=>rfl))) (iS (jL (cN B.b_len (ab (kl 1 ["_law_one", "_law_found", "_law_due", "_law_some"] rfl (bY (aa 2 rfl (Or.inl rfl) rfl rfl) rfl) (jE (by decide)) (fun _ _ _ _ _=>(aE 0 (show List.Nodup (["_law_one", "_law_found", "_law_due", "_law_some"]:List Str) from by decide +kernel) rfl (Or.inl rfl) (Or.inr rfl))) (fun _ _ _ _ _=>(fJ (fM (aH cU hr (ab (aa 0 rfl (Or.inl rfl) rfl rfl) ag rfl) (by decide) rfl rfl rfl rfl) rfl (fun _=>rfl)))) (fun _ _ _ _ _=>(aa 0 rfl (Or.inl rfl) rfl rfl)) rfl rfl (by decide) (fun _=>rfl)) ag rfl) rfl rfl rfl) ae)))) (ak (ba jJ)) bG)) (fun _=>rfl))
  (ak (ba jJ))))
noncomputable abbrev dI:Stmt:=top 26
theorem bD:FnScope ["_law_book_here", "_law_found", "_law_stands_here", "_law_table_here", "_law_due", "_law_turn", "_law_handed", "_law_told", "_law_some"] ["_law_book_here"] (ao dI):=⟨rfl,rfl,rfl,by decide +kernel,rfl,by decide +kernel,by decide +kernel⟩
theorem cR {f:Addr} {fd:FuncData} (F:Fun K "_law_asked" "_law_asked" dI f fd) (hm:mg "_law_asked" = some (.ref f)) (B:Blt mg) (du:FnAt P w K mg base 1 "_law_numbers" ["_law_stands_here"] (gx0 K) cJ) (d6:FnAt P w K mg base 1 "_law_places" ["_law_book_here"] (gx0 K) cY) (fg:FnAt P w K mg base 2 "_law_right" ["_law_found", "_law_due"] (gx0 K) cV) (dZ:FnAt P w K mg base 4 "_law_stands" ["_law_found"] (gx0 K) cZ) (fq:FnAt P w K mg base 1 "_law_table" ["_law_stands_here", "_law_numbers_here"] (gx0 K) dN) (eX:FnAt P w K mg base 4 "places_by" ["book", "table"] (gx0 K) dW) :
  FnAt P w K mg base 5 "_law_asked" ["_law_book_here"] (gx0 K) bx:=dU F hm bD rfl rfl (fun _ _ _ _ _ _ us hl=>by obtain ⟨_,rfl⟩:=L2.lR hl;rfl) fun cdv A outer s H E hr =>
  (aj (ar (aH d6 hr (ab (aa 0 rfl (Or.inl rfl) rfl rfl) ag rfl) (by decide) rfl rfl rfl rfl) bD.nd rfl (Or.inr rfl) rfl (Or.inl rfl))
  (aj (ar (aH dZ hr (ab (aa 1 rfl (Or.inr (Or.inl rfl)) rfl rfl) ag rfl) (by decide) rfl rfl rfl rfl) bD.nd rfl (Or.inl rfl) rfl (Or.inl rfl))
  (aj (ar (aH fq hr (ab (aa 2 rfl (Or.inl rfl) rfl rfl) (ab (aH du hr (ab (aa 2 rfl (Or.inl rfl) rfl rfl) ag rfl) (by decide) rfl rfl rfl rfl) ag rfl) rfl) (by decide) rfl rfl rfl rfl) bD.nd rfl (Or.inl rfl) rfl (Or.inl rfl))
  (aj (lh 1 ["_law_some", "_law_book_here", "_law_found", "_law_stands_here", "_law_table_here", "_law_due", "_law_turn", "_law_handed", "_law_told", "-9"] (fun _ _ _ h=>yq h) rfl (bY (aa 2 rfl (Or.inl rfl) rfl rfl) rfl) (jE (by decide)) (fun _ _ _ _ _=>(aE 0 (show List.Nodup (["_law_some", "_law_book_here", "_law_found", "_law_stands_here", "_law_table_here", "_law_due", "_law_turn", "_law_handed", "_law_told", "-9"]:List Str) from by decide +kernel) rfl (Or.inl rfl) (Or.inr rfl))) (fun _ _ _ _ _=>(lN hr (aa 2 rfl (Or.inr (Or.inl rfl)) rfl rfl) (aY (aa 0 rfl (Or.inl rfl) rfl rfl) ae (fun _ _=>rfl) rfl) (fun _ _=>rfl) rfl)) bD.nd rfl (Or.inl rfl) rfl rfl (by decide) rfl (Or.inl rfl) (fun _=>rfl))
  (aj (aZ Z7 rfl (bT ae rfl B.b_range rfl rfl) (aE 5 bD.nd rfl (Or.inl rfl) (Or.inl rfl))
  (aj (ar (bH (ab (mS B.b_list (ab (aa 0 rfl (Or.inl rfl) rfl rfl) ag rfl) rfl rfl rfl rfl) (ab (mS B.b_list (ab (aa 3 rfl (Or.inl rfl) rfl rfl) ag rfl) rfl rfl rfl rfl) ag rfl) rfl)) bD.nd rfl (Or.inl rfl) rfl (Or.inl rfl))
  (aj (cK (aH eX hr (ab (aY (aa 6 rfl (Or.inl rfl) rfl rfl) ae (fun _ _=>rfl) rfl) (ab (aY (aa 6 rfl (Or.inl rfl) rfl rfl) ae (fun _ _=>rfl) rfl) ag rfl) rfl) (by decide) rfl rfl rfl rfl) bD.nd rfl (Or.inl rfl) rfl (Or.inl rfl))
  (aj (bS (eR (ju (fJ (fM (aH fg hr (ab (aa 7 rfl (Or.inl rfl) rfl rfl) (ab (aa 4 rfl (Or.inl rfl) rfl rfl) ag rfl) rfl) (by decide) rfl rfl rfl rfl) rfl (fun _=>rfl))) (iS (nO hr (aa 6 rfl (Or.inl rfl) rfl rfl) (bH (ab (aa 0 rfl (Or.inl rfl) rfl rfl) (ab (aa 3 rfl (Or.inl rfl) rfl rfl) ag rfl) rfl)))))) (ak (ba jJ)) bG)
  (aj (xI 7 8 Z7 rfl bD.nd rfl (Or.inl rfl) rfl rfl rfl (Or.inl rfl) (Or.inl rfl) (Or.inl rfl) rfl rfl (ab (gK (ab ae (ab ae ag rfl) rfl)) ag rfl) rfl rfl rfl rfl rfl rfl rfl (fun _=>rfl))
  (ak (cP 7 (ab (bH ag) ag rfl) rfl rfl (Or.inl rfl) rfl rfl rfl rfl rfl)))))) (fun _=>rfl))
  (ak (ba jJ)))))))
noncomputable abbrev jK:Stmt:=top 27
theorem vg:FnScope ["_law_script", "_law_book_here"] ["_law_script"] (ao jK):=⟨rfl,rfl,rfl,by decide +kernel,rfl,by decide +kernel,by decide +kernel⟩
theorem Cy {f:Addr} {fd:FuncData} (F:Fun K "law" "law" jK f fd) (B:Blt mg) (cR:FnAt P w K mg base 5 "_law_asked" ["_law_book_here"] (gx0 K) bx) (fW:FnAt P w K mg base 3 "_law_book" ["_law_script", "_law_most"] (gx0 K) fY) :
  FnOk P w K mg base CX0 6 f fd ["_law_script"] (spF (gx0 K) qq):=E4 F vg rfl rfl fun cdv A outer s H E hr =>
  (aj (ar (aH fW hr (ab (aa 0 rfl (Or.inl rfl) rfl rfl) (ab ae ag rfl) rfl) (by decide) rfl rfl rfl rfl) vg.nd rfl (Or.inl rfl) rfl (Or.inl rfl))
  (ak (ba (iu (aH cR hr (ab (aa 1 rfl (Or.inl rfl) rfl rfl) ag rfl) (by decide) rfl rfl rfl rfl) (iu (aH cR hr (ab (qE (aa 1 rfl (Or.inl rfl) rfl rfl) dD dD (bU nL) rfl) ag rfl) (by decide) rfl rfl rfl rfl) (lB (aH cR hr (ab (dE (aa 1 rfl (Or.inl rfl) rfl rfl) (bU ae) dD rfl) ag rfl) (by decide) rfl rfl rfl rfl)))))))
end
theorem all_mk {l:PySem.W.OpenLaw} {w:World} {K:Xs} {h:Heap} {mg:Xg} {fa f0 f1 f2 f3 f4 f5 f6 f7 f8 f9 f10 f11 f12 f13 f14 f15 f16 f17 f18 f19 f20:Addr} (X:K.In h) (G:h.Ns mainGlobals mg) (hfa:mg "law" = some (.ref fa))
  {od0 an0 od1 an1 od2 an2 od3 an3 od4 an4 od5 an5 od6 an6 od7 an7 od8 an8 od9 an9 od10 an10 od11 an11 od12 an12 od13 an13 od14 an14 od15 an15 od16 an16 od17 an17 od18 an18 od19 an19 od20 an20:Option Addr} {sl0 sl1 sl2 sl3 sl4 sl5 sl6 sl7 sl8 sl9 sl10 sl11 sl12 sl13 sl14 sl15 sl16 sl17 sl18 sl19 sl20:Array (Vy)} {oc0 kV0 dc0 pm0 cd0 ct0 oc1 kV1 dc1 pm1 cd1 ct1 oc2 kV2 dc2 pm2 cd2 ct2 oc3 kV3 dc3 pm3 cd3 ct3 oc4 kV4 dc4 pm4 cd4 ct4 oc5 kV5 dc5 pm5 cd5 ct5 oc6 kV6 dc6 pm6 cd6 ct6 oc7 kV7 dc7 pm7 cd7 ct7 oc8 kV8 dc8 pm8 cd8 ct8 oc9 kV9 dc9 pm9 cd9 ct9 oc10 kV10 dc10 pm10 cd10 ct10 oc11 kV11 dc11 pm11 cd11 ct11 oc12 kV12 dc12 pm12 cd12 ct12 oc13 kV13 dc13 pm13 cd13 ct13 oc14 kV14 dc14 pm14 cd14 ct14 oc15 kV15 dc15 pm15 cd15 ct15 oc16 kV16 dc16 pm16 cd16 ct16 oc17 kV17 dc17 pm17 cd17 ct17 oc18 kV18 dc18 pm18 cd18 ct18 oc19 kV19 dc19 pm19 cd19 ct19 oc20 kV20 dc20 pm20 cd20 ct20:Value}
  (a0:PySem.W.nsIn K mainGlobals "is_whole" = some (some (.ref f0))) (l0:K.lookup f0=some ⟨oc0,od0,.func (PySem.W.fnOf "is_whole" "is_whole" (aT eL) (aM eL) (ao eL) .none kV0 dc0 pm0 an0 cd0 ct0),sl0⟩) (c0:PySem.W.codeIn K cd0 "is_whole" = true) (k0:PySem.W.keepIn K (.ref f0)=true)
  (a1:PySem.W.nsIn K mainGlobals "walk" = some (some (.ref f1))) (l1:K.lookup f1=some ⟨oc1,od1,.func (PySem.W.fnOf "walk" "walk" (aT jW) (aM jW) (ao jW) .none kV1 dc1 pm1 an1 cd1 ct1),sl1⟩) (c1:PySem.W.codeIn K cd1 "walk" = true) (k1:PySem.W.keepIn K (.ref f1)=true)
  (a2:PySem.W.nsIn K mainGlobals "refuse_no_stand" = some (some (.ref f2))) (l2:K.lookup f2=some ⟨oc2,od2,.func (PySem.W.fnOf "refuse_no_stand" "refuse_no_stand" (aT bz) (aM bz) (ao bz) .none kV2 dc2 pm2 an2 cd2 ct2),sl2⟩) (c2:PySem.W.codeIn K cd2 "refuse_no_stand" = true) (k2:PySem.W.keepIn K (.ref f2)=true)
  (a3:PySem.W.nsIn K mainGlobals "chain" = some (some (.ref f3))) (l3:K.lookup f3=some ⟨oc3,od3,.func (PySem.W.fnOf "chain" "chain" (aT iP) (aM iP) (ao iP) .none kV3 dc3 pm3 an3 cd3 ct3),sl3⟩) (c3:PySem.W.codeIn K cd3 "chain" = true) (k3:PySem.W.keepIn K (.ref f3)=true)
  (a4:PySem.W.nsIn K mainGlobals "places_by" = some (some (.ref f4))) (l4:K.lookup f4=some ⟨oc4,od4,.func (PySem.W.fnOf "places_by" "places_by" (aT dJ) (aM dJ) (ao dJ) .none kV4 dc4 pm4 an4 cd4 ct4),sl4⟩) (c4:PySem.W.codeIn K cd4 "places_by" = true) (k4:PySem.W.keepIn K (.ref f4)=true)
  (a5:PySem.W.nsIn K mainGlobals "_law_cell" = some (some (.ref f5))) (l5:K.lookup f5=some ⟨oc5,od5,.func (PySem.W.fnOf "_law_cell" "_law_cell" (aT eB) (aM eB) (ao eB) .none kV5 dc5 pm5 an5 cd5 ct5),sl5⟩) (c5:PySem.W.codeIn K cd5 "_law_cell" = true) (k5:PySem.W.keepIn K (.ref f5)=true)
  (a6:PySem.W.nsIn K mainGlobals "_law_mixed" = some (some (.ref f6))) (l6:K.lookup f6=some ⟨oc6,od6,.func (PySem.W.fnOf "_law_mixed" "_law_mixed" (aT dH) (aM dH) (ao dH) .none kV6 dc6 pm6 an6 cd6 ct6),sl6⟩) (c6:PySem.W.codeIn K cd6 "_law_mixed" = true) (k6:PySem.W.keepIn K (.ref f6)=true)
  (a7:PySem.W.nsIn K mainGlobals "_law_signs" = some (some (.ref f7))) (l7:K.lookup f7=some ⟨oc7,od7,.func (PySem.W.fnOf "_law_signs" "_law_signs" (aT dR) (aM dR) (ao dR) .none kV7 dc7 pm7 an7 cd7 ct7),sl7⟩) (c7:PySem.W.codeIn K cd7 "_law_signs" = true) (k7:PySem.W.keepIn K (.ref f7)=true)
  (a8:PySem.W.nsIn K mainGlobals "_law_by_digits" = some (some (.ref f8))) (l8:K.lookup f8=some ⟨oc8,od8,.func (PySem.W.fnOf "_law_by_digits" "_law_by_digits" (aT bL) (aM bL) (ao bL) .none kV8 dc8 pm8 an8 cd8 ct8),sl8⟩) (c8:PySem.W.codeIn K cd8 "_law_by_digits" = true) (k8:PySem.W.keepIn K (.ref f8)=true)
  (a9:PySem.W.nsIn K mainGlobals "_law_by_mixing" = some (some (.ref f9))) (l9:K.lookup f9=some ⟨oc9,od9,.func (PySem.W.fnOf "_law_by_mixing" "_law_by_mixing" (aT bM) (aM bM) (ao bM) .none kV9 dc9 pm9 an9 cd9 ct9),sl9⟩) (c9:PySem.W.codeIn K cd9 "_law_by_mixing" = true) (k9:PySem.W.keepIn K (.ref f9)=true)
  (a10:PySem.W.nsIn K mainGlobals "_law_great" = some (some (.ref f10))) (l10:K.lookup f10=some ⟨oc10,od10,.func (PySem.W.fnOf "_law_great" "_law_great" (aT dP) (aM dP) (ao dP) .none kV10 dc10 pm10 an10 cd10 ct10),sl10⟩) (c10:PySem.W.codeIn K cd10 "_law_great" = true) (k10:PySem.W.keepIn K (.ref f10)=true)
  (a11:PySem.W.nsIn K mainGlobals "_law_book" = some (some (.ref f11))) (l11:K.lookup f11=some ⟨oc11,od11,.func (PySem.W.fnOf "_law_book" "_law_book" (aT eJ) (aM eJ) (ao eJ) .none kV11 dc11 pm11 an11 cd11 ct11),sl11⟩) (c11:PySem.W.codeIn K cd11 "_law_book" = true) (k11:PySem.W.keepIn K (.ref f11)=true)
  (a12:PySem.W.nsIn K mainGlobals "_law_places" = some (some (.ref f12))) (l12:K.lookup f12=some ⟨oc12,od12,.func (PySem.W.fnOf "_law_places" "_law_places" (aT de) (aM de) (ao de) .none kV12 dc12 pm12 an12 cd12 ct12),sl12⟩) (c12:PySem.W.codeIn K cd12 "_law_places" = true) (k12:PySem.W.keepIn K (.ref f12)=true)
  (a13:PySem.W.nsIn K mainGlobals "_law_by_size" = some (some (.ref f13))) (l13:K.lookup f13=some ⟨oc13,od13,.func (PySem.W.fnOf "_law_by_size" "_law_by_size" (aT cG) (aM cG) (ao cG) .none kV13 dc13 pm13 an13 cd13 ct13),sl13⟩) (c13:PySem.W.codeIn K cd13 "_law_by_size" = true) (k13:PySem.W.keepIn K (.ref f13)=true)
  (a14:PySem.W.nsIn K mainGlobals "_law_stands" = some (some (.ref f14))) (l14:K.lookup f14=some ⟨oc14,od14,.func (PySem.W.fnOf "_law_stands" "_law_stands" (aT dc) (aM dc) (ao dc) .none kV14 dc14 pm14 an14 cd14 ct14),sl14⟩) (c14:PySem.W.codeIn K cd14 "_law_stands" = true) (k14:PySem.W.keepIn K (.ref f14)=true)
  (a15:PySem.W.nsIn K mainGlobals "_law_numbers" = some (some (.ref f15))) (l15:K.lookup f15=some ⟨oc15,od15,.func (PySem.W.fnOf "_law_numbers" "_law_numbers" (aT cL) (aM cL) (ao cL) .none kV15 dc15 pm15 an15 cd15 ct15),sl15⟩) (c15:PySem.W.codeIn K cd15 "_law_numbers" = true) (k15:PySem.W.keepIn K (.ref f15)=true)
  (a16:PySem.W.nsIn K mainGlobals "_law_table" = some (some (.ref f16))) (l16:K.lookup f16=some ⟨oc16,od16,.func (PySem.W.fnOf "_law_table" "_law_table" (aT dQ) (aM dQ) (ao dQ) .none kV16 dc16 pm16 an16 cd16 ct16),sl16⟩) (c16:PySem.W.codeIn K cd16 "_law_table" = true) (k16:PySem.W.keepIn K (.ref f16)=true)
  (a17:PySem.W.nsIn K mainGlobals "_law_is_place" = some (some (.ref f17))) (l17:K.lookup f17=some ⟨oc17,od17,.func (PySem.W.fnOf "_law_is_place" "_law_is_place" (aT bW) (aM bW) (ao bW) .none kV17 dc17 pm17 an17 cd17 ct17),sl17⟩) (c17:PySem.W.codeIn K cd17 "_law_is_place" = true) (k17:PySem.W.keepIn K (.ref f17)=true)
  (a18:PySem.W.nsIn K mainGlobals "_law_right" = some (some (.ref f18))) (l18:K.lookup f18=some ⟨oc18,od18,.func (PySem.W.fnOf "_law_right" "_law_right" (aT dS) (aM dS) (ao dS) .none kV18 dc18 pm18 an18 cd18 ct18),sl18⟩) (c18:PySem.W.codeIn K cd18 "_law_right" = true) (k18:PySem.W.keepIn K (.ref f18)=true)
  (a19:PySem.W.nsIn K mainGlobals "_law_asked" = some (some (.ref f19))) (l19:K.lookup f19=some ⟨oc19,od19,.func (PySem.W.fnOf "_law_asked" "_law_asked" (aT dI) (aM dI) (ao dI) .none kV19 dc19 pm19 an19 cd19 ct19),sl19⟩) (c19:PySem.W.codeIn K cd19 "_law_asked" = true) (k19:PySem.W.keepIn K (.ref f19)=true)
  (a20:PySem.W.nsIn K mainGlobals "law" = some (some (.ref f20))) (l20:K.lookup f20=some ⟨oc20,od20,.func (PySem.W.fnOf "law" "law" (aT jK) (aM jK) (ao jK) .none kV20 dc20 pm20 an20 cd20 ct20),sl20⟩) (c20:PySem.W.codeIn K cd20 "law" = true) (k20:PySem.W.keepIn K (.ref f20)=true)
  (z_bool:PySem.W.nsIn K mainGlobals "bool" = some none)
  (z_dict:PySem.W.nsIn K mainGlobals "dict" = some none)
  (z_enumerate:PySem.W.nsIn K mainGlobals "enumerate" = some none)
  (z_int:PySem.W.nsIn K mainGlobals "int" = some none)
  (z_isinstance:PySem.W.nsIn K mainGlobals "isinstance" = some none)
  (z_len:PySem.W.nsIn K mainGlobals "len" = some none)
  (z_list:PySem.W.nsIn K mainGlobals "list" = some none)
  (z_min:PySem.W.nsIn K mainGlobals "min" = some none)
  (z_range:PySem.W.nsIn K mainGlobals "range" = some none)
  (z_sorted:PySem.W.nsIn K mainGlobals "sorted" = some none)
  (z_tuple:PySem.W.nsIn K mainGlobals "tuple" = some none)
  : ∃ fd:FuncData,(∀ (s:Shared) (v:Value),BindsTo s fd ⟨[v],[]⟩ [("_law_script",v)])/\∀ base:Heap,K.In base->base.Ns mainGlobals mg->FnOk l.prog w K mg base CX0 6 fa fd ["_law_script"] (spF (gx0 K) qq):=by
 have e:=hfa.symm.trans (Z9 X G a20)
 cases e
 have B:Blt mg:=⟨Yk X G z_bool,Yk X G z_dict,Yk X G z_enumerate,Yk X G z_int,Yk X G z_isinstance,Yk X G z_len,Yk X G z_list,Yk X G z_min,Yk X G z_range,Yk X G z_sorted,Yk X G z_tuple⟩
 refine ⟨PySem.W.fnOf "law" "law" (aT jK) (aM jK) (ao jK) .none kV20 dc20 pm20 an20 cd20 ct20,fun s v=>.of_eq rfl,fun base _ _=>?_⟩
 have fU:=fU (P:=l.prog) (w:=w) (base:=base) (bV (st:=eL) l0 c0 k0) (Z9 X G a0) B
 have lQ:=lQ (P:=l.prog) (w:=w) (base:=base) (bV (st:=jW) l1 c1 k1) (Z9 X G a1) B
 have bR:=bR (P:=l.prog) (w:=w) (base:=base) (bV (st:=bz) l2 c2 k2) (Z9 X G a2) B fU
 have jN:=jN (P:=l.prog) (w:=w) (base:=base) (bV (st:=iP) l3 c3 k3) (Z9 X G a3) B bR
 have eX:=eX (P:=l.prog) (w:=w) (base:=base) (bV (st:=dJ) l4 c4 k4) (Z9 X G a4) B jN lQ
 have eQ:=eQ (P:=l.prog) (w:=w) (base:=base) (bV (st:=eB) l5 c5 k5) (Z9 X G a5) B
 have aK:=aK (P:=l.prog) (w:=w) (base:=base) (bV (st:=dH) l6 c6 k6) (Z9 X G a6) B
 have bw:=bw (P:=l.prog) (w:=w) (base:=base) (bV (st:=dR) l7 c7 k7) (Z9 X G a7) B
 have cA:=cA (P:=l.prog) (w:=w) (base:=base) (bV (st:=bL) l8 c8 k8) (Z9 X G a8) B bw
 have cD:=cD (P:=l.prog) (w:=w) (base:=base) (bV (st:=bM) l9 c9 k9) (Z9 X G a9) B aK bw
 have eW:=eW (P:=l.prog) (w:=w) (base:=base) (bV (st:=dP) l10 c10 k10) (Z9 X G a10) B aK bw
 have fW:=fW (P:=l.prog) (w:=w) (base:=base) (bV (st:=eJ) l11 c11 k11) (Z9 X G a11) B cA cD eQ eW aK
 have d6:=d6 (P:=l.prog) (w:=w) (base:=base) (bV (st:=de) l12 c12 k12) (Z9 X G a12) B
 have dm:=dm (P:=l.prog) (w:=w) (base:=base) (bV (st:=cG) l13 c13 k13) (Z9 X G a13) B
 have dZ:=dZ (P:=l.prog) (w:=w) (base:=base) (bV (st:=dc) l14 c14 k14) (Z9 X G a14) B dm
 have du:=du (P:=l.prog) (w:=w) (base:=base) (bV (st:=cL) l15 c15 k15) (Z9 X G a15) B
 have fq:=fq (P:=l.prog) (w:=w) (base:=base) (bV (st:=dQ) l16 c16 k16) (Z9 X G a16) B
 have cU:=cU (P:=l.prog) (w:=w) (base:=base) (bV (st:=bW) l17 c17 k17) (Z9 X G a17) B
 have fg:=fg (P:=l.prog) (w:=w) (base:=base) (bV (st:=dS) l18 c18 k18) (Z9 X G a18) B cU
 have cR:=cR (P:=l.prog) (w:=w) (base:=base) (bV (st:=dI) l19 c19 k19) (Z9 X G a19) B du d6 fg dZ fq eX
 exact Cy (bV (st:=jK) l20 c20 k20) B cR fW
end T21
open PySem PySem.W PyProof.Rows PySem.W.X PySem.W.ZRun
set_option maxRecDepth 100000 in
set_option maxHeartbeats 0 in
theorem PySem.Challenge.cw_allparts_k21_places_by_stands_holds : PySem.Challenge.rw_allparts_k21_places_by_stands.Holds := by
 w_on;o_law;z_head;(case hw=>w_witness2)
 k_fill
 intro w s₀ s₁ mg mb G y fa o pm cd doc dV kV ho hd hcd hD hmg hg args vals as L hpre hlay hrd hwl hlo
 z_open y L KX ZH ZN ZT
 clear ZH ZN ZT
 refine VS.xw (l:=PySem.Challenge.rw_allparts_k21_places_by_stands) (k:=6) (x := "_law_script") (g:=T21.qq) rfl rfl ⟨rfl,by decide,by decide⟩ T21.uP ?F w s₀ s₁ mg mb G KX fa o pm cd doc dV kV ho hd hcd hD hmg hg args vals as hpre hlay hrd hwl hlo
 case F =>
  intro w mg fa h KX G hmg
  refine' T21.all_mk KX G hmg ?a0 ?l0 ?c0 ?k0 ?a1 ?l1 ?c1 ?k1 ?a2 ?l2 ?c2 ?k2 ?a3 ?l3 ?c3 ?k3 ?a4 ?l4 ?c4 ?k4 ?a5 ?l5 ?c5 ?k5 ?a6 ?l6 ?c6 ?k6 ?a7 ?l7 ?c7 ?k7 ?a8 ?l8 ?c8 ?k8 ?a9 ?l9 ?c9 ?k9 ?a10 ?l10 ?c10 ?k10 ?a11 ?l11 ?c11 ?k11 ?a12 ?l12 ?c12 ?k12 ?a13 ?l13 ?c13 ?k13 ?a14 ?l14 ?c14 ?k14 ?a15 ?l15 ?c15 ?k15 ?a16 ?l16 ?c16 ?k16 ?a17 ?l17 ?c17 ?k17 ?a18 ?l18 ?c18 ?k18 ?a19 ?l19 ?c19 ?k19 ?a20 ?l20 ?c20 ?k20 ?z_bool ?z_dict ?z_enumerate ?z_int ?z_isinstance ?z_len ?z_list ?z_min ?z_range ?z_sorted ?z_tuple
  (case a0=>k_is)
  (case l0=>k_is)
  (case c0=>k_is)
  (case k0=>k_is)
  (case a1=>k_is)
  (case l1=>k_is)
  (case c1=>k_is)
  (case k1=>k_is)
  (case a2=>k_is)
  (case l2=>k_is)
  (case c2=>k_is)
  (case k2=>k_is)
  (case a3=>k_is)
  (case l3=>k_is)
  (case c3=>k_is)
  (case k3=>k_is)
  (case a4=>k_is)
  (case l4=>k_is)
  (case c4=>k_is)
  (case k4=>k_is)
  (case a5=>k_is)
  (case l5=>k_is)
  (case c5=>k_is)
  (case k5=>k_is)
  (case a6=>k_is)
  (case l6=>k_is)
  (case c6=>k_is)
  (case k6=>k_is)
  (case a7=>k_is)
  (case l7=>k_is)
  (case c7=>k_is)
  (case k7=>k_is)
  (case a8=>k_is)
  (case l8=>k_is)
  (case c8=>k_is)
  (case k8=>k_is)
  (case a9=>k_is)
  (case l9=>k_is)
  (case c9=>k_is)
  (case k9=>k_is)
  (case a10=>k_is)
  (case l10=>k_is)
  (case c10=>k_is)
  (case k10=>k_is)
  (case a11=>k_is)
  (case l11=>k_is)
  (case c11=>k_is)
  (case k11=>k_is)
  (case a12=>k_is)
  (case l12=>k_is)
  (case c12=>k_is)
  (case k12=>k_is)
  (case a13=>k_is)
  (case l13=>k_is)
  (case c13=>k_is)
  (case k13=>k_is)
  (case a14=>k_is)
  (case l14=>k_is)
  (case c14=>k_is)
  (case k14=>k_is)
  (case a15=>k_is)
  (case l15=>k_is)
  (case c15=>k_is)
  (case k15=>k_is)
  (case a16=>k_is)
  (case l16=>k_is)
  (case c16=>k_is)
  (case k16=>k_is)
  (case a17=>k_is)
  (case l17=>k_is)
  (case c17=>k_is)
  (case k17=>k_is)
  (case a18=>k_is)
  (case l18=>k_is)
  (case c18=>k_is)
  (case k18=>k_is)
  (case a19=>k_is)
  (case l19=>k_is)
  (case c19=>k_is)
  (case k19=>k_is)
  (case a20=>k_is)
  (case l20=>k_is)
  (case c20=>k_is)
  (case k20=>k_is)
  (case z_bool=>k_is)
  (case z_dict=>k_is)
  (case z_enumerate=>k_is)
  (case z_int=>k_is)
  (case z_isinstance=>k_is)
  (case z_len=>k_is)
  (case z_list=>k_is)
  (case z_min=>k_is)
  (case z_range=>k_is)
  (case z_sorted=>k_is)
  (case z_tuple=>k_is)
end
