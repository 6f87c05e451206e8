import PyProof.Rows.All
import Wide.All
import OpenK.AllK
import Wide.FinOn
import Lean
import PyProof.EqAt
import PyProof.EqKinds
import PyProof.TupleCall
import PyProof.Rows.SortShellK
import PyProof.Rows.SortStr
import PyProof.Rows.SortWalk
import PyProof.StrBlockH
import PyProof.StrLawsIn
import PyProof.Rows.SetFrom
import PyProof.CollectWalk
import KE.KDictSum
import PyProof.ListStr
import PyProof.SeqI3
import PyProof.Rows.CallKwBuiltin
import PyProof.ListRange
import PyProof.AttrMissSeq
import PyProof.DictUpdate
import PyProof.DictList
import PyProof.ListNew
import PyProof.FactsAll.dict_1
import PyProof.SliceList
import PyProof.WalkInts
import PySem.Challenge.RW_allparts_k22_counts_and_firsts
set_option linter.all false
set_option maxRecDepth 100000
set_option Elab.async false
set_option maxHeartbeats 4000000
abbrev Z8:=PySem.Value->PySem.Shared->Prop
abbrev Yo:=List (PySem.Addr×PySem.Obj)
abbrev Yg:=List (List PySem.Addr)
abbrev Y1:=PySem.W.Frag
abbrev Xv:=PySem.Str->Option PySem.Value
abbrev Xb:=List PySem.Addr
abbrev X1:=List PySem.Value
abbrev Vt:=Option PySem.Value
abbrev Vm:=List Nat
abbrev Vl:=List Int
abbrev Vk:=List (List (List Nat))
abbrev Zr:=@if_pos
abbrev Zq:=@if_neg
abbrev ZP:=@decide_eq_false
open Option renaming bind_eq_some_iff->Zz,bind_some->Zm,map_eq_some_iff->Zl,map_some->Yb,getD_some->X2,isSome_iff_exists->WX,isSome_map->W6,getD_none->Vr
open PySem renaming wpAny_bind->Zy,wpAny_pure->Zs,wpAny_truthy_bool->Ye,wpAny_mono->YY,wpAny_holding->YS,wpAny_forIn_list->Xp,wpAny_call_entry->Xo,wpAny_rule->Xi,wpAny_specialOf->Xh,wpAny_passesOwn->Xg,mem_of_lookup->XW,wpAny_seqItems->XT,codeAny_builtin->XC,wpAny_tupleItemsOf->XB,wpAny_Call_Name_kw->XA,wpAny_tryCatch->X7,wpAny_newObj_type->X8,isSubtype_tuple_tuple->Wt,wpAny_isInstance->Wq,plainId_quiet->Wm,wpAny_typeNameOfWhole_keyiter->Wj,tupleKind_room_in1->WV,wpAny_letGo->WL,wpAny_typeOf->WD,wpAny_execs_nil->WA,sizeLine_eq->W5,look_same->Vu
open List renaming mem_cons_of_mem->Zx,mem_cons_self->Zw,length_map->Zv,length_append->Zu,map_cons->Zt,mem_cons->Zo,mem_singleton->Zn,length_cons->Zj,append_assoc->Zf,flatten_cons->Ze,size_toArray->Zd,mem_append->Zc,getElem?_eq_getElem->Zb,length_singleton->ZY,getElem?_eq_some_iff->ZX,nodup_cons->ZW,length_take->ZO,length_drop->ZK,pairwise_append->ZJ,zip_cons_cons->ZI,nodup_append->ZF,append_nil->ZD,getElem?_map->ZC,take_of_length_le->ZA,length_range->Z2,mem_append_right->Z3,getD_eq_getElem?_getD->Z4,flatten_append->Z5,mem_range->Z7,all_eq_true->Z9,mem_map->Yz,getElem?_append_right->Yw,map_append->Yv,find?_cons->Yu,getElem_of_mem->Ys,nil_append->Yr,mem_of_mem_take->Yn,getElem?_append_left->Ym,filterMap_cons->Yj,take_append_drop->Yh,mem_of_mem_drop->Yd,findIdx?_cons->Yc,length_zip->Ya,map_nil->YW,map_map->YV,length_nil->YU,mem_of_getElem?->YR,sublist_cons_self->YO,drop_eq_nil_of_le->YN,suffix_of_suffix_length_le->YL,getElem?_eq_none_iff->YK,perm_append_comm->YJ,mem_reverse->YA,lookup_cons->Y0,length_replicate->Y2,pairwise_iff_getElem->Y3,drop_eq_getElem_cons->Y4,mem_append_left->Y7,any_cons->Y9,getElem?_replicate->Xy,pairwise_cons->Xt,getElem?_set_self->Xs,drop_of_length_le->Xr,getElem?_eq_none->Xm,getElem_take->Xk,getElem_drop->Xj,getElem?_set_ne->Xf,drop_zero->Xe,zipIdx_cons->Xa,not_mem_nil->XZ,getElem_mem->XY,getD_cons_succ->XU,zip_append->XO,length_set->XN,foldl_cons->XM,length_eq_zero_iff->XG,filter_cons_of_neg->XF,getElem?_toArray->X0,drop_suffix->X4,drop_append->X5,all_cons->X6,take_append_of_le_length->X9,eq_nil_of_length_eq_zero->Wz,mem_filter->Wv,replicate_succ->Ws,nodup_nil->Wg,drop_take->Wf,getElem?_zip_eq_some->Wd,pairwise_map->Wb,mem_range'_1->Wa,mem_flatten->WS,getElem_map->WR,filter_cons_of_pos->WQ,flatten_singleton->WN,of_mem_zip->WK,cons_lt_cons_iff->WI,lt_irrefl->WG,map_congr_left->WC,length_pos_iff->WB,mem_filterMap->W2,append_of_mem->W3,filter_congr->Vx,ext_getElem?->Vw,perm_middle->Vo,map_snd_zip->Vn
open Nat renaming le_refl->Zp,le_trans->ZV,zero_le->ZS,ne_of_lt->ZR,le_of_lt->ZQ,le_add_right->ZL,lt_of_lt_of_le->Z1,min_eq_left->Yt,pos_of_ne_zero->Yp,le_of_lt_succ->Yf,sub_le->YQ,lt_irrefl->YH,add_sub_cancel_left->YF,le_add_right_of_le->YE,succ_le_succ->YC,le_of_not_le->YB,le_add_left->Y5,lt_of_succ_lt->Y6,le_of_not_lt->Xz,zero_add->Xu,le_of_succ_le->Xl,add_assoc->XQ,min_eq_right->X3,lt_trans->Wo,lt_or_ge->Wn,lt_of_le_of_lt->Wi,add_sub_cancel->Wh,lt_succ_of_lt->Wc,lt_succ_self->WT,le_of_eq->WO,succ_le_of_lt->W7,sub_pos_of_lt->W8,ne_of_gt->W9,lt_of_succ_le->Vz,add_sub_of_le->Vy,not_lt_of_le->Vq,lt_of_not_le->Vp
open PyProof.Rows renaming wpS_pure->Zk,wpS_bind->Za,wpS_forRange->Yk,wpS_mono->Y8,wpS_modify->Wu,callWith_type1->Wp,size_push'->WW,listUpdate_at->WU,wpS_get->WH
open PySem.Heap renaming get?_push_of_some->Zi,lt_size->ZZ,get?_push_size->ZU,get?_update_other->YI,get?_update_ne->Xq,size_update->XJ,get?_push_ne->Wy,get?_update_self->Wr
open Bool renaming false_ne_true->Zh,false_eq_true->ZG,and_eq_true->Yq,not_true->YD,and_eq_true_iff->Wx,true_eq_false->W4
open Array renaming getElem_mem->Zg,getElem?_toList->Yx,toList_append->Yi,length_toList->YZ,perm_iff_toList_perm->Xc,toList_extract->Ww,forIn_toList->We,toList_reverse->WE,toList_push->Vv
open Int renaming emod_lt_of_pos->ZM,emod_nonneg->Z0,toNat_natCast->YM
open Option.some renaming inj->ZE
open PySem.W renaming mg_of->Z6,mg_none_of->Yl,kia_one->YX
open PySem.PassesOwn renaming never->Yy
open List.cons renaming injEq->YT
open Ne renaming symm->YG
open PySem.Around renaming under_plainId->Xw
open PySem.F renaming slot_dict_setdefault->Xn,slot_dict_keyiterator_next->Xd,type_list_append->XS,slot_list_append->XR,plain_min_loop->XI,plainAttrs_list->XH,slot_tuple_getattribute->WM,slot_tuple_hash->WJ,slot_tuple_eq->W0,args_dict_setdefault_3->Vs
open List.Perm renaming refl->XD
open PySem.Paired renaming length->Wl
open List.Sublist renaming refl->WZ
open PySem.Heap.SameBut renaming update->WY
open PySem.W.KFB renaming if_not->W1
section
namespace L2
theorem fh {G:Prop} (h:∀ P:Prop,(G->P)->P):G:=h G id
end L2
namespace VS
noncomputable abbrev Tx:=Vm
inductive T where
 | non | bl (b:Bool) | int (i:Int) | str (s:Tx) | scr (ns:Vl)
 | tup (l:List T) | lst (l:List T) | dct (kd:Nat) (l:List (T×T)) | obj (c:Nat) (fs:List (Nat×T))
 deriving Inhabited
abbrev Vg:=List T
noncomputable def ip:Nat:=16777216
mutual
@[simp] noncomputable def imm:T->Bool
 | .lst _=>false
 | .dct _ _=>false
 | .obj _ _=>false
 | .tup l=>fN l
 | _=>true
@[simp] noncomputable def fN:Vg->Bool
 | []=>true
 | t :: r=>imm t && fN r
end
mutual
@[simp] noncomputable def eqT:T->T->Bool
 | .non,.non=>true
 | .bl a,.bl b=>a == b
 | .bl a,.int i=>(if a then 1 else 0) == i
 | .int i,.bl a=>i == (if a then 1 else 0)
 | .int i,.int j=>i == j
 | .str s,.str t=>s == t
 | .tup a,.tup b=>m7 a b
 | .lst a,.lst b=>m7 a b
 | _,_=>false
@[simp] noncomputable def m7:Vg->Vg->Bool
 | [],[]=>true
 | a :: as,b :: bs=>eqT a b && m7 as bs
 | _,_=>false
end
@[simp] noncomputable def eqD:Nat->T->Bool
 | _,.non=>true
 | _,.bl _=>true
 | _,.int _=>true
 | _,.str _=>true
 | n+1,.tup l=>l.all (eqD n)
 | n+1,.lst l=>l.all (eqD n)
 | _,_=>false
inductive Md where | fr | pu | bo
 deriving DecidableEq,Inhabited
@[simp] noncomputable def Md.join:Md->Md->Md
 | .bo,_=>.bo
 | _,.bo=>.bo
 | .pu,_=>.pu
 | _,.pu=>.pu
 | .fr,.fr=>.fr
inductive Cell where | pu (t:T) | ow (t:T)
 deriving Inhabited
abbrev Vj:=Option Cell
noncomputable abbrev Env:=List (Vj)
noncomputable abbrev Val:=Md×T
abbrev Vh:=Option Val
abbrev Vi:=List Val
noncomputable abbrev Ex:=Env->Vh
noncomputable abbrev Exs:=Env->Option (Vi)
@[simp] noncomputable def up (m:Md) (t:T):Val:=(if imm t then .fr else m,t)
@[simp] noncomputable def BA:T->Bool
 | .lst _=>true
 | .dct _ _=>true
 | .obj _ _=>true
 | _=>false
@[simp] noncomputable def cellOf:Val->Vj
 | (.fr,t)=>some (if BA t then .ow t else .pu t)
 | (.pu,t)=>some (.pu t)
 | (.bo,_)=>none
inductive Out where | nx (η:Env) | rt (v:Val) (η:Env) | bk (η:Env) | ct (η:Env)
noncomputable abbrev Sx:=Env->Option Out
@[simp] noncomputable def eC (t:T) (_:Env):Vh:=some (.fr,t)
@[simp] noncomputable def ah (i:Nat) (η:Env):Vh:=match η[i]? with
 | some (some (.pu t))=>some (up .pu t)
 | some (some (.ow t))=>some (.bo,t)
 | _=>none
@[simp] noncomputable def e1 (f:Val->Vh) (a:Ex) (η:Env):Vh:=(a η).bind f
@[simp] noncomputable def e2 (f:Val->Val->Vh) (a b:Ex) (η:Env):Vh:=(a η).bind fun x=>(b η).bind fun y=>f x y
@[simp] noncomputable def aw (_:Env):Option (Vi):=some []
@[simp] noncomputable def ag (a:Ex) (r:Exs) (η:Env):Option (Vi):=(a η).bind fun x=>(r η).bind fun xs=>some (x :: xs)
@[simp] noncomputable def eN (f:Vi->Vh) (as:Exs) (η:Env):Vh:=(as η).bind f
@[simp] noncomputable def bZ:Vi->Md
 | []=>.fr
 | v :: r=>v.1.join (bZ r)
@[simp] noncomputable def trees (l:Vi):Vg:=l.map (·.2)
noncomputable def mkL (m:Md) (l:Vg):Vh:=if l.length<=ip then some (if fN l then .fr else m,.lst l) else none
@[simp] noncomputable def fC (as:Exs) (η:Env):Vh:=(as η).bind fun l=>mkL (bZ l) (trees l)
noncomputable def qG (l:Vi):Vh:=if l.length<=ip then some (up (bZ l) (.tup (trees l))) else none
@[simp] noncomputable def mP (as:Exs) (η:Env):Vh:=(as η).bind qG
noncomputable def dput (l:List (T×T)) (k v:T):List (T×T):=if l.any (fun p=>eqT p.1 k) then l.map (fun p=>if eqT p.1 k then (p.1,v) else p) else l++[(k,v)]
noncomputable def gP:T->Bool
 | .int _=>true
 | .str _=>true
 | _=>false
noncomputable def keyOk:Nat->T->Bool
 | 0,t=>gP t
 | 1,.tup l=>l.all gP
 | _,_=>false
noncomputable def pairs:List (Ex×Ex)->Env->Option (List (Val×Val))
 | [],_=>some []
 | (a,b) :: r,η=>(a η).bind fun x=>(b η).bind fun y=>(pairs r η).map ((x,y) :: ·)
noncomputable def lE (kd:Nat) (ps:List (Ex×Ex)) (η:Env):Vh:=(pairs ps η).bind fun l=>if l.all (fun p=>keyOk kd p.1.2)/\l.length<=15 then
 some (bZ (l.map (·.2)),.dct kd (l.foldl (fun d p=>dput d p.1.2 p.2.2) [])) else none
@[simp] noncomputable def tru:T->Option Bool
 | .bl b=>some b
 | .int i=>some (i != 0)
 | .str s=>some (!s.isEmpty)
 | .lst l=>some (!l.isEmpty)
 | .tup l=>some (!l.isEmpty)
 | .dct 0 l=>some (!l.isEmpty)
 | .non=>some false
 | _=>none
@[simp] noncomputable def iw (a b:Ex) (η:Env):Vh:=(a η).bind fun x=>match x.2 with
 | .bl true=>b η
 | .bl false=>some (.fr,.bl false)
 | _=>none
@[simp] noncomputable def eOr (a b:Ex) (η:Env):Vh:=(a η).bind fun x=>match x.2 with
 | .bl true=>some (.fr,.bl true)
 | .bl false=>b η
 | _=>none
@[simp] noncomputable def gy (a:Ex) (η:Env):Vh:=(a η).bind fun x=>match x.2 with
 | .bl b=>some (.fr,.bl (!b))
 | _=>none
@[simp] noncomputable def eIf (c a b:Ex) (η:Env):Vh:=(c η).bind fun x=>(tru x.2).bind fun t=>if t then a η else b η
@[simp] noncomputable def isN:T->Bool
 | .non=>true
 | _=>false
@[simp] noncomputable def Gz (a:Ex) (η:Env):Vh:=(a η).bind fun x=>some (.fr,.bl (isN x.2))
@[simp] noncomputable def jO (a:Ex) (η:Env):Vh:=(a η).bind fun x=>some (.fr,.bl (!isN x.2))
@[simp] noncomputable def ij (f g:Val->Val->Vh) (a b c:Ex) (η:Env):Vh:=(a η).bind fun x=>(b η).bind fun y=>(f x y).bind fun r=>match r.2 with
 | .bl true=>(c η).bind fun z=>g y z
 | .bl false=>some (.fr,.bl false)
 | _=>none
@[simp] noncomputable def int?:T->Option Int
 | .int i=>some i
 | _=>none
noncomputable def cm:Val->Val->Vh
 | (_,.int i),(_,.int j)=>some (.fr,.int (i+j))
 | (_,.str s),(_,.str t)=>if s.length+t.length<=ip then some (.fr,.str (s++t)) else none
 | (m,.lst s),(n,.lst t)=>mkL (m.join n) (s++t)
 | _,_=>none
@[simp] noncomputable def qL:Val->Val->Vh
 | (_,.int i),(_,.int j)=>some (.fr,.int (i - j))
 | _,_=>none
noncomputable def B62:Int:=4611686018427387904
noncomputable def B64:Int:=18446744073709551616
noncomputable def fz:Val->Val->Vh
 | (_,.int i),(_,.int j)=>if (-B64 < i/\i < B64)\/(-B64 < j/\j < B64) then some (.fr,.int (i * j)) else none
 | _,_=>none
noncomputable def lY:Val->Val->Vh
 | (_,.str s),(_,.int j)=>if s.length * j.toNat<=ip/\-B62<=j/\j < B62 then some (.fr,.str (List.replicate j.toNat s).flatten) else none
 | _,_=>none
noncomputable def fU:Val->Val->Vh
 | (_,.int i),(_,.int j)=>if 0 < j/\j < 1073741824 then some (.fr,.int (i / j)) else none
 | _,_=>none
noncomputable def oMod:Val->Val->Vh
 | (_,.int i),(_,.int j)=>if 0 < j then some (.fr,.int (i % j)) else none
 | _,_=>none
noncomputable def ltx:Tx->Tx->Bool
 | [],[]=>false
 | [],_ :: _=>true
 | _ :: _,[]=>false
 | a :: as,b :: bs=>if a < b then true else if b < a then false else ltx as bs
@[simp] noncomputable def oLt:Val->Val->Vh
 | (_,.int i),(_,.int j)=>some (.fr,.bl (decide (i < j)))
 | (_,.str s),(_,.str t)=>some (.fr,.bl (ltx s t))
 | _,_=>none
@[simp] noncomputable def oLe:Val->Val->Vh
 | (_,.int i),(_,.int j)=>some (.fr,.bl (decide (i<=j)))
 | (_,.str s),(_,.str t)=>some (.fr,.bl (!ltx t s))
 | _,_=>none
@[simp] noncomputable def oGt (a b:Val):Vh:=oLt b a
@[simp] noncomputable def oGe (a b:Val):Vh:=oLe b a
@[simp] noncomputable def oEq (a b:Val):Vh:=if eqD 60 a.2/\eqD 60 b.2 then some (.fr,.bl (eqT a.2 b.2)) else none
@[simp] noncomputable def oNe (a b:Val):Vh:=if eqD 60 a.2/\eqD 60 b.2 then some (.fr,.bl (!eqT a.2 b.2)) else none
noncomputable def bS (l:List (T×T)) (k:T):Option T:=(l.find? fun p=>eqT p.1 k).map (·.2)
noncomputable def ixP (n:Nat) (i:Int):Option Nat:=if 0<=i then (if i < n then some i.toNat else none) else (if 0<=i+n then some (i+n).toNat else none)
@[simp] noncomputable def sub (m:Md) (t:T):Val:=up m t
@[simp] noncomputable def bh:Val->Val->Vh
 | (m,.lst l),(_,.int i)=>(ixP l.length i).bind fun k=>(l[k]?).map (sub m)
 | (m,.tup l),(_,.int i)=>(ixP l.length i).bind fun k=>(l[k]?).map (sub m)
 | (_,.scr l),(_,.int i)=>(ixP l.length i).bind fun k=>(l[k]?).map fun n=>(.fr,.int n)
 | (_,.str l),(_,.int i)=>(ixP l.length i).bind fun k=>(l[k]?).map fun n=>(.fr,.str [n])
 | _,_=>none
noncomputable def clip (n:Nat) (i:Int):Nat:=if i < 0 then (i+n).toNat else min i.toNat n
noncomputable def cut {α:Type} (l:List α) (a b:Option Int):List α :=
 let lo:=match a with | none=>0 | some i=>clip l.length i
 let hi:=match b with | none=>l.length | some i=>clip l.length i
 (l.drop lo).take (hi - lo)
@[simp] noncomputable def oSl (v:Val) (a b:Option Int):Vh:=match v with
 | (_,.str s)=>some (.fr,.str (cut s a b))
 | (m,.lst l)=>mkL m (cut l a b)
 | _=>none
@[simp] noncomputable def nj (c:Option Ex) (η:Env):Option (Option Int):=match c with
 | none=>some none
 | some e=>(e η).bind fun y=>(int? y.2).map some
@[simp] noncomputable def eSl (a:Ex) (lo hi:Option Ex) (η:Env):Vh:=(a η).bind fun x=>(nj lo η).bind fun l=>(nj hi η).bind fun h=>oSl x l h
@[simp] noncomputable def EU:T->Option Nat
 | .lst l=>some l.length
 | .tup l=>some l.length
 | .str l=>some l.length
 | .scr l=>some l.length
 | .dct 0 l=>some l.length
 | _=>none
@[simp] noncomputable def d5:Vi->Vh
 | [x]=>(EU x.2).map fun n=>(.fr,.int n)
 | _=>none
@[simp] noncomputable def nN:Vi->Vh
 | [(_,.int i),(_,.int j)]=>some (.fr,.int (if j < i then j else i))
 | _=>none
@[simp] noncomputable def Gq:Vi->Vh
 | [(_,.int i),(_,.int j)]=>some (.fr,.int (if j > i then j else i))
 | _=>none
noncomputable def strs?:Vg->Option (List Tx)
 | []=>some []
 | .str i :: r=>(strs? r).map (i :: ·)
 | _=>none
@[simp] noncomputable def Gu:T->Option (Vg)
 | .lst l=>some l
 | .tup l=>some l
 | .scr l=>some (l.map T.int)
 | .str l=>some (l.map fun c=>T.str [c])
 | .dct _ l=>some (l.map (·.1))
 | _=>none
@[simp] noncomputable def Bx:Vi->Vh
 | [(m,.lst l)]=>mkL m l
 | [(m,.tup l)]=>mkL m l
 | _=>none
noncomputable def gE:Vi->Vh
 | [(m,.lst l)]=>if l.length<=ip then some (up m (.tup l)) else none
 | _=>none
inductive Ty where | int | str | bool | list | tuple | dict
@[simp] noncomputable def oW:Ty->T->Bool
 | .int,.int _=>true
 | .int,.bl _=>true
 | .bool,.bl _=>true
 | .str,.str _=>true
 | .list,.lst _=>true
 | .tuple,.tup _=>true
 | .dict,.dct _ _=>true
 | _,_=>false
@[simp] noncomputable def oi:T->Bool
 | .obj _ _=>false
 | .scr _=>false
 | .dct n _=>n != 2
 | _=>true
@[simp] noncomputable def eIs (t:Ty) (a:Ex) (η:Env):Vh:=(a η).bind fun x=>if oi x.2 then some (.fr,.bl (oW t x.2)) else none
@[simp] noncomputable def eM (f:Val->Vi->Vh) (o:Ex) (as:Exs) (η:Env):Vh:=(o η).bind fun x=>(as η).bind fun xs=>f x xs
noncomputable abbrev Fn:=Vg->Vh
@[simp] noncomputable def aM (g:Fn) (as:Exs) (η:Env):Vh:=(as η).bind fun xs=>(g (trees xs)).bind fun r=>match r with
 | (.fr,t)=>some (.fr,t)
 | (_,t)=>some ((Md.pu).join (bZ xs),t)
noncomputable abbrev Its:=Env->Option (Md×Vg)
@[simp] noncomputable def F9:Val->Option (Md×Vg)
 | (m,.lst l)=>some (m,l)
 | (m,.tup l)=>some (m,l)
 | (_,.str l)=>some (.fr,l.map fun c=>.str [c])
 | _=>none
@[simp] noncomputable def eT (a:Ex) (η:Env):Option (Md×Vg):=(a η).bind F9
noncomputable def rng (lo:Int) (n:Nat):Vg:=(List.range n).map fun (k:Nat)=>T.int (lo+k)
noncomputable def cy (a:Ex) (η:Env):Option (Md×Vg):=(a η).bind fun x=>(int? x.2).bind fun j=>if -B62<=j/\j < B62 then some (.fr,rng 0 j.toNat) else none
noncomputable def dC (k:Nat):Vg->Vg
 | []=>[]
 | t :: r=>.tup [.int k,t] :: dC (k+1) r
@[simp] noncomputable def Bz:Val->Option (Md×Vg)
 | (m,.lst l)=>some (m,dC 0 l)
 | _=>none
@[simp] noncomputable def iX (a:Ex) (η:Env):Option (Md×Vg):=(a η).bind Bz
noncomputable abbrev Tg:=T->Env->Option Env
@[simp] noncomputable def aY (i:Nat) (t:T) (η:Env):Option Env:=if i < η.length then some (η.set i (some (.pu t))) else none
@[simp] noncomputable def rP:List Tg->Vg->Env->Option Env
 | [],[],η=>some η
 | g :: gs,t :: ts,η=>(g t η).bind fun η'=>rP gs ts η'
 | _,_,_=>none
@[simp] noncomputable def j4 (gs:List Tg) (t:T) (η:Env):Option Env:=match t with
 | .tup l=>rP gs l η
 | _=>none
@[simp] noncomputable def okI (m:Md) (l:Vg):Bool:=match m with
 | .bo=>fN l
 | _=>true
noncomputable def jx (tg:Tg) (cond:Option Ex) (elt:Ex) (η:Env):Vg->Option (Vi)
 | []=>some []
 | t :: r=>(tg t η).bind fun η'=>(match cond with | none=>some true | some c=>(c η').bind fun x=>tru x.2).bind fun b =>
  if b then (elt η').bind fun v=>(jx tg cond elt η r).map (v :: ·) else jx tg cond elt η r
noncomputable def dE (k:Nat) (tg:Tg) (it:Its) (cond:Option Ex) (elt:Ex) (η:Env):Vh:=(it η).bind fun (m,l)=>if okI m l then
 (jx tg cond elt (List.replicate k none++η) l).bind fun vs=>mkL (bZ vs) (trees vs) else none
@[simp] noncomputable def gS (η:Env):Option Out:=some (.nx η)
@[simp] noncomputable def au (a b:Sx) (η:Env):Option Out:=(a η).bind fun o=>match o with
 | .nx η'=>b η'
 | o=>some o
@[simp] noncomputable def gZ (i:Nat) (e:Ex) (η:Env):Option Out:=(e η).bind fun v=>(cellOf v).bind fun c=>if i < η.length then some (.nx (η.set i (some c))) else none
@[simp] noncomputable def aQ (i:Nat) (e:Ex) (η:Env):Option Out:=(e η).bind fun v=>match v.1 with
 | .bo=>none
 | _=>if i < η.length then some (.nx (η.set i (some (.pu v.2)))) else none
@[simp] noncomputable def dy (e:Ex) (η:Env):Option Out:=(e η).bind fun v=>some (.rt (match v.1 with | .bo=>.pu | m=>m,v.2) η)
@[simp] noncomputable def gQ (i:Nat) (η:Env):Option Out:=match η[i]? with
 | some (some (.ow t))=>some (.rt (.fr,t) (η.set i none))
 | some (some (.pu t))=>some (.rt (up .pu t) η)
 | _=>none
@[simp] noncomputable def Gy (η:Env):Option Out:=some (.rt (.fr,.non) η)
@[simp] noncomputable def GA (η:Env):Option Out:=some (.bk η)
@[simp] noncomputable def Gp (η:Env):Option Out:=some (.ct η)
@[simp] noncomputable def sIf (c:Ex) (a b:Sx) (η:Env):Option Out:=(c η).bind fun x=>(tru x.2).bind fun t=>if t then a η else b η
noncomputable def forL (tg:Tg) (body:Sx):Vg->Env->Option Out
 | [],η=>some (.nx η)
 | t :: r,η=>(tg t η).bind fun η1=>(body η1).bind fun o=>match o with
  | .nx η2=>forL tg body r η2
  | .ct η2=>forL tg body r η2
  | .bk η2=>some (.nx η2)
  | .rt v η2=>some (.rt v η2)
@[simp] noncomputable def okF:Md->Bool
 | .bo=>false
 | _=>true
@[simp] noncomputable def dN (tg:Tg) (it:Its) (body:Sx) (η:Env):Option Out:=(it η).bind fun (m,l)=>if okF m then forL tg body l η else none
noncomputable def eu (c:Ex) (body:Sx):Nat->Env->Option Out
 | 0,_=>none
 | n+1,η=>(c η).bind fun x=>(tru x.2).bind fun t=>if t then (body η).bind fun o=>match o with
  | .nx η2=>eu c body n η2
  | .ct η2=>eu c body n η2
  | .bk η2=>some (.nx η2)
  | .rt v η2=>some (.rt v η2)
  else some (.nx η)
noncomputable def ER:Nat:=1000000
noncomputable def qZ (c:Ex) (body:Sx) (η:Env):Option Out:=eu c body ER η
@[simp] noncomputable def uM (i:Nat) (η:Env):Option Out:=match η[i]? with
 | some (some (.ow t))=>some (.nx (η.set i (some (.pu t))))
 | some (some (.pu _))=>some (.nx η)
 | _=>none
inductive Stp where | fld (k:Nat) | ix (e:Ex)
inductive Ky where | fld (k:Nat) | at (t:T)
@[simp] noncomputable def keys:List Stp->Env->Option (List Ky)
 | [],_=>some []
 | .fld k :: r,η=>(keys r η).map (.fld k :: ·)
 | .ix e :: r,η=>(e η).bind fun x=>(keys r η).map (.at x.2 :: ·)
noncomputable def FL (fs:List (Nat×T)) (k:Nat):Option T:=fs.lookup k
noncomputable def FE (fs:List (Nat×T)) (k:Nat) (v:T):List (Nat×T):=if fs.any (fun p=>p.1 == k) then fs.map (fun p=>if p.1 == k then (p.1,v) else p) else fs++[(k,v)]
@[simp] noncomputable def yV {α:Type} (f:T->Option (T×α)):List Ky->T->Option (T×α)
 | [],t=>f t
 | .fld k :: r,.obj c fs=>(FL fs k).bind fun x=>(yV f r x).map fun (y,a)=>(.obj c (FE fs k y),a)
 | .at (.int i) :: r,.lst l=>(ixP l.length i).bind fun j=>(l[j]?).bind fun x=>(yV f r x).map fun (y,a)=>(.lst (l.set j y),a)
 | .at k :: r,.dct d l=>(bS l k).bind fun x=>(yV f r x).map fun (y,a)=>(.dct d (dput l k y),a)
 | _,_=>none
noncomputable abbrev Xx:=Env->Option (Val×Env)
@[simp] noncomputable def xP (e:Ex) (η:Env):Option (Val×Env):=(e η).map fun v=>(v,η)
@[simp] noncomputable def j6 (i:Nat) (way:List Stp) (f:T->Vi->Option (T×Val)) (as:Exs) (η:Env):Option (Val×Env):=match η[i]? with
 | some (some (.ow t))=>(keys way η).bind fun ks=>(as η).bind fun xs=>(yV (fun x=>f x xs) ks t).map fun (t',v)=>(v,η.set i (some (.ow t')))
 | _=>none
@[simp] noncomputable def fit (v:Val):Option T:=match v.1 with
 | .fr=>some v.2
 | _=>none
noncomputable def aZ:T->Vi->Option (T×Val)
 | .lst l,[v]=>(fit v).bind fun t=>if l.length < ip then some (.lst (l++[t]),(.fr,.non)) else none
 | _,_=>none
@[simp] noncomputable def sX (x:Xx) (η:Env):Option Out:=(x η).map fun r=>.nx r.2
@[simp] noncomputable def Gw (i:Nat) (x:Xx) (η:Env):Option Out:=(x η).bind fun (v,η')=>(cellOf v).bind fun c=>if i < η'.length then some (.nx (η'.set i (some c))) else none
@[simp] noncomputable def Gn (x:Xx) (η:Env):Option Out:=(x η).bind fun (v,η')=>some (.rt (match v.1 with | .bo=>.pu | m=>m,v.2) η')
@[simp] noncomputable def fn (np nn:Nat) (body:Sx):Fn:=fun ts=>if ts.length=np then
 (body (ts.map (fun t=>some (.pu t))++List.replicate (nn - np) none)).bind fun o=>match o with
  | .rt v _=>some v
  | .nx _=>some (.fr,.non)
  | _=>none else none
@[simp] theorem Eg {m n:Md} {i j:Int}:cm (m,.int i) (n,.int j)=some (.fr,.int (i+j)):=rfl
theorem iM {m n:Md} {s t:Tx} (h:s.length+t.length<=16777216):cm (m,.str s) (n,.str t)=some (.fr,.str (s++t)):=Zr h
theorem kB {m n:Md} {i j:Int} (h:-18446744073709551616 < i/\i < 18446744073709551616):fz (m,.int i) (n,.int j)=some (.fr,.int (i * j)):=Zr (.inl h)
theorem gu {m n:Md} {i j:Int} (h:0 < j/\j < 1073741824):fU (m,.int i) (n,.int j)=some (.fr,.int (i / j)):=Zr h
theorem bq {m n:Md} {i j:Int} (h:0 < j):oMod (m,.int i) (n,.int j)=some (.fr,.int (i % j)):=Zr h
theorem eO {l:Vg} {t:T} (h:l.length < 16777216):aZ (.lst l) [(.fr,t)]=some (.lst (l++[t]),(.fr,.non)):=by
 simp only [aZ,fit,Zm]
 exact Zr h
theorem mm {a:Ex} {η:Env} {m:Md} {j:Int} (e:a η=some (m,.int j)) (h:-4611686018427387904<=j/\j < 4611686018427387904):cy a η=some (.fr,rng 0 j.toNat):=by
 simp only [cy,e,Zm,int?]
 exact Zr h
theorem lI {m:Md} {l:Vg} (h:l.length<=16777216):mkL m l=some (if fN l then .fr else m,.lst l):=Zr h
theorem bH {tg:Tg} {body:Sx} {t:T} {r:Vg} {η η1 η2:Env} (h1:tg t η=some η1) (h2:body η1=some (.nx η2)):forL tg body (t :: r) η=forL tg body r η2:=by
 simp [forL,h1,h2]
theorem zk {tg:Tg} {body:Sx} {t:T} {r:Vg} {η η1 η2:Env} {v:Val} (h1:tg t η=some η1) (h2:body η1=some (.rt v η2)):forL tg body (t :: r) η=some (.rt v η2):=by
 simp [forL,h1,h2]
theorem strs_map {α:Type} (f:α->Tx):∀ l:List α,strs? (l.map fun x=>T.str (f x))=some (l.map f)
 | []=>rfl
 | a :: r=>by simp [strs?,strs_map f r]
theorem pb (n:Nat):rng 0 n=(List.range n).map fun (k:Nat)=>T.int (k:Int):=by
 unfold rng
 simp
theorem iY {α:Type} (f:α->T) (h:∀ x,imm (f x)=true):∀ l:List α,fN (l.map f)=true
 | []=>rfl
 | a :: r=>by simp [h,iY f h r]
theorem nA {α:Type} {tg:Tg} {elt:Ex} {η:Env} (g:α->T) (f:α->Val):∀ l:List α,(∀ a∈l,∃ η',tg (g a) η=some η'/\elt η'=some (f a))->jx tg none elt η (l.map g)=some (l.map f)
 | [],_=>rfl
 | a :: r,h=>by
  obtain ⟨η',h1,h2⟩:=h a Zw
  simp [jx,h1,h2,nA g f r fun b hb=>h b (Zx _ hb)]
theorem j5 {α:Type} {tg:Tg} {c elt:Ex} {η:Env} (g:α->T) (p:α->Bool) (f:α->Val):∀ l:List α,(∀ a∈l,∃ η' x,tg (g a) η=some η'/\c η'=some x/\tru x.2=some (p a)/\(p a=true->elt η'=some (f a))) →
  jx tg (some c) elt η (l.map g)=some ((l.filter p).map f)
 | [],_=>rfl
 | a :: r,h=>by
  obtain ⟨η',x,h1,h2,h3,h4⟩:=h a Zw
  have ih:=j5 (c:=c) g p f r fun b hb=>h b (Zx _ hb)
  cases e:p a with
  | true=>simp [-tru,jx,h1,h2,h3,e,h4 e,ih]
  | false=>simp [-tru,jx,h1,h2,h3,e,ih]
theorem me {α:Type} (f:α->T):∀ l:List α,bZ (l.map fun a=>(Md.fr,f a))=.fr
 | []=>rfl
 | a :: r=>by simp [me f r]
theorem nG {α:Type} (f:α->Val) (l:List α):trees (l.map f)=l.map fun a=>(f a).2:=by simp
theorem fQ {α:Type} {k:Nat} {tg:Tg} {it:Its} {elt:Ex} {η:Env} {m:Md} (g:α->T) (f:α->T) (l:List α) (hi:it η=some (m,l.map g)) (hk:okI m (l.map g)=true) (hl:l.length<=16777216)
  (h:∀ a∈l,∃ η',tg (g a) (List.replicate k none++η)=some η'/\elt η'=some (.fr,f a)):dE k tg it none elt η=some (.fr,.lst (l.map f)):=by
 simp only [dE,hi,Zm]
 rw [Zr hk,nA g (fun a=>(Md.fr,f a)) l h]
 simp only [Zm,me,nG]
 rw [lI (by rw [Zv];exact hl)]
 simp
theorem oq {α:Type} {k:Nat} {tg:Tg} {it:Its} {c elt:Ex} {η:Env} {m:Md} (g:α->T) (p:α->Bool) (f:α->T) (l:List α) (hi:it η=some (m,l.map g)) (hk:okI m (l.map g)=true) (hl:l.length<=16777216)
  (h:∀ a∈l,∃ η' x,tg (g a) (List.replicate k none++η)=some η'/\c η'=some x/\tru x.2=some (p a)/\(p a=true->elt η'=some (.fr,f a))):dE k tg it (some c) elt η=some (.fr,.lst ((l.filter p).map f)):=by
 simp only [dE,hi,Zm]
 rw [Zr hk,j5 g p (fun a=>(Md.fr,f a)) l h]
 simp only [Zm,me,nG]
 rw [lI (by rw [Zv];exact ZV (List.length_filter_le _ _) hl)]
 simp
theorem mH {α:Type} {m n:Md} (f:α->T) (l:List α) (i:Int) (d:α) (h0:0<=i) (h1:i < l.length) (hi:imm (f (l.getD i.toNat d))=true):bh (m,.lst (l.map f)) (n,.int i)=some (.fr,f (l.getD i.toNat d)):=by
 have b2:i.toNat < l.length:=by lia
 simp only [Z4,Zb b2,X2] at hi ⊢
 simp [ixP,h0,h1,b2,hi]
theorem pZ {l:Vi} (h:l.length<=16777216):qG l=some (up (bZ l) (.tup (trees l))):=Zr h
end VS
end
section
namespace L2
open PySem PySem.Spec PyProof.Rows
noncomputable abbrev Key:=Sum Int Str
noncomputable def nS:Key->Value->Bool
 | .inl k,v=>Value.isInt k v
 | .inr x,v=>Value.isStrOf x v
noncomputable def Gb (w:World):Key->Int
 | .inl k=>hashInt k
 | .inr x=>hashStr w x
theorem bX:∀ {k:Key} {v:Value},nS k v=true->(∃ i t,k=Sum.inl i/\v=Value.int i t)\/(∃ x t,k=Sum.inr x/\v=Value.str x t)
 | .inl i,v,h=>by
  obtain ⟨t,e⟩:=Value.isInt_shape (k:=i) (v:=v) h
  exact .inl ⟨i,t,rfl,e⟩
 | .inr x,v,h=>by
  obtain ⟨t,e⟩:=Value.isStrOf_shape (x:=x) (v:=v) h
  exact .inr ⟨x,t,rfl,e⟩
theorem uw (i:Int) (t:Tok):nS (.inl i) (.int i t)=true:=by simp [nS,Value.isInt]
theorem u7 (x:Str) (t:Tok):nS (.inr x) (.str x t)=true:=by simp [nS,Value.isStrOf]
theorem CQ (a b:Int):decide ((Sum.inl a:Key)=Sum.inl b)=(a == b):=by
 by_cases e:a=b
 ·subst e;simp
 ·have h:¬ (Sum.inl a:Key)=Sum.inl b:=fun q=>e (Sum.inl.inj q)
  rw [ZP h]
  exact (beq_eq_false_iff_ne.mpr e).symm
theorem BI (a b:Str):decide ((Sum.inr a:Key)=Sum.inr b)=decide (a=b):=by
 by_cases e:a=b
 ·subst e;simp
 ·have h:¬ (Sum.inr a:Key)=Sum.inr b:=fun q=>e (Sum.inr.inj q)
  rw [ZP h,ZP e]
theorem C7 (a:Int) (b:Str):decide ((Sum.inl a:Key)=Sum.inr b)=false:=ZP (fun q=>nomatch q)
theorem Co (a:Str) (b:Int):decide ((Sum.inr a:Key)=Sum.inl b)=false:=ZP (fun q=>nomatch q)
noncomputable def aX (prog:Program) (w:World):PySem.KeyKind prog w Key where
 is:=nS
 hash:=Gb w
 inj:=fun v a b ha hb=>by
  rcases bX ha with ⟨i,t,rfl,rfl⟩ | ⟨x,t,rfl,rfl⟩
  ·rcases bX hb with ⟨j,u,rfl,e⟩ | ⟨y,u,rfl,e⟩
   ·injection e with e1 _;rw [e1]
   ·exact nomatch e
  ·rcases bX hb with ⟨j,u,rfl,e⟩ | ⟨y,u,rfl,e⟩
   ·exact nomatch e
   ·injection e with e1 _;rw [e1]
 byValue:=fun k v h=>by
  rcases bX h with ⟨i,t,rfl,rfl⟩ | ⟨x,t,rfl,rfl⟩ <;> rfl
 pyHash:=fun hv h=>by
  rcases bX hv with ⟨i,t,rfl,rfl⟩ | ⟨x,t,rfl,rfl⟩
  ·exact wpAny_pyHash_int h
  ·exact wpAny_pyHash_str h
 eqBool:=fun hu hv h=>by
  rcases bX hu with ⟨i,t,rfl,rfl⟩ | ⟨x,t,rfl,rfl⟩
  ·rcases bX hv with ⟨j,u,rfl,rfl⟩ | ⟨y,u,rfl,rfl⟩
   ·rw [CQ] at h;exact wpAny_eqBool_int h
   ·rw [C7] at h;exact SeqAt.EqAt.int_str i t y u _ _ _ _ h
  ·rcases bX hv with ⟨j,u,rfl,rfl⟩ | ⟨y,u,rfl,rfl⟩
   ·rw [Co] at h;exact SeqAt.EqAt.str_int x t j u _ _ _ _ h
   ·rw [BI] at h;exact wpAny_eqBool_str h
 «strs» := fun k x t v h=>by
  rcases bX h with ⟨i,u,rfl,e⟩ | ⟨y,u,rfl,e⟩
  ·exact nomatch e
  ·injection e with e1 _
   subst e1
   cases v <;> rfl
theorem qm (prog:Program) (w:World) (i:Int) (t:Tok):(aX prog w).is (.inl i) (.int i t)=true:=uw i t
theorem qC (prog:Program) (w:World) (x:Str) (t:Tok):(aX prog w).is (.inr x) (.str x t)=true:=u7 x t
inductive V where
 | non | bl (b:Bool) | int (i:Int) | str (x:Str) | byt (b:Array UInt8) | flt (b:UInt64) | ref (a:Addr) | ty (n:String)
 deriving DecidableEq
noncomputable def RelV:V->Value->Prop
 | .non,u=>u=Value.none
 | .bl b,u=>u=Value.bool b
 | .int i,u=>∃ t,u=Value.int i t
 | .str x,u=>∃ t,u=Value.str x t
 | .byt b,u=>∃ t,u=Value.bytes b t
 | .flt b,u=>∃ t,u=Value.float b t
 | .ref a,u=>u=Value.ref a
 | .ty n,u=>u=Value.type n
noncomputable abbrev aU:List V->X1->Prop:=Paired RelV
theorem aU.length {xs:List V} {us:X1} (r:aU xs us):xs.length=us.length:=Wl r
theorem aU.get:∀ {xs:List V} {us:X1} {i:Nat} {x:V},aU xs us->xs[i]?=some x->∃ u,us[i]?=some u/\RelV x u
 | _,_,_,_,.nil,e=>by simp at e
 | _,_,0,_,.cons r _,e=>by simp at e;subst e;exact ⟨_,rfl,r⟩
 | _,_,i+1,x,.cons _ t,e=>by
  obtain ⟨u,h1,h2⟩:=aU.get (i:=i) (x:=x) t (by simpa using e)
  exact ⟨u,by simpa using h1,h2⟩
theorem aU.set {x:V} {u:Value} (r:RelV x u):∀ {xs:List V} {us:X1} (i:Nat),aU xs us->aU (xs.set i x) (us.set i u)
 | _,_,_,.nil=>.nil
 | _,_,0,.cons _ t=>.cons r t
 | _,_,i+1,.cons q t=>.cons q (aU.set r i t)
theorem aU.append:∀ {xs ys:List V} {us ws:X1},aU xs us->aU ys ws->aU (xs++ys) (us++ws)
 | _,_,_,_,.nil,s=>s
 | _,_,_,_,.cons r t,s=>.cons r (aU.append t s)
theorem aU.take:∀ {xs:List V} {us:X1} (n:Nat),aU xs us->aU (xs.take n) (us.take n)
 | _,_,0,_=>.nil
 | _,_,_+1,.nil=>.nil
 | _,_,n+1,.cons r t=>.cons r (aU.take n t)
theorem aU.drop:∀ {xs:List V} {us:X1} (n:Nat),aU xs us->aU (xs.drop n) (us.drop n)
 | _,_,0,r=>r
 | _,_,_+1,.nil=>.nil
 | _,_,n+1,.cons _ t=>aU.drop n t
noncomputable def kJ:Option V->Vt->Prop
 | some v,some u=>RelV v u
 | none,none=>True
 | _,_=>False
noncomputable def KV {κ:Type}:List (κ×V)->List (κ×Value)->Prop:=Paired fun (p:κ×V) (q:κ×Value)=>p.1=q.1/\RelV p.2 q.2
noncomputable def kV:Key->V
 | .inl i=>.int i
 | .inr x=>.str x
inductive HO where
 | lst (xs:List V)
 | tup (xs:List V)
 | dK (kvs:List (Key×V)) | dT (kvs:List (List Key×V))
 | set (S:Int->Bool) (n:Nat)
 | ins (C dx:Addr) (fs:List (Str×V))
 | own (x:Addr)
 | xd (fs:List (Str×V))
 | met (f x:Addr)
 | rng (lo hi:Int)
 | frz (o:Obj) (u:HO)
 | tbl (ps:Array Value)
 | ext (φ:Heap->Prop)
noncomputable abbrev Hp:=Addr->Option HO
noncomputable def upd (H:Hp) (a:Addr) (o:HO):Hp:=fun b=>if b=a then some o else H b
theorem aK {H:Hp} {a:Addr} {o:HO}:upd H a o a=some o:=by unfold upd;rw [Zr rfl]
theorem aF {H:Hp} {a b:Addr} {o:HO} (h:b ≠ a):upd H a o b=H b:=by unfold upd;rw [Zq h]
theorem Ad {H:Hp} {a:Addr} {o u:HO}:upd (upd H a o) a u=upd H a u:=by
 funext b;unfold upd;split <;> rfl
theorem D5 {H:Hp} {a b:Addr} {o u:HO} (h:H a=some o) (h':H b=some u) (d:o ≠ u):a ≠ b:=by
 intro e;subst e;rw [h] at h';exact d (ZE h')
theorem bN {H:Hp} {a b:Addr} {o:HO} (h:H a=some o) (h':H b=none):a ≠ b:=by
 intro e;subst e;rw [h] at h';cases h'
noncomputable def NoD (h:Heap) (a:Addr):Prop:=∀ o,h.get? a=some o->o.dict=none
theorem NoD.new (h:Heap) (its:Array Value):NoD (h.push { cls:=.type "tuple",data:=.seq its }) h.objs.size:=fun o e=>by
 rw [ZU _ rfl] at e
 cases e
 rfl
theorem NoD.of {h:Heap} {a:Addr} {o:Obj} (e:h.get? a=some o) (d:o.dict=none):NoD h a:=fun o' e'=>by
 rw [e] at e'
 cases e'
 exact d
section
variable (P:Program) (w:World)
noncomputable def br (H:Hp) (h:Heap) (a:Addr):HO->Prop
 | .lst xs=>xs.length<=sizeLine/\∃ (its:X1) (n:Nat),aU xs its/\h.get? a=some { cls:=.type "list",data:=.seq its.toArray n }
 | .tup xs=>xs.length<=sizeLine/\∃ its:X1,aU xs its/\NoD h a/\IsTup h a its.toArray
 | .dK kvs=>kvs.length<=sizeLine/\(a == sysModules)=false/\∃ vs,KV kvs vs/\h.DictOf (aX P w) a vs
 | .dT kvs=>kvs.length<=sizeLine/\(a == sysModules)=false/\∃ xs:List (List Key×Addr×Value),
   Paired (fun (p:List Key×V) (q:List Key×Addr×Value)=>p.1=q.1/\H q.2.1=some (.tup (p.1.map kV))/\RelV p.2 q.2.2) kvs xs ∧
   ∃ o es ep,h.get? a=some o/\o.ExactDict/\o.data=.dict es ep/\es.toList=xs.map (entryOfKey (tupleKind (aX P w)))/\(xs.map (·.1)).Nodup
 | .set S n=>h.SetOf (intKind P w) a S n
 | .ins C dx fs=>H dx=some (.own a)/\fs.length<=1000/\dx ≠ a/\h.get? a=some (PySem.W.instObj C dx) ∧
   ∃ mA,h.Ns1 dx mA/\(∀ f,kJ (fs.lookup f) (mA f))/\PySem.Within mA (fs.map (·.1))
 | .own _=>∃ o,h.get? a=some o
 | .xd fs=>∃ mA,h.Ns1 a mA/\∀ f,kJ (fs.lookup f) (mA f)
 | .rng lo hi=>∃ t u v,h.get? a=some { cls:=.type "range",data:=.fields #[.int lo t,.int hi u,.int 1 v] }
 | .frz o u=>h.get? a=some o/\br H h a u
 | .tbl ps=>h.get? a=some { cls:=.none,data:=.fields ps }
 | .met f x=>h.get? a=some (PySem.W.methodObj (.ref f) (.ref x))
 | .ext φ=>φ h/\(∃ o,h.get? a=some o)/\∀ h1 h2:Heap,φ h1->(∀ o,h1.get? a=some o->h2.get? a=some o)->φ h2
noncomputable def HOk (H:Hp) (h:Heap):Prop:=∀ a o,H a=some o->br P w H h a o
end
section
variable {P:Program} {w:World} {H H':Hp} {h h':Heap} {a:Addr} {o:HO}
theorem br.lt (x:br P w H h a o):a < h.objs.size:=by
 cases o with
 | lst xs=>obtain ⟨_,_,_,_,e⟩:=x;exact ZZ e
 | tup xs=>obtain ⟨_,_,_,_,p⟩:=x;exact p.lt
 | dK kvs=>obtain ⟨_,_,_,_,o,_,_,e,_⟩:=x;exact ZZ e
 | dT kvs=>obtain ⟨_,_,_,_,o,_,_,e,_⟩:=x;exact ZZ e
 | set S n=>obtain ⟨o,_,_,_,e,_⟩:=x;exact ZZ e
 | ins C dx fs=>obtain ⟨_,_,_,e,_⟩:=x;exact ZZ e
 | own y=>obtain ⟨_,e⟩:=x;exact ZZ e
 | xd fs=>obtain ⟨_,⟨_,_,_,e,_⟩,_⟩:=x;exact ZZ e
 | rng lo hi=>obtain ⟨_,_,_,e⟩:=x;exact ZZ e
 | frz ob u=>obtain ⟨e,_⟩:=x;exact ZZ e
 | tbl ps=>exact ZZ (show h.get? a=some _ from x)
 | met f y=>exact ZZ (show h.get? a=some _ from x)
 | ext φ=>obtain ⟨_,⟨_,e⟩,_⟩:=x;exact ZZ e
theorem Paired.mapP {α β:Type} {F G:α->β->Prop}:∀ {l₁:List α} {l₂:List β},Paired F l₁ l₂->(∀ a b,F a b->G a b)->Paired G l₁ l₂
 | _,_,.nil,_=>.nil
 | _,_,.cons r t,f=>.cons (f _ _ r) (Paired.mapP t f)
theorem br.stay (x:br P w H h a o) (k:∀ b u,(b=a\/H b=some (.own a))->h.get? b=some u->h'.get? b=some u)
  (ho:∀ b,H b=some (.own a)->H' b=some (.own a)) (ht:∀ b xs,H b=some (.tup xs)->H' b=some (.tup xs)):br P w H' h' a o:=by
 induction o with
 | lst xs=>obtain ⟨z,its,n,r,e⟩:=x;exact ⟨z,its,n,r,k _ _ (.inl rfl) e⟩
 | tup xs=>obtain ⟨z,its,r,nd,ob,e,c⟩:=x;exact ⟨z,its,r,NoD.of (k _ _ (.inl rfl) e) (nd _ e),ob,k _ _ (.inl rfl) e,c⟩
 | dK kvs=>obtain ⟨z,y,vs,r,ob,es,ep,e,c⟩:=x;exact ⟨z,y,vs,r,ob,es,ep,k _ _ (.inl rfl) e,c⟩
 | dT kvs =>
  obtain ⟨z,y,xs,r,ob,es,ep,e,c⟩:=x
  exact ⟨z,y,xs,Paired.mapP r fun p q z=>⟨z.1,ht _ _ z.2.1,z.2.2⟩,ob,es,ep,k _ _ (.inl rfl) e,c⟩
 | set S n=>obtain ⟨ob,es,ep,t,e,c⟩:=x;exact ⟨ob,es,ep,t,k _ _ (.inl rfl) e,c⟩
 | ins C dx fs =>
  obtain ⟨d,z,ne,e,mA,⟨od,es,ep,e2,c⟩,r⟩:=x
  exact ⟨ho _ d,z,ne,k _ _ (.inl rfl) e,mA,⟨od,es,ep,k _ _ (.inr d) e2,c⟩,r⟩
 | own y=>obtain ⟨ob,e⟩:=x;exact ⟨ob,k _ _ (.inl rfl) e⟩
 | xd fs=>obtain ⟨mA,⟨od,es,ep,e,c⟩,r⟩:=x;exact ⟨mA,⟨od,es,ep,k _ _ (.inl rfl) e,c⟩,r⟩
 | rng lo hi=>obtain ⟨t,u,v,e⟩:=x;exact ⟨t,u,v,k _ _ (.inl rfl) e⟩
 | frz ob u ih=>obtain ⟨e,q⟩:=x;exact ⟨k _ _ (.inl rfl) e,ih q⟩
 | tbl ps =>
  have e:h.get? a=some { cls:=.none,data:=.fields ps }:=x
  show h'.get? a=some { cls:=.none,data:=.fields ps }
  exact k a _ (.inl rfl) e
 | met f y =>
  have e:h.get? a=some (PySem.W.methodObj (.ref f) (.ref y)):=x
  show h'.get? a=some (PySem.W.methodObj (.ref f) (.ref y))
  exact k a _ (.inl rfl) e
 | ext φ=>obtain ⟨p,⟨o,e⟩,st⟩:=x;exact ⟨st _ _ p fun o q=>k _ _ (.inl rfl) q,⟨o,k _ _ (.inl rfl) e⟩,st⟩
theorem HOk.lt (x:HOk P w H h) (e:H a=some o):a < h.objs.size:=(x a o e).lt
theorem HOk.fresh (x:HOk P w H h) (e:h.objs.size<=a):H a=none:=by
 cases q:H a with
 | none=>rfl
 | some u=>exact absurd (Z1 (x.lt q) e) (YH _)
theorem HOk.kept (x:HOk P w H h) (k:∀ b u,h.get? b=some u->h'.get? b=some u):HOk P w H h':=fun a o e =>
 (x a o e).stay (fun b u _ q=>k b u q) (fun _ q=>q) fun _ _ q=>q
theorem HOk.laid (x:HOk P w H h) (k:∀ b u,h.get? b=some u->h'.get? b=some u) (hp:h.objs.size<=a) (new:br P w (upd H a o) h' a o):HOk P w (upd H a o) h':=fun b u e=>by
 have hn:=x.fresh hp
 by_cases hb:b=a
 ·subst hb;rw [aK] at e;cases e;exact new
 ·rw [aF hb] at e
  exact (x b u e).stay (fun c v _ q=>k c v q) (fun c q=>by rw [aF (bN q hn)];exact q) fun c xs q=>by rw [aF (bN q hn)];exact q
end
noncomputable def Rd (H:Hp) (a:Addr) (u:HO):Prop:=H a=some u\/∃ o,H a=some (.frz o u)
theorem Rd.ok {P:Program} {w:World} {H:Hp} {h:Heap} {a:Addr} {u:HO} (r:Rd H a u) (x:HOk P w H h):br P w H h a u:=by
 rcases r with r | ⟨o,r⟩
 ·exact x a u r
 ·obtain ⟨_,q⟩:=x a _ r
  exact q
noncomputable def Mut:Option HO->Prop
 | some (.lst _)=>True
 | some (.dK _)=>True
 | some (.dT _)=>True
 | some (.set _ _)=>True
 | some (.ins _ _ _)=>True
 | some (.ext _)=>True
 | _=>False
section
variable {P:Program} {w:World} {H:Hp} {h h':Heap} {x e:Addr} {o':HO}
theorem HOk.write (ok:HOk P w H h) (mu:Mut (H x)) (he:e=x\/H e=some (.own x)) (k:∀ b u,b ≠ e->h.get? b=some u->h'.get? b=some u) (heo:∃ u,h'.get? e=some u)
  (new:br P w (upd H x o') h' x o'):HOk P w (upd H x o') h':=fun b u q=>by
 have nown:∀ c y,H c=some (.own y)->c ≠ x:=fun c y r z=>by subst z;rw [r] at mu;exact mu
 have ntup:∀ c xs,H c=some (.tup xs)->c ≠ x:=fun c xs r z=>by subst z;rw [r] at mu;exact mu
 by_cases hb:b=x
 ·subst hb;rw [aK] at q;cases q;exact new
 ·rw [aF hb] at q
  by_cases hbe:b=e
  ·have q':H b=some (.own x):=by
    rcases he with z | z
    ·exact absurd (hbe.trans z) hb
    ·rw [hbe];exact z
   rw [q] at q';cases q'
   obtain ⟨v,hv⟩:=heo
   exact ⟨v,by rw [hbe];exact hv⟩
  ·refine (ok b u q).stay (fun c v hc r=>k c v ?_ r) (fun c r=>by rw [aF (nown c b r)];exact r) fun c xs r=>by rw [aF (ntup c xs r)];exact r
   rcases hc with rfl | hc
   ·exact hbe
   ·rintro rfl
    rcases he with z | z
    ·exact nown c b hc z
    ·rw [hc] at z;cases z;exact hb rfl
end
structure Un (fs ex:Xb) (H H':Hp) (h h':Heap):Prop where
 keep:∀ b o,h.get? b=some o->H b=none->b ∉ fs->b ∉ ex->h'.get? b=some o
 slot:∀ b o,h.get? b=some o->H b=none->b∈fs->b ∉ ex->∃ sl,h'.get? b=some { o with slots:=sl }
 free:∀ b o,h.get? b=some o->H b=none->b ∉ ex->H' b=none
 there:∀ b o,h.get? b=some o->b ∉ ex->∃ o',h'.get? b=some o'
 tups:∀ b xs,H b=some (.tup xs)->H' b=some (.tup xs)
 frzs:∀ b o u,H b=some (.frz o u)->H' b=some (.frz o u)
 tbls:∀ b ps,H b=some (.tbl ps)->∃ more,H' b=some (.tbl (ps++more))
section
variable {fs fs' ex ex':Xb} {H H1 H2:Hp} {h h1 h2 h':Heap} {a x e:Addr} {o:HO}
theorem Un.any (u:Un fs ex H H1 h h1) {b:Addr} {ob:Obj} (q:h.get? b=some ob) (n:H b=none) (hx:b ∉ ex):∃ sl,h1.get? b=some { ob with slots:=sl }:=by
 by_cases hb:b∈fs
 ·exact u.slot b ob q n hb hx
 ·exact ⟨ob.slots,u.keep b ob q n hb hx⟩
theorem Un.kept (k:∀ b u,h.get? b=some u->h'.get? b=some u):Un fs ex H H h h' :=
 ⟨fun b ob q _ _ _=>k b ob q,fun b ob q _ _ _=>⟨ob.slots,k b ob q⟩,fun _ _ _ n _=>n,fun b ob q _=>⟨ob,k b ob q⟩,fun _ _ q=>q,fun _ _ _ q=>q,fun _ ps q=>⟨#[],by rw [q];simp⟩⟩
theorem Un.refl:Un fs ex H H h h:=Un.kept fun _ _ q=>q
theorem Un.laid (k:∀ b u,h.get? b=some u->h'.get? b=some u) (hp:h.objs.size<=a) (hn:H a=none):Un fs ex H (upd H a o) h h' where
 keep:=fun b u q _ _ _=>k b u q
 slot:=fun b u q _ _ _=>⟨u.slots,k b u q⟩
 free:=fun b u q n _=>by rw [aF (ZR (Z1 (ZZ q) hp))];exact n
 there:=fun b u q _=>⟨u,k b u q⟩
 tups:=fun b xs q=>by rw [aF (bN q hn)];exact q
 frzs:=fun b u xs q=>by rw [aF (bN q hn)];exact q
 tbls:=fun b ps q=>⟨#[],by rw [aF (bN q hn),q];simp⟩
theorem Un.write (mu:Mut (H x)) (he:e=x\/H e=some (.own x)) (k:∀ b u,b ≠ e->h.get? b=some u->h'.get? b=some u) (heo:∃ u,h'.get? e=some u):Un fs ex H (upd H x o) h h':=by
 have hx:∀ b,H b=none->b ≠ x:=fun b n z=>by subst z;rw [n] at mu;exact mu
 have hb:∀ b,H b=none->b ≠ e:=fun b n z=>by
  subst z
  rcases he with r | r
  ·exact hx b n r
  ·rw [n] at r;cases r
 have hm:∀ b u,H b=some u->¬ Mut (some u)->b ≠ x:=fun b u q nm z=>by subst z;rw [q] at mu;exact nm mu
 refine ⟨fun b u q n _ _=>k b u (hb b n) q,fun b u q n _ _=>⟨u.slots,k b u (hb b n) q⟩,fun b u q n _=>by rw [aF (hx b n)];exact n,fun b u q _=>?_,
  fun b xs q=>by rw [aF (hm b _ q fun z=>z)];exact q,fun b u xs q=>by rw [aF (hm b _ q fun z=>z)];exact q,fun b ps q=>⟨#[],by rw [aF (hm b _ q fun z=>z),q];simp⟩⟩
 by_cases hbe:b=e
 ·subst hbe;exact heo
 ·exact ⟨u,k b u hbe q⟩
end
noncomputable def trk (h:Heap) (H:Hp):Xb:=(List.range h.objs.size).filter fun a=>(H a).isSome
noncomputable def oP (h:Heap) (H:Hp):Heap:=PySem.W.hideAll h (trk h H)
theorem uH (h:Heap) (H:Hp):(oP h H).objs.size=h.objs.size:=PySem.W.hideAll_size _ _
theorem wL {h:Heap} {H:Hp} {b:Addr} {o:Obj} (e:h.get? b=some o) (n:H b=none):(oP h H).get? b=some o :=
 PySem.W.hideAll_get _ e fun hm=>by
  have q:(H b).isSome=true:=(Wv.mp hm).2
  rw [n] at q;simp at q
theorem yS {h:Heap} {H:Hp} {b:Addr} {o:Obj} (e:(oP h H).get? b=some o):h.get? b=some o/\H b=none:=by
 have e':h.get? b=some o:=PySem.W.of_hideAll (trk h H) e
 refine ⟨e',?_⟩
 cases q:H b with
 | none=>rfl
 | some x =>
  have hm:b∈trk h H:=Wv.mpr ⟨Z7.mpr (ZZ e'),by simp [q]⟩
  have z:(oP h H).get? b=none:=PySem.W.hideAll_none (trk h H) hm
  rw [z] at e;cases e
noncomputable def zA (g h:Heap) (L:Addr):Yo:=(List.range h.objs.size).filterMap fun a=>if a=L\/(g.get? a).isSome=true then none else (h.get? a).map fun o=>(a,o)
noncomputable def rest (g h:Heap) (L d:Addr):Yo:=(zA g h L).filter fun p=>decide (p.1 ≠ d)
structure Mod (K:Y1) (mg:Xv) (base:Heap):Prop where
 kin:K.In base
 glob:base.Ns mainGlobals mg
 blt:∃ mb,base.Ns builtinsNs mb/\∀ x:Str,x ≠ "__name__" → mb x=bootBuiltins x
 nolimit:base.NoLimit
structure Cx where
 prog:Program
 w:World
 K:Y1
 mg:Xv
 base:Heap
 A:Around
 N:List Str
 s₀:Shared
 H₀:Hp
 env:Env
 outer:List Env
 stack:List Env
 ex:Xb
 fn:Str->Bool
 calm:Bool
 pn:Yo
 xe:Z8
noncomputable def frs (l:List Env):Xb:=l.filterMap (·.frame)
noncomputable abbrev Cx.fs (X:Cx):Xb:=frs X.outer
noncomputable def Vis (sc:Scope) (x:Str):Prop:=sc.names.lookup x=some .local\/sc.names.lookup x=some .cell\/sc.names.lookup x=some .free
noncomputable def Loc (sc:Scope) (x:Str):Prop:=sc.names.lookup x=some .local\/sc.names.lookup x=some .cell
noncomputable def Look (env:Env) (h:Heap) (m:Xv) (x:Str) (u:Value):Prop :=
 (env.kindOf x=some .local/\m x=some u)\/((env.kindOf x=some .cell\/env.kindOf x=some .free)/\∃ c,env.cells.lookup x=some c/\h.IsCell c (some u))
structure Cx.Ok (X:Cx):Prop where
 mod:Mod X.K X.mg X.base
 kind:X.env.scope.kind=.function
 glob:X.env.globals=mainGlobals
 blt:X.env.builtins=builtinsNs
 above:X.s₀.heap.objs.size<=X.env.locals
 inj:∀ x y c,X.env.cells.lookup x=some c->X.env.cells.lookup y=some c->x=y
 has:∀ x,(X.env.kindOf x=some .cell\/X.env.kindOf x=some .free)->∃ c,X.env.cells.lookup x=some c
 cab:∀ x c,X.fn x=true->X.env.cells.lookup x=some c->X.s₀.heap.objs.size<=c
 hd:X.calm=true->X.A.handled=none
 frames:X.A.frames=some X.stack
 stk:X.stack=X.outer\/(X.stack=X.env :: X.outer/\X.env.frame=some X.env.locals)
 exf:∀ b∈X.ex,b ≠ X.env.locals/\∀ x c,X.env.cells.lookup x=some c->c ≠ b
 bs:∀ b o,X.base.get? b=some o->X.s₀.heap.get? b=some o/\X.H₀ b=none
 bsz:X.base.objs.size<=X.s₀.heap.objs.size
 noex:∀ b o,X.base.get? b=some o->b ∉ X.ex
 exfs:∀ b∈X.ex,b ∉ X.fs
 funs:X.s₀.heap.FunFrames X.base X.outer
 frf:∀ b∈X.fs,X.H₀ b=none
structure Inv (X:Cx) (pins:Yo) (σ:List (Option V)) (H:Hp) (s:Shared):Prop where
 ok:X.Ok
 os:s.os=X.s₀.os
 bare:AllBare s.gens
 base:Un X.fs X.ex X.H₀ H X.s₀.heap s.heap
 loc:∃ m,s.heap.Ns X.env.locals m/\∀ (i:Nat) (x:Str) (v:V),X.N[i]?=some x->σ[i]?=some (some v)->Vis X.env.scope x->∃ u,RelV v u/\Look X.env s.heap m x u
 cell:∀ x c,X.env.cells.lookup x=some c->∃ v,s.heap.IsCell c v
 free:H X.env.locals=none
 freeC:∀ x c,X.env.cells.lookup x=some c->H c=none
 pin:∀ p∈X.pn++pins,s.heap.get? p.1=some p.2/\H p.1=none/\p.1 ≠ X.env.locals/\p.1 ∉ X.fs/\∀ v,p.2.data ≠ .cell v
 hok:HOk X.prog X.w H s.heap
 len:σ.length=X.N.length
section
variable {X:Cx} {pins:Yo} {σ:List (Option V)} {H H':Hp} {s:Shared} {h':Heap}
theorem Cx.Ok.nofr (ok:X.Ok) {b:Addr} {o:Obj} (e:X.base.get? b=some o):b ∉ X.fs:=fun hb=>by
 have:=(ok.funs.mem hb).1
 rw [e] at this;cases this
theorem Inv.bs (I:Inv X pins σ H s):∀ b o,X.base.get? b=some o->s.heap.get? b=some o/\H b=none:=fun b o e =>
 ⟨I.base.keep b o (I.ok.bs b o e).1 (I.ok.bs b o e).2 (I.ok.nofr e) (I.ok.noex b o e),I.base.free b o (I.ok.bs b o e).1 (I.ok.bs b o e).2 (I.ok.noex b o e)⟩
theorem Inv.bk (I:Inv X pins σ H s):∀ b o,X.base.get? b=some o->s.heap.get? b=some o:=fun b o e=>(I.bs b o e).1
theorem Inv.mod (I:Inv X pins σ H s):Mod X.K X.mg X.base:=I.ok.mod
theorem Inv.kIn (I:Inv X pins σ H s):X.K.In s.heap:=I.ok.mod.kin.keeps I.bk
theorem Inv.lt (I:Inv X pins σ H s):X.env.locals < s.heap.objs.size:=let ⟨_,hn,_⟩:=I.loc;hn.lt
theorem Inv.sz (I:Inv X pins σ H s):X.s₀.heap.objs.size<=s.heap.objs.size:=ZV I.ok.above (ZQ I.lt)
theorem Inv.nofs (I:Inv X pins σ H s) {a:Addr} (h:s.heap.objs.size<=a):a ∉ X.fs:=fun hb=>by
 obtain ⟨_,o,ho,_⟩:=I.ok.funs.mem hb
 exact absurd (Z1 (ZZ ho) (ZV I.sz h)) (YH _)
theorem Inv.cne (I:Inv X pins σ H s):∀ x c,X.env.cells.lookup x=some c->c ≠ X.env.locals:=fun x c e z=>by
 obtain ⟨v,o,ho,hd⟩:=I.cell x c e
 obtain ⟨m,⟨o',es,ep,ho',hd',_⟩,_⟩:=I.loc
 rw [z,ho'] at ho;cases ho;rw [hd'] at hd;cases hd
theorem Inv.funs (I:Inv X pins σ H s):s.heap.FunFrames X.base X.outer:=by
 have all:∀ (l:List Env),(∀ b∈frs l,b∈X.fs)->X.s₀.heap.FunFrames X.base l->s.heap.FunFrames X.base l:=by
  intro l
  induction l with
  | nil=>intro _ _;trivial
  | cons env r ih =>
   intro hs hl
   obtain ⟨hk,⟨L,o,hf,hn,ho,hd⟩,hr⟩:=hl
   have hL:L∈X.fs:=hs L (by unfold frs;rw [Yj,hf];exact Zw)
   obtain ⟨sl,e⟩:=I.base.slot L o ho (I.ok.frf L hL) hL fun z=>I.ok.exfs L z hL
   exact ⟨hk,⟨L,_,hf,hn,e,hd⟩,ih (fun b hb=>hs b (by unfold frs;rw [Yj,hf];exact Zx _ hb)) hr⟩
 exact all X.outer (fun _ hb=>hb) I.ok.funs
theorem Inv.stack (I:Inv X pins σ H s):s.heap.FunFrames X.base X.stack:=by
 rcases I.ok.stk with e | ⟨e,hf⟩
 ·rw [e];exact I.funs
 ·rw [e]
  obtain ⟨m,hn,_⟩:=I.loc
  refine .cons (by rw [I.ok.kind];decide) hf hn ?_ I.funs
  exact Heap.get?_none_of_le (ZV I.ok.bsz I.ok.above)
theorem Inv.stkSub (I:Inv X pins σ H s):∀ b∈frs X.stack,b∈X.env.locals :: X.fs:=fun b hb=>by
 rcases I.ok.stk with e | ⟨e,hf⟩
 ·rw [e] at hb;exact Zx _ hb
 ·rw [e] at hb
  unfold frs at hb
  rw [Yj,hf] at hb
  exact hb
theorem Inv.stkFree (I:Inv X pins σ H s):∀ b∈frs X.stack,H b=none:=fun b hb=>by
 rcases Zo.mp (I.stkSub b hb) with e | hb
 ·rw [e];exact I.free
 ·obtain ⟨_,o,ho,_⟩:=I.ok.funs.mem hb
  exact I.base.free b o ho (I.ok.frf b hb) fun z=>I.ok.exfs b z hb
theorem Inv.step {g':Array GenState} {t':Nat} {d':Drawn} {ch:Xb} (I:Inv X pins σ H s)
  (hch:∀ b∈ch,(b∈X.ex\/X.s₀.heap.objs.size<=b)/\b ≠ X.env.locals/\(∀ x c,X.env.cells.lookup x=some c->c ≠ b)/\∀ p∈X.pn++pins,p.1 ≠ b)
  (keep:∀ b o,b ≠ X.env.locals->b ∉ X.fs->b ∉ ch->s.heap.get? b=some o->H b=none->h'.get? b=some o)
  (slot:∀ b o,b ≠ X.env.locals->b∈X.fs->b ∉ ch->s.heap.get? b=some o->H b=none->∃ sl,h'.get? b=some { o with slots:=sl }) (free:∀ b o,b ∉ ch->s.heap.get? b=some o->H b=none->H' b=none)
  (there:∀ b o,b ∉ ch->s.heap.get? b=some o->∃ o',h'.get? b=some o')
  (tups:∀ b xs,H b=some (.tup xs)->H' b=some (.tup xs)) (frzs:∀ b o u,H b=some (.frz o u)->H' b=some (.frz o u)) (tbls:∀ b ps,H b=some (.tbl ps)->∃ more,H' b=some (.tbl (ps++more)))
  (ns:∀ m,s.heap.Ns X.env.locals m->h'.Ns X.env.locals m) (hok:HOk X.prog X.w H' h') (hg:AllBare g') :
  Inv X pins σ H' { s with heap:=h',gens:=g',drawn:=d',toks:=t' }:=by
 have neL:∀ b o,X.s₀.heap.get? b=some o->b ≠ X.env.locals:=fun b o e=>ZR (Z1 (ZZ e) I.ok.above)
 have neC:∀ b o,X.s₀.heap.get? b=some o->b ∉ X.ex->b ∉ ch:=fun b o e hx hb=>by
  rcases (hch b hb).1 with z | z
  ·exact hx z
  ·exact absurd (Z1 (ZZ e) z) (YH _)
 have cellK:∀ x c,X.env.cells.lookup x=some c->∀ v,s.heap.IsCell c v->h'.IsCell c v:=fun x c e v hq=>by
  obtain ⟨o,ho,hd⟩:=hq
  have nch:c ∉ ch:=fun z=>(hch c z).2.2.1 x c e rfl
  by_cases hc:c∈X.fs
  ·obtain ⟨sl,q⟩:=slot c o (I.cne x c e) hc nch ho (I.freeC x c e)
   exact ⟨_,q,hd⟩
  ·exact ⟨o,keep c o (I.cne x c e) hc nch ho (I.freeC x c e),hd⟩
 refine ⟨I.ok,I.os,hg,⟨fun b o e n hb hx=>?_,fun b o e n hb hx=>?_,fun b o e n hx=>?_,fun b o e hx=>?_,fun b xs e=>tups b xs (I.base.tups b xs e),fun b o xs e=>frzs b o xs (I.base.frzs b o xs e),fun b ps e=>?_⟩,?_,fun x c e=>?_,?_,fun x c e=>?_,fun p hp=>?_,hok,I.len⟩
 ·exact keep b o (neL b o e) hb (neC b o e hx) (I.base.keep b o e n hb hx) (I.base.free b o e n hx)
 ·obtain ⟨sl,e1⟩:=I.base.slot b o e n hb hx
  obtain ⟨sl',e2⟩:=slot b _ (neL b o e) hb (neC b o e hx) e1 (I.base.free b o e n hx)
  exact ⟨sl',e2⟩
 ·obtain ⟨o',e1⟩:=I.base.there b o e hx
  exact free b o' (neC b o e hx) e1 (I.base.free b o e n hx)
 ·obtain ⟨o',e1⟩:=I.base.there b o e hx
  exact there b o' (neC b o e hx) e1
 ·obtain ⟨m1,e1⟩:=I.base.tbls b ps e
  obtain ⟨m2,e2⟩:=tbls b _ e1
  exact ⟨m1++m2,by rw [e2,Array.append_assoc]⟩
 ·obtain ⟨m,hn,hl⟩:=I.loc
  refine ⟨m,ns m hn,fun i x v e1 e2 e3=>?_⟩
  obtain ⟨u,r,l⟩:=hl i x v e1 e2 e3
  refine ⟨u,r,?_⟩
  rcases l with l | ⟨k,c,e,z⟩
  ·exact .inl l
  ·exact .inr ⟨k,c,e,cellK x c e _ z⟩
 ·obtain ⟨v,z⟩:=I.cell x c e
  exact ⟨v,cellK x c e v z⟩
 ·obtain ⟨m,⟨o,_,_,ho,_⟩,_⟩:=I.loc
  exact free _ o (fun z=>(hch _ z).2.1 rfl) ho I.free
 ·obtain ⟨v,o,ho,hd⟩:=I.cell x c e
  exact free c o (fun z=>(hch c z).2.2.1 x c e rfl) ho (I.freeC x c e)
 ·obtain ⟨e,n,ne,nf,d⟩:=I.pin p hp
  have nch:p.1 ∉ ch:=fun z=>(hch p.1 z).2.2.2 p hp rfl
  exact ⟨keep p.1 p.2 ne nf nch e n,free p.1 p.2 nch e n,ne,nf,d⟩
theorem Inv.un {t':Nat} (I:Inv X pins σ H s) (u:Un X.fs [] H H' s.heap h') (hok:HOk X.prog X.w H' h'):Inv X pins σ H' { s with heap:=h',toks:=t' }:=by
 obtain ⟨m,⟨o,es,ep,ho,r⟩,_⟩:=id I.loc
 obtain ⟨sl,hL⟩:=u.any ho I.free (by simp)
 exact I.step (g':=s.gens) (d':=s.drawn) (ch:=[]) (fun _ z=>nomatch z) (fun b o _ hb _ e n=>u.keep b o e n hb (by simp)) (fun b o _ hb _ e n=>u.slot b o e n hb (by simp)) (fun b o _ e n=>u.free b o e n (by simp)) (fun b o _ e=>u.there b o e (by simp)) u.tups u.frzs u.tbls (fun m' hm=>by
  obtain ⟨o',es',ep',ho',r'⟩:=hm
  rw [ho] at ho';cases ho'
  exact ⟨_,es',ep',hL,r'⟩) hok I.bare
theorem Inv.call {g':Array GenState} {t':Nat} {d':Drawn} {ch:Xb} (I:Inv X pins σ H s) (u:Un (frs X.stack) ch H H' s.heap h') (hok:HOk X.prog X.w H' h') (hg:AllBare g')
  (hch:∀ b∈ch,(b∈X.ex\/X.s₀.heap.objs.size<=b)/\b ≠ X.env.locals/\(∀ x c,X.env.cells.lookup x=some c->c ≠ b)/\∀ p∈X.pn++pins,p.1 ≠ b) :
  Inv X pins σ H' { s with heap:=h',gens:=g',drawn:=d',toks:=t' }:=by
 obtain ⟨m,⟨o,es,ep,ho,r⟩,_⟩:=id I.loc
 obtain ⟨sl,hL⟩:=u.any ho I.free fun z=>(hch _ z).2.1 rfl
 exact I.step (ch:=ch) hch (fun b o hL hb hc e n=>u.keep b o e n (fun z=>(Zo.mp (I.stkSub b z)).elim hL hb) hc) (fun b o _ _ hc e n=>u.any e n hc) (fun b o hc e n=>u.free b o e n hc) (fun b o hc e=>u.there b o e hc) u.tups u.frzs u.tbls (fun m' hm=>by
  obtain ⟨o',es',ep',ho',r'⟩:=hm
  rw [ho] at ho';cases ho'
  exact ⟨_,es',ep',hL,r'⟩) hok hg
theorem Inv.turned {t':Nat} {it:Addr} (I:Inv X pins σ H s) (k:∀ b o,b ≠ it->s.heap.get? b=some o->h'.get? b=some o) (hn:H it=none) (hL:it ≠ X.env.locals)
  (h1:it∈X.ex\/X.s₀.heap.objs.size<=it) (h2:∀ x c,X.env.cells.lookup x=some c->c ≠ it) (h3:∀ p∈X.pn++pins,p.1 ≠ it):Inv X pins σ H { s with heap:=h',toks:=t' }:=by
 have nit:∀ b u,H b=some u->b ≠ it:=fun b u e z=>by rw [z,hn] at e;cases e
 refine I.step (g':=s.gens) (d':=s.drawn) (ch:=[it]) (fun b hb=>?_) (fun b o _ _ hc e _=>k b o (fun z=>hc (by simp [z])) e) (fun b o _ _ hc e _=>⟨o.slots,k b o (fun z=>hc (by simp [z])) e⟩) (fun _ _ _ _ n=>n)
  (fun b o hc e=>⟨o,k b o (fun z=>hc (by simp [z])) e⟩) (fun _ _ e=>e) (fun _ _ _ e=>e) (fun b ps e=>⟨#[],by rw [e];simp⟩) (fun m hm=>?_) (fun b u e=>?_) I.bare
 ·have e:b=it:=by simpa using hb
  subst e
  exact ⟨h1,hL,h2,h3⟩
 ·obtain ⟨o,es,ep,ho,r⟩:=hm
  exact ⟨o,es,ep,k _ o (YG hL) ho,r⟩
 ·refine (I.hok b u e).stay (fun c v hc q=>k c v ?_ q) (fun _ q=>q) fun _ _ q=>q
  rcases hc with z | z
  ·rw [z];exact nit b u e
  ·exact nit c _ z
theorem Inv.tok (I:Inv X pins σ H s) (t:Nat):Inv X pins σ H { s with toks:=t }:=I.un (h':=s.heap) (t':=t) Un.refl I.hok
theorem Inv.kept {t':Nat} (I:Inv X pins σ H s) (k:∀ b u,s.heap.get? b=some u->h'.get? b=some u):Inv X pins σ H { s with heap:=h',toks:=t' }:=I.un (Un.kept k) (I.hok.kept k)
theorem Inv.laid {a:Addr} {o:HO} {t':Nat} (I:Inv X pins σ H s) (k:∀ b u,s.heap.get? b=some u->h'.get? b=some u) (hp:s.heap.objs.size<=a) (new:br X.prog X.w (upd H a o) h' a o) :
  Inv X pins σ (upd H a o) { s with heap:=h',toks:=t' }:=I.un (Un.laid k hp (I.hok.fresh hp)) (I.hok.laid k hp new)
theorem Inv.write {x e:Addr} {o:HO} {t':Nat} (I:Inv X pins σ H s) (mu:Mut (H x)) (he:e=x\/H e=some (.own x)) (k:∀ b u,b ≠ e->s.heap.get? b=some u->h'.get? b=some u) (heo:∃ u,h'.get? e=some u)
  (new:br X.prog X.w (upd H x o) h' x o):Inv X pins σ (upd H x o) { s with heap:=h',toks:=t' }:=I.un (Un.write mu he k heo) (I.hok.write mu he k heo new)
theorem Inv.pins_of {pins':Yo} (I:Inv X pins σ H s) (h:∀ p∈pins',s.heap.get? p.1=some p.2/\H p.1=none/\p.1 ≠ X.env.locals/\p.1 ∉ X.fs/\∀ v,p.2.data ≠ .cell v):Inv X pins' σ H s :=
 ⟨I.ok,I.os,I.bare,I.base,I.loc,I.cell,I.free,I.freeC,fun p hp=>(Zc.mp hp).elim (fun z=>I.pin p (Y7 _ z)) (h p),I.hok,I.len⟩
theorem pG {N:List Str} (hN:N.Nodup) {i j:Nat} {x:Str} (a:N[i]?=some x) (b:N[j]?=some x):i=j:=by
 obtain ⟨h1,e1⟩:=ZX.mp a
 obtain ⟨h2,e2⟩:=ZX.mp b
 exact (List.getElem_inj hN).mp (e1.trans e2.symm)
theorem nO {M:Model} {A:Around} {E:Z8} {i:Nat} {x:Str} {v:V} {u:Value} {Q:Unit->Shared->Prop} (I:Inv X pins σ H s) (hN:X.N.Nodup) (hi:X.N[i]?=some x) (hx:Loc X.env.scope x) (r:RelV v u)
  (h:∀ s',Inv X pins (σ.set i (some v)) H s'->(∃ a,Heap.SameBut a s.heap s'.heap/\(a=X.env.locals\/X.env.cells.lookup x=some a))->Q () s') (hf:X.fn x=true\/X.env.scope.names.lookup x=some .local:=by first | exact .inl rfl | exact .inr rfl | assumption):wpAny M A (storeName X.env x u) Q E s:=by
 obtain ⟨m,hn,hl⟩:=id I.loc
 have hcls:(X.env.scope.kind == .class || (X.env.scope.kind == .module && X.env.locals != X.env.globals))=false:=by rw [I.ok.kind];rfl
 have hiσ:i < σ.length:=by rw [I.len];exact (ZX.mp hi).1
 have cne:=I.cne
 have tracked:∀ {a:Addr} {h':Heap},(∃ o,s.heap.get? a=some o/\H a=none)->Heap.SameBut a s.heap h'->HOk X.prog X.w H h':=fun {a h'} ha hs b ob e=>by
  obtain ⟨_,_,hfree⟩:=ha
  refine (I.hok b ob e).stay (fun c w' hc q=>(hs.2 c ?_).trans q) (fun _ q=>q) fun _ _ q=>q
  rintro rfl
  rcases hc with rfl | hc
  ·rw [hfree] at e;cases e
  ·rw [hfree] at hc;cases hc
 rcases hx with hk | hk
 ·refine wpAny_storeName_local hk hn (fun h' hn' hs=>?_) hcls
  obtain ⟨oL,_,_,hoL,_⟩:=id hn
  refine h _ ⟨I.ok,I.os,I.bare,⟨fun b o e n hb hx=>?_,fun b o e n hb hx=>?_,I.base.free,fun b o e hx=>?_,I.base.tups,I.base.frzs,I.base.tbls⟩,⟨_,hn',fun j y v' e1 e2 e3=>?_⟩,fun y c e=>?_,I.free,I.freeC,fun p hp=>?_,tracked ⟨oL,hoL,I.free⟩ hs,by simpa using I.len⟩ ⟨_,hs,.inl rfl⟩
  ·exact (hs.2 b (ZR (Z1 (ZZ e) I.ok.above))).trans (I.base.keep b o e n hb hx)
  ·obtain ⟨sl,e1⟩:=I.base.slot b o e n hb hx
   exact ⟨sl,(hs.2 b (ZR (Z1 (ZZ e) I.ok.above))).trans e1⟩
  ·obtain ⟨o',e1⟩:=I.base.there b o e hx
   exact ⟨o',(hs.2 b (ZR (Z1 (ZZ e) I.ok.above))).trans e1⟩
  ·by_cases hj:j=i
   ·subst hj
    rw [hi] at e1;cases e1
    rw [Xs hiσ] at e2
    cases e2
    exact ⟨u,r,.inl ⟨hk,by simp⟩⟩
   ·rw [Xf (YG hj)] at e2
    obtain ⟨u',r',q⟩:=hl j y v' e1 e2 e3
    refine ⟨u',r',?_⟩
    rcases q with ⟨k,e⟩ | ⟨k,c,e,z⟩
    ·refine .inl ⟨k,?_⟩
     have:y ≠ x:=fun e=>hj (pG hN e1 (e ▸ hi))
     simp [this,e]
    ·exact .inr ⟨k,c,e,z.sameBut hs (cne y c e)⟩
  ·obtain ⟨w',z⟩:=I.cell y c e
   exact ⟨w',z.sameBut hs (cne y c e)⟩
  ·obtain ⟨e,n,ne,nf,d⟩:=I.pin p hp
   exact ⟨(hs.2 p.1 ne).trans e,n,ne,nf,d⟩
 ·have hfn:X.fn x=true:=by
   rcases hf with z | z
   ·exact z
   ·rw [z] at hk;cases hk
  obtain ⟨c,hc⟩:=I.ok.has x (.inl hk)
  obtain ⟨w',z⟩:=I.cell x c hc
  refine wpAny_storeName_cell I.ok.kind hk hc z (fun h' hc' hs=>?_)
  obtain ⟨oc,hoc,hocd⟩:=id z
  refine h { s with heap:=h' } ⟨I.ok,I.os,I.bare,⟨fun b o e n hb hx=>?_,fun b o e n hb hx=>?_,I.base.free,fun b o e hx=>?_,I.base.tups,I.base.frzs,I.base.tbls⟩,⟨m,hn.sameBut hs (YG (cne x c hc)),fun j y v' e1 e2 e3=>?_⟩,fun y c' e=>?_,I.free,I.freeC,fun p hp=>?_,tracked ⟨oc,hoc,I.freeC x c hc⟩ hs,by simpa using I.len⟩ ⟨c,hs,.inr hc⟩
  ·exact (hs.2 b (ZR (Z1 (ZZ e) (I.ok.cab x c hfn hc)))).trans (I.base.keep b o e n hb hx)
  ·obtain ⟨sl,e1⟩:=I.base.slot b o e n hb hx
   exact ⟨sl,(hs.2 b (ZR (Z1 (ZZ e) (I.ok.cab x c hfn hc)))).trans e1⟩
  ·obtain ⟨o',e1⟩:=I.base.there b o e hx
   exact ⟨o',(hs.2 b (ZR (Z1 (ZZ e) (I.ok.cab x c hfn hc)))).trans e1⟩
  ·by_cases hj:j=i
   ·subst hj
    rw [hi] at e1;cases e1
    rw [Xs hiσ] at e2
    cases e2
    exact ⟨u,r,.inr ⟨.inl hk,c,hc,hc'⟩⟩
   ·rw [Xf (YG hj)] at e2
    obtain ⟨u',r',q⟩:=hl j y v' e1 e2 e3
    refine ⟨u',r',?_⟩
    rcases q with q | ⟨k,c',e,z'⟩
    ·exact .inl q
    ·refine .inr ⟨k,c',e,z'.sameBut hs ?_⟩
     rintro rfl
     exact hj (pG hN e1 (I.ok.inj _ _ _ e hc ▸ hi))
  ·by_cases hcc:c'=c
   ·subst hcc;exact ⟨_,hc'⟩
   ·obtain ⟨w2,z2⟩:=I.cell y c' e
    exact ⟨w2,z2.sameBut hs hcc⟩
  ·obtain ⟨e,n,ne,nf,d⟩:=I.pin p hp
   refine ⟨(hs.2 p.1 ?_).trans e,n,ne,nf,d⟩
   intro q
   rw [q,hoc] at e
   have q':oc=p.2:=ZE e
   exact d w' (by rw [← q'];exact hocd)
theorem pT {M:Model} {A:Around} {E:Z8} {i:Nat} {x:Str} {v:V} {u:Value} {Q:Unit->Shared->Prop} (I:Inv X pins σ H s) (hN:X.N.Nodup) (hi:X.N[i]?=some x) (hx:Loc X.env.scope x) (r:RelV v u)
  (h:∀ s',Inv X pins (σ.set i (some v)) H s'->Q () s') (hf:X.fn x=true\/X.env.scope.names.lookup x=some .local:=by first | exact .inl rfl | exact .inr rfl | assumption):wpAny M A (storeName X.env x u) Q E s :=
 nO I hN hi hx r (fun s' I' _=>h s' I') hf
theorem Inv.call' {s':Shared} {ch:Xb} (I:Inv X pins σ H s) (ho:s'.os=s.os) (u:Un (frs X.stack) ch H H' s.heap s'.heap) (hok:HOk X.prog X.w H' s'.heap) (hg:AllBare s'.gens)
  (hch:∀ b∈ch,(b∈X.ex\/X.s₀.heap.objs.size<=b)/\b ≠ X.env.locals/\(∀ x c,X.env.cells.lookup x=some c->c ≠ b)/\∀ p∈X.pn++pins,p.1 ≠ b):Inv X pins σ H' s':=by
 obtain ⟨h',g',d',t',o'⟩:=s'
 have e:o'=s.os:=ho
 subst e
 exact I.call (g':=g') (t':=t') (d':=d') u hok hg hch
end
noncomputable abbrev XK:=Value->Option Addr->Hp->Prop
noncomputable abbrev St:=List (Option V)
noncomputable abbrev VK:=V->Hp->Prop
noncomputable abbrev TE:=St->Hp->VK->Prop
noncomputable abbrev TT:=St->Hp->(Bool->Hp->Prop)->Prop
noncomputable abbrev TA:=St->Hp->(List V->Hp->Prop)->Prop
structure Ends where
 nx:St->Hp->Prop
 rt:VK
 bk:St->Hp->Prop:=fun _ _=>False
 ct:St->Hp->Prop:=fun _ _=>False
noncomputable abbrev TS:=Ends->St->Hp->Prop
noncomputable def EP (X:Cx) (pins:Yo) (σ:St) (Q:VK) (u:Value) (s':Shared):Prop:=∃ v H',Inv X pins σ H' s'/\RelV v u/\Q v H'
noncomputable def TP (X:Cx) (pins:Yo) (σ:St) (Q:Bool->Hp->Prop) (b:Bool) (s':Shared):Prop:=∃ H',Inv X pins σ H' s'/\Q b H'
noncomputable def AP (X:Cx) (pins:Yo) (σ:St) (Q:List V->Hp->Prop) (us:X1) (s':Shared):Prop:=∃ vs H',Inv X pins σ H' s'/\aU vs us/\Q vs H'
noncomputable def SP (X:Cx) (pins:Yo) (D:Ends) (f:Flow) (s':Shared):Prop :=
 match f with
 | .next=>∃ σ' H',Inv X pins σ' H' s'/\D.nx σ' H'
 | .brk=>∃ σ' H',Inv X pins σ' H' s'/\D.bk σ' H'
 | .cont=>∃ σ' H',Inv X pins σ' H' s'/\D.ct σ' H'
 | .ret u=>∃ v σ' H',Inv X pins σ' H' s'/\RelV v u/\D.rt v H'
noncomputable def PE (X:Cx) (e:Expr) (t:TE):Prop :=
 ∀ (pins:Yo) (s:Shared) (σ:St) (H:Hp) (Q:VK),Inv X pins σ H s->t σ H Q->wpAny (model X.prog X.w) X.A (eval e X.env) (EP X pins σ Q) X.xe s
noncomputable def PT (X:Cx) (e:Expr) (t:TT):Prop :=
 ∀ (pins:Yo) (s:Shared) (σ:St) (H:Hp) (Q:Bool->Hp->Prop),Inv X pins σ H s->t σ H Q->wpAny (model X.prog X.w) X.A (isTrue e X.env (eval e X.env)) (TP X pins σ Q) X.xe s
noncomputable def PW (X:Cx) (e:Expr) (t:TT):Prop :=
 ∀ (whole:Sem Value) (pins:Yo) (s:Shared) (σ:St) (H:Hp) (Q:Bool->Hp->Prop),Inv X pins σ H s->t σ H Q->wpAny (model X.prog X.w) X.A (isTrue e X.env whole) (TP X pins σ Q) X.xe s
theorem PW.pt {X:Cx} {e:Expr} {t:TT} (h:PW X e t):PT X e t:=h _
noncomputable def PA (X:Cx) (es:List Expr) (t:TA):Prop :=
 ∀ (pos:Pos) (pins:Yo) (s:Shared) (σ:St) (H:Hp) (Q:List V->Hp->Prop),Inv X pins σ H s->t σ H Q->wpAny (model X.prog X.w) X.A (spliced (backTo pos (starEach es X.env))) (AP X pins σ Q) X.xe s
noncomputable def PS (X:Cx) (st:Stmt) (t:TS):Prop :=
 ∀ (pins:Yo) (s:Shared) (σ:St) (H:Hp) (D:Ends),Inv X pins σ H s->t D σ H->wpAny (model X.prog X.w) X.A (exec st X.env) (SP X pins D) X.xe s
noncomputable def PSs (X:Cx) (st:List Stmt) (t:TS):Prop :=
 ∀ (pins:Yo) (s:Shared) (σ:St) (H:Hp) (D:Ends),Inv X pins σ H s->t D σ H->wpAny (model X.prog X.w) X.A (execs st X.env) (SP X pins D) X.xe s
theorem thn {α:Type} {t:Sem α} {Q Q':α->Shared->Prop} {M:Model} {A:Around} {E:Z8} {s:Shared} (h:wpAny M A t Q E s) (hQ:∀ a s,Q a s->Q' a s):wpAny M A t Q' E s:=YY h hQ fun _ _ x=>x
section
variable {X:Cx}
noncomputable def uQ (i:Nat):TE:=fun σ H Q=>∃ v,σ[i]?=some (some v)/\Q v H
noncomputable def tC (v:V):TE:=fun _ H Q=>Q v H
theorem fW {i:Nat} {x:Str} {pos:Pos} (hN:X.N[i]?=some x) (hv:Vis X.env.scope x) (hd:(x == ("__debug__" : Str))=false:=by decide) (hcd:(x == ("__classdict__" : Str))=false:=by decide):PE X (.Name x pos) (uQ i):=by
 intro pins s σ H Q I h
 obtain ⟨v,e,h⟩:=h
 obtain ⟨m,hn,hl⟩:=I.loc
 obtain ⟨u,r,l⟩:=hl i x v hN e hv
 have fin:EP X pins σ Q u s:=⟨v,H,I,r,h⟩
 rcases l with ⟨hk,hm⟩ | ⟨hk,c,hc,hcell⟩
 ·exact wpAny_Name (wpAny_loadName_local I.ok.kind hk hn hm fin) hd
 ·rcases hk with hk | hk
  ·exact wpAny_Name (wpAny_loadName_cell I.ok.kind hk hc hcell fin) hd
  ·exact wpAny_Name (wpAny_loadName_free I.ok.kind hk hc hcell fin hcd) hd
theorem wB {i j pos}:PE X (.Constant (.int i) j pos) (tC (.int i)):=fun _ _ _ H _ I h=>wpAny_Constant_int ⟨.int i,H,I.tok _,⟨_,rfl⟩,h⟩
theorem EB {b j pos}:PE X (.Constant (.bool b) j pos) (tC (.bl b)):=fun _ _ _ H _ I h=>Constant_bool ⟨.bl b,H,I,rfl,h⟩
theorem yi {j pos}:PE X (.Constant .none j pos) (tC .non):=fun _ _ _ H _ I h=>Constant_none ⟨.non,H,I,rfl,h⟩
theorem wF {x j pos}:PE X (.Constant (.str x) j pos) (tC (.str x)):=fun _ _ _ H _ I h=>Calls.Constant_str ⟨.str x,H,I.tok _,⟨_,rfl⟩,h⟩
noncomputable def Gl (X:Cx) (x:Str):Prop:=X.env.kindOf x=some .globalImplicit
theorem sk {E:Z8} {pins:Yo} {s:Shared} {σ:St} {H:Hp} {x:Str} {u:Value} {pos:Pos} {Q:Z8} (I:Inv X pins σ H s) (hg:Gl X x) (hm:X.mg x=some u) (h:Q u s)
  (hd:(x == ("__debug__" : Str))=false:=by decide):wpAny (model X.prog X.w) X.A (eval (.Name x pos) X.env) Q E s :=
 Calls.Name_function_global I.ok.kind hg (Calls.loadGlobal_global (by rw [I.ok.glob];exact I.mod.glob.keeps I.bk) hm h) hd
theorem jE {E:Z8} {pins:Yo} {s:Shared} {σ:St} {H:Hp} {x:Str} {u:Value} {pos:Pos} {Q:Z8} (I:Inv X pins σ H s) (hg:Gl X x) (hm:X.mg x=none) (hv:bootBuiltins x=some u) (h:Q u s)
  (hn:x ≠ "__name__" := by decide) (hd:(x == ("__debug__" : Str))=false:=by decide):wpAny (model X.prog X.w) X.A (eval (.Name x pos) X.env) Q E s:=by
 obtain ⟨mb,h1,h2⟩:=I.mod.blt
 exact Calls.Name_function_global I.ok.kind hg (Calls.loadGlobal_builtin (by rw [I.ok.glob];exact I.mod.glob.keeps I.bk) hm (by rw [I.ok.blt];exact h1.keeps I.bk) ((h2 x hn).trans hv) h) hd
theorem zD {x:Str} {v:V} {u:Value} {pos:Pos} (hg:Gl X x) (hm:X.mg x=some u) (r:RelV v u) (hd:(x == ("__debug__" : Str))=false:=by decide):PE X (.Name x pos) (tC v) :=
 fun _ _ _ H _ I h=>sk I hg hm ⟨v,H,I,r,h⟩ hd
theorem zl {x:Str} {v:V} {u:Value} {pos:Pos} (hg:Gl X x) (hm:X.mg x=none) (hv:bootBuiltins x=some u) (r:RelV v u) (hn:x ≠ "__name__" := by decide) (hd:(x == ("__debug__" : Str))=false:=by decide):PE X (.Name x pos) (tC v) :=
 fun _ _ _ H _ I h=>jE I hg hm hv ⟨v,H,I,r,h⟩ hn hd
variable {a b:Expr} {ta tb:TE} {pos:Pos}
noncomputable def PC (X:Cx) (op:CmpOp) (a b:Expr) (t:TE):Prop :=
 ∀ (pins:Yo) (s:Shared) (σ:St) (H:Hp) (Q:VK),Inv X pins σ H s->t σ H Q →
  wpAny (model X.prog X.w) X.A (eval a X.env) (fun v s₁=>wpAny (model X.prog X.w) X.A (eval b X.env) (fun u s₂=>wpAny (model X.prog X.w) X.A (compareOp op v u) (EP X pins σ Q) X.xe s₂) X.xe s₁) X.xe s
theorem yu (b:Expr) {op:CmpOp} (h:op ≠ .In) (h2:op ≠ .NotIn):behindInMarks op b=false:=by
 have e1:(op == CmpOp.In)=false:=by cases op <;> first | rfl | exact absurd rfl h
 have e2:(op == CmpOp.NotIn)=false:=by cases op <;> first | rfl | exact absurd rfl h2
 cases b <;> simp [behindInMarks,e1,e2]
noncomputable def Ec (ta:TE):TE:=fun σ H Q=>ta σ H fun x H1=>Q (.bl (!decide (x=.non))) H1
theorem RelV.none_iff {x:V} {v:Value} (r:RelV x v):(v == Value.none)=decide (x=.non):=by
 cases x with
 | non=>cases r;rfl
 | bl _=>cases r;rfl
 | int _=>obtain ⟨t,rfl⟩:=r;rfl
 | str _=>obtain ⟨t,rfl⟩:=r;rfl
 | byt _=>obtain ⟨t,rfl⟩:=r;rfl
 | flt _=>obtain ⟨t,rfl⟩:=r;rfl
 | ref _=>cases r;rfl
 | ty _=>cases r;rfl
theorem Ac {j pos'} (ha:PE X a ta):PC X .IsNot a (.Constant .none j pos') (Ec ta):=by
 intro pins s σ H Q I h
 refine thn (ha pins s σ H _ I h) fun v s1 ⟨x,H1,I1,r1,q1⟩=>?_
 exact Constant_none (isnot_none_gen ⟨.bl _,H1,I1,by rw [r1.none_iff];rfl,q1⟩)
noncomputable def tB (t:TE):TT:=fun σ H Q=>t σ H fun x H1=>∃ c,x=.bl c/\Q c H1
theorem CS {op:CmpOp} {t:TE} (h:PC X op a b t) (h1:behindInMarks op b=false:=by first | exact yu _ (by decide) (by decide) | rfl):PT X (.Compare a [op] [b] pos) (tB t):=by
 intro pins s σ H Q I hw
 refine wpAny_isTrue_Compare1 (thn (h pins s σ H _ I hw) fun v s1 h1=>thn h1 fun u s2 h2=>thn h2 fun c s3 ⟨x,H1,I1,r1,q1⟩=>?_) h1
 obtain ⟨d,rfl,q⟩:=q1
 cases r1
 exact Ye ⟨H1,I1,q⟩
variable {tA tB':TT} {rest:List Expr}
noncomputable def Gg (t u:TT):TT:=fun σ H Q=>t σ H fun c H1=>if c=true then u σ H1 Q else Q false H1
noncomputable def tOr (t u:TT):TT:=fun σ H Q=>t σ H fun c H1=>if c=true then Q true H1 else u σ H1 Q
noncomputable def Gf (t:TT):TT:=fun σ H Q=>t σ H fun c H1=>Q (!c) H1
theorem As (ha:PT X a tA):PW X (.BoolOp .And [a] pos) tA:=by
 intro wh pins s σ H Q I h
 refine isTrue_and (thn (ha pins s σ H Q I h) fun c s1 e=>?_)
 cases c with
 | true=>exact isTrue_and_nil e
 | false=>exact e
theorem BN (ha:PT X a tA):PW X (.BoolOp .Or [a] pos) tA:=by
 intro wh pins s σ H Q I h
 refine isTrue_or (thn (ha pins s σ H Q I h) fun c s1 e=>?_)
 cases c with
 | false=>exact isTrue_or_nil e
 | true=>exact e
theorem CW (ha:PT X a tA) (hb:PW X (.BoolOp .And (b :: rest) pos) tB'):PW X (.BoolOp .And (a :: b :: rest) pos) (Gg tA tB'):=by
 intro wh pins s σ H Q I h
 refine isTrue_and (thn (ha pins s σ H _ I h) fun c s1 ⟨H1,I1,q1⟩=>?_)
 cases c with
 | true=>exact hb wh pins s1 σ H1 Q I1 q1
 | false=>exact ⟨H1,I1,q1⟩
theorem Ek (ha:PT X a tA) (hb:PW X (.BoolOp .Or (b :: rest) pos) tB'):PW X (.BoolOp .Or (a :: b :: rest) pos) (tOr tA tB'):=by
 intro wh pins s σ H Q I h
 refine isTrue_or (thn (ha pins s σ H _ I h) fun c s1 ⟨H1,I1,q1⟩=>?_)
 cases c with
 | true=>exact ⟨H1,I1,q1⟩
 | false=>exact hb wh pins s1 σ H1 Q I1 q1
theorem Dl (ha:PT X a tA):PT X (.UnaryOp .Not a pos) (Gf tA):=by
 intro pins s σ H Q I h
 exact isTrue_not (ha pins s σ H (fun c H1=>Q (!c) H1) I h)
noncomputable def D9 (ta tb:TE):TE:=fun σ H Q=>ta σ H fun x H1=>∃ c,x=.bl c/\if c=true then tb σ H1 Q else Q (.bl false) H1
noncomputable def DY (ta:TE):TE:=fun σ H Q=>ta σ H fun x H1=>∃ c,x=.bl c/\Q (.bl (!c)) H1
theorem CB {op} {t:TE} (h:PE X a t):PE X (.BoolOp op [a] pos) t:=fun pins s σ H Q I hw=>BoolOp_one (h pins s σ H Q I hw)
theorem Cf (ha:PE X a ta) (hb:PE X (.BoolOp .And (b :: rest) pos) tb):PE X (.BoolOp .And (a :: b :: rest) pos) (D9 ta tb):=by
 intro pins s σ H Q I h
 refine BoolOp_and (thn (ha pins s σ H _ I h) fun v s1 ⟨x,H1,I1,r1,q1⟩=>?_)
 obtain ⟨c,rfl,q1⟩:=q1
 cases r1
 refine Ye ?_
 cases c with
 | true=>exact hb pins s1 σ H1 Q I1 q1
 | false=>exact ⟨.bl false,H1,I1,rfl,q1⟩
theorem CU (ha:PE X a ta):PE X (.UnaryOp .Not a pos) (DY ta):=by
 intro pins s σ H Q I h
 refine UnaryOp_ (thn (ha pins s σ H _ I h) fun v s1 ⟨x,H1,I1,r1,q1⟩=>?_)
 obtain ⟨c,rfl,q1⟩:=q1
 cases r1
 exact not_of (Ye ⟨.bl (!c),H1,I1,rfl,q1⟩)
noncomputable def tIf (t:TT) (ta tb:TE):TE:=fun σ H Q=>t σ H fun c H1=>if c=true then ta σ H1 Q else tb σ H1 Q
theorem wz {c:Expr} (hc:PT X c tA) (ha:PE X a ta) (hb:PE X b tb):PE X (.IfExp c a b pos) (tIf tA ta tb):=by
 intro pins s σ H Q I h
 refine wpAny_IfExp (thn (hc pins s σ H _ I h) fun d s1 ⟨H1,I1,q1⟩=>?_)
 cases d with
 | true=>exact ha pins s1 σ H1 Q I1 q1
 | false=>exact hb pins s1 σ H1 Q I1 q1
end
noncomputable def SqL (K:Y1) (H:Hp) (a:Addr) (xs:List V):Prop :=
 Rd H a (.lst xs) ∨
  ∃ (o:Obj) (its:Array Value) (n:Nat),K.lookup a=some o/\o.cls=.type "list" ∧ o.dict=none/\o.data=.seq its n/\its.size<=sizeLine/\aU xs its.toList
noncomputable def SqT (K:Y1) (H:Hp) (a:Addr) (xs:List V):Prop :=
 Rd H a (.tup xs) ∨
  ∃ (o:Obj) (its:Array Value) (n:Nat),K.lookup a=some o/\o.cls=.type "tuple" ∧ o.data=.seq its n/\its.size<=sizeLine/\aU xs its.toList
noncomputable def FZ:Value->Option V
 | .none=>some .non
 | .bool b=>some (.bl b)
 | .int i _=>some (.int i)
 | .str x _=>some (.str x)
 | .bytes b _=>some (.byt b)
 | .float b _=>some (.flt b)
 | .ref a=>some (.ref a)
 | .type n=>some (.ty n)
 | _=>none
theorem RelV.abs {x:V} {u:Value} (r:RelV x u):FZ u=some x:=by
 cases x with
 | non=>cases r;rfl
 | bl _=>cases r;rfl
 | int _=>obtain ⟨t,rfl⟩:=r;rfl
 | str _=>obtain ⟨t,rfl⟩:=r;rfl
 | byt _=>obtain ⟨t,rfl⟩:=r;rfl
 | flt _=>obtain ⟨t,rfl⟩:=r;rfl
 | ref _=>cases r;rfl
 | ty _=>cases r;rfl
theorem RelV.inj {x y:V} {u:Value} (r:RelV x u) (q:RelV y u):x=y:=ZE (r.abs.symm.trans q.abs)
theorem aU.inj:∀ {xs ys:List V} {us:X1},aU xs us->aU ys us->xs=ys
 | _,_,_,.nil,.nil=>rfl
 | _,_,_,.cons r t,.cons r' t'=>by rw [r.inj r',aU.inj t t']
section
variable {X:Cx} {pins:Yo} {σ:St} {H:Hp} {s:Shared} {a:Addr} {xs ys:List V}
theorem SqL.of {K:Y1} (h:H a=some (.lst xs)):SqL K H a xs:=.inl (.inl h)
theorem SqT.of {K:Y1} (h:H a=some (.tup xs)):SqT K H a xs:=.inl (.inl h)
theorem Inv.list (I:Inv X pins σ H s) (h:SqL X.K H a xs):∃ its:X1,aU xs its/\PlainL s.heap a its.toArray/\xs.length<=sizeLine:=by
 rcases h with h | ⟨o,its,n,hk,hc,hd,hs,hz,r⟩
 ·obtain ⟨z,its,n,r,e⟩:=h.ok I.hok
  exact ⟨its,r,⟨_,n,e,rfl,rfl,rfl⟩,z⟩
 ·refine ⟨its.toList,r,⟨o,n,I.kIn a o hk,hc,hd,by simpa using hs⟩,?_⟩
  have e:=r.length
  simp only [YZ] at e
  lia
theorem Inv.tuple (I:Inv X pins σ H s) (h:SqT X.K H a xs):∃ its:X1,aU xs its/\IsTup s.heap a its.toArray/\xs.length<=sizeLine:=by
 rcases h with h | ⟨o,its,n,hk,hc,hs,hz,r⟩
 ·obtain ⟨z,its,r,_,p⟩:=h.ok I.hok
  exact ⟨its,r,p,z⟩
 ·refine ⟨its.toList,r,⟨o,I.kIn a o hk,hc,n,by simpa using hs⟩,?_⟩
  have e:=r.length
  simp only [YZ] at e
  lia
theorem Inv.list_inj (I:Inv X pins σ H s) (h:SqL X.K H a xs) (h':SqL X.K H a ys):xs=ys:=by
 obtain ⟨its,r,⟨o,n,e,_,_,d⟩,_⟩:=I.list h
 obtain ⟨its',r',⟨o',n',e',_,_,d'⟩,_⟩:=I.list h'
 rw [e] at e';cases e'
 rw [d] at d'
 injection d' with d1 _
 have:its=its':=by simpa using congrArg Array.toList d1
 subst this
 exact r.inj r'
theorem Inv.tuple_inj (I:Inv X pins σ H s) (h:SqT X.K H a xs) (h':SqT X.K H a ys):xs=ys:=by
 obtain ⟨its,r,⟨o,e,_,n,d⟩,_⟩:=I.tuple h
 obtain ⟨its',r',⟨o',e',_,n',d'⟩,_⟩:=I.tuple h'
 rw [e] at e';cases e'
 rw [d] at d'
 injection d' with d1 _
 have:its=its':=by simpa using congrArg Array.toList d1
 subst this
 exact r.inj r'
end
noncomputable abbrev Cx.wish (X:Cx) (E:Z8):Cx:={ X with xe:=E }
noncomputable abbrev Cx.nox (X:Cx):Cx:=X.wish fun _ _=>False
theorem Cx.Ok.wish {X:Cx} (ok:X.Ok) (E:Z8):(X.wish E).Ok :=
 ⟨ok.mod,ok.kind,ok.glob,ok.blt,ok.above,ok.inj,ok.has,ok.cab,ok.hd,ok.frames,ok.stk,ok.exf,ok.bs,ok.bsz,ok.noex,ok.exfs,ok.funs,ok.frf⟩
theorem Cx.Ok.unwish {X:Cx} {E:Z8} (ok:(X.wish E).Ok):X.Ok :=
 ⟨ok.mod,ok.kind,ok.glob,ok.blt,ok.above,ok.inj,ok.has,ok.cab,ok.hd,ok.frames,ok.stk,ok.exf,ok.bs,ok.bsz,ok.noex,ok.exfs,ok.funs,ok.frf⟩
section
variable {X:Cx} {pins:Yo} {σ:St} {H:Hp} {s:Shared} {E:Z8}
theorem Inv.wish (I:Inv X pins σ H s) (E:Z8):Inv (X.wish E) pins σ H s:=⟨I.ok.wish E,I.os,I.bare,I.base,I.loc,I.cell,I.free,I.freeC,I.pin,I.hok,I.len⟩
theorem Inv.unwish (I:Inv (X.wish E) pins σ H s):Inv X pins σ H s:=⟨I.ok.unwish,I.os,I.bare,I.base,I.loc,I.cell,I.free,I.freeC,I.pin,I.hok,I.len⟩
theorem SP.unwish {D:Ends} {f:Flow} {s':Shared} (h:SP (X.wish E) pins D f s'):SP X pins D f s':=by
 cases f with
 | next=>obtain ⟨σ',H',I,q⟩:=h;exact ⟨σ',H',I.unwish,q⟩
 | brk=>obtain ⟨σ',H',I,q⟩:=h;exact ⟨σ',H',I.unwish,q⟩
 | cont=>obtain ⟨σ',H',I,q⟩:=h;exact ⟨σ',H',I.unwish,q⟩
 | ret u=>obtain ⟨v,σ',H',I,r,q⟩:=h;exact ⟨v,σ',H',I.unwish,r,q⟩
theorem PSs.nox {st:List Stmt} {t:TS} (h:PSs X.nox st t):PSs X st t:=fun pins s σ H D I hw =>
 YY (h pins s σ H D (I.wish _) hw) (fun _ _ q=>q.unwish) fun _ _ z=>False.elim z
end
section
variable {X:Cx} {st:Stmt} {rest:List Stmt} {t u:TS} {e:Expr} {te:TE} {pos:Pos}
noncomputable def EV:TS:=fun D σ H=>D.nx σ H
noncomputable def FK (t u:TS):TS:=fun D σ H=>t { D with nx:=u D } σ H
theorem zy:PSs X [] EV:=fun _ _ σ H _ I h=>WA ⟨σ,H,I,h⟩
theorem xA (h1:PS X st t) (h2:PSs X rest u):PSs X (st :: rest) (FK t u):=by
 intro pins s σ H D I h
 refine wpAny_execs_cons (thn (h1 pins s σ H { D with nx:=u D } I h) fun f s1 q=>?_)
 cases f with
 | next =>
  obtain ⟨σ',H',I',q⟩:=q
  exact h2 pins s1 σ' H' D I' q
 | ret v=>exact q
 | brk=>exact q
 | cont=>exact q
theorem AR (h1:PS X st t):PSs X [st] t:=by
 intro pins s σ H D I h
 refine wpAny_execs_cons (thn (h1 pins s σ H D I h) fun f s1 q=>?_)
 cases f with
 | next=>exact WA q
 | ret v=>exact q
 | brk=>exact q
 | cont=>exact q
theorem Inv.quiet {pins:Yo} {σ:St} {H:Hp} {s:Shared} (I:Inv X pins σ H s):interactive X.env=false:=by simp [interactive,I.ok.kind]
noncomputable def Fb (te:TE):TS:=fun D σ H=>te σ H fun _ H1=>D.nx σ H1
theorem j3 (he:PE X e te) (hs:swapsWith e none pos.line X.env=pure false:=by rfl):PS X (.Expr e pos) (Fb te):=by
 intro pins s σ H D I h
 exact wpAny_Expr_any (thn (he pins s σ H _ I h) fun v s1 ⟨x,H1,I1,r1,q1⟩=>⟨σ,H1,I1,q1⟩) I.quiet hs
noncomputable def F8 (te:TE):TS:=fun D σ H=>te σ H D.rt
theorem rJ (he:PE X e te):PS X (.Return (some e) pos) (F8 te):=by
 intro pins s σ H D I h
 exact wpAny_Return_some (thn (he pins s σ H _ I h) fun v s1 ⟨x,H1,I1,r1,q1⟩=>⟨x,σ,H1,I1,r1,q1⟩)
noncomputable def FT (c:TT) (t u:TS):TS:=fun D σ H=>c σ H fun b H1=>if b=true then t D σ H1 else u D σ H1
theorem D1 {c:Expr} {a b:List Stmt} {tc:TT} (hc:PT X c tc) (ha:PSs X a t) (hb:PSs X b u):PS X (.If c a b pos) (FT tc t u):=by
 intro pins s σ H D I h
 refine wpAny_If (thn (hc pins s σ H _ I h) fun d s1 ⟨H1,I1,q1⟩=>?_)
 cases d with
 | true=>exact ha pins s1 σ H1 D I1 q1
 | false=>exact hb pins s1 σ H1 D I1 q1
end
noncomputable abbrev TG:=V->St->Hp->(St->Hp->Prop)->Prop
noncomputable abbrev TGs:=List V->St->Hp->(St->Hp->Prop)->Prop
noncomputable def PG (X:Cx) (target:Expr) (t:TG):Prop :=
 ∀ (pins:Yo) (s:Shared) (σ:St) (H:Hp) (v:V) (u:Value) (Q:St->Hp->Prop),Inv X pins σ H s->RelV v u->t v σ H Q →
  wpAny (model X.prog X.w) X.A (assign target X.env u) (fun _ s'=>∃ σ' H',Inv X pins σ' H' s'/\Q σ' H') X.xe s
noncomputable def PGs (X:Cx) (ts:List Expr) (t:TGs):Prop :=
 ∀ (pins:Yo) (s:Shared) (σ:St) (H:Hp) (vs:List V) (us:X1) (Q:St->Hp->Prop),Inv X pins σ H s->aU vs us->t vs σ H Q →
  wpAny (model X.prog X.w) X.A (assignInOrder ((assignEach ts X.env).map (·.2)) us) (fun _ s'=>∃ σ' H',Inv X pins σ' H' s'/\Q σ' H') X.xe s
noncomputable abbrev Bl:=V->V->V->Hp->(Hp->Prop)->Prop
noncomputable def Di (X:Cx) (t:Bl):Prop :=
 ∀ (pins:Yo) (s:Shared) (σ:St) (H:Hp) (o i v:V) (ov iv u:Value) (Q:Hp->Prop),Inv X pins σ H s->RelV o ov->RelV i iv->RelV v u->t o i v H Q →
  wpAny (model X.prog X.w) X.A (setItem ov iv u) (fun _ s'=>∃ H',Inv X pins σ H' s'/\Q H') X.xe s
section
variable {X:Cx} {pos:Pos}
noncomputable def tQ (i:Nat):TG:=fun v σ H Q=>Q (σ.set i (some v)) H
theorem tJ {i:Nat} {x:Str} (hN:X.N.Nodup) (hi:X.N[i]?=some x) (hx:Loc X.env.scope x) (hf:X.fn x=true\/X.env.scope.names.lookup x=some .local:=by first | exact .inl rfl | exact .inr rfl | assumption):PG X (.Name x pos) (tQ i):=by
 intro pins s σ H v u Q I r h
 exact wpAny_assign_Name (pT I hN hi hx r (fun s' I'=>⟨_,H,I',h⟩) hf)
noncomputable def FS:TGs:=fun vs σ H Q=>vs=[]/\Q σ H
noncomputable def E1 (t:TG) (u:TGs):TGs:=fun vs σ H Q=>∃ v r,vs=v :: r/\t v σ H fun σ' H'=>u r σ' H' Q
theorem zS:PGs X [] FS:=by
 intro pins s σ H vs us Q I r h
 obtain ⟨e,h⟩:=h
 subst e
 cases r
 exact assignInOrder_nil ⟨σ,H,I,h⟩
theorem xx {e:Expr} {es:List Expr} {t:TG} {u:TGs} (h1:PG X e t) (h2:PGs X es u)
  (hs:(assignEach (e :: es) X.env).map (·.2)=assign e X.env :: (assignEach es X.env).map (·.2):=by rfl):PGs X (e :: es) (E1 t u):=by
 intro pins s σ H vs us Q I r h
 obtain ⟨v,vr,e1,h⟩:=h
 subst e1
 cases r with
 | cons r rr =>
  rw [hs]
  refine assignInOrder_cons (thn (h1 pins s σ H _ _ _ I r h) fun _ s1 ⟨σ1,H1,I1,q1⟩=>?_)
  exact h2 pins s1 σ1 H1 _ _ Q I1 rr q1
noncomputable def j4 (K:Y1) (n:Nat) (t:TGs):TG:=fun v σ H Q=>∃ a xs,v=.ref a/\SqT K H a xs/\xs.length=n/\t xs σ H Q
theorem Cp {es:List Expr} {k:Nat} {t:TGs} {n:Nat} (hc:X.calm=true) (h:PGs X es t)
  (hn:(assignEach es X.env).length=n:=by rfl) (hst:(assignEach es X.env).findIdx? (·.1)=none:=by rfl):PG X (.Tuple es k pos) (j4 X.K n t):=by
 intro pins s σ H v u Q I r hw
 obtain ⟨a,xs,e1,hq,hl,hw⟩:=hw
 subst e1
 cases r
 obtain ⟨its,rv,ht,hz⟩:=I.tuple hq
 refine assign_Tuple_tuple (I.ok.hd hc) ht (by simp [hn,← hl,rv.length]) hst fun h' hx=>?_
 have I1:Inv X pins σ H { s with heap:=h' }:=I.kept (t':=s.toks) fun b o e=>hx b o (ZR (ZZ e)) e
 exact h pins _ σ H xs _ Q I1 (by simpa using rv) hw
noncomputable def Gd (to ti:TE) (t:Bl):TG:=fun v σ H Q=>to σ H fun o H1=>ti σ H1 fun i H2=>t o i v H2 fun H3=>Q σ H3
theorem Dh {o i:Expr} {to ti:TE} {t:Bl} (ho:PE X o to) (hi:PE X i ti) (hs:Di X t)
  (ha:∀ v,assign (.Subscript o i pos) X.env v=(do
   let ov ← holding [v] (eval o X.env)
   let iv ← holding [v,ov] (eval i X.env)
   standAt pos
   holding [v,ov,iv] (setItem ov iv v)
   release [v,ov,iv] []):=by intro _;rfl):PG X (.Subscript o i pos) (Gd to ti t):=by
 intro pins s σ H v u Q I r h
 rw [ha]
 refine Zy (YS (thn (ho pins s σ H _ I h) fun ov s1 ⟨x,H1,I1,r1,q1⟩=>?_))
 refine Zy (YS (thn (hi pins s1 σ H1 _ I1 q1) fun iv s2 ⟨y,H2,I2,r2,q2⟩=>?_))
 refine Zy (wpAny_standAt (Zy (YS (thn (hs pins s2 σ H2 x y v ov iv u _ I2 r1 r2 r q2) fun _ s3 ⟨H3,I3,q3⟩=>?_))))
 exact wpAny_release ⟨σ,H3,I3,q3⟩
noncomputable def DT (te:TE) (g:TG):TS:=fun D σ H=>te σ H fun x H1=>g x σ H1 D.nx
theorem DE {tg e:Expr} {te:TE} {g:TG} (he:PE X e te) (hg:PG X tg g) (hs:swapsWithSole [tg] e pos.line X.env=pure false:=by rfl) (hw:swappedStores [tg] e X.env=pure none:=by rfl)
  (h1:(assignEach [tg] X.env).map (·.2)=[assign tg X.env]:=by rfl):PS X (.Assign [tg] e pos) (DT te g):=by
 intro pins s σ H D I h
 refine wpAny_Assign_stores (thn (he pins s σ H _ I h) fun v s1 ⟨x,H1,I1,r1,q1⟩=>?_) hs hw
 rw [h1]
 exact thn (hg pins s1 σ H1 x v _ I1 r1 q1) fun _ s2 q=>q
theorem vZ {i:Nat} {x:Str} {e:Expr} {te:TE} {pos':Pos} (hN:X.N.Nodup) (hi:X.N[i]?=some x) (hx:Loc X.env.scope x) (he:PE X e te) (hs:swapsWith e (some (.Name x pos')) pos.line X.env=pure false:=by rfl) (hf:X.fn x=true\/X.env.scope.names.lookup x=some .local:=by first | exact .inl rfl | exact .inr rfl | assumption) :
  PS X (.Assign [.Name x pos'] e pos) (DT te (tQ i)):=by
 intro pins s σ H D I h
 refine wpAny_Assign_Name (thn (he pins s σ H _ I h) fun v s1 ⟨y,H1,I1,r1,q1⟩=>?_) hs
 exact pT I1 hN hi hx r1 (fun s2 I2=>⟨_,H1,I2,q1⟩) hf
end
section
variable {X:Cx} {pos:Pos}
noncomputable def Cn (c:TT) (tb:TS):TS:=fun D σ H=>∃ W:Nat->St->Hp->Prop,(∃ m,W m σ H)/\∀ m σ H,W m σ H →
 c σ H fun b H1=>if b=true then ∃ N:St->Hp->Prop,(∀ σ' H',N σ' H'->∃ m',m' < m/\W m' σ' H')/\tb { D with nx:=N,ct:=N,bk:=D.nx } σ H1 else D.nx σ H1
theorem wU {c:Expr} {body:List Stmt} {tc:TT} {tb:TS} (hp:PassesOwn (model X.prog X.w) X.A X.env X.xe) (hc:PT X c tc) (hb:PSs X body tb):PS X (.While c body [] pos) (Cn tc tb):=by
 intro pins s σ H D I h
 obtain ⟨W,⟨m0,w0⟩,turn⟩:=h
 refine wpAny_While (codeAny_whileLoop (fun n s'=>∃ σ' H',Inv X pins σ' H' s'/\W n σ' H') ?_ m0 ⟨σ,H,I,w0⟩)
 rintro n s1 ⟨σ1,H1,I1,w1⟩
 refine Xg hp (thn (hc pins s1 σ1 H1 _ I1 (turn n σ1 H1 w1)) fun b s2 ⟨H2,I2,q2⟩=>?_)
 cases b with
 | true =>
  obtain ⟨N,hN,q2⟩:=q2
  rw [Zr rfl]
  refine Xg hp (thn (hb pins s2 σ1 H2 _ I2 q2) fun f s3 q3=>?_)
  cases f with
  | next =>
   obtain ⟨σ3,H3,I3,n3⟩:=q3
   obtain ⟨m',hm,w3⟩:=hN σ3 H3 n3
   exact ⟨m',hm,σ3,H3,I3,w3⟩
  | cont =>
   obtain ⟨σ3,H3,I3,n3⟩:=q3
   obtain ⟨m',hm,w3⟩:=hN σ3 H3 n3
   exact ⟨m',hm,σ3,H3,I3,w3⟩
  | brk=>exact q3
  | ret v=>exact q3
 | false =>
  rw [Zq Zh]
  exact WA ⟨σ1,H2,I2,q2⟩
end
structure It where
 go:Nat->Hp->Prop
 yld:Nat->Hp->V->Hp->Prop
 stop:Nat->Hp->Prop
noncomputable def jB (X:Cx) (pins:Yo) (H:Hp) (b:Addr):Prop :=
 H b=none/\b ≠ X.env.locals/\b ∉ X.fs/\(b∈X.ex\/X.s₀.heap.objs.size<=b)/\(∀ x c,X.env.cells.lookup x=some c->c ≠ b)/\∀ p∈X.pn++pins,p.1 ≠ b
theorem Inv.fpOk {X:Cx} {pins:Yo} {σ:St} {H H':Hp} {s:Shared} {b:Addr} (I:Inv X pins σ H s) (hb:s.heap.objs.size<=b) (hn:H' b=none):jB X pins H' b:=by
 refine ⟨hn,W9 (Z1 I.lt hb),I.nofs hb,.inr (ZV I.sz hb),fun x c e z=>?_,fun p hp z=>?_⟩
 ·obtain ⟨v,q⟩:=I.cell x c e
  exact absurd (Z1 q.lt (by rw [z];exact hb)) (YH _)
 ·exact absurd (Z1 (ZZ (I.pin p hp).1) (by rw [z];exact hb)) (YH _)
structure Turn (P:Program) (w:World) (K:Y1) (tg:Expr) (J:It) (fp:Xb) (it:Addr) (tn:Nat->Heap->Prop):Prop where
 mem:it∈fp
 obj:∀ i h,tn i h->∀ b∈fp,∃ o,h.get? b=some o/\∀ v,o.data ≠ .cell v
 keep:∀ i h h',tn i h->(∀ b∈fp,∀ o,h.get? b=some o->h'.get? b=some o)->tn i h'
 item:∀ (X:Cx),X.prog=P->X.w=w->X.K=K->X.calm=true->∀ (i:Nat) (pins:Yo) (s:Shared) (σ:St) (H:Hp) (E:Z8),Inv X pins σ H s->(∀ b∈fp,jB X pins H b)->tn i s.heap->J.go i H →
  wpAny (model P w) X.A (pyNext (.ref it)) (fun r s1=>∃ u,r=some u ∧
   wpAny (model P w) X.A (letOwnedTupleGo tg (.ref it) u) (fun _ s2=>∃ x H',Inv X pins σ H' s2/\RelV x u/\J.yld i H x H'/\tn (i+1) s2.heap/\∀ b∈fp,H' b=none) E s1) E s
 done:∀ (X:Cx),X.prog=P->X.w=w->X.K=K->X.calm=true->∀ (i:Nat) (pins:Yo) (s:Shared) (σ:St) (H:Hp) (E:Z8),Inv X pins σ H s->(∀ b∈fp,jB X pins H b)->tn i s.heap->J.stop i H →
  wpAny (model P w) X.A (pyNext (.ref it)) (fun r s1=>r=none/\Inv X pins σ H s1) E s
 self:∀ (A:Around) (i:Nat) (s:Shared) (Q:Z8) (E:Z8),tn i s.heap->Q (.ref it) s->wpAny (model P w) A (pyIter (.ref it)) Q E s
noncomputable abbrev TI:=St->Hp->(It->Hp->Prop)->Prop
noncomputable def PIE (X:Cx) (pins:Yo) (σ:St) (tg:Expr) (R:It->Hp->Prop) (itv:Value) (s2:Shared):Prop :=
 ∃ (it:Addr) (fp:Xb) (tn:Nat->Heap->Prop) (J:It) (H':Hp),itv=.ref it/\Inv X pins σ H' s2/\Turn X.prog X.w X.K tg J fp it tn/\tn 0 s2.heap/\(∀ b∈fp,jB X pins H' b)/\R J H'
noncomputable def PI (X:Cx) (tg iter:Expr) (wi:TI):Prop :=
 ∀ (pins:Yo) (s:Shared) (σ:St) (H:Hp) (R:It->Hp->Prop),Inv X pins σ H s->wi σ H R →
  wpAny (model X.prog X.w) X.A (eval iter X.env) (fun v s1=>wpAny (model X.prog X.w) X.A (pyIter v) (PIE X pins σ tg R) X.xe s1) X.xe s
theorem qb {M:Model} {A:Around} {E:Z8} {s:Shared} {tg:Expr} {it:Addr} {u:Value} {o:Obj} {n:String} {vs:Array Value} {Q:Unit->Shared->Prop} (ho:s.heap.get? it=some o) (hc:o.cls=.type n) (hd:o.data=.fields vs)
  (hn:["enumerate", "zip", "dict_itemiterator", "dict_reverseitemiterator", "odict_iterator", "itertools.zip_longest", "itertools.pairwise"].contains n=false) (hQ:Q () s):wpAny M A (letOwnedTupleGo tg (.ref it) u) Q E s:=by
 unfold letOwnedTupleGo
 cases tg <;> first
  | exact Zs hQ
  | (cases u <;> first
    | exact Zs hQ
    | (refine Zy (wpAny_load ho ?_)
       rw [hc,hd]
       show wpAny M A (if (["enumerate", "zip", "dict_itemiterator", "dict_reverseitemiterator", "odict_iterator", "itertools.zip_longest", "itertools.pairwise"].contains n && vs[0]? == some (rawInt _))=true then _ else _) Q E s
       rw [Zq (by intro h;rw [hn,Bool.false_and] at h;cases h)]
       exact Zs hQ))
noncomputable def Itl (K:Y1) (a:Addr):It :=
 ⟨fun i H=>∃ xs x,SqL K H a xs/\xs[i]?=some x,fun i H x H'=>H'=H/\∀ xs,SqL K H a xs->xs[i]?=some x,fun i H=>∃ xs,SqL K H a xs/\xs.length<=i⟩
noncomputable def Itt (K:Y1) (a:Addr):It :=
 ⟨fun i H=>∃ xs x,SqT K H a xs/\xs[i]?=some x,fun i H x H'=>H'=H/\∀ xs,SqT K H a xs->xs[i]?=some x,fun i H=>∃ xs,SqT K H a xs/\xs.length<=i⟩
noncomputable def Itr (lo:Int) (n:Nat):It:=⟨fun i _=>i < n,fun i H x H'=>H'=H/\x=.int (lo+i),fun i _=>n<=i⟩
theorem va {P:Program} {w:World} {K:Y1} {tg:Expr} (a it:Addr):Turn P w K tg (Itl K a) [it] it (fun i h=>h.IsListIter it a i) where
 mem:=by simp
 obj:=fun i h st b hb=>by
  have e:b=it:=by simpa using hb
  subst e
  obtain ⟨o,e,c,d⟩:=st
  exact ⟨o,e,fun v z=>by rw [d] at z;cases z⟩
 keep:=fun i h h' st k=>st.at fun o e=>k it (by simp) o e
 item:=by
  intro X hP hw hK hc i pins s σ H E I hf st hg
  subst hP hw hK
  obtain ⟨xs,x,hq,hx⟩:=hg
  obtain ⟨its,rv,p,hz⟩:=I.list hq
  obtain ⟨u,hu,ru⟩:=rv.get hx
  obtain ⟨f0,f1,f2,f3,f4,f5⟩:=hf it (by simp)
  refine wpAny_pyNext_list_item st p.isList (x:=u) (by simpa using hu) fun h' st' sb=>?_
  have I1:Inv X pins σ H { s with heap:=h' }:=I.turned (t':=s.toks) (fun b o hb e=>(sb.2 b hb).trans e) f0 f1 f3 f4 f5
  obtain ⟨o,e,c,d⟩:=id st'
  exact ⟨u,rfl,qb (s:={ s with heap:=h' }) e c d (by decide) ⟨x,H,I1,ru,⟨rfl,fun ys hy=>by rw [I.list_inj hy hq];exact hx⟩,st',fun b hb=>(hf b hb).1⟩⟩
 done:=by
  intro X hP hw hK hc i pins s σ H E I hf st hg
  subst hP hw hK
  obtain ⟨xs,hq,hx⟩:=hg
  obtain ⟨its,rv,p,hz⟩:=I.list hq
  obtain ⟨f0,f1,f2,f3,f4,f5⟩:=hf it (by simp)
  have hl:=rv.length
  exact wpAny_pyNext_list_end (I.ok.hd hc) st p.isList (by simp;lia) fun h' eb=>⟨rfl,I.turned (t':=s.toks) (fun b o hb e=>eb b o hb e) f0 f1 f3 f4 f5⟩
 self:=fun _ _ _ _ _ st h=>wpAny_pyIter_listiter st h
theorem rB {P:Program} {w:World} {K:Y1} {tg:Expr} (a it:Addr):Turn P w K tg (Itt K a) [it] it (fun i h=>h.IsTupleIter it a i) where
 mem:=by simp
 obj:=fun i h st b hb=>by
  have e:b=it:=by simpa using hb
  subst e
  obtain ⟨o,e,c,d⟩:=st
  exact ⟨o,e,fun v z=>by rw [d] at z;cases z⟩
 keep:=fun i h h' st k=>st.at fun o e=>k it (by simp) o e
 item:=by
  intro X hP hw hK hc i pins s σ H E I hf st hg
  subst hP hw hK
  obtain ⟨xs,x,hq,hx⟩:=hg
  obtain ⟨its,rv,p,hz⟩:=I.tuple hq
  obtain ⟨u,hu,ru⟩:=rv.get hx
  obtain ⟨f0,f1,f2,f3,f4,f5⟩:=hf it (by simp)
  refine wpAny_pyNext_tuple_item st (show s.heap.IsTuple a its.toArray from p) (x:=u) (by simpa using hu) fun h' st' sb=>?_
  have I1:Inv X pins σ H { s with heap:=h' }:=I.turned (t':=s.toks) (fun b o hb e=>(sb.2 b hb).trans e) f0 f1 f3 f4 f5
  obtain ⟨o,e,c,d⟩:=id st'
  exact ⟨u,rfl,qb (s:={ s with heap:=h' }) e c d (by decide) ⟨x,H,I1,ru,⟨rfl,fun ys hy=>by rw [I.tuple_inj hy hq];exact hx⟩,st',fun b hb=>(hf b hb).1⟩⟩
 done:=by
  intro X hP hw hK hc i pins s σ H E I hf st hg
  subst hP hw hK
  obtain ⟨xs,hq,hx⟩:=hg
  obtain ⟨its,rv,p,hz⟩:=I.tuple hq
  obtain ⟨f0,f1,f2,f3,f4,f5⟩:=hf it (by simp)
  have hl:=rv.length
  exact wpAny_pyNext_tuple_end (I.ok.hd hc) st (show s.heap.IsTuple a its.toArray from p) (by simp;lia) fun h' eb=>⟨rfl,I.turned (t':=s.toks) (fun b o hb e=>eb b o hb e) f0 f1 f3 f4 f5⟩
 self:=fun _ _ _ _ _ st h=>wpAny_pyIter_tupleiter st h
theorem qW {P:Program} {w:World} {K:Y1} {tg:Expr} (it:Addr) (lo:Int) (n:Nat):Turn P w K tg (Itr lo n) [it] it (fun i h=>IsRangeIter h it (lo+(i:Nat) * 1) ((n:Int) - (i:Nat)) 1) where
 mem:=by simp
 obj:=fun i h st b hb=>by
  have e:b=it:=by simpa using hb
  subst e
  exact ⟨_,st,fun v z=>by
   have z':Data.fields _=Data.cell v:=z
   cases z'⟩
 keep:=fun i h h' st k=>k it (by simp) _ st
 item:=by
  intro X hP hw hK hc i pins s σ H E I hf st hg
  subst hP hw hK
  obtain ⟨f0,f1,f2,f3,f4,f5⟩:=hf it (by simp)
  have W:=Walks.range (prog:=X.prog) (w:=X.w) (I.ok.hd hc) it lo 1 n
  refine W.item i s _ _ hg st fun v h' tk hv st' kk=>?_
  obtain ⟨t,rfl⟩:=hv
  have I1:Inv X pins σ H { s with heap:=h',toks:=tk }:=I.turned (fun b o hb e=>kk b o (by simpa using hb) e) f0 f1 f3 f4 f5
  refine ⟨_,rfl,qb (s:={ s with heap:=h',toks:=tk }) (n := "range_iterator") st' rfl rfl (by decide) ⟨.int (lo+i),H,I1,⟨t,?_⟩,⟨rfl,rfl⟩,st',fun b hb=>(hf b hb).1⟩⟩
  rw [Int.mul_one]
 done:=by
  intro X hP hw hK hc i pins s σ H E I hf st hg
  subst hP hw hK
  obtain ⟨f0,f1,f2,f3,f4,f5⟩:=hf it (by simp)
  exact wpAny_pyNext_range_end (I.ok.hd hc) st (by have:n<=i:=hg;lia) fun h' eb=>⟨rfl,I.turned (t':=s.toks) (fun b o hb e=>eb b o hb e) f0 f1 f3 f4 f5⟩
 self:=fun _ _ _ _ _ st h=>wpAny_pyIter_rangeiter st h
section
variable {X:Cx} {tg:Expr}
theorem vk {pins:Yo} {σ:St} {H:Hp} {s:Shared} {R:It->Hp->Prop} {E:Z8} {lo hi:Int} {t u v:Tok} {tk:Nat} (I:Inv X pins σ H s) (h1:-(2 ^ 62)<=lo) (h2:lo < 2 ^ 62) (h3:-(2 ^ 62)<=hi) (h4:hi < 2 ^ 62)
  (q:R (Itr lo (hi - lo).toNat) H):wpAny (model X.prog X.w) X.A (pyIter (.ref s.heap.objs.size)) (PIE X pins σ tg R) E { s with heap:=s.heap.push { cls:=.type "range",data:=.fields #[.int lo t,.int hi u,.int 1 v] },toks:=tk }:=by
 refine wpAny_pyIter_range (IsRange.new ..) (small_one h1 h2 h3 h4) ?_
 have I1:Inv X pins σ H { s with heap:=s.heap.push { cls:=.type "range",data:=.fields #[.int lo t,.int hi u,.int 1 v] },toks:=tk }:=I.kept fun b o e=>Zi _ e
 refine ⟨(s.heap.push { cls:=.type "range",data:=.fields #[.int lo t,.int hi u,.int 1 v] }).objs.size,[(s.heap.push { cls:=.type "range",data:=.fields #[.int lo t,.int hi u,.int 1 v] }).objs.size],_,_,H,rfl,
  I1.kept (t':=tk) fun b o e=>Zi _ e,qW _ lo (hi - lo).toNat,?_,fun b hb=>?_,q⟩
 ·have e1:lo+((0:Nat):Int) * 1=lo:=by simp
  have e2:(((hi - lo).toNat:Nat):Int) - ((0:Nat):Int)=Builtin.Range.rangeSize lo hi 1:=by rw [rangeSize_one];split <;> lia
  show IsRangeIter _ _ (lo+((0:Nat):Int) * 1) ((((hi - lo).toNat:Nat):Int) - ((0:Nat):Int)) 1
  rw [e1,e2]
  exact ZU _ rfl
 ·have e:b=(s.heap.push { cls:=.type "range",data:=.fields #[.int lo t,.int hi u,.int 1 v] }).objs.size:=by simpa using hb
  subst e
  exact I1.fpOk (Zp _) (I1.hok.fresh (Zp _))
noncomputable def Eu (ta:TA):TI:=fun σ H R=>ta σ H fun vs H1=>∃ j:Int,vs=[.int j]/\-(2 ^ 62)<=j/\j < 2 ^ 62/\R (Itr 0 j.toNat) H1
theorem uS {a:Expr} {ta:TA} {p pos:Pos} (hg:Gl X "range") (hm:X.mg "range" = none) (ha:PA X [a] ta) (hs:starEach [a] X.env=[(false,eval a X.env)]:=by rfl):PI X tg (.Call (.Name "range" p) [a] [] pos) (Eu ta):=by
 intro pins s σ H R I h
 refine Call_ (jE I hg hm boot_range (Wp (thn (ha pos pins s σ H _ I h) fun us s1 ⟨vs,H1,I1,r1,q1⟩=>?_) hs rfl))
 obtain ⟨j,e,q1,q2,q⟩:=q1
 subst e
 cases r1 with
 | cons r rr =>
  cases rr
  obtain ⟨t,rfl⟩:=r
  exact call_range_1 (vk I1 (by lia) (by lia) q1 q2 (by simpa using q))
noncomputable def FI (wi:TI) (g:TG) (tb:TS):TS:=fun D σ H=>wi σ H fun J H1=>∃ W:Nat->Nat->St->Hp->Prop,(∃ m,W 0 m σ H1)/\∀ i m σ H,W i m σ H →
 (J.stop i H/\D.nx σ H)\/(J.go i H/\∃ N:St->Hp->Prop,(∀ σ' H',N σ' H'->∃ m',m' < m/\W (i+1) m' σ' H')/\∀ x H',J.yld i H x H'->g x σ H' fun σ2 H2=>tb { D with nx:=N,ct:=N,bk:=D.nx } σ2 H2)
noncomputable def lT (fp:Xb) (h:Heap):Yo:=fp.filterMap fun b=>(h.get? b).map fun o=>(b,o)
theorem ir {fp:Xb} {h:Heap} {b:Addr} {o:Obj} (hb:b∈fp) (e:h.get? b=some o):(b,o)∈lT fp h:=W2.mpr ⟨b,hb,by rw [e];rfl⟩
theorem u6 {fp:Xb} {h:Heap} {p:Addr×Obj} (hp:p∈lT fp h):p.1∈fp/\h.get? p.1=some p.2:=by
 obtain ⟨b,hb,e⟩:=W2.mp hp
 cases q:h.get? b with
 | none=>rw [q] at e;cases e
 | some o =>
  rw [q] at e
  have e':(b,o)=p:=ZE e
  subst e'
  exact ⟨hb,q⟩
theorem Inv.pinned {pins:Yo} {σ:St} {H:Hp} {s:Shared} {fp:Xb} (I:Inv X pins σ H s) (hf:∀ b∈fp,jB X pins H b) (ho:∀ b∈fp,∃ o,s.heap.get? b=some o/\∀ v,o.data ≠ .cell v):Inv X (pins++lT fp s.heap) σ H s :=
 I.pins_of fun p hp=>(Zc.mp hp).elim (fun z=>I.pin p (Z3 _ z)) fun z=>by
  obtain ⟨hb,e⟩:=u6 z
  obtain ⟨f0,f1,f2,_⟩:=hf p.1 hb
  obtain ⟨o,e',d⟩:=ho p.1 hb
  rw [e] at e';cases e'
  exact ⟨e,f0,f1,f2,d⟩
theorem Inv.unpinned {pins pl:Yo} {σ:St} {H:Hp} {s:Shared} (I:Inv X (pins++pl) σ H s):Inv X pins σ H s:=I.pins_of fun p hp=>I.pin p (Z3 _ (Y7 _ hp))
theorem BG {iter:Expr} {body:List Stmt} {wi:TI} {g:TG} {tb:TS} {pos:Pos} (hp:PassesOwn (model X.prog X.w) X.A X.env X.xe) (hc:X.calm=true) (hi:PI X tg iter wi) (hg:PG X tg g) (hb:PSs X body tb)
  (hs:∀ x,foldedSetIterable iter X.env x=pure x:=by intro _;rfl):PS X (.For tg iter body [] pos) (FI wi g tb):=by
 intro pins s σ H D I h
 refine wpAny_For (thn (hi pins s σ H _ I h) fun v s1 h1=>thn h1 fun itv s2 h2=>?_) hs
 obtain ⟨it,fp,tn,J,H2,e,I2,T,st2,f2,W,⟨m0,w0⟩,turn⟩:=h2
 subst e
 have stat:∀ {H':Hp},(∀ b∈fp,H' b=none)->∀ b∈fp,jB X pins H' b:=fun hn b hb=>⟨hn b hb,(f2 b hb).2⟩
 refine codeAny_forLoop_any (fun n s'=>∃ i σ' H',Inv X pins σ' H' s'/\tn i s'.heap/\(∀ b∈fp,H' b=none)/\W i n σ' H') ?_ m0 ⟨0,σ,H2,I2,st2,fun b hb=>(f2 b hb).1,w0⟩
 rintro n s3 ⟨i,σ3,H3,I3,st3,fr3,w3⟩
 rcases turn i n σ3 H3 w3 with ⟨stop,qn⟩ | ⟨go,N,hN,step⟩
 ·refine Xg hp (thn (T.done X rfl rfl rfl hc i pins s3 σ3 H3 X.xe I3 (stat fr3) st3 stop) fun r s4 ⟨hr,I4⟩=>?_)
  subst hr
  exact WA ⟨σ3,H3,I4,qn⟩
 ·refine Xg hp (thn (T.item X rfl rfl rfl hc i pins s3 σ3 H3 X.xe I3 (stat fr3) st3 go) fun r s4 ⟨u,hr,h4⟩=>?_)
  subst hr
  refine Xg hp (thn h4 fun _ s5 ⟨x,H5,I5,r5,y5,st5,fr5⟩=>?_)
  have I5':=I5.pinned (stat fr5) (T.obj _ _ st5)
  refine Xg hp (thn (hg _ s5 σ3 H5 x u _ I5' r5 (step x H5 y5)) fun _ s6 ⟨σ6,H6,I6,q6⟩=>?_)
  refine Xg hp (thn (hb _ s6 σ6 H6 _ I6 q6) fun f s7 q7=>?_)
  have again:∀ {σ7:St} {H7:Hp},Inv X (pins++lT fp s5.heap) σ7 H7 s7->N σ7 H7->∃ m,m < n/\∃ i σ' H',Inv X pins σ' H' s7/\tn i s7.heap/\(∀ b∈fp,H' b=none)/\W i m σ' H':=fun {σ7 H7} I7 n7=>by
   obtain ⟨m',hm,w7⟩:=hN σ7 H7 n7
   refine ⟨m',hm,i+1,σ7,H7,I7.unpinned,T.keep _ _ _ st5 fun b hb o e=>(I7.pin (b,o) (Z3 _ (Z3 _ (ir hb e)))).1,fun b hb=>?_,w7⟩
   obtain ⟨o,e,d⟩:=T.obj _ _ st5 b hb
   exact (I7.pin (b,o) (Z3 _ (Z3 _ (ir hb e)))).2.1
  cases f with
  | next=>obtain ⟨σ7,H7,I7,n7⟩:=q7;exact again I7 n7
  | cont=>obtain ⟨σ7,H7,I7,n7⟩:=q7;exact again I7 n7
  | brk=>obtain ⟨σ7,H7,I7,q7⟩:=q7;exact ⟨σ7,H7,I7.unpinned,q7⟩
  | ret v=>obtain ⟨x7,σ7,H7,I7,r7,q7⟩:=q7;exact ⟨x7,σ7,H7,I7.unpinned,r7,q7⟩
end
noncomputable abbrev R2:=V->V->Hp->VK->Prop
noncomputable def OpR (X:Cx) (f:Value->Value->Sem Value) (r:R2):Prop :=
 ∀ (pins:Yo) (s:Shared) (σ:St) (H:Hp) (x y:V) (v u:Value) (Q:VK),Inv X pins σ H s->RelV x v->RelV y u->r x y H Q →
  wpAny (model X.prog X.w) X.A (f v u) (EP X pins σ Q) X.xe s
noncomputable def UnR (X:Cx) (f:Value->Sem Value) (r:V->Hp->VK->Prop):Prop :=
 ∀ (pins:Yo) (s:Shared) (σ:St) (H:Hp) (x:V) (v:Value) (Q:VK),Inv X pins σ H s->RelV x v->r x H Q →
  wpAny (model X.prog X.w) X.A (f v) (EP X pins σ Q) X.xe s
noncomputable def fj (X:Cx) (f:Value) (r:List V->Hp->VK->Prop):Prop :=
 ∀ (pins:Yo) (s:Shared) (σ:St) (H:Hp) (xs:List V) (us:X1) (Q:VK),Inv X pins σ H s->aU xs us->r xs H Q →
  wpAny (model X.prog X.w) X.A (call f us) (EP X pins σ Q) X.xe s
noncomputable def FN (X:Cx) (r:V->Hp->(Bool->Hp->Prop)->Prop):Prop :=
 ∀ (pins:Yo) (s:Shared) (σ:St) (H:Hp) (x:V) (v:Value) (Q:Bool->Hp->Prop),Inv X pins σ H s->RelV x v->r x H Q →
  wpAny (model X.prog X.w) X.A (truthy v) (TP X pins σ Q) X.xe s
noncomputable def tOp (r:R2) (ta tb:TE):TE:=fun σ H Q=>ta σ H fun x H1=>tb σ H1 fun y H2=>r x y H2 Q
noncomputable def tUn (r:V->Hp->VK->Prop) (ta:TE):TE:=fun σ H Q=>ta σ H fun x H1=>r x H1 Q
noncomputable def rI (C:Int->Int->Prop) (g:Int->Int->V):R2:=fun x y H Q=>∃ i j,x=.int i/\y=.int j/\C i j/\Q (g i j) H
noncomputable def rI0 (g:Int->Int->V):R2:=fun x y H Q=>∃ i j,x=.int i/\y=.int j/\Q (g i j) H
noncomputable def rU (g:Int->V):V->Hp->VK->Prop:=fun x H Q=>∃ i,x=.int i/\Q (g i) H
section
variable {X:Cx} {a b c:Expr} {ta tb tc:TE} {pos:Pos}
theorem Cw (ha:PE X a ta) (hb:PE X b tb) {pins:Yo} {s:Shared} {σ:St} {H:Hp} {R:V->V->Hp->Prop} (I:Inv X pins σ H s)
  (h:ta σ H fun x H1=>tb σ H1 fun y H2=>R x y H2) {Q:Z8} {f:Value->Value->Sem Value}
  (hf:∀ v u s2 x y H2,Inv X pins σ H2 s2->RelV x v->RelV y u->R x y H2->wpAny (model X.prog X.w) X.A (f v u) Q X.xe s2) :
  wpAny (model X.prog X.w) X.A (eval a X.env) (fun v s₁=>wpAny (model X.prog X.w) X.A (eval b X.env) (fun u s₂=>wpAny (model X.prog X.w) X.A (f v u) Q X.xe s₂) X.xe s₁) X.xe s:=by
 refine thn (ha pins s σ H _ I h) fun v s1 ⟨x,H1,I1,r1,q1⟩=>?_
 refine thn (hb pins s1 σ H1 _ I1 q1) fun u s2 ⟨y,H2,I2,r2,q2⟩=>?_
 exact hf v u s2 x y H2 I2 r1 r2 q2
theorem FA {op:Operator} {r:R2} (ho:OpR X (binaryOp op) r) (ha:PE X a ta) (hb:PE X b tb):PE X (.BinOp a op b pos) (tOp r ta tb):=by
 intro pins s σ H Q I h
 exact wpAny_BinOp (Cw ha hb I h fun v u s2 x y H2 I2 rx ry q=>ho pins s2 σ H2 x y v u Q I2 rx ry q)
theorem Fo {op:UnaryOp} {r:V->Hp->VK->Prop} (ho:UnR X (unaryOp op) r) (ha:PE X a ta):PE X (.UnaryOp op a pos) (tUn r ta):=by
 intro pins s σ H Q I h
 exact UnaryOp_ (thn (ha pins s σ H _ I h) fun v s1 ⟨x,H1,I1,r1,q1⟩=>ho pins s1 σ H1 x v Q I1 r1 q1)
theorem opI {f:Value->Value->Sem Value} {C:Int->Int->Prop} {g:Int->Int->Int}
  (rule:∀ (i j:Int) (t u:Tok) (s:Shared) (Q:Z8) (E:Z8),C i j->Q (.int (g i j) s.toks) { s with toks:=s.toks+1 }->wpAny (model X.prog X.w) X.A (f (.int i t) (.int j u)) Q E s) :
  OpR X f (rI C fun i j=>.int (g i j)):=by
 intro pins s σ H x y v u Q I rx ry h
 obtain ⟨i,j,rfl,rfl,hc,q⟩:=h
 obtain ⟨t,rfl⟩:=rx
 obtain ⟨t',rfl⟩:=ry
 exact rule i j t t' s _ _ hc ⟨.int (g i j),H,I.tok _,⟨_,rfl⟩,q⟩
theorem EE {f:Value->Value->Sem Value} {g:Int->Int->Int}
  (rule:∀ (i j:Int) (t u:Tok) (s:Shared) (Q:Z8) (E:Z8),Q (.int (g i j) s.toks) { s with toks:=s.toks+1 }->wpAny (model X.prog X.w) X.A (f (.int i t) (.int j u)) Q E s) :
  OpR X f (rI0 fun i j=>.int (g i j)):=by
 intro pins s σ H x y v u Q I rx ry h
 obtain ⟨i,j,rfl,rfl,q⟩:=h
 obtain ⟨t,rfl⟩:=rx
 obtain ⟨t',rfl⟩:=ry
 exact rule i j t t' s _ _ ⟨.int (g i j),H,I.tok _,⟨_,rfl⟩,q⟩
theorem zK {f:Value->Value->Sem Value} {g:Int->Int->Bool}
  (rule:∀ (i j:Int) (t u:Tok) (s:Shared) (Q:Z8) (E:Z8),Q (.bool (g i j)) s->wpAny (model X.prog X.w) X.A (f (.int i t) (.int j u)) Q E s) :
  OpR X f (rI0 fun i j=>.bl (g i j)):=by
 intro pins s σ H x y v u Q I rx ry h
 obtain ⟨i,j,rfl,rfl,q⟩:=h
 obtain ⟨t,rfl⟩:=rx
 obtain ⟨t',rfl⟩:=ry
 exact rule i j t t' s _ _ ⟨.bl (g i j),H,I,rfl,q⟩
noncomputable def Ej (i j:Int):Prop:=0 < j/\j < 1073741824
noncomputable def zY (i j:Int):Prop:=(-(2 ^ 64) < i/\i < 2 ^ 64)\/(-(2 ^ 64) < j/\j < 2 ^ 64)
theorem zY.ok {i j:Int} (h:zY i j):IntMulOk i j:=by
 rcases h with ⟨h1,h2⟩ | ⟨h1,h2⟩
 ·exact .of_left (intBits_le_64 h1 h2)
 ·exact .of_right (intBits_le_64 h1 h2)
theorem CD:OpR X (binaryOp .Add) (rI0 fun i j=>.int (i+j)):=EE fun _ _ _ _ _ _ _ q=>add_int q
theorem C6:OpR X (binaryOp .Sub) (rI0 fun i j=>.int (i - j)):=EE fun _ _ _ _ _ _ _ q=>sub_int q
theorem DC:OpR X (binaryOp .Mult) (rI zY fun i j=>.int (i * j)):=opI fun _ _ _ _ _ _ _ hc q=>mul_int q hc.ok
theorem AL:OpR X (binaryOp .FloorDiv) (rI Ej fun i j=>.int (i / j)):=opI fun i j _ _ _ _ _ hc q=>by
 have h1:(0:Int) < j:=hc.1
 have h2:j < 1073741824:=hc.2
 exact floordiv_int (by lia) (by rw [Int.fdiv_eq_ediv_of_nonneg i (by lia)];exact q) (.inl (PyProof.noPylong_small (by omega)))
theorem CT:OpR X (binaryOp .Mod) (rI (fun _ j=>0 < j) fun i j=>.int (i % j)):=opI fun i j _ _ _ _ _ hc q=>by
 have h1:(0:Int) < j:=hc
 exact mod_int' (by lia) (by rw [Int.fmod_eq_emod_of_nonneg i (by lia)];exact q)
theorem unI {f:Value->Sem Value} {g:Int->Int}
  (rule:∀ (i:Int) (t:Tok) (s:Shared) (Q:Z8) (E:Z8),Q (.int (g i) s.toks) { s with toks:=s.toks+1 }->wpAny (model X.prog X.w) X.A (f (.int i t)) Q E s) :
  UnR X f (rU fun i=>.int (g i)):=by
 intro pins s σ H x v Q I rx h
 obtain ⟨i,rfl,q⟩:=h
 obtain ⟨t,rfl⟩:=rx
 exact rule i t s _ _ ⟨.int (g i),H,I.tok _,⟨_,rfl⟩,q⟩
theorem BP:UnR X (unaryOp .USub) (rU fun i=>.int (-i)):=unI fun _ _ _ _ _ q=>neg_int q
end
section
variable {X:Cx} {a b c:Expr} {ta tb tc:TE} {pos:Pos}
theorem Df {pins:Yo} {σ:St} {H:Hp} {s:Shared} {Q:VK} {k k':Bool} (I:Inv X pins σ H s) (q:Q (.bl k) H) (e:k=k'):EP X pins σ Q (.bool k') s:=by
 subst e
 exact ⟨.bl k,H,I,rfl,q⟩
theorem Ez:OpR X (compareOp .Lt) (rI0 fun i j=>.bl (decide (i < j))):=zK fun _ _ _ _ _ _ _ q=>lt_int q
theorem Fx:OpR X (compareOp .LtE) (rI0 fun i j=>.bl (decide (i<=j))):=zK fun _ _ _ _ _ _ _ q=>le_int q
theorem FC:OpR X (compareOp .Gt) (rI0 fun i j=>.bl (decide (j < i))):=zK fun _ _ _ _ _ _ _ q=>gt_int q
theorem Fl:OpR X (compareOp .GtE) (rI0 fun i j=>.bl (decide (j<=i))):=zK fun _ _ _ _ _ _ _ q=>ge_int q
theorem vd:OpR X (compareOp .Lt) (fun x y H Q=>∃ i j,x=.str i/\y=.str j/\Q (.bl (decide (i.cps.toList < j.cps.toList))) H):=by
 intro pins s σ H x y v u Q I rx ry h
 obtain ⟨i,j,rfl,rfl,q⟩:=h
 obtain ⟨t,rfl⟩:=rx
 obtain ⟨t',rfl⟩:=ry
 exact lt_str (Df I q rfl)
theorem OpR.or {f:Value->Value->Sem Value} {r r':R2} (h:OpR X f r) (h':OpR X f r'):OpR X f (fun x y H Q=>r x y H Q\/r' x y H Q):=by
 intro pins s σ H x y v u Q I rx ry q
 rcases q with q | q
 ·exact h pins s σ H x y v u Q I rx ry q
 ·exact h' pins s σ H x y v u Q I rx ry q
theorem kl (b:Expr) {op:CmpOp} (h:op ≠ .In:=by decide) (h2:op ≠ .NotIn:=by decide):behindInMarks op b=false:=by
 have e1:(op == CmpOp.In)=false:=by cases op <;> first | rfl | exact absurd rfl h
 have e2:(op == CmpOp.NotIn)=false:=by cases op <;> first | rfl | exact absurd rfl h2
 cases b <;> simp [behindInMarks,e1,e2]
theorem zv {op:CmpOp} {r:R2} (ho:OpR X (compareOp op) r) (ha:PE X a ta) (hb:PE X b tb) (hm:behindInMarks op b=false):PE X (.Compare a [op] [b] pos) (tOp r ta tb):=by
 intro pins s σ H Q I h
 exact wpAny_Compare1 (Cw ha hb I h fun v u s2 x y H2 I2 rx ry q=>ho pins s2 σ H2 x y v u Q I2 rx ry q) hm
noncomputable def vK (t:TE):TT:=fun σ H Q=>t σ H fun x H'=>∃ k,x=.bl k/\Q k H'
theorem zQ {op:CmpOp} {r:R2} (ho:OpR X (compareOp op) r) (ha:PE X a ta) (hb:PE X b tb) (hm:behindInMarks op b=false):PT X (.Compare a [op] [b] pos) (vK (tOp r ta tb)):=by
 intro pins s σ H Q I h
 refine wpAny_isTrue_Compare1 (thn (ha pins s σ H _ I h) fun v s1 ⟨x,H1,I1,r1,q1⟩=>thn (hb pins s1 σ H1 _ I1 q1) fun u s2 ⟨y,H2,I2,r2,q2⟩ =>
  thn (ho pins s2 σ H2 x y v u _ I2 r1 r2 q2) fun c s3 ⟨z,H3,I3,r3,k,e,q3⟩=>?_) hm
 subst e
 cases r3
 exact Ye ⟨H3,I3,q3⟩
noncomputable def yG (r r':R2) (ta tb tc:TE):TE:=fun σ H Q=>ta σ H fun x H1=>tb σ H1 fun y H2=>r x y H2 fun z H3=>∃ k,z=.bl k ∧
 (if k=true then tc σ H3 fun w' H4=>r' y w' H4 Q else Q (.bl false) H3)
theorem wj {op op':CmpOp} {r r':R2} (ho:OpR X (compareOp op) r) (ho':OpR X (compareOp op') r') (ha:PE X a ta) (hb:PE X b tb) (hc:PE X c tc)
  (hm:lastMarks [op,op'] [b,c]=false:=by with_unfolding_all rfl):PT X (.Compare a [op,op'] [b,c] pos) (vK (yG r r' ta tb tc)):=by
 intro pins s σ H Q I h
 refine isTrue_chain (thn (ha pins s σ H _ I h) fun v s1 ⟨x,H1,I1,r1,q1⟩=>test_link (thn (hb pins s1 σ H1 _ I1 q1) fun u s2 ⟨y,H2,I2,r2,q2⟩ =>
  thn (ho pins s2 σ H2 x y v u _ I2 r1 r2 q2) fun d s3 ⟨z,H3,I3,r3,k,e,q3⟩=>?_)) hm
 subst e
 cases r3
 refine Ye ?_
 cases k with
 | false =>
  obtain ⟨k',e',q'⟩:=q3
  cases e'
  exact ite_ff ⟨H3,I3,q'⟩
 | true =>
  refine ite_tt (test_last (thn (hc pins s3 σ H3 _ I3 q3) fun w' s4 ⟨z',H4,I4,r4,q4⟩=>thn (ho' pins s4 σ H4 y z' u w' _ I4 r2 r4 q4) fun d' s5 ⟨z2,H5,I5,r5,k2,e2,q5⟩=>?_))
  subst e2
  cases r5
  exact Ye ⟨H5,I5,q5⟩
noncomputable def Cd (K:Y1) (x:V) (H:Hp) (k:Bool):Prop :=
 match x with
 | .non=>k=false
 | .bl b=>k=b
 | .int i=>k=(i != 0)
 | .str y=>y.length<=sizeLine/\k=((y.length:Int) != 0)
 | .byt y=>y.size<=sizeLine/\k=((y.size:Int) != 0)
 | .ref p=>(∃ xs,SqL K H p xs/\k=!xs.isEmpty)\/(∃ xs,SqT K H p xs/\k=!xs.isEmpty)\/∃ kvs,H p=some (.dK kvs)/\k=!kvs.isEmpty
 | _=>False
theorem rh {κ:Type} {kvs:List (κ×V)} {vs:List (κ×Value)} (r:KV kvs vs):(!vs.isEmpty)=!kvs.isEmpty:=by
 cases r <;> rfl
theorem mB {xs:List V} {its:X1} (r:aU xs its):(!its.toArray.isEmpty)=!xs.isEmpty:=by
 cases r <;> simp
theorem kC:(sizeLine:Nat) < 2 ^ 63:=by rw [W5];decide
theorem CP:FN X (fun x H Q=>∃ k,Cd X.K x H k/\Q k H):=by
 intro pins s σ H x v Q I rx h
 obtain ⟨k,e,q⟩:=h
 have hl:=kC
 have hs:sizeLine=16777216:=W5
 cases x with
 | non =>
  cases rx
  have e':k=false:=e
  subst e'
  exact truthy_none ⟨H,I,q⟩
 | bl b =>
  cases rx
  have e':k=b:=e
  subst e'
  exact Ye ⟨H,I,q⟩
 | int i =>
  obtain ⟨t,rfl⟩:=rx
  have e':k=(i != 0):=e
  subst e'
  exact PySem.P.truthy_int ⟨H,I,q⟩
 | str y =>
  obtain ⟨t,rfl⟩:=rx
  obtain ⟨hy,e'⟩:y.length<=sizeLine/\k=((y.length:Int) != 0):=e
  subst e'
  exact PySem.P.truthy_str (by lia) ⟨H,I.tok _,q⟩
 | byt y =>
  obtain ⟨t,rfl⟩:=rx
  obtain ⟨hy,e'⟩:y.size<=sizeLine/\k=((y.size:Int) != 0):=e
  subst e'
  exact PySem.W.truthy_bytes (by lia) ⟨H,I.tok _,q⟩
 | ref p =>
  cases rx
  have e':(∃ xs,SqL X.K H p xs/\k=!xs.isEmpty)\/(∃ xs,SqT X.K H p xs/\k=!xs.isEmpty)\/∃ kvs,H p=some (.dK kvs)/\k=!kvs.isEmpty:=e
  rcases e' with ⟨xs,hx,e'⟩ | ⟨xs,hx,e'⟩ | ⟨kvs,hx,e'⟩
  ·subst e'
   obtain ⟨its,r,pl,hz⟩:=I.list hx
   have hlen:=r.length
   exact wpAny_truthy_list pl.isList (by simp only [Zd];lia) ⟨H,I.tok _,by rw [mB r];exact q⟩
  ·subst e'
   obtain ⟨its,r,pl,hz⟩:=I.tuple hx
   have hlen:=r.length
   exact truthy_tuple pl (by simp only [Zd];lia) ⟨H,I.tok _,by rw [mB r];exact q⟩
  ·subst e'
   obtain ⟨hz,hS,vs,r,m⟩:kvs.length<=sizeLine/\(p == sysModules)=false/\∃ vs,KV kvs vs/\s.heap.DictOf (aX X.prog X.w) p vs:=I.hok p _ hx
   have hlen:kvs.length=vs.length:=Wl r
   exact wpAny_truthy_dict hS m (by lia) ⟨H,I.tok _,by rw [rh r];exact q⟩
 | _=>exact (show False from e).elim
theorem yz (ha:PE X a ta) (he:∀ whole,isTrue a X.env whole=(do let v ← whole;standAt a.pos;holding [v] (truthy v))) :
  PT X a (fun σ H Q=>ta σ H fun x H'=>∃ k,Cd X.K x H' k/\Q k H'):=by
 intro pins s σ H Q I h
 exact isTrue_plain (thn (ha pins s σ H _ I h) fun v s1 ⟨x,H1,I1,r1,q1⟩=>CP pins s1 σ H1 x v Q I1 r1 q1) (he _)
theorem r6:OpR X (binaryOp .Add) (fun x y H Q=>∃ i j,x=.str i/\y=.str j/\i.length+j.length<=sizeLine/\Q (.str (i++j)) H):=by
 intro pins s σ H x y v u Q I rx ry h
 obtain ⟨i,j,rfl,rfl,hz,q⟩:=h
 obtain ⟨t,rfl⟩:=rx
 obtain ⟨t',rfl⟩:=ry
 exact add_str (fun t' tk=>⟨.str (i++j),H,I.tok _,⟨_,rfl⟩,q⟩) hz
theorem vals1 {x:V} {us:X1} (r:aU [x] us):∃ u,us=[u]/\RelV x u:=by
 cases r with
 | cons r1 r2=>cases r2;exact ⟨_,rfl,r1⟩
theorem vals2 {x y:V} {us:X1} (r:aU [x,y] us):∃ u w',us=[u,w']/\RelV x u/\RelV y w':=by
 cases r with
 | cons r1 r2 =>
  cases r2 with
  | cons r3 r4=>cases r4;exact ⟨_,_,rfl,r1,r3⟩
theorem uy (hc:X.calm=true):fj X (.builtin "min") (fun xs H Q=>∃ i j,xs=[.int i,.int j]/\Q (.int (if j < i then j else i)) H):=by
 intro pins s σ H xs us Q I r h
 obtain ⟨i,j,rfl,q⟩:=h
 obtain ⟨u,w',rfl,⟨t,rfl⟩,⟨t',rfl⟩⟩:=vals2 r
 refine min_two_ints (I.ok.hd hc) fun h' tk k=>⟨_,H,I.kept k,?_,q⟩
 by_cases hj:j < i
 ·rw [Zr hj,Zr hj];exact ⟨_,rfl⟩
 ·rw [Zq hj,Zq hj];exact ⟨_,rfl⟩
noncomputable def Fu (K:Y1) (x:V) (H:Hp) (n:Nat):Prop :=
 match x with
 | .str y=>y.length<=sizeLine/\n=y.length
 | .byt y=>y.size<=sizeLine/\n=y.size
 | .ref p=>(∃ xs,SqL K H p xs/\n=xs.length)\/∃ xs,SqT K H p xs/\n=xs.length
 | _=>False
theorem wy:fj X (.builtin "len") (fun xs H Q=>∃ x n,xs=[x]/\Fu X.K x H n/\Q (.int n) H):=by
 intro pins s σ H xs us Q I r h
 obtain ⟨x,n,rfl,e,q⟩:=h
 obtain ⟨u,rfl,rx⟩:=vals1 r
 have hl:=kC
 have hs:sizeLine=16777216:=W5
 cases x with
 | str y =>
  obtain ⟨t,rfl⟩:=rx
  obtain ⟨hy,e'⟩:y.length<=sizeLine/\n=y.length:=e
  subst e'
  exact len_str (by lia) ⟨.int _,H,I.tok _,⟨_,rfl⟩,q⟩
 | byt y =>
  obtain ⟨t,rfl⟩:=rx
  obtain ⟨hy,e'⟩:y.size<=sizeLine/\n=y.size:=e
  subst e'
  exact PySem.W.len_bytes (by lia) ⟨.int _,H,I.tok _,⟨_,rfl⟩,q⟩
 | ref p =>
  cases rx
  have e':(∃ xs,SqL X.K H p xs/\n=xs.length)\/∃ xs,SqT X.K H p xs/\n=xs.length:=e
  rcases e' with ⟨xs,hx,e'⟩ | ⟨xs,hx,e'⟩
  ·subst e'
   obtain ⟨its,r',pl,hz⟩:=I.list hx
   have hlen:=r'.length
   exact Calls.call_len_list pl.isList (by simp only [Zd];lia) ⟨.int xs.length,H,I.tok _,⟨_,by simp only [Zd];rw [hlen]⟩,q⟩
  ·subst e'
   obtain ⟨its,r',pl,hz⟩:=I.tuple hx
   have hlen:=r'.length
   exact len_tuple pl (by simp only [Zd];lia) ⟨.int xs.length,H,I.tok _,⟨_,by simp only [Zd];rw [hlen]⟩,q⟩
 | _=>exact (show False from e).elim
end
structure ObjM (h:Heap) (x dx C:Addr) (mA:Xv):Prop where
 obj:h.get? x=some (PySem.W.instObj C dx)
 ns:h.Ns1 dx mA
 ne:dx ≠ x
theorem uT {h:Heap} {dx:Addr} {mA:Xv} (n:h.Ns1 dx mA):∃ od,h.get? dx=some od/\∀ name,PySem.W.lookIn name od=some (mA name):=by
 obtain ⟨o,es,ep,ho,hd,hk,_,hm⟩:=n
 refine ⟨o,ho,fun name=>?_⟩
 have e:=hm name
 unfold nsFind findBy at e
 rw [← Array.find?_toList] at e
 unfold PySem.W.lookIn
 rw [hd]
 dsimp only
 split
 ·rename_i y q
  rw [q] at e
  exact congrArg some e
 ·rename_i q
  rw [q] at e
  have a:es.toList.any (·.refKey)=false:=by
   rw [List.any_eq_false]
   intro y hy
   obtain ⟨z,t,hkey⟩:=hk y (Array.mem_toList_iff.mp hy)
   simp [DictEntry.refKey,hkey]
  have a':¬ es.toList.any (·.refKey)=true:=by rw [a];exact Zh
  rw [Zq a']
  exact congrArg some e
theorem ObjM.look {h:Heap} {x dx C:Addr} {mA:Xv} (I:ObjM h x dx C mA):∃ od,PySem.W.InstAt h x (PySem.W.instObj C dx) C (some od)/\∀ name,PySem.W.lookIn name od=some (mA name) :=
 let ⟨od,ho,hl⟩:=uT I.ns
 ⟨od,⟨I.obj,rfl,rfl,ho⟩,hl⟩
theorem kJ.some_of {v:V} {o:Vt} (r:kJ (some v) o):∃ u,o=some u/\RelV v u:=by
 cases o with
 | none=>exact (show False from r).elim
 | some u=>exact ⟨u,rfl,r⟩
section
variable {P:Program} {w:World} {H H':Hp} {h h':Heap} {a C dx:Addr} {fs fs':List (Str×V)}
theorem zC (hok:HOk P w H h) (e:H a=some (.ins C dx fs)):∃ mA,ObjM h a dx C mA/\(∀ f,kJ (fs.lookup f) (mA f))/\PySem.Within mA (fs.map (·.1))/\fs.length<=1000/\H dx=some (.own a):=by
 obtain ⟨d,z,ne,ob,mA,n,r,q⟩:=(show br P w H h a (.ins C dx fs) from hok a _ e)
 exact ⟨mA,⟨ob,n,ne⟩,r,q,z,d⟩
end
structure Cls (K:Y1) (C:Addr):Prop where
 pg:PySem.W.plainGet K C Str.empty=true
 hd:PySem.W.hasDictIn K C=true
 po:PySem.W.plainOver K C=true
 sa:PySem.W.findIn K (.ref C) "__setattr__" = some (some (.builtin "object.__setattr__"))
theorem Cls.get {K:Y1} {C:Addr} (c:Cls K C) (f:Str):PySem.W.plainGet K C f=true:=c.pg
section
variable {X:Cx} {o e value:Expr} {f:Str} {pos pos' tpos:Pos} {ta tv:TE}
noncomputable def Cz:V->V->Hp->VK->Prop:=fun x y H Q=>∃ i j,x=.int i/\y=.int j/\Q (.int (i+j)) H
end
section
variable {X:Cx} {pins:Yo} {σ:St} {H:Hp} {s:Shared} {A:Around} {E:Z8} {Q:Z8} {c:Value} {b:Bool}
inductive TyOf (K:Y1) (H:Hp):V->Value->Prop where
 | non:TyOf K H .non (.type "NoneType")
 | bl (x:Bool):TyOf K H (.bl x) (.type "bool")
 | int (i:Int):TyOf K H (.int i) (.type "int")
 | str (x:Str):TyOf K H (.str x) (.type "str")
 | flt (x:UInt64):TyOf K H (.flt x) (.type "float")
 | lst {a:Addr} {xs:List V} (e:H a=some (.lst xs)):TyOf K H (.ref a) (.type "list")
 | frz {a:Addr} {o:Obj} {xs:List V} (e:H a=some (.frz o (.lst xs))):TyOf K H (.ref a) (.type "list")
 | tup {a:Addr} {xs:List V} (e:H a=some (.tup xs)):TyOf K H (.ref a) (.type "tuple")
 | dK {a:Addr} {kvs:List (Key×V)} (e:H a=some (.dK kvs)):TyOf K H (.ref a) (.type "dict")
 | dT {a:Addr} {kvs:List (List Key×V)} (e:H a=some (.dT kvs)):TyOf K H (.ref a) (.type "dict")
 | ins {a C dx:Addr} {fs:List (Str×V)} (e:H a=some (.ins C dx fs)) (cl:Cls K C) (ha:PySem.W.findIn K (.ref C) "__class__" = some (some (.builtin "object.__class__")))
   (hn:PySem.W.specialIn K (.builtin "object.__class__") "__get__" = some (some (.builtin "getset_descriptor.__get__"))) (htk:PySem.W.takesIn K (.builtin "object.__class__")=some true)
   (hm:PySem.W.mroIn K C (.type "object")=some true):TyOf K H (.ref a) (.ref C)
theorem uL {x:V} {u t:Value} (I:Inv X pins σ H s) (rx:RelV x u) (ty:TyOf X.K H x t) (e:PySem.W.kitOne X.K t c=some b) (h:∀ tk,Q (.bool b) { s with toks:=tk }) :
  wpAny (model X.prog X.w) A (call (.builtin "isinstance") [u,c]) Q E s:=by
 cases ty with
 | non=>cases (show u=Value.none from rx);exact YX PySem.W.kitx_none I.kIn True.intro e (fun z=>nomatch z) h
 | bl y=>cases (show u=Value.bool y from rx);exact YX PySem.W.kitx_bool I.kIn True.intro e (fun z=>nomatch z) h
 | int i=>obtain ⟨t,q⟩:=(show ∃ t,u=Value.int i t from rx);cases q;exact YX PySem.W.kitx_int I.kIn True.intro e (fun z=>nomatch z) h
 | str y=>obtain ⟨t,q⟩:=(show ∃ t,u=Value.str y t from rx);cases q;exact YX PySem.W.kitx_str I.kIn True.intro e (fun z=>nomatch z) h
 | flt y=>obtain ⟨t,q⟩:=(show ∃ t,u=Value.float y t from rx);cases q;exact YX PySem.W.kitx_float I.kIn True.intro e (fun z=>nomatch z) h
 | @lst a xs ea =>
  cases (show u=Value.ref a from rx)
  obtain ⟨_,_,n,_,h1⟩:=(show br X.prog X.w H s.heap a (.lst xs) from I.hok a _ ea)
  exact YX PySem.W.kitx_list I.kIn ⟨_,h1,rfl⟩ e (fun z=>nomatch z) h
 | @frz a ob xs ea =>
  cases (show u=Value.ref a from rx)
  obtain ⟨_,_,_,n,_,h1⟩:=(show br X.prog X.w H s.heap a (.frz ob (.lst xs)) from I.hok a _ ea)
  exact YX PySem.W.kitx_list I.kIn ⟨_,h1,rfl⟩ e (fun z=>nomatch z) h
 | @tup a xs ea =>
  cases (show u=Value.ref a from rx)
  obtain ⟨_,_,_,_,p⟩:=(show br X.prog X.w H s.heap a (.tup xs) from I.hok a _ ea)
  obtain ⟨o,h1,h2,_⟩:=p
  exact YX PySem.W.kitx_tuple I.kIn ⟨o,h1,h2⟩ e (fun z=>nomatch z) h
 | @dK a kvs ea =>
  cases (show u=Value.ref a from rx)
  obtain ⟨_,_,vs,_,p⟩:=(show br X.prog X.w H s.heap a (.dK kvs) from I.hok a _ ea)
  obtain ⟨o,es,ep,h1,h2,_⟩:=p
  exact YX PySem.W.kitx_dict I.kIn ⟨o,h1,h2.1⟩ e (fun z=>nomatch z) h
 | @dT a kvs ea =>
  cases (show u=Value.ref a from rx)
  obtain ⟨_,_,xs,_,o,es,ep,h1,h2,_⟩:=(show br X.prog X.w H s.heap a (.dT kvs) from I.hok a _ ea)
  exact YX PySem.W.kitx_dict I.kIn ⟨o,h1,h2.1⟩ e (fun z=>nomatch z) h
 | @ins a C dx fs ea cl ha hn htk hm =>
  cases (show u=Value.ref a from rx)
  obtain ⟨mA,O,_⟩:=zC I.hok ea
  obtain ⟨od,J,_⟩:=O.look
  exact YX (PySem.W.kitx_own (cl.get _) cl.hd ha hn htk hm) I.kIn J e (fun z=>nomatch z) h
end
structure Room (k:Nat) (A:Around):Prop where
 hd:A.handled=none
 dp:A.depth+3 * k+5 < recursionLimit
 un:A.units+16 * k+200 < cLine
theorem Room.mono {j k:Nat} {A:Around} (r:Room k A) (h:j<=k):Room j A:=⟨r.hd,by have:=r.dp;lia,by have:=r.un;lia⟩
theorem Room.deeper {k:Nat} {A:Around} (r:Room (k+1) A) (env:Env):Room k (A.deeper env) :=
 ⟨r.hd,by have:=r.dp;show A.depth+1+3 * k+5 < _;lia,by have:=r.un;show A.units+3+16 * k+200 < _;lia⟩
theorem Room.in1 {k:Nat} {A:Around} (r:Room (k+1) A):Room k A.in1 :=
 ⟨r.hd,by have:=r.dp;show A.depth+3 * k+5 < _;lia,by have:=r.un;show A.units+1+16 * k+200 < _;lia⟩
theorem Room.depth {k:Nat} {A:Around} (r:Room k A):A.depth < recursionLimit:=by have:=r.dp;lia
theorem Room.units {k:Nat} {A:Around} (r:Room k A):A.units+64 < cLine:=by have:=r.un;lia
noncomputable def EN:TA:=fun _ H Q=>Q [] H
noncomputable def Bs (ta:TE) (tr:TA):TA:=fun σ H Q=>ta σ H fun x H1=>tr σ H1 fun xs H2=>Q (x :: xs) H2
section
variable {X:Cx} {e:Expr} {es:List Expr} {te:TE} {t:TA} {pos:Pos}
theorem il:PA X [] EN:=fun _ _ _ _ H Q I h=>Calls.spliced_nil ⟨[],H,I,.nil,h⟩
theorem fO (ha:PE X e te) (hr:PA X es t) (hs:starEach (e :: es) X.env=(false,eval e X.env) :: starEach es X.env:=by rfl):PA X (e :: es) (Bs te t):=by
 intro pos pins s σ H Q I h
 rw [hs]
 show wpAny _ _ (spliced ((false,eval e X.env) :: backTo pos (starEach es X.env))) _ _ s
 refine Calls.spliced_cons (thn (ha pins s σ H _ I h) fun u s1 ⟨x,H1,I1,r1,q1⟩=>?_)
 exact thn (hr pos pins s1 σ H1 _ I1 q1) fun us s2 ⟨xs,H2,I2,r2,q2⟩=>⟨x :: xs,H2,I2,.cons r1 r2,q2⟩
noncomputable def FY (t:TA):TE:=fun σ H Q=>t σ H fun xs H1=>xs.length<=sizeLine/\∀ p,H1 p=none->Q (.ref p) (upd H1 p (.tup xs))
noncomputable def FH (t:TA):TE:=fun σ H Q=>t σ H fun xs H1=>xs.length<=sizeLine/\∀ p,H1 p=none->Q (.ref p) (upd H1 p (.lst xs))
theorem BW {x1} (h:PA X es t):PE X (.Tuple es x1 pos) (FY t):=by
 intro pins s σ H Q I hq
 refine wpAny_Tuple_spliced (thn (h pos pins s σ H _ I hq) fun us s1 ⟨xs,H1,I1,r,z,q⟩=>⟨by rw [← r.length];exact z,?_⟩)
 have hf:H1 s1.heap.objs.size=none:=I1.hok.fresh (Zp _)
 refine ⟨.ref s1.heap.objs.size,upd H1 s1.heap.objs.size (.tup xs),I1.laid (t':=s1.toks) (fun b u e=>Zi _ e) (Zp _) ?_,rfl,q _ hf⟩
 exact ⟨z,us,r,NoD.of (ZU _ rfl) rfl,⟨_,ZU _ rfl,rfl,_,rfl⟩⟩
theorem oB (h:PA X es t):PE X (.List es pos) (FH t):=by
 intro pins s σ H Q I hq
 refine wpAny_List_spliced (thn (h pos pins s σ H _ I hq) fun us s1 ⟨xs,H1,I1,r,z,q⟩=>⟨by rw [← r.length];exact z,?_⟩)
 have hf:H1 s1.heap.objs.size=none:=I1.hok.fresh (Zp _)
 refine ⟨.ref s1.heap.objs.size,upd H1 s1.heap.objs.size (.lst xs),I1.laid (t':=s1.toks) (fun b u e=>Zi _ e) (Zp _) ?_,rfl,q _ hf⟩
 exact ⟨z,us,0,r,ZU _ rfl⟩
end
noncomputable abbrev Sp:=List V->Hp->VK->XK->Prop
noncomputable abbrev CXT:=List Env->Hp->Shared->XK->Z8
structure Env0 (P:Program) (w:World) (K:Y1) (mg:Xv) (base:Heap) (A:Around) (outer:List Env) (s:Shared) (H:Hp):Prop where
 frames:A.frames=some outer
 mod:Mod K mg base
 bs:∀ b o,base.get? b=some o->s.heap.get? b=some o/\H b=none
 bsz:base.objs.size<=s.heap.objs.size
 funs:s.heap.FunFrames base outer
 frf:∀ b∈frs outer,H b=none
 hok:HOk P w H s.heap
 bare:AllBare s.gens
noncomputable def CE (outer:List Env) (P:Program) (w:World) (H:Hp) (s:Shared) (Q:VK) (u:Value) (s':Shared):Prop :=
 ∃ v H',s'.os=s.os/\AllBare s'.gens/\Un (frs outer) [] H H' s.heap s'.heap/\HOk P w H' s'.heap/\RelV v u/\Q v H'
noncomputable def CR (CX:CXT) (outer:List Env) (P:Program) (w:World) (H:Hp) (s:Shared) (Q:VK) (E:XK) (r:Result) (s':Shared):Prop :=
 match r with
 | .ok (.ret u)=>CE outer P w H s Q u s'
 | .ok _=>False
 | .error e=>CX outer H s E e s'
structure FnOk (P:Program) (w:World) (K:Y1) (mg:Xv) (base:Heap) (CX:CXT) (k:Nat) (f:Addr) (fd:FuncData) (ps:List Str) (sp:Sp):Prop where
 len:∀ vs H Q E,sp vs H Q E->vs.length=ps.length
 run:∀ (A:Around) (outer:List Env) (s:Shared) (H:Hp) (args:Args) (us:X1) (vs:List V) (Q:VK) (E:XK),Room k A->Env0 P w K mg base A outer s H->BindsTo s fd args (ps.zip us)->aU vs us->sp vs H Q E →
  codeAny (model P w) A (.call (.ref f) args) (CR CX outer P w H s Q E) s
section
variable {X:Cx} {pins:Yo} {σ:St} {H:Hp} {s s':Shared}
theorem Inv.env0 (I:Inv X pins σ H s):Env0 X.prog X.w X.K X.mg X.base X.A X.stack s H :=
 ⟨I.ok.frames,I.ok.mod,I.bs,ZV I.ok.bsz I.sz,I.stack,I.stkFree,I.hok,I.bare⟩
theorem Inv.after {Q:VK} {u:Value} (I:Inv X pins σ H s) (h:CE X.stack X.prog X.w H s Q u s'):EP X pins σ Q u s':=by
 obtain ⟨v,H',os,bare,un,hok,r,q⟩:=h
 obtain ⟨hh,g,d,t,os'⟩:=s'
 obtain rfl:os'=s.os:=os
 exact ⟨v,H',I.call (h':=hh) (g':=g) (d':=d) (t':=t) (ch:=[]) un hok bare (fun b z=>absurd z (by simp)),r,q⟩
end
noncomputable def BC (sp:Sp) (dvs:List V) (E:XK) (t:TA):TE:=fun σ H Q=>t σ H fun vs H1=>sp (vs++dvs) H1 Q E
noncomputable def Binds (K:Y1) (fd:FuncData) (ps:List Str) (ds:X1):Prop :=
 ∀ (s:Shared) (us:X1),K.In s.heap->(us++ds).length=ps.length->BindsTo s fd ⟨us,[]⟩ (ps.zip (us++ds))
theorem Binds.all {K:Y1} {fd:FuncData} {ps:List Str} (h:∀ us:X1,us.length=ps.length->bindArgs fd ⟨us,[]⟩=pure (ps.zip us)):Binds K fd ps []:=fun s us _ hl=>by
 rw [ZD] at hl ⊢
 exact .of_eq (h us hl)
noncomputable def qY (CX:CXT) (X:Cx) (E:XK):Prop:=∀ (pins:Yo) (σ:St) (H:Hp) (s:Shared) (e:Value) (s':Shared),Inv X pins σ H s->CX X.stack H s E e s'->X.xe e s'
section
variable {X:Cx} {CX:CXT} {k:Nat} {f C:Addr} {fd:FuncData} {ps:List Str} {sp:Sp} {dvs:List V} {ds:X1} {E:XK} {x m:Str} {p pos apos:Pos} {e o:Expr} {es:List Expr} {ta:TE} {t:TA}
theorem Dc {pins:Yo} {σ:St} {H:Hp} {s:Shared} {Q:VK} {us:X1} {vs:List V} (F:FnOk X.prog X.w X.K X.mg X.base CX k f fd ps sp) (hr:Room k X.A) (hb:Binds X.K fd ps ds) (hd:aU dvs ds) (hx:qY CX X E)
  (I:Inv X pins σ H s) (r:aU vs us) (h:sp (vs++dvs) H Q E):wpAny (model X.prog X.w) X.A (call (.ref f) us) (EP X pins σ Q) X.xe s:=by
 have r2:aU (vs++dvs) (us++ds):=r.append hd
 have hl:(us++ds).length=ps.length:=by rw [← r2.length];exact F.len _ _ _ _ h
 refine wpAny_call (codeAny_mono (F.run X.A X.stack s H ⟨us,[]⟩ (us++ds) (vs++dvs) Q E hr I.env0 (hb s us I.kIn hl) r2 h) fun r s' hq=>?_)
 cases r with
 | error e=>exact hx pins σ H s e s' I hq
 | ok fl =>
  cases fl with
  | ret u=>exact I.after hq
  | next=>exact False.elim hq
  | brk=>exact False.elim hq
  | cont=>exact False.elim hq
theorem zG (F:FnOk X.prog X.w X.K X.mg X.base CX k f fd ps sp) (hr:Room k X.A) (hg:Gl X x) (hm:X.mg x=some (.ref f)) (hk:PySem.W.keepIn X.K (.ref f)=true) (hb:Binds X.K fd ps ds) (hd:aU dvs ds) (hx:qY CX X E)
  (ha:PA X (e :: es) t) (hdb:(x == ("__debug__" : Str))=false:=by decide) (he:starEach (e :: es) X.env=(false,eval e X.env) :: starEach es X.env:=by rfl) (hpl:(backTo pos (starEach es X.env)).any (·.1)=false:=by rfl) :
  PE X (.Call (.Name x p) (e :: es) [] pos) (BC sp dvs E t):=by
 intro pins s σ H Q I h
 refine XA (sk I hg hm ?_ hdb)
 refine PySem.W.callWith_K (h₀:=X.base) I.ok.mod.kin hk (thn (ha pos pins s σ H _ I h) fun us s1 ⟨vs,H1,I1,r,q⟩=>⟨I1.kIn,?_⟩) he hpl
 exact Dc F hr hb hd hx I1 r q
end
noncomputable def PK (X:Cx) (kws:List Keyword) (t:TA):Prop :=
 ∀ (pos:Pos) (pins:Yo) (s:Shared) (σ:St) (H:Hp) (Q:List V->Hp->Prop),Inv X pins σ H s->t σ H Q->wpAny (model X.prog X.w) X.A (evalAll ((backToKw pos (keywordEach kws X.env)).map (·.2))) (AP X pins σ Q) X.xe s
section
variable {X:Cx} {CX:CXT} {k:Nat} {f C:Addr} {fd:FuncData} {ps ks:List Str} {sp:Sp} {E:XK} {x m:Str} {p pos apos kpos:Pos} {e o:Expr} {es:List Expr} {kws:List Keyword} {te ta:TE} {t tk:TA} {nm:Option Str}
theorem vP:PK X [] EN:=fun _ _ _ _ H Q I h=>wpAny_evalAll_nil ⟨[],H,I,.nil,h⟩
theorem sU (ha:PE X e te) (hr:PK X kws t):PK X (⟨nm,e,kpos⟩ :: kws) (Bs te t):=by
 intro pos pins s σ H Q I h
 show wpAny _ _ (evalAll ((do let v ← eval e X.env;standAt pos;pure v) :: (backToKw pos (keywordEach kws X.env)).map (·.2))) _ _ s
 refine wpAny_evalAll_cons (Zy (thn (ha pins s σ H _ I h) fun u s1 ⟨x,H1,I1,r1,q1⟩=>Zy (wpAny_standAt (Zs ?_))))
 exact thn (hr pos pins s1 σ H1 _ I1 q1) fun us s2 ⟨xs,H2,I2,r2,q2⟩=>⟨x :: xs,H2,I2,.cons r1 r2,q2⟩
variable {g:X1->X1->X1} {gV:List V->List V->List V}
end
structure FnScope (N P:List Str) (sc:Scope):Prop where
 kind:sc.kind=.function
 co:sc.isCoroutine=false
 gen:sc.isGenerator=false
 nd:N.Nodup
 pre:N.take P.length=P
 par:∀ x∈P,sc.names.lookup x=some .local\/sc.names.lookup x=some .cell
 nofree:∀ y∈sc.names,y.2 ≠ .free
theorem m9 {kindOf:Str->Option NameKind} {x:Str}:∀ {binds:List (Str×Value)} {m:Xv},(∀ v,(x,v) ∉ binds)->bindL kindOf binds m x=m x
 | [],_,_=>rfl
 | (n,v) :: r,m,h=>by
  unfold bindL
  rw [m9 fun w hw=>h w (Zx _ hw)]
  split
  ·have:x ≠ n:=by rintro rfl;exact h v Zw
   simp [this]
  ·rfl
theorem nE {kindOf:Str->Option NameKind} {x:Str}:∀ {binds:List (Str×Value)} {m:Xv},(∀ v,(x,v) ∉ binds)->bindC kindOf binds m x=m x
 | [],_,_=>rfl
 | (n,v) :: r,m,h=>by
  unfold bindC
  rw [nE fun w hw=>h w (Zx _ hw)]
  split
  ·rfl
  ·have:x ≠ n:=by rintro rfl;exact h v Zw
   simp [this]
theorem nk {kindOf:Str->Option NameKind} {x:Str} {v:Value}:∀ {P:List Str} {vs:X1} {i:Nat} {m:Xv},P.Nodup->P[i]?=some x->vs[i]?=some v->kindOf x=some .local →
  bindL kindOf (P.zip vs) m x=some v
 | [],_,_,_,_,h,_,_=>by simp at h
 | _ :: _,[],_,_,_,_,h,_=>by simp at h
 | p :: P,w :: vs,0,m,nd,h1,h2,hk=>by
  simp at h1 h2;subst h1;subst h2
  show bindL kindOf ((p,w) :: P.zip vs) m p=_
  unfold bindL
  rw [m9 fun v hv=>(ZW.mp nd).1 (WK hv).1,Zr hk]
  simp
 | p :: P,w :: vs,i+1,m,nd,h1,h2,hk=>by
  show bindL kindOf ((p,w) :: P.zip vs) m x=_
  unfold bindL
  exact nk (i:=i) (ZW.mp nd).2 (by simpa using h1) (by simpa using h2) hk
theorem nz {kindOf:Str->Option NameKind} {x:Str} {v:Value}:∀ {P:List Str} {vs:X1} {i:Nat} {m:Xv},P.Nodup->P[i]?=some x->vs[i]?=some v->kindOf x ≠ some .local →
  bindC kindOf (P.zip vs) m x=some v
 | [],_,_,_,_,h,_,_=>by simp at h
 | _ :: _,[],_,_,_,_,h,_=>by simp at h
 | p :: P,w :: vs,0,m,nd,h1,h2,hk=>by
  simp at h1 h2;subst h1;subst h2
  show bindC kindOf ((p,w) :: P.zip vs) m p=_
  unfold bindC
  rw [nE fun v hv=>(ZW.mp nd).1 (WK hv).1,Zq hk]
  simp
 | p :: P,w :: vs,i+1,m,nd,h1,h2,hk=>by
  show bindC kindOf ((p,w) :: P.zip vs) m x=_
  unfold bindC
  exact nz (i:=i) (ZW.mp nd).2 (by simpa using h1) (by simpa using h2) hk
noncomputable def start (N:List Str) (vs:List V):St:=vs.map some++List.replicate (N.length - vs.length) none
noncomputable def mT (CX:CXT) (P:Program) (w:World) (K:Y1) (mg:Xv) (base:Heap) (N:List Str) (qual:Str) (scope:Scope) (f:Addr) (cd:Value) (A:Around) (outer:List Env) (s:Shared) (H:Hp) (E:XK):Cx where
 prog:=P
 w:=w
 K:=K
 mg:=mg
 base:=base
 A:=A.deeper (envOfC qual scope s.heap.objs.size f cd)
 N:=N
 s₀:=s
 H₀:=H
 env:=envOfC qual scope s.heap.objs.size f cd
 outer:=outer
 stack:=envOfC qual scope s.heap.objs.size f cd :: outer
 ex:=[]
 calm:=true
 fn:=fun _=>true
 pn:=[]
 xe:=fun e s'=>wpAny (model P w) (A.deeper (envOfC qual scope s.heap.objs.size f cd)) (leaving (envOfC qual scope s.heap.objs.size f cd) e) (fun _ s''=>CX outer H s E e s'') (fun e' s''=>CX outer H s E e' s'') s'
theorem pM {sc:Scope} {n:Nat} {x:Str} (h:sc.names.lookup x=some .cell):∃ c,(cellsFrom n sc.names []).lookup x=some c:=by
 have q:=PySem.W.cellsFrom_some sc.names n [] (.inl h)
 exact WX.mp q
theorem uR {CX:CXT} {P:Program} {w:World} {K:Y1} {mg:Xv} {base:Heap} {N ps:List Str} {qual:Str} {scope:Scope} {f:Addr} {cd:Value} {A:Around} {outer:List Env} {s s1:Shared} {H:Hp} {E:XK} {us:X1} {vs:List V}
  (S:FnScope N ps scope) (hd:A.handled=none) (e0:Env0 P w K mg base A outer s H) (hl:vs.length=ps.length) (r:aU vs us)
  (x:InCallC s s.heap.objs.size (bindL (envOfC qual scope s.heap.objs.size f cd).kindOf (ps.zip us) fun _=>none) (cellsFrom (s.heap.objs.size+1) scope.names []) (bindC (envOfC qual scope s.heap.objs.size f cd).kindOf (ps.zip us) fun _=>none) s1) :
  Inv (mT CX P w K mg base N qual scope f cd A outer s H E) [] (start N vs) H s1:=by
 have hpl:ps.length<=N.length:=by have:=congrArg List.length S.pre;rw [ZO] at this;lia
 obtain ⟨h1,tk,rfl,hk⟩:=x.done
 have noA:∀ b:Addr,b ∉ (mT CX P w K mg base N qual scope f cd A outer s H E).ex:=fun b z=>absurd (show b∈([]:Xb) from z) (by simp)
 refine ⟨⟨e0.mod,S.kind,rfl,rfl,Zp _,fun y z c h1 h2=>?_,fun y hy=>?_,fun y c _ h=>?_,fun _=>hd,Around.frames_deeper e0.frames,.inr ⟨rfl,rfl⟩,fun b z=>absurd z (noA b),e0.bs,e0.bsz,fun b _ _=>noA b,fun b z=>absurd z (noA b),e0.funs,e0.frf⟩,
  rfl,e0.bare,Un.kept hk,⟨_,x.toInCall.ns,fun i y v h1 h2 h3=>?_⟩,fun y c h=>⟨_,x.cell y c h⟩,e0.hok.fresh (Zp _),fun y c h=>?_,fun p hp=>absurd (show p∈([]:Yo) from hp) (by simp),e0.hok.kept hk,?_⟩
 ·exact name_of_addr x.apart (XW h1) (XW h2)
 ·have hy:scope.names.lookup y=some .cell\/scope.names.lookup y=some .free:=hy
  rcases hy with hy | hy
  ·exact pM hy
  ·exact absurd rfl (S.nofree _ (XW hy))
 ·exact ZQ (x.above y c (XW h))
 ·have hi:i < vs.length:=by
   unfold start at h2
   by_cases hi:i < vs.length
   ·exact hi
   ·rw [Yw (by simpa using hi)] at h2
    rw [Xy] at h2
    split at h2 <;> cases h2
  have ha:vs[i]?=some v:=by
   unfold start at h2
   rw [Ym (by simpa using hi),ZC] at h2
   cases e:vs[i]? with
   | none=>rw [e] at h2;cases h2
   | some a=>rw [e] at h2;cases h2;rfl
  obtain ⟨u,hu,rv⟩:=r.get ha
  have hp:ps[i]?=some y:=by
   rw [← S.pre,List.getElem?_take_of_lt (by lia)];exact h1
  have ndP:ps.Nodup:=by rw [← S.pre];exact S.nd.sublist (List.take_sublist _ _)
  refine ⟨u,rv,?_⟩
  rcases S.par y (YR hp) with k | k
  ·exact .inl ⟨k,nk ndP hp hu k⟩
  ·obtain ⟨c,e⟩:=pM (n:=s.heap.objs.size+1) k
   refine .inr ⟨.inl k,c,e,?_⟩
   have q:=x.cell y c e
   rw [nz ndP hp hu (by show scope.names.lookup y ≠ _;rw [k];decide)] at q
   exact q
 ·exact e0.hok.fresh (ZQ (x.above y c (XW h)))
 ·unfold start
  show _=N.length
  rw [Zu,Zv,Y2]
  lia
theorem Ee {CX:CXT} {P:Program} {w:World} {K:Y1} {mg:Xv} {base:Heap} {k:Nat} {f:Addr} {name qual:Str} {params:Arguments} {body:List Stmt} {scope:Scope} {dV kV doc pm cdv ct oc:Value} {an od:Option Addr}
  {osl:Array (Vt)} {N ps:List Str} {sp:Sp} (lk:K.lookup f=some ⟨oc,od,.func (PySem.W.fnOf name qual params body scope dV kV doc pm an cdv ct),osl⟩) (hcd:PySem.W.codeIn K cdv qual=true) (S:FnScope N ps scope)
  (len:∀ vs H Q E,sp vs H Q E->vs.length=ps.length)
  (hbody:∀ (A:Around) (outer:List Env) (s:Shared) (H:Hp) (vs:List V) (Q:VK) (E:XK),Room k (A.deeper (envOfC qual scope s.heap.objs.size f cdv))->sp vs H Q E →
   ∃ t,PSs (mT CX P w K mg base N qual scope f cdv A outer s H E) body t/\t { nx:=fun _ H'=>Q .non H',rt:=Q } (start N vs) H) :
  FnOk P w K mg base CX (k+1) f (PySem.W.fnOf name qual params body scope dV kV doc pm an cdv ct) ps sp:=by
 refine ⟨len,fun A outer s H args us vs Q E hr e0 hb r hsp=>?_⟩
 have hl:=len _ _ _ _ hsp
 have KX:K.In s.heap:=e0.mod.kin.keeps fun b o e=>(e0.bs b o e).1
 have lim:s.heap.NoLimit:=e0.mod.nolimit.keeps fun b o e=>(e0.bs b o e).1
 have hkind:∀ y∈ps.zip us,scope.names.lookup y.1=some .local\/(scope.names.lookup y.1=some .cell/\((cellsFrom (s.heap.objs.size+1) scope.names []).lookup y.1).isSome=true):=fun ⟨n,v⟩ hy=>by
  rcases S.par n (WK hy).1 with q | q
  ·exact .inl q
  ·exact .inr ⟨q,PySem.W.cellsFrom_some _ _ _ (.inl q)⟩
 refine codeAny_call_function hr.depth (KX _ _ lk) rfl S.co S.gen rfl (PySem.W.codeRec_of KX hcd) (hb _ _ _ _ ?_)
 refine wpAny_newFunctionEnv_cells S.kind hkind fun env he s1 x=>?_
 subst he
 refine ⟨lim.keeps x.toInCall.keep,codeAny_func ?_⟩
 obtain ⟨t,ht,hq⟩:=hbody A outer s H vs Q E (hr.deeper _) hsp
 have I:Inv (mT CX P w K mg base N qual scope f cdv A outer s H E) [] (start N vs) H s1:=uR S hr.hd e0 hl r x
 refine YY (ht [] s1 (start N vs) H _ I hq) (fun fl s' hs=>?_) fun e s' hs=>hs
 have fin:∀ {σ':St} {H':Hp} {v:V} {u:Value},Inv (mT CX P w K mg base N qual scope f cdv A outer s H E) [] σ' H' s'->RelV v u->Q v H'->CE outer P w H s Q u s' :=
  fun {σ' H' v u} J rv q=>⟨v,H',J.os,J.bare,J.base,J.hok,rv,q⟩
 cases fl with
 | ret u =>
  obtain ⟨v,σ',H',J,rv,q⟩:=hs
  exact fin J rv q
 | next =>
  obtain ⟨σ',H',J,q⟩:=hs
  exact fin (v:=V.non) (u:=Value.none) J rfl q
 | brk =>
  obtain ⟨_,_,_,q⟩:=hs
  exact False.elim q
 | cont =>
  obtain ⟨_,_,_,q⟩:=hs
  exact False.elim q
section
variable {X:Cx} {x:Str} {p pos:Pos} {e:Expr} {es:List Expr} {t:TA} {id T:String} {r:List V->Hp->VK->Prop}
noncomputable def tCB (r:List V->Hp->VK->Prop) (t:TA):TE:=fun σ H Q=>t σ H fun vs H1=>r vs H1 Q
theorem pS (hc:fj X (.builtin id) r) (hg:Gl X x) (hm:X.mg x=none) (hv:bootBuiltins x=some (.builtin id)) (ha:PA X (e :: es) t) (hn:x ≠ "__name__" := by decide) (hdb:(x == ("__debug__" : Str))=false:=by decide)
  (he:starEach (e :: es) X.env=(false,eval e X.env) :: starEach es X.env:=by rfl) (hpl:(backTo pos (starEach es X.env)).any (·.1)=false:=by rfl):PE X (.Call (.Name x p) (e :: es) [] pos) (tCB r t):=by
 intro pins s σ H Q I h
 refine XA (jE I hg hm hv ?_ hn hdb)
 exact PyProof.Rows.callWith_builtin1 (thn (ha pos pins s σ H _ I h) fun us s1 ⟨vs,H1,I1,r1,q1⟩=>hc pins s1 σ H1 vs us Q I1 r1 q1) he hpl
theorem uv (hc:fj X (.type T) r) (hg:Gl X x) (hm:X.mg x=none) (hv:bootBuiltins x=some (.type T)) (ha:PA X (e :: es) t) (hn:x ≠ "__name__" := by decide) (hdb:(x == ("__debug__" : Str))=false:=by decide)
  (he:starEach (e :: es) X.env=(false,eval e X.env) :: starEach es X.env:=by rfl) (hpl:(backTo pos (starEach es X.env)).any (·.1)=false:=by rfl):PE X (.Call (.Name x p) (e :: es) [] pos) (tCB r t):=by
 intro pins s σ H Q I h
 refine XA (jE I hg hm hv ?_ hn hdb)
 exact Wp (thn (ha pos pins s σ H _ I h) fun us s1 ⟨vs,H1,I1,r1,q1⟩=>hc pins s1 σ H1 vs us Q I1 r1 q1) he hpl
end
end L2
namespace HT
open PySem PyProof.Rows
section
variable {prog:Program} {w:World} {A:Around} {E:Z8} {s:Shared}
noncomputable def sIx (n d:Nat):Option Int->Nat
 | none=>d
 | some v=>if v < 0 then (v+(n:Int)).toNat else min v.toNat n
end
end HT
namespace L2
open PySem PySem.Spec PyProof.Rows
noncomputable abbrev TO:=St->Hp->(Option Int->Hp->Prop)->Prop
noncomputable def PO (X:Cx) (e:Option Expr) (t:TO):Prop :=
 ∀ (pins:Yo) (s:Shared) (σ:St) (H:Hp) (Q:Option Int->Hp->Prop),Inv X pins σ H s->t σ H Q →
  wpAny (model X.prog X.w) X.A (evalPart e X.env) (fun u s'=>∃ o H',Inv X pins σ H' s'/\IsPart u o/\Q o H') X.xe s
noncomputable def zt:TO:=fun _ H Q=>Q none H
noncomputable def DK (t:TE):TO:=fun σ H Q=>t σ H fun x H1=>∃ i,x=.int i/\Q (some i) H1
section
variable {X:Cx} {e:Expr} {te:TE} {lo hi:Option Expr} {tl th:TO} {pos p2:Pos}
theorem Aj:PO X none zt:=by
 intro pins s σ H Q I h
 rw [evalPart_none]
 exact Zs ⟨none,H,I,.none,h⟩
theorem zr (h:PE X e te):PO X (some e) (DK te):=by
 intro pins s σ H Q I hw
 rw [evalPart_some]
 refine thn (h pins s σ H _ I hw) fun u s1 ⟨x,H1,I1,r1,q1⟩=>?_
 obtain ⟨i,rfl,q⟩:=q1
 obtain ⟨t,rfl⟩:=r1
 exact ⟨some i,H1,I1,.int i t,q⟩
noncomputable def SlR (X:Cx) (r:V->Option Int->Option Int->Hp->VK->Prop):Prop :=
 ∀ (pins:Yo) (s:Shared) (σ:St) (H:Hp) (x:V) (v vl vu:Value) (lo hi:Option Int) (sl:Addr) (Q:VK),Inv X pins σ H s->RelV x v->s.heap.IsSliceOf sl vl vu .none->IsPart vl lo->IsPart vu hi->r x lo hi H Q →
  ∃ T id,typeLookup (.type T) "__getitem__" = pure (some (.builtin id))/\s.TypeIs v T/\wpAny (model X.prog X.w) X.A (getItem v (.ref sl)) (EP X pins σ Q) X.xe s
theorem SlR.or {r r':V->Option Int->Option Int->Hp->VK->Prop} (h:SlR X r) (h':SlR X r'):SlR X (fun x lo hi H Q=>r x lo hi H Q\/r' x lo hi H Q):=by
 intro pins s σ H x v vl vu lo hi sl Q I rx hs pl pu q
 rcases q with q | q
 ·exact h pins s σ H x v vl vu lo hi sl Q I rx hs pl pu q
 ·exact h' pins s σ H x v vl vu lo hi sl Q I rx hs pl pu q
noncomputable def tSl (r:V->Option Int->Option Int->Hp->VK->Prop) (te:TE) (tl th:TO):TE:=fun σ H Q=>te σ H fun x H1=>tl σ H1 fun l H2=>th σ H2 fun u H3=>r x l u H3 Q
theorem vm {r:V->Option Int->Option Int->Hp->VK->Prop} (hr:SlR X r) (he:PE X e te) (hl:PO X lo tl) (hu:PO X hi th):PE X (.Subscript e (.Slice lo hi none p2) pos) (tSl r te tl th):=by
 intro pins s σ H Q I h
 refine Subscript_ (thn (he pins s σ H _ I h) fun v s1 ⟨x,H1,I1,r1,q1⟩=>?_)
 refine wpAny_Slice (thn (hl pins s1 σ H1 _ I1 q1) fun vl s2 ⟨l,H2,I2,pl,q2⟩=>thn (hu pins s2 σ H2 _ I2 q2) fun vu s3 ⟨u,H3,I3,pu,q3⟩=>?_)
 rw [evalPart_none]
 refine Zs ?_
 have I4:Inv X pins σ H3 { s3 with heap:=s3.heap.push { cls:=.type "slice",data:=.fields #[vl,vu,.none] } }:=I3.kept (t':=s3.toks) fun b ob q=>Zi _ q
 obtain ⟨T,id,hT,ht,hg⟩:=hr pins { s3 with heap:=s3.heap.push { cls:=.type "slice",data:=.fields #[vl,vu,.none] } } σ H3 x v vl vu l u s3.heap.objs.size Q I4 r1 (Heap.IsSliceOf.new ..) pl pu q3
 show wpAny (model X.prog X.w) X.A (subscriptTail e (.Slice lo hi none p2) v (.ref s3.heap.objs.size)) (EP X pins σ Q) X.xe { s3 with heap:=s3.heap.push { cls:=.type "slice",data:=.fields #[vl,vu,.none] } }
 exact tail_any (ops:=[.ref s3.heap.objs.size,v]) ht hT hg (by with_unfolding_all rfl)
noncomputable def ub (xs:List V) (lo hi:Option Int):List V:=(xs.drop (HT.sIx xs.length 0 lo)).take (HT.sIx xs.length xs.length hi - HT.sIx xs.length 0 lo)
theorem qS (xs:List V) (lo hi:Option Int):(ub xs lo hi).length<=xs.length:=by
 unfold ub
 rw [ZO,ZK]
 lia
end
noncomputable def ixN (n:Nat) (i:Int):Option Nat:=if 0<=i then (if i < n then some i.toNat else none) else if -(n:Int)<=i then some (i+n).toNat else none
noncomputable def atI {α:Type} (xs:List α) (i:Int):Option α:=(ixN xs.length i).bind fun j=>xs[j]?
theorem tH {n:Nat} {i:Int} {j:Nat} (h:ixN n i=some j):seqIndex? i n=some j/\j < n/\-(n:Int)<=i/\i < n:=by
 unfold ixN at h
 by_cases h0:0<=i
 ·rw [Zr h0] at h
  by_cases h1:i < n
  ·rw [Zr h1] at h
   have e:i.toNat=j:=ZE h
   exact ⟨by rw [seqIndex_of h0 h1,e],by lia,by lia,h1⟩
  ·rw [Zq h1] at h;cases h
 ·rw [Zq h0] at h
  by_cases h1:-(n:Int)<=i
  ·rw [Zr h1] at h
   have e:(i+n).toNat=j:=ZE h
   exact ⟨by rw [seqIndex_neg (by lia) h1,e],by lia,h1,by lia⟩
  ·rw [Zq h1] at h;cases h
theorem oR {α:Type} {xs:List α} {i:Int} {v:α} (h:atI xs i=some v):∃ j,seqIndex? i xs.length=some j/\xs[j]?=some v/\j < xs.length/\-(xs.length:Int)<=i/\i < xs.length:=by
 unfold atI at h
 cases e:ixN xs.length i with
 | none=>rw [e] at h;cases h
 | some j =>
  rw [e] at h
  obtain ⟨h1,h2,h3,h4⟩:=tH e
  exact ⟨j,h1,h,h2,h3,h4⟩
noncomputable def fM (b:Expr):Prop:=∀ o i,subscripted b false o i=operate [o,i] (getItem o i)
noncomputable def IxR (X:Cx) (r:R2):Prop :=
 ∀ (value slice:Expr) (pins:Yo) (s:Shared) (σ:St) (H:Hp) (x y:V) (v u:Value) (Q:VK),Inv X pins σ H s->RelV x v->RelV y u->r x y H Q →
  subscripted slice false v u=operate [v,u] (getItem v u)->wpAny (model X.prog X.w) X.A (subscriptTail value slice v u) (EP X pins σ Q) X.xe s
noncomputable def MtR (X:Cx) (id:String) (r:V->List V->Hp->VK->Prop):Prop :=
 ∀ (pins:Yo) (s:Shared) (σ:St) (H:Hp) (x:V) (xs:List V) (v:Value) (us:X1) (Q:VK),Inv X pins σ H s->RelV x v->aU xs us->r x xs H Q →
  wpAny (model X.prog X.w) X.A (call (.builtin id) (v :: us)) (EP X pins σ Q) X.xe s
section
variable {X:Cx} {a b:Expr} {ta tb:TE} {pos:Pos}
theorem IxR.or {r r':R2} (h:IxR X r) (h':IxR X r'):IxR X (fun x y H Q=>r x y H Q\/r' x y H Q):=by
 intro value slice pins s σ H x y v u Q I rx ry q hs
 rcases q with q | q
 ·exact h value slice pins s σ H x y v u Q I rx ry q hs
 ·exact h' value slice pins s σ H x y v u Q I rx ry q hs
theorem tU {r:R2} (hr:IxR X r) (ha:PE X a ta) (hb:PE X b tb) (hs:fM b):PE X (.Subscript a b pos) (tOp r ta tb):=by
 intro pins s σ H Q I h
 exact Subscript_ (Cw ha hb I h fun v u s2 x y H2 I2 rx ry q=>hr a b pins s2 σ H2 x y v u Q I2 rx ry q (hs _ _))
noncomputable def Fc (K:Y1):R2:=fun x y H Q=>∃ p xs i v,x=.ref p/\y=.int i/\SqL K H p xs/\atI xs i=some v/\Q v H
noncomputable def DO (K:Y1):R2:=fun x y H Q=>∃ p xs i v,x=.ref p/\y=.int i/\SqT K H p xs/\atI xs i=some v/\Q v H
noncomputable def ES:R2:=fun x y H Q=>∃ z i c,x=.str z/\y=.int i/\z.length<=sizeLine/\atI z.cps.toList i=some c/\Q (.str ⟨#[c]⟩) H
theorem tf:IxR X (Fc X.K):=by
 intro value slice pins s σ H x y v u Q I rx ry h hs
 obtain ⟨p,xs,i,z,rfl,rfl,hq,he,q⟩:=h
 cases rx
 obtain ⟨t,rfl⟩:=ry
 obtain ⟨its,r,pl,hz⟩:=I.list hq
 obtain ⟨j,h1,h2,h3,h4,h5⟩:=oR he
 obtain ⟨w,ew,rw'⟩:=r.get h2
 have hl:=r.length
 have hn:=kC
 have fin:EP X pins σ Q w s:=⟨z,H,I,rw',q⟩
 by_cases h0:0<=i
 ·have hj:i.toNat=j:=by
   rw [seqIndex_of h0 h5] at h1
   exact ZE h1
  exact item_listR pl.isList h0 (by lia) (by rw [hj];simpa using ew) fin hs
 ·have hj:(i+(its.toArray.size:Int)).toNat=j:=by
   rw [seqIndex_neg (by lia) h4] at h1
   rw [Zd,← hl]
   exact ZE h1
  exact subscriptTail_builtinR (x:=w) pl.isList.typeIs slot_list_getitem.lookup
   (wpAny_getItem_list_neg (Q:=fun r s'=>r=w/\EP X pins σ Q r s') pl.isList (by lia) (by rw [Zd] <;> lia) (by lia) (by rw [hj];simpa using ew) ⟨rfl,fin⟩) hs
theorem De:IxR X (DO X.K):=by
 intro value slice pins s σ H x y v u Q I rx ry h hs
 obtain ⟨p,xs,i,z,rfl,rfl,hq,he,q⟩:=h
 cases rx
 obtain ⟨t,rfl⟩:=ry
 obtain ⟨its,r,pl,hz⟩:=I.tuple hq
 obtain ⟨j,h1,h2,h3,h4,h5⟩:=oR he
 obtain ⟨w,ew,rw'⟩:=r.get h2
 have hl:=r.length
 have hn:=kC
 have fin:EP X pins σ Q w s:=⟨z,H,I,rw',q⟩
 exact subscriptTail_builtinR (x:=w) pl.typeIs slot_tuple_getitem.lookup
  (getItem_tuple (j:=j) (Q:=fun r s'=>r=w/\EP X pins σ Q r s') pl (by lia) (by lia) (by rw [Zd,← hl];exact h1) (by simpa using ew) ⟨rfl,fin⟩) hs
theorem BU:IxR X ES:=by
 intro value slice pins s σ H x y v u Q I rx ry h hs
 obtain ⟨z,i,c,rfl,rfl,hz,he,q⟩:=h
 obtain ⟨t,rfl⟩:=rx
 obtain ⟨t',rfl⟩:=ry
 obtain ⟨j,h1,h2,h3,h4,h5⟩:=oR he
 have hl:z.cps.toList.length=z.length:=by simp [Str.length]
 rw [hl] at h1 h4 h5
 have hn:=kC
 exact tail_any (typeIs_str s z t) slot_str_getitem.lookup (getItem_str (c:=c) (by
  have e1:decide (i < -(2 ^ 63:Int))=false:=ZP (by lia)
  have e2:decide (i ≥ 2 ^ 63)=false:=ZP (by lia)
  rw [e1,e2,Bool.or_false]) (by rw [h1];simpa using h2) ⟨.str ⟨#[c]⟩,H,I.tok _,⟨_,rfl⟩,q⟩) hs
noncomputable def rIx (K:Y1):R2:=fun x y H Q=>Fc K x y H Q\/DO K x y H Q\/ES x y H Q
theorem yA:IxR X (rIx X.K):=tf.or (De.or BU)
theorem rG (its:X1) (n j:Nat) (u:Value):Obj.mapSeq (·.setIfInBounds j u) { cls:=.type "list",data:=.seq its.toArray n }={ cls:=.type "list",data:=.seq (its.set j u).toArray n }:=by
 simp [Obj.mapSeq]
theorem Inv.lst {pins:Yo} {σ:St} {H:Hp} {s:Shared} {p:Addr} {xs:List V} (I:Inv X pins σ H s) (h:H p=some (.lst xs)) :
  ∃ (its:X1) (n:Nat),aU xs its/\s.heap.get? p=some { cls:=.type "list",data:=.seq its.toArray n }/\xs.length<=sizeLine:=by
 obtain ⟨z,its,n,r,e⟩:=I.hok p _ h
 exact ⟨its,n,r,e,z⟩
theorem Inv.lstUpd {pins:Yo} {σ:St} {H:Hp} {s:Shared} {p:Addr} {xs ys:List V} {its its':X1} {n n':Nat} {f:Obj->Obj} (I:Inv X pins σ H s) (h:H p=some (.lst xs))
  (ho:s.heap.get? p=some { cls:=.type "list",data:=.seq its.toArray n }) (hf:f { cls:=.type "list",data:=.seq its.toArray n }={ cls:=.type "list",data:=.seq its'.toArray n' }) (r:aU ys its') (hz:ys.length<=sizeLine) (t:Nat) :
  Inv X pins σ (upd H p (.lst ys)) { s with heap:=s.heap.update p f,toks:=t }:=by
 have e:(s.heap.update p f).get? p=some { cls:=.type "list",data:=.seq its'.toArray n' }:=by
  rw [Wr f ho (by rw [hf] <;> rfl),hf]
 refine I.write (x:=p) (e:=p) (by rw [h];trivial) (.inl rfl) (fun b u hb q=>(YI _ _ (YG hb)).trans q) ⟨_,e⟩ ?_
 exact ⟨hz,its',n',r,e⟩
noncomputable def Bu:V->V->V->Hp->(Hp->Prop)->Prop:=fun o i v H Q=>∃ p xs k j,o=.ref p/\i=.int k/\H p=some (.lst xs)/\ixN xs.length k=some j/\Q (upd H p (.lst (xs.set j v)))
theorem set_list:Di X Bu:=by
 intro pins s σ H o i v ov iv u Q I ro ri rv h
 obtain ⟨p,xs,k,j,rfl,rfl,hp,hj,q⟩:=h
 cases ro
 obtain ⟨t,rfl⟩:=ri
 obtain ⟨its,n,r,ho,hz⟩:=I.lst hp
 obtain ⟨h1,h2,h3,h4⟩:=tH hj
 have hl:=r.length
 have hn:=kC
 have I':Inv X pins σ (upd H p (.lst (xs.set j v))) { s with heap:=s.heap.update p (Obj.mapSeq (·.setIfInBounds j u)) } :=
  I.lstUpd hp ho (rG its n j u) (r.set rv j) (by rw [XN];exact hz) s.toks
 by_cases h0:0<=k
 ·have hk:k.toNat=j:=by
   rw [seqIndex_of h0 h4] at h1
   exact ZE h1
  exact PySem.W.ki_setAt ho h0 (by lia) (by rw [Zd,← hl];exact h4) (by rw [hk];exact ⟨_,I',q⟩)
 ·have hk:(k+(its.toArray.size:Int)).toNat=j:=by
   rw [seqIndex_neg (by lia) h3] at h1
   rw [Zd,← hl]
   exact ZE h1
  exact PySem.W.ki_setBack ho (by lia) (by rw [Zd,← hl];exact h3) (by lia) (by rw [hk];exact ⟨_,I',q⟩)
theorem oC (lo hi:Option Int) (n:Nat):(sliceBounds lo hi none n).1=((HT.sIx n 0 lo:Nat):Int)/\(sliceBounds lo hi none n).2.1=((HT.sIx n n hi:Nat):Int)/\(sliceBounds lo hi none n).2.2=1:=by
 refine ⟨?_,?_,rfl⟩
 ·cases lo with
  | none=>simp [sliceBounds,HT.sIx]
  | some i =>
   simp only [sliceBounds,HT.sIx,Vr,show (1:Int) > 0 by decide,if_true]
   by_cases h:i < 0
   ·simp only [h,if_true] <;> lia
   ·simp only [h,if_false] <;> lia
 ·cases hi with
  | none=>simp [sliceBounds,HT.sIx]
  | some i =>
   simp only [sliceBounds,HT.sIx,Vr,show (1:Int) > 0 by decide,if_true]
   by_cases h:i < 0
   ·simp only [h,if_true] <;> lia
   ·simp only [h,if_false] <;> lia
theorem mY (its:X1) (lo hi:Option Int):slicePick its.toArray lo hi none=((its.drop (HT.sIx its.length 0 lo)).take (HT.sIx its.length its.length hi - HT.sIx its.length 0 lo)).toArray:=by
 obtain ⟨h1,h2,h3⟩:=oC lo hi its.toArray.size
 unfold slicePick
 rw [h1,h2,h3]
 simp only [sliceRange_one,pick_run,Zd] <;> rfl
noncomputable def DU (K:Y1):V->Option Int->Option Int->Hp->VK->Prop:=fun x lo hi H Q=>∃ a xs,x=.ref a/\SqL K H a xs/\∀ p,H p=none->Q (.ref p) (upd H p (.lst (ub xs lo hi)))
theorem yP:SlR X (DU X.K):=by
 intro pins s σ H x v vl vu lo hi sl Q I rx hs pl pu h
 obtain ⟨a,xs,rfl,hx,q⟩:=h
 cases rx
 obtain ⟨its,r,ht,hz⟩:=I.list hx
 have hlen:=r.length
 refine ⟨"list",_,slot_list_getitem.lookup,ht.isList.typeIs,?_⟩
 refine wpAny_getItem_list_slice ht.isList hs pl pu .none (by simp) ?_ (by rw [Zd] <;> lia)
 rw [mY,← hlen]
 refine ⟨.ref s.heap.objs.size,_,I.laid (t':=s.toks) (o:=.lst (ub xs lo hi)) (fun b ob q=>Zi _ q) (Zp _) ?_,rfl,q _ (I.hok.fresh (Zp _))⟩
 exact ⟨ZV (qS xs lo hi) hz,_,0,(r.drop (HT.sIx xs.length 0 lo)).take (HT.sIx xs.length xs.length hi - HT.sIx xs.length 0 lo),ZU _ rfl⟩
noncomputable def fG:V->Bool
 | .non=>true
 | .bl _=>true
 | .int _=>true
 | .str _=>true
 | _=>false
noncomputable def eqV:V->V->Bool
 | .non,.non=>true
 | .bl a,.bl b=>a == b
 | .bl a,.int b=>(if a then 1 else 0) == b
 | .int a,.bl b=>a == (if b then 1 else 0)
 | .int a,.int b=>a == b
 | .str a,.str b=>a == b
 | _,_=>false
theorem CG {A:Around} {s:Shared} {y x:V} {u v:Value} (ry:RelV y u) (rx:RelV x v) (fy:fG y=true) (fx:fG x=true):SeqAt.EqAt A s u v (eqV y x):=by
 cases y with
 | non =>
  cases ry
  cases x with
  | non=>cases rx;exact SeqAt.EqAt.same _
  | bl b=>cases rx;exact SeqAt.EqAt.none_bool b
  | int b=>obtain ⟨t,rfl⟩:=rx;exact SeqAt.EqAt.none_int b t
  | str b=>obtain ⟨t,rfl⟩:=rx;exact SeqAt.EqAt.none_str b t
  | _=>exact absurd (show false=true from fx) Zh
 | bl a =>
  cases ry
  cases x with
  | non=>cases rx;exact SeqAt.EqAt.bool_none a
  | bl b=>cases rx;exact SeqAt.EqAt.bool_bool a b
  | int b=>obtain ⟨t,rfl⟩:=rx;exact SeqAt.EqAt.bool_int a b t
  | str b=>obtain ⟨t,rfl⟩:=rx;exact SeqAt.EqAt.bool_str a b t
  | _=>exact absurd (show false=true from fx) Zh
 | int a =>
  obtain ⟨t',rfl⟩:=ry
  cases x with
  | non=>cases rx;exact SeqAt.EqAt.int_none a t'
  | bl b=>cases rx;exact SeqAt.EqAt.int_bool a t' b
  | int b=>obtain ⟨t,rfl⟩:=rx;exact SeqAt.EqAt.int_int a t' b t
  | str b=>obtain ⟨t,rfl⟩:=rx;exact SeqAt.EqAt.int_str a t' b t
  | _=>exact absurd (show false=true from fx) Zh
 | str a =>
  obtain ⟨t',rfl⟩:=ry
  cases x with
  | non=>cases rx;exact SeqAt.EqAt.str_none a t'
  | bl b=>cases rx;exact SeqAt.EqAt.str_bool a t' b
  | int b=>obtain ⟨t,rfl⟩:=rx;exact SeqAt.EqAt.str_int a t' b t
  | str b=>obtain ⟨t,rfl⟩:=rx;exact SeqAt.EqAt.str_str a t' b t
  | _=>exact absurd (show false=true from fx) Zh
 | _=>exact absurd (show false=true from fy) Zh
noncomputable def eqU (x:V) (u:Value):Bool:=match u with
 | .none=>eqV .non x
 | .bool b=>eqV (.bl b) x
 | .int i _=>eqV (.int i) x
 | .str z _=>eqV (.str z) x
 | _=>false
theorem vV {x y:V} {u:Value} (r:RelV y u) (f:fG y=true):eqU x u=eqV y x:=by
 cases y with
 | non=>cases r;rfl
 | bl b=>cases r;rfl
 | int i=>obtain ⟨t,rfl⟩:=r;rfl
 | str z=>obtain ⟨t,rfl⟩:=r;rfl
 | _=>exact absurd (show false=true from f) Zh
theorem ke {x:V}:∀ {xs:List V} {us:X1},aU xs us->xs.all fG=true->us.any (eqU x)=xs.any fun y=>eqV y x
 | _,_,.nil,_=>rfl
 | y :: xs,u :: us,.cons r t,f=>by
  rw [X6,Yq] at f
  rw [Y9,Y9,vV r f.1,ke t f.2]
theorem iV {A:Around} {s:Shared} {x:V} {v:Value} (rx:RelV x v) (fx:fG x=true):∀ {xs:List V} {us:X1},aU xs us->xs.all fG=true->∀ u∈us,SeqAt.EqAt A s u v (eqU x u)
 | _,_,.nil,_=>fun u hu=>by cases hu
 | y :: xs,u :: us,.cons r t,f=>fun u' hu=>by
  rw [X6,Yq] at f
  rcases Zo.mp hu with rfl | hu
  ·rw [vV r f.1];exact CG r rx f.1 fx
  ·exact iV rx fx t f.2 u' hu
noncomputable def inV (x:V) (xs:List V):Bool:=xs.any fun y=>eqV y x
noncomputable def rIn (K:Y1) (neg:Bool):R2:=fun x y H Q=>∃ p xs,y=.ref p/\(SqL K H p xs\/SqT K H p xs)/\fG x=true/\xs.all fG=true/\Q (.bl (if neg then !inV x xs else inV x xs)) H
theorem uC:OpR X (compareOp .In) (rIn X.K false):=by
 intro pins s σ H x y v u Q I rx ry h
 obtain ⟨p,xs,rfl,hq,fx,fs,q⟩:=h
 cases ry
 rcases hq with hq | hq
 ·obtain ⟨its,r,pl,hz⟩:=I.list hq
  refine SeqAt.in_listAt (eqU x) pl.isList (fun w hw=>iV rx fx r fs w (by simpa using hw)) ⟨.bl _,H,I,rfl,?_⟩
  rw [show its.toArray.any (eqU x)=its.any (eqU x) by simp,ke r fs]
  exact q
 ·obtain ⟨its,r,pl,hz⟩:=I.tuple hq
  refine SeqAt.in_tupleAt (eqU x) pl (fun w hw=>iV rx fx r fs w (by simpa using hw)) ⟨.bl _,H,I,rfl,?_⟩
  rw [show its.toArray.any (eqU x)=its.any (eqU x) by simp,ke r fs]
  exact q
theorem oe:OpR X (compareOp .NotIn) (rIn X.K true):=by
 intro pins s σ H x y v u Q I rx ry h
 obtain ⟨p,xs,rfl,hq,fx,fs,q⟩:=h
 cases ry
 rcases hq with hq | hq
 ·obtain ⟨its,r,pl,hz⟩:=I.list hq
  refine SeqAt.notIn_listAt (eqU x) pl.isList (fun w hw=>iV rx fx r fs w (by simpa using hw)) ⟨.bl _,H,I,rfl,?_⟩
  rw [show its.toArray.any (eqU x)=its.any (eqU x) by simp,ke r fs]
  exact q
 ·obtain ⟨its,r,pl,hz⟩:=I.tuple hq
  refine SeqAt.notIn_tupleAt (eqU x) pl (fun w hw=>iV rx fx r fs w (by simpa using hw)) ⟨.bl _,H,I,rfl,?_⟩
  rw [show its.toArray.any (eqU x)=its.any (eqU x) by simp,ke r fs]
  exact q
theorem fj.or {f:Value} {r r':List V->Hp->VK->Prop} (h:fj X f r) (h':fj X f r'):fj X f (fun xs H Q=>r xs H Q\/r' xs H Q):=by
 intro pins s σ H xs us Q I rs q
 rcases q with q | q
 ·exact h pins s σ H xs us Q I rs q
 ·exact h' pins s σ H xs us Q I rs q
theorem n8:fj X (.type "list") (fun xs H Q=>∃ p ys,xs=[.ref p]/\(SqL X.K H p ys\/SqT X.K H p ys)/\∀ l,H l=none->Q (.ref l) (upd H l (.lst ys))):=by
 intro pins s σ H xs us Q I r h
 obtain ⟨p,ys,rfl,hq,q⟩:=h
 obtain ⟨u,rfl,rx⟩:=vals1 r
 cases rx
 have fin:∀ (its:X1),aU ys its->ys.length<=sizeLine->∀ (h':Heap) (c':Nat),(∀ b o',s.heap.get? b=some o'->h'.get? b=some o') →
   h'.get? s.heap.objs.size=some { cls:=.type "list",dict:=none,data:=.seq its.toArray c',slots:=#[] }->EP X pins σ Q (.ref s.heap.objs.size) { s with heap:=h' }:=fun its r' hz h' c' kp e =>
  ⟨.ref s.heap.objs.size,_,I.laid (t':=s.toks) kp (Zp _) (show br X.prog X.w _ h' _ (.lst ys) from ⟨hz,its,c',r',e⟩),rfl,q _ (I.hok.fresh (Zp _))⟩
 rcases hq with hq | hq
 ·obtain ⟨its,r',pl,hz⟩:=I.list hq
  have hlen:=r'.length
  obtain ⟨o,ho,hc,n,hd⟩:=pl.isList
  exact call_list_seq p (.inl rfl) ho hc hd (fun h' c' kp e=>fin its r' hz h' c' kp e) (by simp only [Zd] <;> lia)
 ·obtain ⟨its,r',pl,hz⟩:=I.tuple hq
  have hlen:=r'.length
  obtain ⟨o,ho,hc,n,hd⟩:=pl
  exact call_list_seq p (.inr rfl) ho hc hd (fun h' c' kp e=>fin its r' hz h' c' kp e) (by simp only [Zd] <;> lia)
theorem mU:fj X (.type "tuple") (fun xs H Q=>∃ p ys,xs=[.ref p]/\((SqL X.K H p ys/\∀ l,H l=none->Q (.ref l) (upd H l (.tup ys)))\/(SqT X.K H p ys/\Q (.ref p) H))):=by
 intro pins s σ H xs us Q I r h
 obtain ⟨p,ys,rfl,h⟩:=h
 obtain ⟨u,rfl,rx⟩:=vals1 r
 cases rx
 rcases h with ⟨hq,q⟩ | ⟨hq,q⟩
 ·obtain ⟨its,r',pl,hz⟩:=I.list hq
  have hlen:=r'.length
  refine call_tuple_list pl.isList (fun h' kp=>?_) (by simp only [Zd] <;> lia)
  have I1:Inv X pins σ H { s with heap:=h' }:=I.kept (t':=s.toks) kp
  have I2:Inv X pins σ (upd H h'.objs.size (.tup ys)) { s with heap:=h'.push { cls:=.type "tuple",data:=.seq its.toArray } } :=
   I1.laid (t':=s.toks) (fun b o e=>Zi _ e) (Zp _) (show br X.prog X.w _ _ _ (.tup ys) from ⟨hz,its,r',NoD.new _ _,IsTup.new _ _⟩)
  exact ⟨.ref h'.objs.size,_,I2,rfl,q _ (I1.hok.fresh (Zp _))⟩
 ·obtain ⟨its,r',pl,hz⟩:=I.tuple hq
  exact call_tuple_same pl ⟨.ref p,H,I,rfl,q⟩
noncomputable def tyV (K:Y1) (T:String) (x:V) (H:Hp):Prop:=match x with
 | .str _=>T = "str"
 | .int _=>T = "int"
 | .ref p=>(T = "list" ∧ ∃ xs,SqL K H p xs)\/(T = "tuple" ∧ ∃ o,K.lookup p=some o/\o.cls=.type "tuple" ∧ o.dict=none) ∨
   (T = "dict" ∧ ((∃ kvs,H p=some (.dK kvs))\/∃ kvs,H p=some (.dT kvs)))\/(T = "set" ∧ ∃ S n,H p=some (.set S n))
 | _=>False
theorem CV {pins:Yo} {σ:St} {H:Hp} {s:Shared} {T:String} {x:V} {v:Value} (I:Inv X pins σ H s) (r:RelV x v) (ty:tyV X.K T x H) :
  s.TypeIs v T/\∀ a,v=.ref a->∃ ob,s.heap.get? a=some ob/\ob.dict=none:=by
 cases x with
 | str z =>
  obtain ⟨t,rfl⟩:=r
  cases (show T = "str" from ty)
  exact ⟨typeIs_str s z t,fun _ e=>nomatch e⟩
 | int i =>
  obtain ⟨t,rfl⟩:=r
  cases (show T = "int" from ty)
  exact ⟨typeIs_int s i t,fun _ e=>nomatch e⟩
 | ref p =>
  cases r
  rcases ty with ⟨rfl,xs,hq⟩ | ⟨rfl,o,hk,hc,hd⟩ | ⟨rfl,hk⟩ | ⟨rfl,S,n,hk⟩
  ·obtain ⟨its,_,pl,_⟩:=I.list hq
   refine ⟨pl.isList.typeIs,fun a e=>?_⟩
   cases e
   obtain ⟨o,n,e,c,hd,_⟩:=pl
   exact ⟨o,e,hd⟩
  ·refine ⟨⟨o,I.kIn p o hk,hc⟩,fun a e=>?_⟩
   cases e
   exact ⟨o,I.kIn _ o hk,hd⟩
  ·have z:∃ o,s.heap.get? p=some o/\o.ExactDict:=by
    rcases hk with ⟨kvs,hk⟩ | ⟨kvs,hk⟩
    ·obtain ⟨_,_,_,_,o,_,_,e,ex,_⟩:=I.hok p _ hk
     exact ⟨o,e,ex⟩
    ·obtain ⟨_,_,_,_,o,_,_,e,ex,_⟩:=I.hok p _ hk
     exact ⟨o,e,ex⟩
   obtain ⟨o,e,ex⟩:=z
   refine ⟨⟨o,e,ex.1⟩,fun a e2=>?_⟩
   cases e2
   exact ⟨o,e,ex.2.1⟩
  ·obtain ⟨o,_,_,_,e,ex,_⟩:=I.hok p _ hk
   refine ⟨⟨o,e,ex.1⟩,fun a e2=>?_⟩
   cases e2
   exact ⟨o,e,ex.2.1⟩
 | _=>exact False.elim ty
noncomputable def tBM (K:Y1) (T:String) (r:V->List V->Hp->VK->Prop) (to:TE) (t:TA):TE:=fun σ H Q=>to σ H fun x H1=>tyV K T x H1/\t σ H1 fun xs H2=>r x xs H2 Q
variable {o e:Expr} {es:List Expr} {to:TE} {t:TA} {name:Str} {apos cpos:Pos} {T id:String} {r:V->List V->Hp->VK->Prop}
theorem p7 (pa:PlainAttrs T) (slot:Slot T name id) (hty:typeOf (.builtin id)=pure (.type "method_descriptor")) (hm:MtR X id r) (ho:PE X o to) (ha:PA X (e :: es) t)
  (hbase:attributeBase o name X.env (eval o X.env)=eval o X.env:=by rfl)
  (hfew:((backTo cpos (starEach (e :: es) X.env)).all (fun x=>!x.1) && (backToKw cpos (keywordEach [] X.env)).all (fun x=>x.1.isSome)
   && decide ((e :: es).length+([]:List Keyword).length+(if ([]:List Keyword).isEmpty then 0 else 1) < 30))=true:=by rfl)
  (hline:(apos.endLine == cpos.line)=true:=by rfl) (hs:starEach (e :: es) X.env=(false,eval e X.env) :: starEach es X.env:=by rfl) (hplain:(backTo cpos (starEach es X.env)).any (·.1)=false:=by rfl) :
  PE X (.Call (.Attribute o name apos) (e :: es) [] cpos) (tBM X.K T r to t):=by
 intro pins s σ H Q I h
 refine wpAny_Call_method_late hbase hfew hline rfl (thn (ho pins s σ H _ I h) fun v s1 ⟨x,H1,I1,r1,ty,q1⟩=>?_)
 obtain ⟨h1,h2⟩:=CV I1 r1 ty
 refine ⟨T,id,pa,slot,hty,h1,h2,?_⟩
 have hA:=ha cpos pins s1 σ H1 _ I1 q1
 rw [hs] at hA ⊢
 refine Calls.callWith_builtin (by show (false || (backTo cpos (starEach es X.env)).any (·.1))=false;rw [hplain] <;> rfl) (Calls.evalArgs_plain ?_)
 exact thn hA fun us s2 ⟨vs,H2,I2,r2,q2⟩=>hm pins s2 σ H2 x vs v us Q I2 r1 r2 q2
end
noncomputable def MtM (X:Cx) (id:String) (r:V->List V->Hp->VK->Prop):Prop :=
 ∀ (pins:Yo) (s:Shared) (σ:St) (H:Hp) (x:V) (xs:List V) (v:Value) (us:X1) (Q:VK),Inv X pins σ H s->RelV x v->aU xs us->r x xs H Q →
  wpAny (model X.prog X.w) X.A (call (.builtin id) (v :: us)) (EP X pins σ Q) X.xe s
theorem aU.nil_inv {us:X1} (h:aU [] us):us=[]:=by
 cases h
 rfl
theorem aU.cons_inv {x:V} {xs:List V} {us:X1} (h:aU (x :: xs) us):∃ u vs,us=u :: vs/\RelV x u/\aU xs vs:=by
 cases h with
 | cons r t=>exact ⟨_,_,rfl,r,t⟩
theorem aU.one {x:V} {us:X1} (h:aU [x] us):∃ u,us=[u]/\RelV x u:=by
 obtain ⟨u,vs,rfl,r,t⟩:=h.cons_inv
 rw [t.nil_inv]
 exact ⟨_,rfl,r⟩
theorem aU.two {x y:V} {us:X1} (h:aU [x,y] us):∃ u v,us=[u,v]/\RelV x u/\RelV y v:=by
 obtain ⟨u,vs,rfl,r,t⟩:=h.cons_inv
 obtain ⟨v,rfl,q⟩:=t.one
 exact ⟨_,_,rfl,r,q⟩
section
variable {X:Cx} {pins:Yo} {σ:St} {H:Hp} {s:Shared} {l b:Addr} {xs ys zs:List V}
theorem Inv.lset {its its':X1} {n:Nat} {f:Array Value->Array Value} {t':Nat} (I:Inv X pins σ H s) (hH:H l=some (.lst xs))
  (e:s.heap.get? l=some { cls:=.type "list",data:=.seq its.toArray n }) (hf:f its.toArray=its'.toArray) (hv:aU ys its') (hz:ys.length<=sizeLine) :
  Inv X pins σ (upd H l (.lst ys)) { s with heap:=s.heap.update l (Obj.mapSeq f),toks:=t' }:=by
 have q:=PySem.IsL.update e f
 rw [hf] at q
 refine I.write (x:=l) (e:=l) (by rw [hH];exact trivial) (.inl rfl) (fun b' u hb hu=>(YI s.heap (Obj.mapSeq f) (YG hb)).trans hu) ⟨_,q⟩ ?_
 exact ⟨hz,its',_,hv,q⟩
theorem Inv.lnew {its:X1} {t':Nat} (I:Inv X pins σ H s) (hv:aU ys its) (hz:ys.length<=sizeLine) :
  Inv X pins σ (upd H s.heap.objs.size (.lst ys)) { s with heap:=s.heap.push { cls:=.type "list",data:=.seq its.toArray },toks:=t' } :=
 I.laid (fun _ _ q=>Zi _ q) (Zp _) ⟨hz,its,0,hv,ZU _ rfl⟩
theorem Inv.fresh (I:Inv X pins σ H s):H s.heap.objs.size=none:=I.hok.fresh (Zp _)
theorem Inv.lstM (I:Inv X pins σ H s) (hH:H l=some (.lst xs)):xs.length<=sizeLine/\∃ (its:X1) (n:Nat),aU xs its/\xs.length=its.length/\s.heap.get? l=some { cls:=.type "list",data:=.seq its.toArray n }:=by
 obtain ⟨z,its,n,r,e⟩:=I.hok l _ hH
 exact ⟨z,its,n,r,r.length,e⟩
theorem pC {n:Nat} (h:n<=sizeLine):Builtin.List.listTooLong n=false:=by
 unfold Builtin.List.listTooLong
 exact ZP (by exact Vq h)
end
section
variable {X:Cx}
noncomputable def lq:V->List V->Hp->VK->Prop:=fun x vs H Q=>∃ l xs y,x=.ref l/\vs=[y]/\H l=some (.lst xs)/\xs.length < sizeLine/\Q .non (upd H l (.lst (xs++[y])))
theorem gO:MtM X "list.append" lq:=by
 intro pins s σ H x vs v us Q I rx rv h
 obtain ⟨l,xs,y,rfl,rfl,hH,hz,q⟩:=h
 cases rx
 obtain ⟨u,rfl,ru⟩:=rv.one
 obtain ⟨z,its,n,r,hl,e⟩:=I.lstM hH
 refine call_meets F.slot_list_append ⟨_,e,rfl⟩ F.entry_list_append (F.args_list_append_2 _ _) (PySem.list_append l its.toArray n u (by rw [Zd];lia)) ⟨e,?_⟩
 refine ⟨.non,_,I.lset (its':=its++[u]) hH e (by simp) (r.append (.cons ru .nil)) ?_,rfl,q⟩
 rw [Zu,ZY]
 exact W7 hz
noncomputable def Ey:R2:=fun x y H Q=>∃ l b xs zs,x=.ref l/\y=.ref b/\H l=some (.lst xs)/\H b=some (.lst zs)/\xs.length+zs.length<=sizeLine/\∀ p,H p=none->Q (.ref p) (upd H p (.lst (xs++zs)))
theorem BL:OpR X (binaryOp .Add) Ey:=by
 intro pins s σ H x y v u Q I rx ry h
 obtain ⟨l,b,xs,zs,rfl,rfl,hH,hB,hz,q⟩:=h
 cases rx
 cases ry
 obtain ⟨z,its,n,r,hl,e⟩:=I.lstM hH
 obtain ⟨z2,its2,n2,r2,hl2,e2⟩:=I.lstM hB
 refine PySem.P.add_list e e2 ?_ (by rw [Zd,Zd];lia)
 have ea:its.toArray++its2.toArray=(its++its2).toArray:=by simp
 rw [ea]
 exact ⟨.ref _,_,I.lnew (t':=s.toks) (r.append r2) (by rw [Zu];omega),rfl,q _ I.fresh⟩
theorem len_rep {α:Type} (xs:List α) (k:Nat):(List.replicate k xs).flatten.length=k * xs.length:=by
 induction k with
 | zero=>simp
 | succ k ih=>rw [Ws,Ze,Zu,ih,Nat.succ_mul,Nat.add_comm]
end
section
variable {prog:Program} {w:World} {A:Around} {E:Z8} {s:Shared}
theorem rO {a c n:Nat} (hac:a<=c) (hc:c<=n):sliceBounds (some (a:Int)) (some (c:Int)) none n=((a:Int),(c:Int),1):=by
 simp only [sliceBounds,Vr]
 have h1:¬ ((a:Int) < 0):=by lia
 have h2:¬ ((c:Int) < 0):=by lia
 simp only [h1,h2,if_false,show (1:Int) > 0 by decide,if_true]
 congr 1
 ·lia
 ·congr 1;lia
set_option maxRecDepth 100000 in
theorem yK {l b sl:Addr} {items new:Array Value} {n n2:Nat} {vl vu:Value} {a c:Nat} {Q:Unit->Shared->Prop}
  (e:s.heap.get? l=some { cls:=.type "list",data:=.seq items n }) (e2:s.heap.get? b=some { cls:=.type "list",data:=.seq new n2 }) (hne:l ≠ b)
  (hs:s.heap.IsSliceOf sl vl vu .none) (pl:IsPart vl (some (a:Int))) (pu:IsPart vu (some (c:Int))) (hac:a<=c) (hc:c<=items.size)
  (hsz:items.size+new.size<=sizeLine) (h:Q () { s with heap:=s.heap.update l (Obj.mapSeq fun xs=>xs.extract 0 a++new++xs.extract c xs.size) }) :
  wpAny (model prog w) A (setItem (.ref l) (.ref sl) (.ref b)) Q E s:=by
 have hl:s.heap.IsList l items:=PySem.IsL.isList e
 have hb:s.heap.IsList b new:=PySem.IsL.isList e2
 obtain ⟨os,hos,hcs,hds⟩:=id hs
 have hTs:s.TypeIs (.ref sl) "slice" := ⟨os,hos,hcs⟩
 have hstep:¬ ((rawPart none == rawInt 0)=true):=Zh
 have hsame:Builtin.List.listSameRef (.ref l) (.ref b)=false:=by
  unfold Builtin.List.listSameRef
  exact beq_eq_false_iff_ne.mpr hne
 have hmax:(max (a:Int) (c:Int)).toNat=c:=by lia
 have hz':((fun xs:Array Value=>xs.extract 0 a++new++xs.extract c xs.size) items).size<=sizeLine+1:=by
  simp only [Array.size_append,Array.size_extract]
  lia
 unfold setItem
 try with_reducible refine YS ?_
 first | refine Zy (Zs ?_) | skip
 refine Zy (wpAny_sequenceKey hl.typeIs (by decide) ?_)
 refine Zy (wpAny_callSpecial?_slot (name:=Str.ofString "__setitem__") hl.typeIs slot_list_setitem
  (Xo slot_list_setitem hl.typeIs entry_list_setitem ?_ (args_list_setitem _ _ _)))
 show wpAny _ _ (Builtin.List.listSubscript? (.ref sl) >>= _) _ _ s
 refine Zy ?_
 unfold Builtin.List.listSubscript?
 refine Zy (Xh hTs slice_no_index ?_)
 simp only [Option.isNone_none,if_true]
 refine Zs ?_
 show wpAny _ _ (typeOf (.ref sl) >>= _) _ _ s
 refine Zy (WD hTs ?_)
 first
  | rw [Zq (by decide)]
  | refine W1 (by decide) ?_
 rw [listSliceParts_eq]
 refine Zy (Zy (wpAny_field hos hds (x:=.none) rfl (Zy (wpAny_listPart .none ?_))))
 rw [Zq hstep]
 refine Zy (wpAny_field hos hds (x:=vl) rfl (Zy (wpAny_listPart pl ?_)))
 refine Zy (wpAny_field hos hds (x:=vu) rfl (Zy (wpAny_listPart pu (Zs ?_))))
 first
  | simp only [hsame,ZG,if_false]
  | refine W1 hsame ?_
  | (dsimp only
     rw [Zq (by rw [hsame];exact Zh)])
 refine Zy (m:=Builtin.List.listAllItems (.ref b) "must assign iterable to extended slice") ?_
 unfold Builtin.List.listAllItems
 refine Zy (WD hb.typeIs ?_)
 first
  | refine PySem.W.KFB.if_so (by decide) ?_
  | rw [Zr (by decide)]
  | simp only [beq_self_eq_true,Bool.true_or,if_true]
 unfold Builtin.List.listItems
 refine Zy (XT e2 rfl (Zs ?_))
 refine Zy (Zy (XT e rfl (Zs ?_)))
 refine Zy (wpAny_of_eq ((sliceIndices_raw (some (a:Int)) (some (c:Int)) none items.size (by simp)).trans (congrArg (pure:Int×Int×Int->Sem (Int×Int×Int)) (rO hac hc))) ?_)
 show wpAny _ _ (if ((1:Int) == 1)=true then _ else _) _ _ s
 rw [Zr (by decide)]
 refine Zy (Xi ?_)
 first
  | simp only [pC hsz,ZG,if_false]
  | refine W1 (pC hsz) ?_
 first | refine Zy (Zs ?_) | skip
 show wpAny _ _ (updateSeq l (fun xs=>xs.extract 0 ((a:Int)).toNat++new++xs.extract (max (a:Int) (c:Int)).toNat xs.size) >>= _) _ _ s
 rw [hmax,YM]
 refine Zy (wpAny_updateSeq (hz:=ZV (ZL _ _) hsz) (_hz':=hz') e rfl ?_)
 refine Zy (WL ?_)
 first
  | exact Zy (Zs (Zs ⟨.none,rfl,Zs h⟩))
  | exact Zs ⟨.none,rfl,Zs h⟩
end
section
variable {κ:Type} [DecidableEq κ]
noncomputable def cH (kvs:List (κ×V)) (k:κ):Option V:=(kvs.find? fun kv=>decide (kv.1=k)).map (·.2)
noncomputable def putK (kvs:List (κ×V)) (k:κ) (v:V):List (κ×V) :=
 if (kvs.any fun kv=>decide (kv.1=k))=true then kvs.map (fun kv=>if kv.1=k then (kv.1,v) else kv) else kvs++[(k,v)]
noncomputable def Gv (kvs:List (κ×V)) (k:κ):List (κ×V):=kvs.filter fun kv=>decide (kv.1 ≠ k)
theorem cp {p:κ×V} {r:List (κ×V)} {k:κ} (e:p.1=k):cH (p :: r) k=some p.2:=by simp [cH,Yu,e]
theorem cU {p:κ×V} {r:List (κ×V)} {k:κ} (e:¬ p.1=k):cH (p :: r) k=cH r k:=by simp [cH,Yu,e]
theorem iN (k:κ):∀ kvs:List (κ×V),(kvs.any fun kv=>decide (kv.1=k))=(cH kvs k).isSome
 | []=>rfl
 | p :: r=>by
  rw [Y9]
  by_cases e:p.1=k
  ·simp only [cp e,decide_eq_true e,Bool.true_or,Option.isSome_some]
  ·rw [cU e,ZP e,Bool.false_or];exact iN k r
theorem pd (k j:κ) (y:V):∀ kvs:List (κ×V),cH (kvs.map fun kv=>if kv.1=k then (kv.1,y) else kv) j=(cH kvs j).map fun x=>if j=k then y else x
 | []=>rfl
 | p :: r=>by
  have ih:=pd k j y r
  rw [Zt]
  by_cases h:p.1=k
  ·rw [Zr h]
   by_cases e:p.1=j
   ·rw [cp (p:=(p.1,y)) e,cp e,Yb,Zr (e.symm.trans h)]
   ·rw [cU (p:=(p.1,y)) e,cU e,ih]
  ·rw [Zq h]
   by_cases e:p.1=j
   ·rw [cp (p:=p) e,cp e,Yb,Zq (fun z=>h (e.trans z))]
   ·rw [cU (p:=p) e,cU e,ih]
theorem nW (k j:κ) (y:V):∀ kvs:List (κ×V),cH kvs k=none->cH (kvs++[(k,y)]) j=if j=k then some y else cH kvs j
 | [],_=>by
  by_cases e:k=j
  ·rw [Zr e.symm];exact cp (p:=(k,y)) e
  ·rw [Zq (fun z=>e z.symm)];exact cU (p:=(k,y)) e
 | p :: r,hn=>by
  rw [List.cons_append]
  have hk:¬ p.1=k:=fun z=>by rw [cp z] at hn;cases hn
  rw [cU hk] at hn
  have ih:=nW k j y r hn
  by_cases e:p.1=j
  ·rw [cp e,cp e,Zq (fun z=>hk (e.trans z))]
  ·rw [cU e,cU e,ih]
theorem xD (kvs:List (κ×V)) (k j:κ) (y:V):cH (putK kvs k y) j=if j=k then some y else cH kvs j:=by
 unfold putK
 by_cases a:(kvs.any fun kv=>decide (kv.1=k))=true
 ·rw [Zr a,pd]
  rw [iN] at a
  by_cases e:j=k
  ·obtain ⟨x,hx⟩:=WX.mp a
   rw [Zr e,e,hx,Yb,Zr rfl]
  ·rw [Zq e]
   cases cH kvs j with
   | none=>rfl
   | some x=>rw [Yb,Zq e]
 ·rw [Zq a]
  refine nW k j y kvs ?_
  rw [iN] at a
  cases q:cH kvs k with
  | none=>rfl
  | some x=>rw [q] at a;exact (a rfl).elim
theorem ft (kvs:List (κ×V)) (k:κ) (v:V):(putK kvs k v).length<=kvs.length+1:=by
 unfold putK
 split
 ·rw [Zv];exact ZL _ _
 ·rw [Zu,Zj,YU];exact Zp _
theorem kJ.isSome_eq {o:Option V} {u:Vt} (r:kJ o u):o.isSome=u.isSome:=by
 cases o with
 | none=>cases u with
  | none=>rfl
  | some _=>exact (show False from r).elim
 | some _=>cases u with
  | none=>exact (show False from r).elim
  | some _=>rfl
theorem KV.val {kvs:List (κ×V)} {vs:List (κ×Value)} (r:KV kvs vs) (k:κ):kJ (cH kvs k) (valueAt vs k):=by
 unfold KV at r
 induction r with
 | nil=>exact True.intro
 | @cons p q ps qs h t ih =>
  obtain ⟨h1,h2⟩:=h
  by_cases e:p.1=k
  ·have e':q.1=k:=h1.symm.trans e
   have b:valueAt (q :: qs) k=some q.2:=by simp [valueAt,Yu,e']
   rw [cp e,b];exact h2
  ·have e':¬ q.1=k:=fun z=>e (h1.trans z)
   have b:valueAt (q :: qs) k=valueAt qs k:=by simp [valueAt,Yu,e']
   rw [cU e,b];exact ih
theorem KV.any {kvs:List (κ×V)} {vs:List (κ×Value)} (r:KV kvs vs) (k:κ):(kvs.any fun kv=>decide (kv.1=k))=vs.any fun kv=>decide (kv.1=k):=by
 unfold KV at r
 induction r with
 | nil=>rfl
 | cons h t ih=>rw [Y9,Y9,ih,h.1]
theorem KV.repl {kvs:List (κ×V)} {vs:List (κ×Value)} (r:KV kvs vs) (k:κ) {y:V} {u:Value} (ry:RelV y u) :
  KV (kvs.map fun kv=>if kv.1=k then (kv.1,y) else kv) (vs.map fun kv=>if kv.1=k then (kv.1,u) else kv):=by
 unfold KV at r ⊢
 induction r with
 | nil=>exact .nil
 | @cons p q ps qs h t ih =>
  rw [Zt,Zt]
  refine .cons ?_ ih
  obtain ⟨h1,h2⟩:=h
  by_cases e:p.1=k
  ·rw [Zr e,Zr (h1.symm.trans e)];exact ⟨h1,ry⟩
  ·rw [Zq e,Zq (fun z=>e (h1.trans z))];exact ⟨h1,h2⟩
theorem KV.put {kvs:List (κ×V)} {vs:List (κ×Value)} (r:KV kvs vs) (k:κ) {y:V} {u:Value} (ry:RelV y u):KV (putK kvs k y) (stored vs k u):=by
 unfold putK stored
 rw [r.any k]
 by_cases e:(vs.any fun kv=>decide (kv.1=k))=true
 ·rw [Zr e,Zr e];exact r.repl k ry
 ·rw [Zq e,Zq e];exact Paired.snoc r ⟨rfl,ry⟩
theorem KV.keys {kvs:List (κ×V)} {vs:List (κ×Value)} (r:KV kvs vs):kvs.map (·.1)=vs.map (·.1):=by
 unfold KV at r
 induction r with
 | nil=>rfl
 | cons h t ih=>rw [Zt,Zt,ih,h.1]
theorem KV.length {kvs:List (κ×V)} {vs:List (κ×Value)} (r:KV kvs vs):kvs.length=vs.length:=Wl r
end
theorem kT {P:Program} {w:World} {k:Key} {u:Value} (r:RelV (kV k) u):(aX P w).is k u=true:=by
 cases k with
 | inl i=>obtain ⟨t,e⟩:=(show ∃ t,u=Value.int i t from r);subst e;exact qm P w i t
 | inr x=>obtain ⟨t,e⟩:=(show ∃ t,u=Value.str x t from r);subst e;exact qC P w x t
theorem nQ {P:Program} {w:World}:∀ {ks:List Key} {us:X1},aU (ks.map kV) us->ItemsAre (aX P w) ks us
 | [],_,r=>by rw [YW] at r;cases r;exact .nil
 | k :: ks,_,r=>by
  rw [Zt] at r
  cases r with
  | cons h t=>exact .cons (kT h) (nQ t)
noncomputable abbrev KT (H:Hp):List (List Key×V)->List (List Key×Addr×Value)->Prop:=Paired fun p q=>p.1=q.1/\H q.2.1=some (.tup (p.1.map kV))/\RelV p.2 q.2.2
theorem KT.val {H:Hp} {kvs:List (List Key×V)} {xs:List (List Key×Addr×Value)} (r:KT H kvs xs) (k:List Key):kJ (cH kvs k) ((atKey xs k).map (·.2)):=by
 induction r with
 | nil=>exact True.intro
 | @cons p q ps qs h t ih =>
  obtain ⟨h1,_,h2⟩:=h
  by_cases e:p.1=k
  ·have e':q.1=k:=h1.symm.trans e
   have b:atKey (q :: qs) k=some q.2:=by simp [atKey,Yu,e']
   rw [cp e,b];exact h2
  ·have e':¬ q.1=k:=fun z=>e (h1.trans z)
   have b:atKey (q :: qs) k=atKey qs k:=by simp [atKey,Yu,e']
   rw [cU e,b];exact ih
theorem KT.repl {H:Hp} {kvs:List (List Key×V)} {xs:List (List Key×Addr×Value)} (r:KT H kvs xs) (k:List Key) {y:V} {u:Value} (ry:RelV y u) :
  KT H (kvs.map fun kv=>if kv.1=k then (kv.1,y) else kv) (xs.map (putAt k u)):=by
 induction r with
 | nil=>exact .nil
 | @cons p q ps qs h t ih =>
  rw [Zt,Zt]
  refine .cons ?_ ih
  obtain ⟨h1,h2,h3⟩:=h
  unfold putAt
  by_cases e:p.1=k
  ·rw [Zr e,Zr (h1.symm.trans e)];exact ⟨h1,h2,ry⟩
  ·rw [Zq e,Zq (fun z=>e (h1.trans z))];exact ⟨h1,h2,h3⟩
theorem KT.put {H:Hp} {kvs:List (List Key×V)} {xs:List (List Key×Addr×Value)} (r:KT H kvs xs) (k:List Key) {b:Addr} {y:V} {u:Value} (hb:H b=some (.tup (k.map kV))) (ry:RelV y u) :
  KT H (putK kvs k y) (storedH xs k b u):=by
 have e:(kvs.any fun kv=>decide (kv.1=k))=(atKey xs k).isSome:=by
  rw [iN,(r.val k).isSome_eq,W6]
 unfold putK storedH
 rw [e]
 by_cases q:(atKey xs k).isSome=true
 ·rw [Zr q,Zr q];exact r.repl k ry
 ·rw [Zq q,Zq q];exact Paired.snoc r ⟨rfl,hb,ry⟩
theorem KT.keeps {H H':Hp} {kvs:List (List Key×V)} {xs:List (List Key×Addr×Value)} (r:KT H kvs xs) (ht:∀ b ys,H b=some (.tup ys)->H' b=some (.tup ys)):KT H' kvs xs :=
 Paired.mapP r fun _ _ z=>⟨z.1,ht _ _ z.2.1,z.2.2⟩
section
variable {P:Program} {w:World} {H:Hp} {h:Heap} {a:Addr}
theorem Bo {u:HO} (ok:HOk P w H h) (e:Rd H a u):br P w H h a u:=e.ok ok
theorem nL {kvs:List (Key×V)} (ok:HOk P w H h) (e:Rd H a (.dK kvs)):kvs.length<=sizeLine/\(a == sysModules)=false/\∃ vs,KV kvs vs/\h.DictOf (aX P w) a vs :=
 show br P w H h a (.dK kvs) from Bo ok e
theorem sS {kvs:List (Key×V)} (ok:HOk P w H h) (e:H a=some (.dK kvs)):kvs.length<=sizeLine/\(a == sysModules)=false/\∃ vs,KV kvs vs/\h.DictOf (aX P w) a vs:=nL ok (.inl e)
theorem fX {ks:List Key} (ok:HOk P w H h) (e:H a=some (.tup (ks.map kV))):(tupleKind (aX P w)).is h ks a:=by
 obtain ⟨_,its,r,_,o,h1,h2,n,h3⟩:=(show br P w H h a (.tup (ks.map kV)) from ok a _ e)
 exact ⟨o,its.toArray,n,h1,h2,h3,by simpa using nQ r⟩
theorem pI {kvs:List (List Key×V)} (ok:HOk P w H h) (e:Rd H a (.dT kvs)):kvs.length<=sizeLine/\(a == sysModules)=false ∧
  ∃ xs,KT H kvs xs/\h.DictOfH (tupleKind (aX P w)) a xs:=by
 obtain ⟨z,y,xs,r,o,es,ep,h1,h2,h3,h4,h5⟩:=(show br P w H h a (.dT kvs) from Bo ok e)
 refine ⟨z,y,xs,r,o,es,ep,h1,h2,h3,h4,fun x hx=>?_,h5⟩
 have all:∀ {l:List (List Key×V)} {m:List (List Key×Addr×Value)},KT H l m->∀ x∈m,(tupleKind (aX P w)).is h x.1 x.2.1:=by
  intro l m q
  induction q with
  | nil=>intro x hx;exact nomatch hx
  | @cons p q ps qs hq t ih =>
   intro x hx
   rcases Zo.mp hx with e | hx
   ·subst e
    exact fX ok (by rw [← hq.1];exact hq.2.1)
   ·exact ih x hx
 exact all r x hx
theorem D8 {kvs:List (List Key×V)} (ok:HOk P w H h) (e:H a=some (.dT kvs)):kvs.length<=sizeLine/\(a == sysModules)=false ∧
  ∃ xs,KT H kvs xs/\h.DictOfH (tupleKind (aX P w)) a xs:=pI ok (.inl e)
end
noncomputable def jF (H:Hp) (a:Addr) (y:V) (r:Option V):Prop :=
 (∃ kvs k,Rd H a (.dK kvs)/\y=kV k/\r=cH kvs k)\/∃ kvs k b,Rd H a (.dT kvs)/\y=.ref b/\H b=some (.tup (k.map kV))/\r=cH kvs k
noncomputable def xu (H:Hp) (a:Addr) (y v:V) (H':Hp):Prop :=
 (∃ kvs k,H a=some (.dK kvs)/\y=kV k/\kvs.length < sizeLine/\H'=upd H a (.dK (putK kvs k v))) ∨
 ∃ kvs k b,H a=some (.dT kvs)/\y=.ref b/\H b=some (.tup (k.map kV))/\kvs.length < sizeLine/\H'=upd H a (.dT (putK kvs k v))
theorem jF.k {H:Hp} {a:Addr} {kvs:List (Key×V)} {k:Key} (e:H a=some (.dK kvs)):jF H a (kV k) (cH kvs k):=.inl ⟨kvs,k,.inl e,rfl,rfl⟩
theorem xu.k {H:Hp} {a:Addr} {kvs:List (Key×V)} {k:Key} {v:V} (e:H a=some (.dK kvs)) (hl:kvs.length < sizeLine):xu H a (kV k) v (upd H a (.dK (putK kvs k v))):=.inl ⟨kvs,k,e,rfl,hl,rfl⟩
section
variable {X:Cx} {pins:Yo} {σ:St} {H:Hp} {s:Shared} {a:Addr} {y v:V} {u r:Value} {o:Option V} {A:Around} {E:Z8}
theorem Inv.big (I:Inv X pins σ H s):sysModules < s.heap.objs.size:=by
 have h:mainGlobals < s.heap.objs.size:=(I.mod.glob.keeps I.bk).lt
 exact Wo (by decide) h
theorem uA {Q:Z8} (hu:A.units+1 < cLine) (I:Inv X pins σ H s) (g:jF H a y (some v)) (ry:RelV y u) (h:∀ w' s',Inv X pins σ H s'->RelV v w'->Q w' s') :
  wpAny (model X.prog X.w) A (getItem (.ref a) u) Q E s:=by
 rcases g with ⟨kvs,k,e,ey,l⟩ | ⟨kvs,k,b,e,ey,eb,l⟩
 ·subst ey
  obtain ⟨z,hd,vs,rel,dd⟩:=nL I.hok e
  obtain ⟨w',hw,rw'⟩:=kJ.some_of (v:=v) (o:=valueAt vs k) (by rw [l];exact rel.val k)
  exact wpAny_getItem_of (kT ry) dd.mapOf hw (h w' _ (I.tok _) rw')
 ·subst ey
  cases (show u=Value.ref b from ry)
  obtain ⟨z,hd,xs,rel,dd⟩:=pI I.hok e
  obtain ⟨w',hw,rw'⟩:=kJ.some_of (v:=v) (o:=(atKey xs k).map (·.2)) (by rw [l];exact rel.val k)
  obtain ⟨p,hp,hp2⟩:=Zl.mp hw
  refine wpAny_getItem_heap (WV hu) (fX I.hok eb) dd hp ?_
  rw [hp2]
  exact h w' _ (I.tok _) rw'
theorem FF {Q:Z8} (hu:A.units+1 < cLine) (I:Inv X pins σ H s) (g:jF H a y o) (ry:RelV y u) (h:∀ s',Inv X pins σ H s'->Q (.bool o.isSome) s') :
  wpAny (model X.prog X.w) A (compareOp .In u (.ref a)) Q E s:=by
 rcases g with ⟨kvs,k,e,ey,l⟩ | ⟨kvs,k,b,e,ey,eb,l⟩
 ·subst ey
  obtain ⟨z,hd,vs,rel,dd⟩:=nL I.hok e
  refine wpAny_in_of (kT ry) hd dd.mapOf ?_
  rw [← (rel.val k).isSome_eq,← l]
  exact h _ (I.tok _)
 ·subst ey
  cases (show u=Value.ref b from ry)
  obtain ⟨z,hd,xs,rel,dd⟩:=pI I.hok e
  refine wpAny_in_heap (WV hu) (fX I.hok eb) hd dd ?_
  have q:=(rel.val k).isSome_eq
  rw [W6] at q
  rw [← q,← l]
  exact h _ (I.tok _)
theorem zW {Q:Z8} (hu:A.units+1 < cLine) (I:Inv X pins σ H s) (g:jF H a y o) (ry:RelV y u) (h:∀ s',Inv X pins σ H s'->Q (.bool (!o.isSome)) s') :
  wpAny (model X.prog X.w) A (compareOp .NotIn u (.ref a)) Q E s:=by
 rcases g with ⟨kvs,k,e,ey,l⟩ | ⟨kvs,k,b,e,ey,eb,l⟩
 ·subst ey
  obtain ⟨z,hd,vs,rel,dd⟩:=nL I.hok e
  refine wpAny_notIn_of (kT ry) hd dd.mapOf ?_
  rw [← (rel.val k).isSome_eq,← l]
  exact h _ (I.tok _)
 ·subst ey
  cases (show u=Value.ref b from ry)
  obtain ⟨z,hd,xs,rel,dd⟩:=pI I.hok e
  refine wpAny_notIn_heap (WV hu) (fX I.hok eb) hd dd ?_
  have q:=(rel.val k).isSome_eq
  rw [W6] at q
  rw [← q,← l]
  exact h _ (I.tok _)
theorem jh {h':Heap} {t':Nat} {ob:HO} (I:Inv X pins σ H s) (mu:Mut (H a)) (hs:Heap.SameBut a s.heap h') (he:∃ q,h'.get? a=some q) (new:br X.prog X.w (upd H a ob) h' a ob) :
  Inv X pins σ (upd H a ob) { s with heap:=h',toks:=t' } :=
 I.write (x:=a) (e:=a) mu (.inl rfl) (fun b q hb z=>(hs.2 b hb).trans z) he new
theorem oA {P:Program} {w:World} {H':Hp} {h':Heap} {kvs:List (Key×V)} {vs:List (Key×Value)} (z:kvs.length<=sizeLine) (hd:(a == sysModules)=false) (rel:KV kvs vs) (dd:h'.DictOf (aX P w) a vs) :
  br P w H' h' a (.dK kvs):=⟨z,hd,vs,rel,dd⟩
theorem vb {H':Hp} {Q:Unit->Shared->Prop} (hu:A.units+1 < cLine) (I:Inv X pins σ H s) (g:xu H a y v H') (ry:RelV y u) (rv:RelV v r) (h:∀ s',Inv X pins σ H' s'->Q () s') :
  wpAny (model X.prog X.w) A (setItem (.ref a) u r) Q E s:=by
 rcases g with ⟨kvs,k,e,ey,l,eH⟩ | ⟨kvs,k,b,e,ey,eb,l,eH⟩
 ·subst ey eH
  obtain ⟨z,hd,vs,rel,dd⟩:=sS I.hok e
  have hz:vs.length<=sizeLine:=by rw [← rel.length];exact z
  have hl:(putK kvs k v).length<=sizeLine:=by have:=ft kvs k v;lia
  refine wpAny_setItem_pairs (hsz:=hz) (kT ry) dd fun h' dd' hs=>h _ ?_
  have he:∃ q,h'.get? a=some q:=let ⟨q,_,_,hq,_⟩:=dd';⟨q,hq⟩
  exact jh I (by rw [e];exact True.intro) hs he (oA hl hd (rel.put k rv) dd')
 ·subst ey eH
  cases (show u=Value.ref b from ry)
  obtain ⟨z,hd,xs,rel,dd⟩:=D8 I.hok e
  have hz:xs.length<=sizeLine:=by rw [← Wl rel];exact z
  have hl:(putK kvs k v).length<=sizeLine:=by have:=ft kvs k v;lia
  refine wpAny_setItem_heap (hsz:=hz) (WV hu) (fX I.hok eb) dd fun h' dd' hs=>h _ ?_
  obtain ⟨q,es,ep,hq,h2,h3,h4,_,h5⟩:=dd'
  refine jh I (by rw [e];exact True.intro) hs ⟨q,hq⟩ ⟨hl,hd,_,(rel.put k eb rv).keeps fun c ys ec=>?_,q,es,ep,hq,h2,h3,h4,h5⟩
  rw [aF (D5 ec e (fun z=>nomatch z))]
  exact ec
end
section
variable {X:Cx} {pins:Yo} {σ:St} {H:Hp} {s:Shared} {a:Addr} {kvs:List (Key×V)} {k:Key} {u:Value} {A:Around} {E:Z8}
theorem EZ {Q:Z8} (I:Inv X pins σ H s) (e:Rd H a (.dK kvs)) (h:∀ t s',Inv X pins σ H s'->Q (.int kvs.length t) s'):wpAny (model X.prog X.w) A (call (.builtin "len") [.ref a]) Q E s:=by
 obtain ⟨z,hd,vs,rel,dd⟩:=nL I.hok e
 refine call_len_dict hd dd (by rw [← rel.length];rw [W5] at z;lia) ?_
 rw [← rel.length]
 exact h _ _ (I.tok _)
end
theorem pN {X:Cx} {pins:Yo} {σ:St} {H:Hp} {s:Shared} {a:Addr} {y:V} {o:Option V} (I:Inv X pins σ H s) (g:jF H a y o):s.TypeIs (.ref a) "dict" := by
 rcases g with ⟨kvs,k,e,_,_⟩ | ⟨kvs,k,b,e,_,_,_⟩
 ·obtain ⟨_,_,vs,_,dd⟩:=nL I.hok e
  exact dd.typeIs
 ·obtain ⟨_,_,xs,_,dd⟩:=pI I.hok e
  exact dd.typeIs
theorem qu {P:Program} {w:World} {H:Hp} (h:Heap) (hb:sysModules < h.objs.size):br P w H (h.push { cls:=.type "dict",data:=.dict #[] }) h.objs.size (.dK []) :=
 ⟨ZS _,beq_eq_false_iff_ne.mpr (YG (ZR hb)),[],.nil,Heap.DictOf.new h⟩
noncomputable def C0:TE:=fun _ H Q=>∀ p,H p=none->Q (.ref p) (upd H p (.dK []))
section
variable {X:Cx} {pos:Pos}
theorem yo:PE X (.Dict [] [] pos) C0:=fun pins s σ H Q I h =>
 wpAny_Dict_empty ⟨.ref s.heap.objs.size,_,I.laid (a:=s.heap.objs.size) (o:=.dK []) (t':=s.toks) (fun _ _ q=>Zi _ q) (Zp _) (qu s.heap I.big),rfl,h _ (I.hok.fresh (Zp _))⟩
end
noncomputable def rM:List (TE×TE)->St->Hp->(List (V×V)->Hp->Prop)->Prop
 | [],_,H,Q=>Q [] H
 | (tk,tv) :: r,σ,H,Q=>tk σ H fun x H1=>tv σ H1 fun y H2=>rM r σ H2 fun ps H3=>Q ((x,y) :: ps) H3
noncomputable abbrev VV:List (V×V)->List (Value×Value)->Prop:=Paired fun p q=>RelV p.1 q.1/\RelV p.2 q.2
noncomputable def PPs (X:Cx) (pos:Pos) (keys:List (Option Expr)) (values:List Expr) (trs:List (TE×TE)):Prop :=
 ∀ (pins:Yo) (s:Shared) (σ:St) (H:Hp) (Q:List (V×V)->Hp->Prop),Inv X pins σ H s->rM trs σ H Q →
  wpAny (model X.prog X.w) X.A (evalPairs (pairTrees keys values X.env pos)) (fun vs s'=>∃ ps H',Inv X pins σ H' s'/\VV ps vs/\Q ps H') X.xe s
theorem yY {X:Cx} {pos:Pos}:PPs X pos [] [] []:=fun pins s σ H Q I h=>pairTrees_nil_walk ⟨[],H,I,.nil,h⟩
theorem v7 {X:Cx} {pos:Pos} {k v:Expr} {ks:List (Option Expr)} {vs:List Expr} {tk tv:TE} {trs:List (TE×TE)} (hk:PE X k tk) (hv:PE X v tv) (hr:PPs X pos ks vs trs) :
  PPs X pos (some k :: ks) (v :: vs) ((tk,tv) :: trs):=fun pins s σ H Q I h =>
 pairTrees_cons_walk (thn (hk pins s σ H _ I h) fun u s1 ⟨x,H1,I1,rx,q1⟩=>thn (hv pins s1 σ H1 _ I1 q1) fun w2 s2 ⟨y,H2,I2,ry,q2⟩ =>
  thn (hr pins s2 σ H2 _ I2 q2) fun ws s3 ⟨ps,H3,I3,rel,q3⟩=>⟨(x,y) :: ps,H3,I3,.cons ⟨rx,ry⟩ rel,q3⟩)
noncomputable def kQ (kvs more:List (Key×V)):List (Key×V):=more.foldl (fun acc kv=>putK acc kv.1 kv.2) kvs
theorem KV.merge:∀ {more:List (Key×V)} {rs:List (Key×Value)} {kvs:List (Key×V)} {vs:List (Key×Value)},KV more rs->KV kvs vs->KV (kQ kvs more) (merged vs rs):=by
 intro more rs kvs vs r
 unfold KV at r
 induction r generalizing kvs vs with
 | nil=>intro q;exact q
 | @cons p q ps qs h t ih =>
  intro r0
  have e:KV (putK kvs p.1 p.2) (stored vs q.1 q.2):=by
   have:=r0.put p.1 h.2
   rw [← h.1];exact this
  exact ih e
theorem jw:∀ (more kvs:List (Key×V)),(kQ kvs more).length<=kvs.length+more.length
 | [],kvs=>by show kvs.length<=kvs.length+0;exact ZL _ _
 | p :: r,kvs=>by
  have h1:=jw r (putK kvs p.1 p.2)
  have h2:=ft kvs p.1 p.2
  show (kQ (putK kvs p.1 p.2) r).length<=_
  rw [Zj];lia
theorem mG {P:Program} {w:World}:∀ {kvs:List (Key×V)} {ws:List (Value×Value)},VV (kvs.map fun kv=>(kV kv.1,kv.2)) ws->∃ rs,Carries (aX P w) ws rs/\KV kvs rs
 | [],_,r=>by rw [YW] at r;cases r;exact ⟨[],True.intro,.nil⟩
 | p :: kvs,_,r=>by
  rw [Zt] at r
  cases r with
  | @cons a b as bs h t =>
   obtain ⟨rs,c,q⟩:=mG (P:=P) (w:=w) t
   obtain ⟨b1,b2⟩:=b
   exact ⟨(p.1,b2) :: rs,⟨kT h.1,rfl,c⟩,.cons ⟨rfl,h.2⟩ q⟩
noncomputable def EL (trs:List (TE×TE)):TE:=fun σ H Q=>∀ p,H p=none->rM trs σ (upd H p (.dK [])) fun ps H2=>H2 p=some (.dK [])/\∃ kvs:List (Key×V),ps=kvs.map (fun kv=>(kV kv.1,kv.2))/\kvs.length<=15/\Q (.ref p) (upd H2 p (.dK (kQ [] kvs)))
theorem zj {X:Cx} {pos:Pos} {keys:List (Option Expr)} {values:List Expr} {trs:List (TE×TE)} (h:PPs X pos keys values trs) (hall:keys.all (·.isSome)=true) (hl:keys.length=values.length) (h0:keys ≠ [])
  (h15:keys.length<=15):PE X (.Dict keys values pos) (EL trs):=by
 intro pins s σ H Q I q
 have hn:=I.hok.fresh (Zp s.heap.objs.size)
 have I1:=I.laid (a:=s.heap.objs.size) (o:=.dK []) (h':=s.heap.push { cls:=.type "dict",data:=.dict #[] }) (t':=s.toks) (fun _ _ q=>Zi _ q) (Zp _) (qu s.heap I.big)
 refine wpAny_Dict_walk (knd:=aX X.prog X.w) hall hl h0 h15 (thn (h pins _ σ _ _ I1 (q _ hn)) fun ws s2 ⟨ps,H2,I2,rel,e,kvs,ep,lk,q2⟩=>?_)
 subst ep
 obtain ⟨rs,c,rk⟩:=mG (P:=X.prog) (w:=X.w) rel
 obtain ⟨z,hd,vs0,r0,dd⟩:=sS I2.hok e
 cases r0
 refine ⟨rs,c,dd,fun h' dd' hs=>⟨.ref s.heap.objs.size,_,?_,rfl,q2⟩⟩
 have hz:(kQ [] kvs).length<=sizeLine:=by
  have h1:=jw kvs []
  rw [YU] at h1
  rw [W5];lia
 have he:∃ q,h'.get? s.heap.objs.size=some q:=let ⟨q,_,_,hq,_⟩:=dd';⟨q,hq⟩
 exact jh I2 (by rw [e];exact True.intro) hs he (oA hz hd (rk.merge .nil) dd')
end L2
namespace Att
open PySem PySem.W PySem.Calls PyProof.Rows
theorem kY {P:Params} {h:Heap}:∀ (ns:Vl) (vs:X1),WellAll P h vs (ns.map WData.int)->IntsAre vs ns:=by
 intro ns
 induction ns with
 | nil =>
  intro vs w
  rw [YW] at w
  cases w
  exact .nil
 | cons n ns ih =>
  intro vs w
  rw [Zt] at w
  cases w with
  | cons a b =>
   cases a
   exact .cons _ _ (ih _ b)
theorem uD {l:OpenLaw} {n:Nat} (hn:l.most=some n) {P:Params} {h:Heap} {args:List WData} {vals:X1}
  (hpre:l.row.toRowW.claim.pre args=true) (hwl:WellAll P h vals args) :
  ∃ a vs ns,vals=[Value.ref a]/\args=[WData.list (ns.map WData.int)]/\h.get? a=some { cls:=.type "list",data:=.seq vs.toArray }/\IntsAre vs ns/\ns.length<=n:=by
 have hsh:WShape.hasAll [] args [.list .int]=true:=(pre_splitW hpre).1
 have hc:l.pre.holds [] { args:=args }=true:=(pre_splitW hpre).2
 obtain ⟨d,r,rfl,h1,h2⟩:=hasAllW_cons hsh
 obtain rfl:=hasAllW_nil h2
 obtain ⟨xs,rfl,h3⟩:=hasW_list h1
 obtain ⟨ns,rfl⟩:=items_int h3
 have hlen:ns.length<=n:=by
  unfold OpenLaw.pre at hc
  have h4:(WTm.not (.lt (.lit (.int (n:Int))) (.len (.arg 0)))).holds [] { args:=[.list (ns.map .int)] }=true:=by
   have h4:=(holds_andW hc).1
   rw [hn] at h4
   exact h4
  have h5:=condW_of h4 (w_not (w_lt w_lit (w_len_list (w_arg rfl))))
  rw [Zv] at h5
  refine Xz fun q=>?_
  have q':(n:Int) < ((ns.length:Nat):Int):=by omega
  first
   | (rw [decide_eq_true q'] at h5;exact absurd h5 (by decide))
   | (simp at h5;omega)
 cases hwl with
 | cons w1 w2 =>
  cases w2
  cases w1 with
  | list ho hall=>exact ⟨_,_,ns,rfl,rfl,ho,kY ns _ hall,hlen⟩
theorem tY (l:OpenLaw) (args:List WData):l.row.toRowW.claim.post args (.bool true) args=true :=
 postW_of (r:=l.row.toRowW) (X:=(true == true))
  (show WShape.has [] (.bool true) .bool=true by first | rfl | decide | simp [WShape.has,WShape.arms,WShape.armsAll])
  (show (WTm.eq .res (.lit (.bool true))).value [] { args:=args,res:=some (.bool true),after:=args }=some (.bool (true == true)) from w_eq_bool (w_res rfl) w_lit) rfl
theorem p8 {l:OpenLaw} {n:Nat} {q:Program} {loose:List Str} {XP:(Xv)->Heap->Prop} {YP:World->Heap->Prop} {d:DefRec}
  (hn:l.most=some n) (hdf:d.params.defaults=[])
  (call:∀ (w:World) (s₀ s₁:Shared) (mg mb:Xv) (fa:Addr) (o:Obj) (pm cd doc:Value) (a:Addr) (vs:X1) (ns:Vl),
   Ground q loose [] XP w s₀ mg mb s₁.heap->YP w s₁.heap →
   s₁.heap.get? fa=some o->o.data=.func (docDef d.name d.params d.body d.scope pm cd doc)->s₁.heap.CodeRec cd d.name->mg d.name=some (.ref fa) →
   s₁.heap.get? a=some { cls:=.type "list",data:=.seq vs.toArray }->IntsAre vs ns->ns.length<=n->s₁.gens=#[] →
   codeAny (model l.prog w) callerA (.call (.ref fa) ⟨[.ref a],[]⟩) (fun r s'=>r=.ok (.ret (.bool true))/\OldK s₁.heap s'.heap/\s'.os=s₁.os/\AllBare s'.gens) s₁) :
  WalkO q loose XP YP l.row.toRowW d [] (fun f vs=>PySem.call f vs):=by
 intro w s₀ s₁ mg mb G Y fa o pm cd doc dV kV ho hd hcd hD hmg hg args vals as hpre hlay hrd hwl hlo
 obtain rfl:dV=.none:=Dflts.none hD hdf
 obtain rfl:kV=.none:=Dflts.noKw hD
 obtain ⟨a,vs,ns,rfl,rfl,hobj,hints,hlen⟩:=uD hn hpre hwl
 refine enter_call (codeAny_mono (call w s₀ s₁ mg mb fa o pm cd doc a vs ns G Y ho (fd_plain hd) hcd hmg hobj hints hlen hg) fun r s' hq=>?_)
 obtain ⟨rfl,h2,h3,h4⟩:=hq
 exact ⟨.inl ⟨.bool true,.bool true,[],rfl,fun _=>rfl,.bool true,tY l _,fun _=>⟨List.Pairwise.nil,fun _ hm=>(nomatch hm)⟩⟩,h2,h3,h4⟩
end Att
namespace L2
open PySem PySem.Spec PyProof.Rows
theorem nt:∀ {vs:X1} {ns:Vl},IntsAre vs ns->aU (ns.map V.int) vs
 | _,_,.nil=>.nil
 | _,_,.cons n t h=>.cons ⟨t,rfl⟩ (nt h)
noncomputable def yk (H:Hp):Prop:=∀ b,H b=none\/∃ o xs,H b=some (.frz o (.lst xs))
theorem yg {P:Program} {w:World} {K:Y1} {mg mb:Xv} {CX:CXT} {k:Nat} {fa a:Addr} {fd:FuncData} {x:Str} {sp:Sp} {s₁:Shared} {vs:X1} {ns:Vl}
  (KX:K.In s₁.heap) (hns:s₁.heap.Ns mainGlobals mg) (hb:s₁.heap.Ns builtinsNs mb) (hbb:∀ x:Str,x ≠ "__name__" → mb x=bootBuiltins x) (hlim:s₁.heap.NoLimit) (hg:s₁.gens=#[])
  (ha:s₁.heap.get? a=some { cls:=.type "list",data:=.seq vs.toArray }) (hi:IntsAre vs ns) (hl:ns.length<=sizeLine) (hr:Room k callerA)
  (F:∀ base:Heap,K.In base->base.Ns mainGlobals mg->FnOk P w K mg base CX k fa fd [x] sp) (hbind:∀ (s:Shared) (u:Value),BindsTo s fd ⟨[u],[]⟩ [(x,u)])
  (hsp:∀ H:Hp,yk H->SqL K H a (ns.map V.int)->sp [.ref a] H (fun v _=>v=.bl true) fun _ _ _=>False)
  (hCX:∀ H e s',CX [] H s₁ (fun _ _ _=>False) e s'->False) :
  codeAny (model P w) callerA (.call (.ref fa) ⟨[.ref a],[]⟩) (fun r s'=>r=.ok (.ret (.bool true))/\OldK s₁.heap s'.heap/\s'.os=s₁.os/\AllBare s'.gens) s₁:=by
 have rv:=nt hi
 have lenV:=hi.length
 have core:∀ H:Hp,yk H->SqL K H a (ns.map V.int)->HOk P w H s₁.heap->(∀ b,H b ≠ none->b=a)->(H a ≠ none->K.lookup a=none) →
   codeAny (model P w) callerA (.call (.ref fa) ⟨[.ref a],[]⟩) (fun r s'=>r=.ok (.ret (.bool true))/\OldK s₁.heap s'.heap/\s'.os=s₁.os/\AllBare s'.gens) s₁:=by
  intro H hO hS hok hA hK
  have base_of:∀ {b:Addr} {o:Obj},s₁.heap.get? b=some o->H b=none->(oP s₁.heap H).get? b=some o:=fun e n=>wL e n
  have noA:∀ {b:Addr} {o:Obj} {es:Array DictEntry} {ep:Nat},s₁.heap.get? b=some o->o.data=.dict es ep->H b=none:=fun {b o es ep} e d=>by
   cases q:H b with
   | none=>rfl
   | some u =>
    have e':b=a:=hA b (by rw [q];simp)
    subst e'
    rw [ha] at e;cases e
    have d':Data.seq vs.toArray _=Data.dict es ep:=d
    cases d'
  have nsK:∀ {b:Addr} {m:Xv},s₁.heap.Ns b m->(oP s₁.heap H).Ns b m:=fun {b m} ⟨o,es,ep,e,d,r⟩=>⟨o,es,ep,base_of e (noA e d),d,r⟩
  have hKb:K.In (oP s₁.heap H):=fun b o e=>base_of (KX b o e) (by
   cases q:H b with
   | none=>rfl
   | some u =>
    have e':b=a:=hA b (by rw [q];simp)
    subst e'
    rw [hK (by rw [q];simp)] at e;cases e)
  have hM:Mod K mg (oP s₁.heap H):=⟨hKb,nsK hns,⟨mb,nsK hb,hbb⟩,let ⟨mc,h1,h2⟩:=hlim;⟨mc,nsK h1,h2⟩⟩
  have e0:Env0 P w K mg (oP s₁.heap H) callerA [] s₁ H:=⟨rfl,hM,fun b o e=>yS e,WO (uH _ _),trivial,fun b hb=>absurd (show b∈([]:Xb) from hb) (by simp),hok,.of_eq hg⟩
  refine codeAny_mono ((F _ hKb (nsK hns)).run callerA [] s₁ H ⟨[.ref a],[]⟩ [.ref a] [.ref a] _ _ hr e0 (hbind s₁ (.ref a)) (.cons rfl .nil) (hsp H hO hS)) fun r s' h=>?_
  cases r with
  | error e=>exact (hCX H e s' h).elim
  | ok fl =>
   cases fl with
   | next=>exact False.elim h
   | brk=>exact False.elim h
   | cont=>exact False.elim h
   | ret u =>
    obtain ⟨v,H',os,bare,un,hok',r',q⟩:=h
    have q':v=.bl true:=q
    subst q'
    obtain rfl:u=Value.bool true:=r'
    refine ⟨rfl,OldK.of_keep fun b o e=>?_,os,bare⟩
    cases q:H b with
    | none=>exact un.keep b o e q (by intro z;exact absurd (show b∈([]:Xb) from z) (by simp)) (by simp)
    | some u =>
     rcases hO b with z | ⟨ob,xs,z⟩
     ·rw [q] at z;cases z
     ·have z2:=un.frzs b ob _ z
      obtain ⟨e1,_⟩:=hok b _ z
      obtain ⟨e2,_⟩:=hok' b _ z2
      rw [e] at e1;cases e1
      exact e2
 cases hk:K.lookup a with
 | some o =>
  have e:=KX a o hk
  rw [ha] at e
  cases e
  refine core (fun _=>none) (fun _=>.inl rfl) (.inr ⟨_,vs.toArray,_,hk,rfl,rfl,rfl,by rw [Zd,lenV];exact hl,by simpa using rv⟩) (fun b u z=>by have z':(none:Option HO)=some u:=z;cases z') (fun b z=>absurd rfl z) fun z=>absurd rfl z
 | none =>
  refine core (fun b=>if b=a then some (.frz { cls:=.type "list",data:=.seq vs.toArray } (.lst (ns.map V.int))) else none) (fun b=>?_) (.inl (.inr ⟨{ cls:=.type "list",data:=.seq vs.toArray },Zr rfl⟩)) (fun b u z=>?_) (fun b z=>?_) fun _=>hk
  ·by_cases hb:b=a
   ·exact .inr ⟨_,_,Zr hb⟩
   ·exact .inl (Zq hb)
  ·by_cases hb:b=a
   ·have z':=(Zr hb).symm.trans z
    cases z'
    subst hb
    exact ⟨ha,by rw [Zv];exact hl,vs,_,rv,ha⟩
   ·have z':=(Zq hb).symm.trans z
    cases z'
  ·by_cases hb:b=a
   ·exact hb
   ·exact absurd (Zq hb) z
theorem Al {l:PySem.W.OpenLaw} {n k:Nat} {q:Program} {loose:List Str} {XP:(Xv)->Heap->Prop} {YP:World->Heap->Prop} {d:DefRec} {K:Params->Y1} {CX:World->CXT} {sp:World->Sp} {x:Str}
  (hn:l.most=some n) (hn2:n<=sizeLine) (hdf:d.params.defaults=[]) (hr:Room k callerA)
  (hY:∀ (w:World) (h:Heap),YP w h->(K w.params).In h)
  (F:∀ (w:World) (mg:Xv) (fa:Addr) (h:Heap),(K w.params).In h->h.Ns mainGlobals mg->mg d.name=some (.ref fa) →
   ∃ fd:FuncData,(∀ (s:Shared) (u:Value),BindsTo s fd ⟨[u],[]⟩ [(x,u)]) ∧
    ∀ base:Heap,(K w.params).In base->base.Ns mainGlobals mg->FnOk l.prog w (K w.params) mg base (CX w) k fa fd [x] (sp w))
  (hsp:∀ (w:World) (H:Hp) (a:Addr) (ns:Vl),ns.length<=n->yk H->SqL (K w.params) H a (ns.map V.int)->sp w [.ref a] H (fun v _=>v=.bl true) fun _ _ _=>False)
  (hCX:∀ (w:World) (H:Hp) (s:Shared) (e:Value) (s':Shared),CX w [] H s (fun _ _ _=>False) e s'->False) :
  PySem.W.WalkO q loose XP YP l.row.toRowW d [] (fun f vs=>PySem.call f vs):=by
 refine Att.p8 hn hdf fun w s₀ s₁ mg mb fa o pm cd doc a vs ns G Y ho hd hcd hmg hobj hints hlen hg=>?_
 have KX:=hY w _ Y
 obtain ⟨fd,hb,hF⟩:=F w mg fa _ KX G.T.g hmg
 exact yg KX G.T.g G.T.b G.T.builtins G.T.nolimit hg hobj hints (ZV hlen hn2) hr hF hb (fun H hO hS=>hsp w H a ns hlen hO hS) fun H e s'=>hCX w H s₁ e s'
noncomputable def aS (s:Stmt):Arguments:=match s with
 | .FunctionDef _ a _ _ _ _ _ _ _ _=>a
 | _=>{ posonlyargs:=[],args:=[],vararg:=none,kwonlyargs:=[],kw_defaults:=[],kwarg:=none,defaults:=[] }
noncomputable def aO (s:Stmt):List Stmt:=match s with
 | .FunctionDef _ _ b _ _ _ _ _ _ _=>b
 | _=>[]
noncomputable def aq (s:Stmt):Scope:=match s with
 | .FunctionDef _ _ _ _ _ _ sc _ _ _=>sc
 | _=>{ kind:=.function,names:=[],isGenerator:=false,isCoroutine:=false }
noncomputable abbrev CX0:CXT:=fun _ _ _ _ _ _=>False
noncomputable abbrev E0:XK:=fun _ _ _=>False
theorem DX {X:Cx}:qY CX0 X E0:=fun _ _ _ _ _ _ _ h=>h.elim
structure Fun (K:Y1) (x qual:Str) (st:Stmt) (f:Addr) (fd:FuncData):Prop where
 ex:∃ (oc:Value) (od:Option Addr) (kV doc pm:Value) (an:Option Addr) (cdv ct:Value) (osl:Array (Vt)),
  fd=PySem.W.fnOf x qual (aS st) (aO st) (aq st) .none kV doc pm an cdv ct/\K.lookup f=some ⟨oc,od,.func fd,osl⟩/\PySem.W.codeIn K cdv qual=true
 kp:PySem.W.keepIn K (.ref f)=true
section
variable {P:Program} {w:World} {K:Y1} {mg:Xv} {base:Heap}
theorem Fun.ok {x qual:Str} {st:Stmt} {f:Addr} {fd:FuncData} {N ps:List Str} {k:Nat} {sp:Sp} (F:Fun K x qual st f fd) (S:FnScope N ps (aq st)) (len:∀ vs H Q E,sp vs H Q E->vs.length=ps.length)
  (hbody:∀ (cdv:Value) (A:Around) (outer:List Env) (s:Shared) (H:Hp) (vs:List V) (Q:VK) (E:XK),Room k (A.deeper (envOfC qual (aq st) s.heap.objs.size f cdv))->sp vs H Q E →
   ∃ t,PSs (mT CX0 P w K mg base N qual (aq st) f cdv A outer s H E).nox (aO st) t/\t { nx:=fun _ H'=>Q .non H',rt:=Q } (start N vs) H):FnOk P w K mg base CX0 (k+1) f fd ps sp:=by
 obtain ⟨oc,od,kV,doc,pm,an,cdv,ct,osl,rfl,lk,hcd⟩:=F.ex
 refine Ee lk hcd S len fun A outer s H vs Q E hr hsp=>?_
 obtain ⟨t,h,q⟩:=hbody cdv A outer s H vs Q E hr hsp
 exact ⟨t,h.nox,q⟩
theorem Fun.binds {x qual:Str} {st:Stmt} {f:Addr} {fd:FuncData} {ps:List Str} (F:Fun K x qual st f fd)
  (h:∀ (kV doc pm:Value) (an:Option Addr) (cdv ct:Value) (us:X1),us.length=ps.length->bindArgs (PySem.W.fnOf x qual (aS st) (aO st) (aq st) .none kV doc pm an cdv ct) ⟨us,[]⟩=pure (ps.zip us)):Binds K fd ps []:=by
 obtain ⟨oc,od,kV,doc,pm,an,cdv,ct,osl,rfl,lk,hcd⟩:=F.ex
 exact .all (h kV doc pm an cdv ct)
theorem bK {x qual:Str} {st:Stmt} {f:Addr} {oc:Value} {od an:Option Addr} {osl:Array (Vt)} {kV doc pm cdv ct:Value} (l:K.lookup f=some ⟨oc,od,.func (PySem.W.fnOf x qual (aS st) (aO st) (aq st) .none kV doc pm an cdv ct),osl⟩)
  (c:PySem.W.codeIn K cdv qual=true) (k:PySem.W.keepIn K (.ref f)=true):Fun K x qual st f (PySem.W.fnOf x qual (aS st) (aO st) (aq st) .none kV doc pm an cdv ct):=⟨⟨oc,od,kV,doc,pm,an,cdv,ct,osl,rfl,l,c⟩,k⟩
end
theorem sO {A:Around} {k:Nat} (hr:Room k A):A.units+1 < cLine:=Wi (Nat.add_le_add_left (by decide:1<=64) _) hr.units
section
variable {X:Cx}
theorem pv (i:Nat) {x:Str} {pos:Pos} (hN:X.N[i]?=some x:=by rfl) (hv:Vis X.env.scope x:=by first | exact Or.inl rfl | exact Or.inr (Or.inl rfl) | exact Or.inr (Or.inr rfl)) (hd:(x == ("__debug__" : Str))=false:=by decide)
  (hcd:(x == ("__classdict__" : Str))=false:=by decide):PE X (.Name x pos) (uQ i):=fW hN hv hd hcd
end
theorem wc {A B:Prop} (h:B):if false=true then A else B:=by
 rw [Zq Zh]
 exact h
theorem xi {A B:Prop} (h:A):if true=true then A else B:=by
 rw [Zr rfl]
 exact h
noncomputable def aW (H H':Hp):Prop:=∀ b o,H b=some o->H' b=some o
theorem aW.refl (H:Hp):aW H H:=fun _ _ h=>h
theorem aW.trans {H H1 H2:Hp} (a:aW H H1) (b:aW H1 H2):aW H H2:=fun c o h=>b c o (a c o h)
theorem aW.free {H H':Hp} (e:aW H H') {l:Addr} (h:H' l=Option.none):H l=Option.none:=by
 cases q:H l with
 | none=>rfl
 | some o =>
  rw [e l o q] at h
  cases h
end L2
end
section
namespace NK
open PySem PySem.Spec PyProof.Rows
variable {prog:Program} {w:World} {K:Type} [DecidableEq K] {knd:KeyKind prog w K} {A:Around} {E:Z8} {s:Shared}
inductive Its (knd:KeyKind prog w K) (h:Heap):List (List K)->X1->Prop
 | nil:Its knd h [] []
 | cons {k:List K} {b:Addr} {ks:List (List K)} {vs:X1}:IsTupleKey knd h k b->Its knd h ks vs->Its knd h (k :: ks) (.ref b :: vs)
noncomputable def IsN (knd:KeyKind prog w K) (h:Heap) (ks:List (List K)) (a:Addr):Prop:=∃ o items n,h.get? a=some o/\o.cls=.type "tuple" ∧ o.data=.seq items n/\Its knd h ks items.toList
theorem Its.fn {h:Heap} {x y:List (List K)} {vs:X1} (hx:Its knd h x vs):Its knd h y vs->x=y:=by
 induction hx generalizing y with
 | nil=>intro hy;cases hy;rfl
 | cons h1 _ ih =>
  intro hy
  cases hy with
  | cons h2 t=>rw [h1.inj h2,ih t]
theorem IsN.ty {ks:List (List K)} {a:Addr} (x:IsN knd s.heap ks a):s.TypeIs (.ref a) "tuple" := let ⟨o,_,_,g,c,_⟩:=x;⟨o,g,c⟩
theorem IsN.fn {h:Heap} {a:Addr} {x y:List (List K)} (hx:IsN knd h x a) (hy:IsN knd h y a):x=y:=by
 obtain ⟨o,its,n,g,_,d,i⟩:=hx
 obtain ⟨o',its',n',g',_,d',i'⟩:=hy
 rw [g] at g'
 cases g'
 rw [d] at d'
 cases d'
 exact i.fn i'
theorem Its.keeps {h h':Heap} {ks:List (List K)} {vs:X1} {d:Addr} {o:Obj} {es ep} (x:Its knd h ks vs) (ho:h.get? d=some o) (hd:o.data=.dict es ep) (hs:Heap.SameBut d h h'):Its knd h' ks vs:=by
 induction x with
 | nil=>exact .nil
 | cons h1 _ ih=>exact .cons (h1.keeps ho hd hs) ih
theorem IsN.keeps {h h':Heap} {ks:List (List K)} {a d:Addr} {o:Obj} {es ep} (x:IsN knd h ks a) (ho:h.get? d=some o) (hd:o.data=.dict es ep) (hs:Heap.SameBut d h h'):IsN knd h' ks a:=by
 obtain ⟨o',its,n,g,c,d',i⟩:=x
 refine ⟨o',its,n,(hs.2 a fun z=>?_).trans g,c,d',i.keeps ho hd hs⟩
 subst z
 rw [ho] at g
 cases g
 rw [hd] at d'
 cases d'
noncomputable def vj (knd:KeyKind prog w K) (ks:List (List K)):Int:=reduceHash (Builtin.Tuple.tupleHashOf (ks.map (tupleKeyHash knd)))
noncomputable def rW (ks:List (List K)):Nat:=(ks.map fun k=>k.length+1).sum+1
theorem An {ks:List (List K)} {a:Addr} {Q:Int->Shared->Prop} (hu:A.units+1 < cLine) (hk:IsN knd s.heap ks a) (q:Q (vj knd ks) { s with toks:=s.toks+rW ks }):wpAny (model prog w) A (pyHash (.ref a)) Q E s:=by
 have ty:=hk.ty
 obtain ⟨o,its,n,g,_,d,i⟩:=hk
 unfold pyHash
 first | unfold pyHashByItsType | skip
 first | refine Zy (wpAny_cRoomFor_or (.inr (Y6 hu)) ?_) | skip
 refine Zy (Xh ty WJ.lookup ?_)
 refine (show wpAny _ _ (if (some (Value.builtin "tuple.__hash__") == some Value.none)=true then _ else _) Q E s from ?_)
 rw [Zq (fun z=>by rw [beq_builtin_none] at z;cases z)]
 refine Zy (Xh ty WJ.lookup (Zy (wpAny_callSpecialIfBoundUnlessNone?_slot ty WJ (Xo WJ ty F.entry_tuple_hash (Zy (m:=Builtin.Tuple.tupleItemsOf (.ref a)) (XB g d (Zy ?_))) (F.args_tuple_hash_1 _)))))
 rw [← We]
 refine Xp _ (fun rest (b:Array Int) s'=>∃ x y,ks=x++y/\Its knd s.heap y rest/\b.toList=x.map (tupleKeyHash knd)/\s'={ s with toks:=s.toks+(x.map fun k=>k.length+1).sum }) _ ?turn ?fin _ _ ⟨[],ks,rfl,i,rfl,rfl⟩
 case turn =>
  rintro v rest b s' ⟨x,y,rfl,hi,hb,rfl⟩
  cases hi with
  | @cons k c ks' _ h1 h2 =>
   refine Zy (wpAny_pyHash_tuple (s:={ s with toks:=s.toks+(x.map fun k=>k.length+1).sum }) (by show A.in1.units < cLine;exact hu) h1 ?_)
   first
    | exact Zs ⟨x++[k],ks',by simp,h2,by simp [hb],by simp [XQ]⟩
    | exact Zy (Zs (Zs ⟨x++[k],ks',by simp,h2,by simp [hb],by simp [XQ]⟩))
 case fin =>
  rintro b s' ⟨x,y,rfl,hi,hb,rfl⟩
  cases hi
  rw [ZD] at q
  refine (show wpAny _ _ (retInt (Builtin.Tuple.tupleHashOf b.toList)) _ _ _ from ?_)
  rw [hb]
  refine wpAny_ret_mkInt ?_
  unfold vj reduceHash rW at q
  refine (show wpAny _ _ (if (decide (-(2:Int) ^ 63<=Builtin.Tuple.tupleHashOf (x.map (tupleKeyHash knd))) && decide (Builtin.Tuple.tupleHashOf (x.map (tupleKeyHash knd)) < 2 ^ 63))=true then _ else _) Q E _ from ?_)
  by_cases hr:(decide (-(2:Int) ^ 63<=Builtin.Tuple.tupleHashOf (x.map (tupleKeyHash knd))) && decide (Builtin.Tuple.tupleHashOf (x.map (tupleKeyHash knd)) < 2 ^ 63))=true
  ·rw [Zr hr] at q ⊢
   exact Zs (by simpa [XQ] using q)
  ·rw [Zq hr] at q ⊢
   exact Zy (Xi (Zs (by simpa [XQ] using q)))
theorem Ay {x y:List (List K)} {a b:Addr} {P:PySem.Fin->Shared->Prop} (hu:A.units < cLine) (hx:IsN knd s.heap x a) (hy:IsN knd s.heap y b) (q:P (.done (.ret (.bool (decide (x=y))))) s):wpAny (model prog w) A (Builtin.«tuple.__eq__» ⟨[.ref a,.ref b],[]⟩) P E s:=by
 have ty:=hy.ty
 obtain ⟨oa,xs,na,ga,_,da,ia⟩:=hx
 obtain ⟨ob,ys,nb,gb,_,db,ib⟩:=hy
 refine (show wpAny _ _ (isInstance (.ref b) (.type "tuple") >>= _) _ _ s from Zy (Wq ty Wt ?_))
 simp only [YD,ZG,↓reduceIte]
 refine Zy (XB ga da (Zy (XB gb db (Zy ?_))))
 refine Xp _ (fun rest r s'=>r.1=none/\s'=s/\∃ x' y' xs' ys',rest=List.zip xs' ys'/\Its knd s.heap x' xs'/\Its knd s.heap y' ys'/\decide (x'=y')=decide (x=y)/\(xs'.length == ys'.length)=(xs.size == ys.size)) _ ?turn ?fin _ _ ⟨rfl,rfl,x,y,xs.toList,ys.toList,rfl,ia,ib,rfl,by simp⟩
 case turn =>
  rintro ⟨u,v⟩ rest r s' ⟨hr,rfl,x',y',xs',ys',hz,hx',hy',hdec,hlen⟩
  cases hx' with
  | nil=>simp at hz
  | @cons k1 c1 x2 xs2 h1 t1 =>
   cases hy' with
   | nil=>simp at hz
   | @cons k2 c2 y2 ys2 h2 t2 =>
    simp only [ZI,YT,Prod.mk.injEq] at hz
    obtain ⟨⟨rfl,rfl⟩,rfl⟩:=hz
    refine Zy (wpAny_eqBool_tuple hu h1 h2 ?_)
    by_cases hk:k1=k2
    ·subst hk
     rw [decide_eq_true rfl]
     simp only [YD,ZG,↓reduceIte]
     refine Zs ⟨rfl,rfl,x2,y2,xs2,ys2,rfl,t1,t2,?_,by simpa using hlen⟩
     rw [← hdec]
     by_cases hxy:x2=y2 <;> simp [hxy]
    ·rw [ZP hk]
     simp only [Bool.not_false,↓reduceIte]
     have hf:decide (x=y)=false:=by rw [← hdec];simp [hk]
     rw [hf] at q
     exact Zy (Zs (Zs (Zs q)))
 case fin =>
  rintro ⟨r1,r2⟩ s' ⟨hr,rfl,x',y',xs',ys',hz,hx',hy',hdec,hlen⟩
  simp only at hr
  subst hr
  have hfin:(xs.size == ys.size)=decide (x=y):=by
   rw [← hdec,← hlen]
   cases hx' with
   | nil=>cases hy' <;> simp
   | cons _ _ =>
    cases hy' with
    | nil=>simp
    | cons _ _=>simp at hz
  refine Zs (show P (.done (.ret (.bool (xs.size == ys.size)))) s' from ?_)
  rw [hfin]
  exact q
theorem D3 {x y:List (List K)} {a b:Addr} {Q:Bool->Shared->Prop} (hu:A.units+1 < cLine) (hx:IsN knd s.heap x a) (hy:IsN knd s.heap y b) (q:Q (decide (x=y)) s):wpAny (model prog w) A (eqBool (.ref a) (.ref b)) Q E s:=by
 unfold eqBool
 try with_reducible refine YS ?_
 refine (show wpAny _ _ (if (Value.ref a == Value.ref b)=true then _ else _) Q E s from ?_)
 by_cases hab:(Value.ref a == Value.ref b)=true
 ·rw [Zr hab]
  have e:a=b:=by have:=eq_of_beq hab;injection this
  subst e
  obtain rfl:=hx.fn hy
  exact Zy (Xi (Zs (by simpa using q)))
 ·rw [Zq hab]
  exact Zy (wpAny_richCompare_same_room (op:=.Eq) hx.ty hy.ty W0 (Xo W0 hx.ty F.entry_tuple_eq (Ay (by show A.in1.units < cLine;exact hu) hx hy ⟨_,rfl,(fun e=>nomatch e),Ye q⟩) (F.args_tuple_eq_2 _ _)) (Y6 hu))
theorem uo {ks:List K} {n:Nat} {a:Addr} {Q:Bool->Shared->Prop} (hk:IsTupleKey knd s.heap ks a) (q:Q true s):wpAny (model prog w) A (eqIsQuiet (n+1) (.ref a)) Q E s:=by
 have ty:=hk.typeIs
 obtain ⟨o,its,m,g,_,d,i⟩:=hk
 unfold eqIsQuiet
 refine Zy (Xh ty W0.lookup (show wpAny _ _ (isInstance (.ref a) (.type "tuple") >>= _) _ _ s from Zy (Wq ty Wt ?_)))
 simp only [YD,ZG,↓reduceIte]
 refine Zy (XT g d (Zy (show wpAny _ _ (forIn its _ _) _ _ s from ?_)))
 rw [← We]
 refine Xp _ (fun rest r s'=>r.1=none/\s'=s/\∀ v∈rest,carriedByValue v=true) _ ?turn ?fin _ _ ⟨rfl,rfl,i.byValue⟩
 case turn =>
  rintro v rest r s' ⟨hr,rfl,hall⟩
  rw [eqIsQuiet_byValue _ (hall v Zw)]
  refine Zy (Zs ?_)
  simp only [YD,ZG,↓reduceIte]
  exact Zs ⟨rfl,rfl,fun u hu=>hall u (Zx _ hu)⟩
 case fin =>
  rintro ⟨r1,r2⟩ s' ⟨hr,rfl,_⟩
  simp only at hr
  subst hr
  exact Zs q
theorem xE {ks:List (List K)} {a:Addr} {Q:Bool->Shared->Prop} (hk:IsN knd s.heap ks a) (q:Q true s):wpAny (model prog w) A (eqIsQuiet 8 (.ref a)) Q E s:=by
 have ty:=hk.ty
 obtain ⟨o,its,m,g,_,d,i⟩:=hk
 unfold eqIsQuiet
 refine Zy (Xh ty W0.lookup (show wpAny _ _ (isInstance (.ref a) (.type "tuple") >>= _) _ _ s from Zy (Wq ty Wt ?_)))
 simp only [YD,ZG,↓reduceIte]
 refine Zy (XT g d (Zy (show wpAny _ _ (forIn its _ _) _ _ s from ?_)))
 rw [← We]
 refine Xp _ (fun rest r s'=>r.1=none/\s'=s/\∃ ks',Its knd s.heap ks' rest) _ ?turn ?fin _ _ ⟨rfl,rfl,ks,i⟩
 case turn =>
  rintro v rest r s' ⟨hr,rfl,ks',hi⟩
  cases hi with
  | cons h1 h2 =>
   refine Zy (uo h1 ?_)
   simp only [YD,ZG,↓reduceIte]
   exact Zs ⟨rfl,rfl,_,h2⟩
 case fin =>
  rintro ⟨r1,r2⟩ s' ⟨hr,rfl,_⟩
  simp only at hr
  subst hr
  exact Zs q
noncomputable def nest (knd:KeyKind prog w K):HeapKind prog w (List (List K)) where
 is:=IsN knd
 hash:=vj knd
 draws:=rW
 room:=fun A=>A.units+1 < cLine
 inj:=fun hx hy=>hx.fn hy
 keeps:=fun x ho hd hs=>x.keeps ho hd hs
 pyHash:=fun hu hk q=>An hu hk q
 eqBool:=fun hu hx hy q=>D3 hu hx hy q
 quiet:=fun hk q=>xE hk q
end NK
end
section
namespace L2
open PySem PySem.Spec PyProof.Rows
noncomputable abbrev bx:=List (Vl)
noncomputable def hN (k:bx):Int:=reduceHash (Builtin.Tuple.tupleHashOf (k.map fun x=>reduceHash (Builtin.Tuple.tupleHashOf (x.map hashInt))))
noncomputable def DQ (x:bx×Addr×Value):DictEntry:=⟨hN x.1,.ref x.2.1,x.2.2⟩
noncomputable abbrev KN:List (bx×Addr×V)->List (bx×Addr×Value)->Prop:=Paired fun p q=>p.1=q.1/\p.2.1=q.2.1/\RelV p.2.2 q.2.2
noncomputable def DN (a:Addr) (kvs:List (bx×Addr×V)):HO:=.ext fun h=>kvs.length<=sizeLine/\(a == sysModules)=false/\∃ xs:List (bx×Addr×Value),KN kvs xs ∧
 ∃ o es ep,h.get? a=some o/\o.ExactDict/\o.data=.dict es ep/\es.toList=xs.map DQ/\(xs.map (·.1)).Nodup
noncomputable def NAt (H:Hp) (k:bx) (b:Addr):Prop:=∃ cs:Xb,H b=some (.tup (cs.map V.ref))/\Paired (fun (x:Vl) (c:Addr)=>H c=some (.tup (x.map V.int))) k cs
theorem NAt.mono {H H':Hp} {k:bx} {b:Addr} (x:NAt H k b) (t:∀ a xs,H a=some (.tup xs)->H' a=some (.tup xs)):NAt H' k b:=by
 obtain ⟨cs,h,r⟩:=x
 exact ⟨cs,t _ _ h,Paired.mapP r fun _ _ z=>t _ _ z⟩
section
variable {P:Program} {w:World} {H:Hp} {h:Heap} {a b:Addr}
theorem items_int:∀ {ks:Vl} {us:X1},aU (ks.map V.int) us->ItemsAre (intKind P w) ks us
 | [],_,r=>by rw [YW] at r;cases r;exact .nil
 | k :: ks,_,r=>by
  rw [Zt] at r
  cases r with
  | @cons _ u _ _ h t =>
   refine .cons ?_ (items_int t)
   obtain ⟨q,rfl⟩:=(show ∃ q,u=Value.int k q from h)
   show Value.isInt k (.int k q)=true
   simp [Value.isInt]
theorem NAt.is {k:bx} (ok:HOk P w H h) (x:NAt H k b):NK.IsN (intKind P w) h k b:=by
 obtain ⟨cs,e,r⟩:=x
 obtain ⟨z0,its,v,_,o,h1,h2,n,h3⟩:=(show br P w H h b (.tup (cs.map V.ref)) from ok b _ e)
 refine ⟨o,its.toArray,n,h1,h2,h3,?_⟩
 rw [List.toList_toArray]
 clear e h1 h2 h3 z0
 induction r generalizing its with
 | nil =>
  rw [YW] at v
  cases v
  exact .nil
 | @cons x c xs cs' hx _ ih =>
  rw [Zt] at v
  cases v with
  | @cons _ u _ _ hu t =>
   obtain rfl:=(show u=Value.ref c from hu)
   obtain ⟨_,its2,v2,_,o2,g1,g2,n2,g3⟩:=(show br P w H h c (.tup (x.map V.int)) from ok c _ hx)
   exact .cons ⟨o2,its2.toArray,n2,g1,g2,g3,by simpa using items_int v2⟩ (ih _ t)
theorem D2 {kvs:List (bx×Addr×V)} (ok:HOk P w H h) (e:H a=some (DN a kvs)) (ks:∀ p∈kvs,NAt H p.1 p.2.1):kvs.length<=sizeLine/\(a == sysModules)=false ∧
  ∃ xs,KN kvs xs/\h.DictOfH (NK.nest (intKind P w)) a xs:=by
 obtain ⟨⟨z,y,xs,r,o,es,ep,h1,h2,h3,h4,h5⟩,_⟩:=(show br P w H h a (DN a kvs) from ok a _ e)
 refine ⟨z,y,xs,r,o,es,ep,h1,h2,h3,h4,fun x hx=>?_,h5⟩
 have all:∀ {l:List (bx×Addr×V)} {m:List (bx×Addr×Value)},KN l m->(∀ p∈l,NAt H p.1 p.2.1)->∀ x∈m,NK.IsN (intKind P w) h x.1 x.2.1:=by
  intro l m q
  induction q with
  | nil=>intro _ x hx;exact nomatch hx
  | @cons p q ps qs hq t ih =>
   intro hl x hx
   rcases Zo.mp hx with e | hx
   ·subst e
    rw [← hq.1,← hq.2.1]
    exact (hl p Zw).is ok
   ·exact ih (fun p hp=>hl p (Zx _ hp)) x hx
 exact all r ks x hx
theorem ye {H':Hp} {h':Heap} {kvs:List (bx×Addr×V)} {xs:List (bx×Addr×Value)} (z:kvs.length<=sizeLine) (hd:(a == sysModules)=false) (rel:KN kvs xs) (dd:h'.DictOfH (NK.nest (intKind P w)) a xs) :
  br P w H' h' a (DN a kvs):=by
 obtain ⟨o,es,ep,h1,h2,h3,h4,_,h5⟩:=dd
 refine ⟨⟨z,hd,xs,rel,o,es,ep,h1,h2,h3,h4,h5⟩,⟨o,h1⟩,?_⟩
 rintro g1 g2 ⟨z,hd,xs,rel,o,es,ep,h1,h2,h3,h4,h5⟩ k
 exact ⟨z,hd,xs,rel,o,es,ep,k _ h1,h2,h3,h4,h5⟩
theorem KN.length {l:List (bx×Addr×V)} {m:List (bx×Addr×Value)} (r:KN l m):l.length=m.length:=Wl r
noncomputable def atN (kvs:List (bx×Addr×V)) (k:bx):Option V:=(kvs.find? fun x=>decide (x.1=k)).map (·.2.2)
theorem KN.at {l:List (bx×Addr×V)} {m:List (bx×Addr×Value)} (r:KN l m) (k:bx):kJ (atN l k) ((atKey m k).map (·.2)):=by
 unfold atN atKey
 induction r with
 | nil=>exact (show kJ none none from trivial)
 | @cons p q ps qs hq t ih =>
  rw [Yu,Yu,← hq.1]
  by_cases e:p.1=k
  ·simp only [e,decide_true,Yb]
   exact hq.2.2
  ·simp only [e,decide_false]
   exact ih
theorem KN.add {l:List (bx×Addr×V)} {m:List (bx×Addr×Value)} (r:KN l m) {p:bx×Addr×V} {q:bx×Addr×Value} (x:p.1=q.1/\p.2.1=q.2.1/\RelV p.2.2 q.2.2):KN (l++[p]) (m++[q]):=by
 induction r with
 | nil=>exact .cons x .nil
 | cons h _ ih=>exact .cons h ih
end
section
variable {prog:Program} {w:World} {K:Type} [DecidableEq K] {knd:HeapKind prog w K} {A:Around} {E:Z8} {s:Shared}
theorem qj {d a:Addr} {xs:List (K×Addr×Value)} {k:K} {v:Value} {Q:Z8} (hu:knd.room A) (hkey:knd.is s.heap k a) (hm:s.heap.DictOfH knd d xs) (hsz:xs.length<=sizeLine)
  (q1:∀ p,atKey xs k=some p->Q p.2 { s with toks:=s.toks+knd.draws k })
  (q2:atKey xs k=none->∀ h',h'.DictOfH knd d (xs++[(k,a,v)])->Heap.SameBut d s.heap h'->Q v { s with heap:=h',toks:=s.toks+knd.draws k }) :
  wpAny (model prog w) A (dictSetDefault d (.ref a) v) Q E s:=by
 obtain ⟨o,es,ep,ho,hc,hd,he,his,hn⟩:=hm
 unfold dictSetDefault
 try with_reducible refine YS ?_
 refine Zy (knd.pyHash hu hkey (Zy (wpAny_dictFind_heap (s:={ s with toks:=s.toks+knd.draws k }) hu hkey ho hd he his hn (fun hno=>?_) fun j p hj=>?_)))
 ·have at0:=atKey_none_of_get hno
  have hnot:k ∉ xs.map (·.1):=not_mem_keys_of_get hno
  refine Zy (Xi (Zy (wpAny_updateDictKeys (hz:=by have e:=size_of_entries he;lia) (s:={ s with toks:=s.toks+knd.draws k }) ho hd (Zs (q2 at0 _ ⟨_,_,ep+1,Wr _ ho (Obj.isFreed_of_dict (Obj.data_mapDictKeys hd _)),
   hc.mapDictKeys _,Obj.data_mapDictKeys hd _,by simp [he,entryOfKey],fun x hx=>?_,?_⟩ (WY ..))))))
  ·rcases Zc.mp hx with hx | hx
   ·exact knd.keeps (his x hx) ho hd (WY ..)
   ·obtain rfl:=Zn.mp hx
    exact knd.keeps hkey ho hd (WY ..)
  ·rw [Yv,ZF]
   refine ⟨hn,by simp,fun x hx y hy e=>hnot ?_⟩
   simp only [Zt,YW,Zn] at hy
   exact hy ▸ e ▸ hx
 ·refine Zy (wpAny_dictEntries (s:={ s with toks:=s.toks+knd.draws k }) ho hd ?_)
  rw [entry_at he j,hj]
  exact Zy (Xi (Zs (q1 p (atKey_of_get hn hj))))
theorem oo (knd:HeapKind prog w K) {k:K} {a:Addr} (d:Addr) (hd:(d == sysModules)=false) (v:Value) :
  MeetsIn prog w (Builtin.«dict.setdefault» ⟨[.ref d,.ref a,v],[]⟩) (fun A R s=>knd.room A.in1/\knd.is s.heap k a/\∃ xs,s.heap.DictOfH knd d xs/\xs.length<=sizeLine ∧
   (∀ p,atKey xs k=some p->R (.ok (.ret p.2)) { s with toks:=s.toks+knd.draws k }) ∧
   (atKey xs k=none->∀ h',h'.DictOfH knd d (xs++[(k,a,v)])->Heap.SameBut d s.heap h'->R (.ok (.ret v)) { s with heap:=h',toks:=s.toks+knd.draws k })) :=
 .of_wp fun A R s hq=>by
  obtain ⟨hu,hkey,xs,hm,hz,q1,q2⟩:=hq
  unfold Builtin.«dict.setdefault»
  refine Zy ?_
  unfold Builtin.Dict.keyAndDefault
  refine Zy (wpAny_notOrdered_dict hm.typeIs (show wpAny _ _ (pure (d,Value.ref a,some v)) _ _ s from Zs ?_))
  show wpAny _ _ (if (d == sysModules)=true then _ else (dictSetDefault d (.ref a) v >>= _)) _ _ s
  rw [Zq (by rw [hd];simp)]
  exact Zy (qj hu hkey hm hz (fun p hp=>Zs ⟨_,rfl,q1 p hp⟩) fun hn h' hm' hs'=>Zs ⟨_,rfl,q2 hn h' hm' hs'⟩)
end
section
variable {X:Cx}
noncomputable def xQ:V->List V->Hp->VK->Prop:=fun x vs H Q=>∃ (a b:Addr) (kvs:List (bx×Addr×V)) (k:bx) (y:V),x=.ref a/\vs=[.ref b,y]/\H a=some (DN a kvs)/\(∀ p∈kvs,NAt H p.1 p.2.1)/\NAt H k b/\kvs.length < sizeLine ∧
 (∀ v,atN kvs k=some v->Q v H)/\(atN kvs k=none->Q y (upd H a (DN a (kvs++[(k,b,y)]))))
theorem rV (hu:X.A.units+2 < cLine):MtR X "dict.setdefault" xQ:=by
 intro pins s σ H x vs v us Q I rx rv h
 obtain ⟨a,b,kvs,k,y,rfl,rfl,e,hks,hk,hl,q1,q2⟩:=h
 cases rx
 obtain ⟨u,u2,rfl,ru,ru2⟩:=rv.two
 obtain rfl:=(show u=Value.ref b from ru)
 obtain ⟨z,hd,xs,rel,dd⟩:=D2 I.hok e hks
 have hz:xs.length<=sizeLine:=by rw [← rel.length];exact z
 have hval:=rel.at k
 refine call_meetsIn Xn dd.typeIs PySem.F.entry_dict_setdefault (Vs _ _ _) (oo (NK.nest (intKind X.prog X.w)) (k:=k) (a:=b) a hd u2) ⟨by show X.A.in1.units+1 < cLine;show X.A.units+1+1 < cLine;omega,hk.is I.hok,xs,dd,hz,fun p hv=>?_,fun hn h' dd' hs=>?_⟩
 ·rw [hv] at hval
  cases hx:atN kvs k with
  | none=>rw [hx] at hval;cases hval
  | some w =>
   rw [hx] at hval
   exact ⟨w,H,I.tok _,hval,q1 w hx⟩
 ·rw [hn] at hval
  have hx:atN kvs k=none:=by
   cases hx:atN kvs k with
   | none=>rfl
   | some w=>rw [hx] at hval;cases hval
  have he:∃ q,h'.get? a=some q:=let ⟨q,_,_,hq,_⟩:=dd';⟨q,hq⟩
  exact ⟨y,_,jh I (by rw [e];exact True.intro) hs he (ye (by rw [Zu];exact hl) hd (rel.add ⟨rfl,rfl,ru2⟩) dd'),ru2,q2 hx⟩
end
end L2
end
section
namespace VS
open PySem PySem.Spec PyProof.Rows L2
noncomputable def sx (s:Tx):Str:=⟨s.toArray⟩
noncomputable def jq (s:Tx):Prop:=s.length<=ip/\∀ c∈s,c < 1114112
structure Gx where
 K:Y1
 ct:Nat->Addr×(Nat->Str)
noncomputable def aR:Key->T
 | .inl i=>.int i
 | .inr x=>.str x.cps.toList
noncomputable def nkT (k:bx):T:=.tup (k.map fun x=>T.tup (x.map T.int))
noncomputable def kS (K:Y1) (H:Hp) (a:Addr) (ns:Vl):Prop :=
 (∃ o,H a=some (.frz o (.lst (ns.map V.int)))) ∨
  ∃ (o:Obj) (its:Array Value) (n:Nat),K.lookup a=some o/\o.cls=.type "list" ∧ o.dict=none/\o.data=.seq its n/\its.size<=sizeLine/\aU (ns.map V.int) its.toList
mutual
inductive Rp (G:Gx) (H:Hp):V->T->Xb->Prop
 | non:Rp G H .non .non []
 | bl (b:Bool):Rp G H (.bl b) (.bl b) []
 | int (i:Int):Rp G H (.int i) (.int i) []
 | str (s:Tx):jq s->Rp G H (.str (sx s)) (.str s) []
 | scr {a:Addr} {ns:Vl}:kS G.K H a ns->Rp G H (.ref a) (.scr ns) []
 | tup {a:Addr} {vs:List V} {ts:Vg} {Fs:Yg}:H a=some (.tup vs)->RpL G H vs ts Fs->Rp G H (.ref a) (.tup ts) Fs.flatten
 | lst {a:Addr} {vs:List V} {ts:Vg} {Fs:Yg}:H a=some (.lst vs)->RpL G H vs ts Fs->Rp G H (.ref a) (.lst ts) (a :: Fs.flatten)
 | dct {a:Addr} {ks:List Key} {vs:List V} {ts:Vg} {Fs:Yg}:H a=some (.dK (ks.zip vs))->ks.length=vs.length->RpL G H vs ts Fs->Rp G H (.ref a) (.dct 0 ((ks.map aR).zip ts)) (a :: Fs.flatten)
 | dctT {a:Addr} {ks:List (List Key)} {vs:List V} {ts:Vg} {Fs:Yg}:H a=some (.dT (ks.zip vs))->ks.length=vs.length->RpL G H vs ts Fs->Rp G H (.ref a) (.dct 1 ((ks.map fun k=>T.tup (k.map aR)).zip ts)) (a :: Fs.flatten)
 | dctN {a:Addr} {ks:List (bx×Addr)} {vs:List V} {ts:Vg} {Fs:Yg}:H a=some (DN a ((ks.zip vs).map fun p=>(p.1.1,p.1.2,p.2)))->ks.length=vs.length->(∀ p∈ks,NAt H p.1 p.2)->RpL G H vs ts Fs->Rp G H (.ref a) (.dct 2 ((ks.map fun p=>nkT p.1).zip ts)) (a :: Fs.flatten)
 | obj {c:Nat} {a dx:Addr} {ks:Vm} {vs:List V} {ts:Vg} {Fs:Yg}:H a=some (.ins (G.ct c).1 dx ((ks.map (G.ct c).2).zip vs))->ks.length=vs.length->RpL G H vs ts Fs->Rp G H (.ref a) (.obj c (ks.zip ts)) (a :: Fs.flatten)
inductive RpL (G:Gx) (H:Hp):List V->Vg->Yg->Prop
 | nil:RpL G H [] [] []
 | cons {v:V} {t:T} {F:Xb} {vs:List V} {ts:Vg} {Fs:Yg}:Rp G H v t F->RpL G H vs ts Fs->RpL G H (v :: vs) (t :: ts) (F :: Fs)
end
structure Kept (H H':Hp):Prop where
 tup:∀ a xs,H a=some (.tup xs)->H' a=some (.tup xs)
 frz:∀ a o u,H a=some (.frz o u)->H' a=some (.frz o u)
theorem Kept.refl (H:Hp):Kept H H:=⟨fun _ _ h=>h,fun _ _ _ h=>h⟩
theorem Kept.trans {H H1 H2:Hp} (a:Kept H H1) (b:Kept H1 H2):Kept H H2:=⟨fun c x h=>b.tup c x (a.tup c x h),fun c o u h=>b.frz c o u (a.frz c o u h)⟩
theorem Kept.of {H H':Hp} (e:aW H H'):Kept H H':=⟨fun a _ h=>e a _ h,fun a _ _ h=>e a _ h⟩
theorem Kept.upd {H:Hp} {a:Addr} {o:HO} (mu:Mut (H a)\/H a=none):Kept H (upd H a o):=by
 have ne:∀ b u,H b=some u->¬ Mut (some u)->b ≠ a:=fun b u h nm e=>by
  subst e
  rcases mu with m | m
  ·rw [h] at m;exact nm m
  ·rw [h] at m;cases m
 exact ⟨fun b xs h=>by rw [aF (ne b _ h fun z=>z)];exact h,fun b o u h=>by rw [aF (ne b _ h fun z=>z)];exact h⟩
theorem kS.kept {K:Y1} {H H':Hp} {a:Addr} {ns:Vl} (h:kS K H a ns) (k:Kept H H'):kS K H' a ns:=by
 rcases h with ⟨o,e⟩ | h
 ·exact .inl ⟨o,k.frz _ _ _ e⟩
 ·exact .inr h
theorem kS.seq {K:Y1} {H:Hp} {a:Addr} {ns:Vl} (h:kS K H a ns):SqL K H a (ns.map V.int):=by
 rcases h with ⟨o,e⟩ | h
 ·exact .inl (.inr ⟨o,e⟩)
 ·exact .inr h
theorem qJ {H H':Hp} {a:Addr} {F:Xb} (f:∀ b∈a :: F,∀ o,H b=some o->H' b=some o):∀ b∈F,∀ o,H b=some o->H' b=some o:=fun b m=>f b (Zx _ m)
theorem sG {H H':Hp} {F:Xb} {Fs:Yg} (f:∀ b∈(F :: Fs).flatten,∀ o,H b=some o->H' b=some o):(∀ b∈F,∀ o,H b=some o->H' b=some o)/\∀ b∈Fs.flatten,∀ o,H b=some o->H' b=some o:=by
 rw [Ze] at f
 exact ⟨fun b m=>f b (Y7 _ m),fun b m=>f b (Z3 _ m)⟩
theorem Rp.keep {G:Gx} {H H':Hp} (k:Kept H H') {v:V} {t:T} {F:Xb} (r:Rp G H v t F):(∀ a∈F,∀ o,H a=some o->H' a=some o)->Rp G H' v t F :=
 Rp.rec (motive_1:=fun v t F _=>(∀ a∈F,∀ o,H a=some o->H' a=some o)->Rp G H' v t F) (motive_2:=fun vs ts Fs _=>(∀ a∈Fs.flatten,∀ o,H a=some o->H' a=some o)->RpL G H' vs ts Fs)
  (fun _=>.non) (fun b _=>.bl b) (fun i _=>.int i) (fun s h _=>.str s h) (fun h _=>.scr (h.kept k)) (fun h _ ih f=>.tup (k.tup _ _ h) (ih f)) (fun h _ ih f=>.lst (f _ Zw _ h) (ih (qJ f))) (fun h l _ ih f=>.dct (f _ Zw _ h) l (ih (qJ f))) (fun h l _ ih f=>.dctT (f _ Zw _ h) l (ih (qJ f)))
  (fun h l n _ ih f=>.dctN (f _ Zw _ h) l (fun p m=>(n p m).mono k.tup) (ih (qJ f))) (fun h l _ ih f=>.obj (f _ Zw _ h) l (ih (qJ f))) (fun _=>.nil) (fun _ _ i1 i2 f=>.cons (i1 (sG f).1) (i2 (sG f).2)) r
theorem RpL.keep {G:Gx} {H H':Hp} (k:Kept H H'):∀ {vs:List V} {ts:Vg} {Fs:Yg},RpL G H vs ts Fs->(∀ a∈Fs.flatten,∀ o,H a=some o->H' a=some o)->RpL G H' vs ts Fs
 | _,_,_,.nil,_=>.nil
 | _,_,_,.cons r q,f=>.cons (r.keep k (sG f).1) (RpL.keep k q (sG f).2)
theorem Rp.same {G:Gx} {H H':Hp} (e:aW H H') {v:V} {t:T} {F:Xb} (r:Rp G H v t F):Rp G H' v t F:=r.keep (Kept.of e) fun a _ o h=>e a o h
theorem RpL.same {G:Gx} {H H':Hp} (e:aW H H') {v:List V} {t:Vg} {F:Yg} (r:RpL G H v t F):RpL G H' v t F:=r.keep (Kept.of e) fun a _ o h=>e a o h
theorem xo {H:Hp} {a:Addr} {F:Xb} (h:Mut (H a)) (ih:∀ b∈F,Mut (H b)):∀ b∈a :: F,Mut (H b):=fun b m=>(Zo.mp m).elim (fun e=>e ▸ h) (ih b)
theorem vo {H:Hp} {a:Addr} {o:HO} (h:H a=some o) (m:Mut (some o)):Mut (H a):=by rw [h];exact m
theorem EH {H:Hp} {F:Xb} {Fs:Yg} (h1:∀ b∈F,Mut (H b)) (h2:∀ b∈Fs.flatten,Mut (H b)):∀ b∈(F :: Fs).flatten,Mut (H b):=fun b m=>by
 rw [Ze] at m
 exact (Zc.mp m).elim (h1 b) (h2 b)
theorem Rp.dom {G:Gx} {H:Hp} {v:V} {t:T} {F:Xb} (r:Rp G H v t F):∀ a∈F,Mut (H a) :=
 Rp.rec (motive_1:=fun v t F _=>∀ a∈F,Mut (H a)) (motive_2:=fun vs ts Fs _=>∀ a∈Fs.flatten,Mut (H a))
  (fun _ m=>nomatch m) (fun _ _ m=>nomatch m) (fun _ _ m=>nomatch m) (fun _ _ _ m=>nomatch m) (fun _ _ m=>nomatch m) (fun _ _ ih=>ih) (fun h _ ih=>xo (vo h True.intro) ih) (fun h _ _ ih=>xo (vo h True.intro) ih) (fun h _ _ ih=>xo (vo h True.intro) ih)
  (fun h _ _ _ ih=>xo (vo h True.intro) ih) (fun h _ _ ih=>xo (vo h True.intro) ih) (fun _ m=>nomatch m) (fun _ _ i1 i2=>EH i1 i2) r
theorem RpL.dom {G:Gx} {H:Hp}:∀ {vs:List V} {ts:Vg} {Fs:Yg},RpL G H vs ts Fs->∀ a∈Fs.flatten,Mut (H a)
 | _,_,_,.nil=>fun _ m=>nomatch m
 | _,_,_,.cons r q=>EH r.dom (RpL.dom q)
theorem Mut.ne_none {o:Option HO} (m:Mut o):o ≠ none:=fun e=>by subst e;exact m
theorem Eb {F:Xb} {Fs:Yg} {t:T} {ts:Vg} (h1:VS.imm t=true->F=[]) (h2:VS.fN ts=true->Fs.flatten=[]) (i:VS.fN (t :: ts)=true):(F :: Fs).flatten=[]:=by
 simp only [VS.fN,Yq] at i
 rw [Ze,h1 i.1,h2 i.2]
 rfl
theorem Rp.imm {G:Gx} {H:Hp} {v:V} {t:T} {F:Xb} (r:Rp G H v t F):VS.imm t=true->F=[] :=
 Rp.rec (motive_1:=fun v t F _=>VS.imm t=true->F=[]) (motive_2:=fun vs ts Fs _=>VS.fN ts=true->Fs.flatten=[])
  (fun _=>rfl) (fun _ _=>rfl) (fun _ _=>rfl) (fun _ _ _=>rfl) (fun _ _=>rfl) (fun _ _ ih i=>ih (by simpa [VS.imm] using i)) (fun _ _ _ i=>absurd (show false=true from i) Zh) (fun _ _ _ _ i=>absurd (show false=true from i) Zh) (fun _ _ _ _ i=>absurd (show false=true from i) Zh)
  (fun _ _ _ _ _ i=>absurd (show false=true from i) Zh) (fun _ _ _ _ i=>absurd (show false=true from i) Zh) (fun _=>rfl) (fun _ _ i1 i2 i=>Eb i1 i2 i) r
theorem RpL.imm {G:Gx} {H:Hp}:∀ {vs:List V} {ts:Vg} {Fs:Yg},RpL G H vs ts Fs->VS.fN ts=true->Fs.flatten=[]
 | _,_,_,.nil,_=>rfl
 | _,_,_,.cons r q,i=>Eb r.imm (RpL.imm q) i
theorem RpL.len {G:Gx} {H:Hp}:∀ {vs:List V} {ts:Vg} {Fs:Yg},RpL G H vs ts Fs->vs.length=ts.length/\Fs.length=ts.length
 | _,_,_,.nil=>⟨rfl,rfl⟩
 | _,_,_,.cons _ q=>by
  have:=RpL.len q
  simp only [Zj]
  lia
theorem RpL.get {G:Gx} {H:Hp}:∀ {vs:List V} {ts:Vg} {Fs:Yg} (i:Nat) {t:T},RpL G H vs ts Fs->ts[i]?=some t->∃ v F,vs[i]?=some v/\Fs[i]?=some F/\Rp G H v t F
 | _,_,_,_,_,.nil,e=>by simp at e
 | _,_,_,0,_,.cons r _,e=>by
  simp at e
  subst e
  exact ⟨_,_,rfl,rfl,r⟩
 | _,_,_,i+1,_,.cons _ q,e=>by
  obtain ⟨v,F,h1,h2,h3⟩:=RpL.get i q (by simpa using e)
  exact ⟨v,F,by simpa using h1,by simpa using h2,h3⟩
theorem RpL.append {G:Gx} {H:Hp}:∀ {vs:List V} {ts:Vg} {Fs:Yg} {us:List V} {rs:Vg} {Gs:Yg},RpL G H vs ts Fs->RpL G H us rs Gs->RpL G H (vs++us) (ts++rs) (Fs++Gs)
 | _,_,_,_,_,_,.nil,s=>s
 | _,_,_,_,_,_,.cons r q,s=>.cons r (RpL.append q s)
theorem RpL.take {G:Gx} {H:Hp}:∀ {vs:List V} {ts:Vg} {Fs:Yg} (n:Nat),RpL G H vs ts Fs->RpL G H (vs.take n) (ts.take n) (Fs.take n)
 | _,_,_,0,_=>by simpa using RpL.nil
 | _,_,_,n+1,.nil=>.nil
 | _,_,_,n+1,.cons r q=>.cons r (RpL.take n q)
theorem RpL.drop {G:Gx} {H:Hp}:∀ {vs:List V} {ts:Vg} {Fs:Yg} (n:Nat),RpL G H vs ts Fs->RpL G H (vs.drop n) (ts.drop n) (Fs.drop n)
 | _,_,_,0,q=>q
 | _,_,_,n+1,.nil=>.nil
 | _,_,_,n+1,.cons r q=>RpL.drop n q
noncomputable def kU:Cell->T
 | .pu t=>t
 | .ow t=>t
noncomputable abbrev Fps:=Nat->Xb
structure SR (G:Gx) (Φ:Fps) (η:VS.Env) (σ:L2.St) (H:Hp):Prop where
 len:η.length=σ.length
 rp:∀ i c,η[i]?=some (some c)->∃ v,σ[i]?=some (some v)/\Rp G H v (kU c) (Φ i)
 nd:∀ i t,η[i]?=some (some (.ow t))->(Φ i).Nodup
 sep:∀ i j t c,η[i]?=some (some (.ow t))->η[j]?=some (some c)->i ≠ j->∀ a∈Φ i,a ∉ Φ j
noncomputable def dJ (Φ:Fps) (η:VS.Env) (a:Addr):Prop:=∃ j t,η[j]?=some (some (.pu t))/\a∈Φ j
noncomputable def b6 (Φ:Fps) (η:VS.Env) (a:Addr):Prop:=∃ j t,η[j]?=some (some (.ow t))/\a∈Φ j
noncomputable def Fp (Φ:Fps) (η:VS.Env) (H:Hp):Md->Xb->Prop
 | .fr,F=>F.Nodup/\∀ a∈F,H a=none
 | .pu,F=>∀ a∈F,H a=none\/dJ Φ η a
 | .bo,F=>∀ a∈F,H a=none\/dJ Φ η a\/b6 Φ η a
theorem SR.same {G:Gx} {Φ:Fps} {η:VS.Env} {σ:L2.St} {H H':Hp} (s:SR G Φ η σ H) (e:aW H H'):SR G Φ η σ H' :=
 ⟨s.len,fun i c h=>let ⟨v,h1,h2⟩:=s.rp i c h;⟨v,h1,h2.same e⟩,s.nd,s.sep⟩
theorem SR.pu_dom {G:Gx} {Φ:Fps} {η:VS.Env} {σ:L2.St} {H:Hp} {a:Addr} (s:SR G Φ η σ H) (h:dJ Φ η a):Mut (H a):=by
 obtain ⟨j,t,h1,h2⟩:=h
 obtain ⟨v,_,r⟩:=s.rp j _ h1
 exact r.dom a h2
theorem SR.ow_dom {G:Gx} {Φ:Fps} {η:VS.Env} {σ:L2.St} {H:Hp} {a:Addr} (s:SR G Φ η σ H) (h:b6 Φ η a):Mut (H a):=by
 obtain ⟨j,t,h1,h2⟩:=h
 obtain ⟨v,_,r⟩:=s.rp j _ h1
 exact r.dom a h2
theorem Fp.nil {Φ:Fps} {η:VS.Env} {H:Hp} {m:Md}:Fp Φ η H m []:=by
 cases m
 ·exact ⟨Wg,fun a h=>by simp at h⟩
 ·exact fun a h=>by simp at h
 ·exact fun a h=>by simp at h
theorem Fp.bo {Φ:Fps} {η:VS.Env} {H:Hp} {F:Xb}:∀ {m:Md},Fp Φ η H m F->Fp Φ η H .bo F
 | .fr,h=>fun a m=>.inl (h.2 a m)
 | .pu,h=>fun a m=>(h a m).elim .inl fun z=>.inr (.inl z)
 | .bo,h=>h
theorem Fp.pu {Φ:Fps} {η:VS.Env} {H:Hp} {F:Xb}:∀ {m:Md},m ≠ .bo->Fp Φ η H m F->Fp Φ η H .pu F
 | .fr,_,h=>fun a m=>.inl (h.2 a m)
 | .pu,_,h=>h
 | .bo,n,_=>absurd rfl n
theorem Fp.back {Φ:Fps} {η:VS.Env} {H H':Hp} (e:aW H H') {F:Xb}:∀ {m:Md},Fp Φ η H' m F->Fp Φ η H m F
 | .fr,h=>⟨h.1,fun a m=>e.free (h.2 a m)⟩
 | .pu,h=>fun a m=>(h a m).imp e.free id
 | .bo,h=>fun a m=>(h a m).imp e.free id
theorem Fp.up {G:Gx} {Φ:Fps} {η:VS.Env} {H H':Hp} {m:Md} {v:V} {t:T} {F:Xb} (f:Fp Φ η H m F) (r:Rp G H' v t F):Fp Φ η H (VS.up m t).1 F:=by
 unfold VS.up
 by_cases h:VS.imm t=true
 ·rw [r.imm h]
  exact Fp.nil
 ·simp only [h,if_false,ZG]
  exact f
noncomputable def tE (G:Gx) (c:Ex):TE:=fun σ H Q=>∃ Φ η m r,SR G Φ η σ H/\c η=some (m,r)/\∀ v H' F,aW H H'->Rp G H' v r F->Fp Φ η H m F->Q v H'
noncomputable def PV (G:Gx) (X:Cx) (e:Expr) (c:Ex):Prop:=PE X e (tE G c)
theorem PE.weak {X:Cx} {e:Expr} {t t':TE} (h:PE X e t) (w:∀ σ H Q,t' σ H Q->t σ H Q):PE X e t':=fun pins s σ H Q I q=>h pins s σ H Q I (w σ H Q q)
theorem PT.weak {X:Cx} {e:Expr} {t t':TT} (h:PT X e t) (w:∀ σ H Q,t' σ H Q->t σ H Q):PT X e t':=fun pins s σ H Q I q=>h pins s σ H Q I (w σ H Q q)
theorem PA.weak {X:Cx} {e:List Expr} {t t':TA} (h:PA X e t) (w:∀ σ H Q,t' σ H Q->t σ H Q):PA X e t':=fun pos pins s σ H Q I q=>h pos pins s σ H Q I (w σ H Q q)
noncomputable def tT (G:Gx) (c:Ex):TT:=fun σ H Q=>∃ Φ η m r b,SR G Φ η σ H/\c η=some (m,r)/\tru r=some b/\∀ H',aW H H'->Q b H'
noncomputable def PVT (G:Gx) (X:Cx) (e:Expr) (c:Ex):Prop:=PT X e (tT G c)
noncomputable def frs (l:Vi) (Fs:Yg):Xb:=match l,Fs with
 | v :: l,F :: Fs=>match v.1 with
  | .fr=>F++frs l Fs
  | _=>frs l Fs
 | _,_=>[]
structure FpL (Φ:Fps) (η:VS.Env) (H:Hp) (l:Vi) (Fs:Yg):Prop where
 each:∀ (i:Nat) v F,l[i]?=some v->Fs[i]?=some F->Fp Φ η H v.1 F
 nd:(frs l Fs).Nodup
noncomputable def tEs (G:Gx) (c:Exs):TA:=fun σ H Q=>∃ Φ η l,SR G Φ η σ H/\c η=some l/\∀ vs H' Fs,aW H H'->RpL G H' vs (trees l) Fs->FpL Φ η H l Fs->Q vs H'
noncomputable def PVs (G:Gx) (X:Cx) (es:List Expr) (c:Exs):Prop:=PA X es (tEs G c)
section
variable {G:Gx} {X:Cx} {a b c:Expr} {ca cb cc:Ex} {pos:Pos}
theorem DD {i j pos}:PV G X (.Constant (.int i) j pos) (eC (.int i)):=PE.weak wB fun σ H Q hq=>by
 obtain ⟨Φ,η,m,r,s,e,k⟩:=hq
 cases (show some (Md.fr,T.int i)=some (m,r) from e)
 exact k _ _ _ (aW.refl _) (.int i) Fp.nil
theorem EI {i j pos}:PV G X (.Constant (.bool i) j pos) (eC (.bl i)):=PE.weak EB fun σ H Q hq=>by
 obtain ⟨Φ,η,m,r,s,e,k⟩:=hq
 cases (show some (Md.fr,T.bl i)=some (m,r) from e)
 exact k _ _ _ (aW.refl _) (.bl i) Fp.nil
theorem Dp {j pos}:PV G X (.Constant .none j pos) (eC .non):=PE.weak yi fun σ H Q hq=>by
 obtain ⟨Φ,η,m,r,s,e,k⟩:=hq
 cases (show some (Md.fr,T.non)=some (m,r) from e)
 exact k _ _ _ (aW.refl _) .non Fp.nil
theorem CC {x:Str} {t:Tx} {j pos} (h:x=sx t:=by decide +kernel) (hl:jq t:=by decide):PV G X (.Constant (.str x) j pos) (eC (.str t)):=PE.weak wF fun σ H Q hq=>by
 obtain ⟨Φ,η,m,r,s,e,k⟩:=hq
 cases (show some (Md.fr,T.str t)=some (m,r) from e)
 subst h
 exact k _ _ _ (aW.refl _) (.str t hl) Fp.nil
theorem Ce (i:Nat) {x:Str} {pos:Pos} (hN:X.N[i]?=some x:=by rfl) (hv:Vis X.env.scope x:=by first | exact Or.inl rfl | exact Or.inr (Or.inl rfl) | exact Or.inr (Or.inr rfl)) (hd:(x == ("__debug__" : Str))=false:=by decide)
  (hcd:(x == ("__classdict__" : Str))=false:=by decide):PV G X (.Name x pos) (ah i):=PE.weak (fW hN hv hd hcd) fun σ H Q hq=>by
 obtain ⟨Φ,η,m,r,s,e,k⟩:=hq
 unfold ah at e
 split at e
 ·rename_i t h
  obtain ⟨v,h1,h2⟩:=s.rp _ _ h
  have e':VS.up .pu t=(m,r):=ZE e
  have er:t=r:=congrArg Prod.snd e'
  have em:(VS.up .pu t).1=m:=congrArg Prod.fst e'
  rw [← er,← em] at k
  refine ⟨v,h1,k v H (Φ i) (aW.refl _) h2 ?_⟩
  have f:Fp Φ η H .pu (Φ i):=fun a ha=>.inr ⟨i,_,h,ha⟩
  exact f.up h2
 ·rename_i t h
  obtain ⟨v,h1,h2⟩:=s.rp _ _ h
  cases e
  exact ⟨v,h1,k v H (Φ i) (aW.refl _) h2 fun a ha=>.inr (.inr ⟨i,_,h,ha⟩)⟩
 ·cases e
structure Two (G:Gx) (Φ:Fps) (η:VS.Env) (H0 H:Hp) (x y:Val) (u w:V) (F1 F2:Xb):Prop where
 same:aW H0 H
 r1:Rp G H u x.2 F1
 r2:Rp G H w y.2 F2
 f1:Fp Φ η H0 x.1 F1
 f2:Fp Φ η H0 y.1 F2
 nd:x.1=.fr->y.1=.fr->(F1++F2).Nodup
noncomputable def gz (G:Gx) (r:R2) (f:Val->Val->Vh):Prop:=∀ (Φ:Fps) (η:VS.Env) (H0 H:Hp) (x y:Val) (u w:V) (F1 F2:Xb) (m:Md) (t:T) (Q:VK),Two G Φ η H0 H x y u w F1 F2->f x y=some (m,t) →
 (∀ v H' F,aW H H'->Rp G H' v t F->Fp Φ η H0 m F->Q v H')->r u w H Q
theorem wO {σ:L2.St} {H:Hp} {Q:V->V->Hp->Prop} {Φ:Fps} {η:VS.Env} {x y:Val} (s:SR G Φ η σ H) (ea:ca η=some x) (eb:cb η=some y)
  (k:∀ u w H2 F1 F2,Two G Φ η H H2 x y u w F1 F2->Q u w H2):tE G ca σ H fun u H1=>tE G cb σ H1 fun w H2=>Q u w H2:=by
 refine ⟨Φ,η,x.1,x.2,s,ea,fun u H1 F1 e1 r1 f1=>⟨Φ,η,y.1,y.2,s.same e1,eb,fun w H2 F2 e2 r2 f2=>k u w H2 F1 F2 ⟨e1.trans e2,r1.same e2,r2,f1,f2.back e1,fun hx hy=>?_⟩⟩⟩
 rw [hx] at f1
 rw [hy] at f2
 refine ZF.mpr ⟨f1.1,f2.1,fun a ha b hb z=>?_⟩
 subst z
 exact Mut.ne_none (r1.dom a ha) (f2.2 a hb)
theorem lO {r:R2} {f:Val->Val->Vh} (ok:gz G r f) {σ:L2.St} {H:Hp} {Q:VK} (h:tE G (e2 f ca cb) σ H Q):tOp r (tE G ca) (tE G cb) σ H Q:=by
 obtain ⟨Φ,η,m,t,s,e,k⟩:=h
 unfold e2 at e
 obtain ⟨x,ea,e⟩:=Zz.mp e
 obtain ⟨y,eb,e⟩:=Zz.mp e
 exact wO s ea eb fun u w H2 F1 F2 tw=>ok Φ η H H2 x y u w F1 F2 m t Q tw e fun v H' F e1 r1 f1=>k v H' F (tw.same.trans e1) r1 f1
theorem nH {op:Operator} {r:R2} {f:Val->Val->Vh} (ho:OpR X (binaryOp op) r) (ok:gz G r f) (ha:PV G X a ca) (hb:PV G X b cb):PV G X (.BinOp a op b pos) (e2 f ca cb) :=
 PE.weak (FA ho ha hb) fun σ H Q h=>lO ok h
theorem CH {op:CmpOp} {r:R2} {f:Val->Val->Vh} (ho:OpR X (compareOp op) r) (ok:gz G r f) (ha:PV G X a ca) (hb:PV G X b cb) (hm:behindInMarks op b=false):PV G X (.Compare a [op] [b] pos) (e2 f ca cb) :=
 PE.weak (zv ho ha hb hm) fun σ H Q h=>lO ok h
noncomputable def Tells (f:Val->Val->Vh):Prop:=∀ x y m t,f x y=some (m,t)->∃ b,t=.bl b
theorem Rp.bl_inv {H:Hp} {v:V} {b:Bool} {F:Xb} (r:Rp G H v (.bl b) F):v=.bl b:=by cases r;rfl
theorem Rp.int_inv {H:Hp} {v:V} {b:Int} {F:Xb} (r:Rp G H v (.int b) F):v=.int b:=by cases r;rfl
theorem Rp.str_inv {H:Hp} {v:V} {b:Tx} {F:Xb} (r:Rp G H v (.str b) F):v=.str (sx b)/\jq b:=by cases r with | str _ h=>exact ⟨rfl,h⟩
theorem pH {c:Ex} {t:TE} {σ:L2.St} {H:Hp} {Q:Bool->Hp->Prop} (h:tT G c σ H Q) (ht:∀ η m r,c η=some (m,r)->∃ b,r=.bl b) (w:∀ Q,tE G c σ H Q->t σ H Q):vK t σ H Q:=by
 obtain ⟨Φ,η,m,r,b,s,e,eb,k⟩:=h
 refine w _ ⟨Φ,η,m,r,s,e,fun v H' F e1 r1 f1=>?_⟩
 obtain ⟨b',er⟩:=ht η m r e
 rw [er] at eb r1
 cases (show some b'=some b from eb)
 exact ⟨_,r1.bl_inv,k H' e1⟩
theorem iA {op:CmpOp} {r:R2} {f:Val->Val->Vh} (ho:OpR X (compareOp op) r) (ok:gz G r f) (ht:Tells f) (ha:PV G X a ca) (hb:PV G X b cb) (hm:behindInMarks op b=false):PVT G X (.Compare a [op] [b] pos) (e2 f ca cb) :=
 PT.weak (zQ ho ha hb hm) fun σ H Q h=>pH h (fun η m r e=>by
  unfold e2 at e
  obtain ⟨x,_,e⟩:=Zz.mp e
  obtain ⟨y,_,e⟩:=Zz.mp e
  exact ht x y m r e) fun Q h=>lO ok h
theorem bJ {Φ:Fps} {η:VS.Env} {H0 H:Hp} {m:Md} {t:T} {v:V} {Q:VK} (k:∀ v H' F,aW H H'->Rp G H' v t F->Fp Φ η H0 m F->Q v H') (r:Rp G H v t []):Q v H:=k v H [] (aW.refl _) r Fp.nil
theorem cJ {H:Hp} {p:Addr} {o:HO} (h:H p=none):aW H (upd H p o):=fun b o' e=>by rw [aF (bN e h)];exact e
theorem Fp.new {Φ:Fps} {η:VS.Env} {H0:Hp} {p:Addr} {F:Xb} (h0:H0 p=none) (hp:p ∉ F):∀ {m:Md},Fp Φ η H0 m F->Fp Φ η H0 m (p :: F)
 | .fr,f=>⟨ZW.mpr ⟨hp,f.1⟩,fun a m=>(Zo.mp m).elim (fun e=>by rw [e];exact h0) (f.2 a)⟩
 | .pu,f=>fun a m=>(Zo.mp m).elim (fun e=>by rw [e];exact .inl h0) (f a)
 | .bo,f=>fun a m=>(Zo.mp m).elim (fun e=>by rw [e];exact .inl h0) (f a)
theorem oF {mj m:Md} {l:Vg} {t:T} (e:mkL mj l=some (m,t)):t=.lst l/\l.length<=ip/\m=(if fN l then .fr else mj):=by
 unfold mkL at e
 split at e
 ·rename_i h
  cases e
  exact ⟨rfl,h,rfl⟩
 ·cases e
theorem jd {Φ:Fps} {η:VS.Env} {H0 H:Hp} {mj m:Md} {l:Vg} {t:T} {vs:List V} {Fs:Yg} {Q:VK} (same:aW H0 H) (e:mkL mj l=some (m,t)) (r:RpL G H vs l Fs) (f:Fp Φ η H0 mj Fs.flatten)
  (k:∀ v H' F,aW H H'->Rp G H' v t F->Fp Φ η H0 m F->Q v H'):∀ p,H p=none->Q (.ref p) (upd H p (.lst vs)):=by
 intro p hp
 obtain ⟨rfl,hl,rfl⟩:=oF e
 refine k _ _ _ (cJ hp) (.lst aK (r.same (cJ hp))) ?_
 have np:p ∉ Fs.flatten:=fun m=>Mut.ne_none (r.dom p m) hp
 by_cases hi:fN l=true
 ·rw [hi,Zr rfl]
  rw [r.imm hi] at np ⊢
  exact Fp.nil.new (same.free hp) np
 ·rw [Zq hi]
  exact f.new (same.free hp) np
theorem Two.join {Φ:Fps} {η:VS.Env} {H0 H:Hp} {x y:Val} {u w:V} {F1 F2:Xb} (tw:Two G Φ η H0 H x y u w F1 F2) {F:Xb} (hF:F.Sublist (F1++F2)):Fp Φ η H0 (x.1.join y.1) F:=by
 obtain ⟨same,r1,r2,f1,f2,nd⟩:=tw
 have split:∀ a∈F,a∈F1\/a∈F2:=fun a ha=>Zc.mp (hF.subset ha)
 obtain ⟨m1,x⟩:=x
 obtain ⟨m2,y⟩:=y
 have both:∀ {P:Addr->Prop},(∀ a∈F1,P a)->(∀ a∈F2,P a)->∀ a∈F,P a:=fun h1 h2 a ha=>(split a ha).elim (h1 a) (h2 a)
 cases m1 <;> cases m2
 ·exact ⟨(nd rfl rfl).sublist hF,both f1.2 f2.2⟩
 ·exact both (fun a ha=>.inl (f1.2 a ha)) f2
 ·exact both (fun a ha=>.inl (f1.2 a ha)) f2
 ·exact both f1 (fun a ha=>.inl (f2.2 a ha))
 ·exact both f1 f2
 ·exact both (f1.bo) f2
 ·exact both f1 (fun a ha=>.inl (f2.2 a ha))
 ·exact both f1 (f2.bo)
 ·exact both f1 f2
theorem gD:ip=sizeLine:=rfl
theorem fE (s:Tx):(sx s).length=s.length:=rfl
theorem Ca (s t:Tx):sx s++sx t=sx (s++t):=by
 show Str.append (sx s) (sx t)=_
 simp [sx,Str.append]
theorem Rp.lst_inv {H:Hp} {v:V} {l:Vg} {F:Xb} (r:Rp G H v (.lst l) F):∃ a vs Fs,v=.ref a/\F=a :: Fs.flatten/\H a=some (.lst vs)/\RpL G H vs l Fs:=by
 cases r with
 | lst h q=>exact ⟨_,_,_,rfl,rfl,h,q⟩
theorem Rp.tup_inv {H:Hp} {v:V} {l:Vg} {F:Xb} (r:Rp G H v (.tup l) F):∃ a vs Fs,v=.ref a/\F=Fs.flatten/\H a=some (.tup vs)/\RpL G H vs l Fs:=by
 cases r with
 | tup h q=>exact ⟨_,_,_,rfl,rfl,h,q⟩
theorem Rp.scr_inv {H:Hp} {v:V} {l:Vl} {F:Xb} (r:Rp G H v (.scr l) F):∃ a,v=.ref a/\F=[]/\kS G.K H a l:=by
 cases r with
 | scr h=>exact ⟨_,rfl,rfl,h⟩
end
section
variable {G:Gx} {X:Cx}
noncomputable def Cz:R2:=fun x y H Q=>rI0 (fun i j=>.int (i+j)) x y H Q\/(∃ i j,x=.str i/\y=.str j/\i.length+j.length<=sizeLine/\Q (.str (i++j)) H)\/Ey x y H Q
theorem Aa:OpR X (binaryOp .Add) Cz:=CD.or (r6.or BL)
theorem Ck:gz G Cz cm:=by
 intro Φ η H0 H x y u w F1 F2 m t Q tw e k
 have jn:=fun {F:Xb} (h:List.Sublist F (F1++F2))=>tw.join h
 obtain ⟨m1,x⟩:=x
 obtain ⟨m2,y⟩:=y
 obtain ⟨same,r1,r2,f1,f2,nd⟩:=tw
 unfold cm at e
 split at e
 ·rename_i i _ j e1 e2
  cases e1
  cases e2
  cases e
  exact .inl ⟨_,_,r1.int_inv,r2.int_inv,bJ k (.int _)⟩
 ·rename_i s _ s' e1 e2
  cases e1
  cases e2
  split at e
  ·rename_i hl
   cases e
   refine .inr (.inl ⟨_,_,r1.str_inv.1,r2.str_inv.1,by rw [fE,fE,← gD];exact hl,?_⟩)
   rw [Ca]
   exact bJ k (.str _ ⟨by rw [Zu];exact hl,fun c hc=>(Zc.mp hc).elim (r1.str_inv.2.2 c) (r2.str_inv.2.2 c)⟩)
  ·cases e
 ·rename_i s _ s' e1 e2
  cases e1
  cases e2
  obtain ⟨a,vs,Fs,rfl,rfl,ha,ra⟩:=r1.lst_inv
  obtain ⟨b,us,Gs,rfl,rfl,hb,rb⟩:=r2.lst_inv
  obtain ⟨_,hl,_⟩:=oF e
  refine .inr (.inr ⟨a,b,vs,us,rfl,rfl,ha,hb,?_,jd same e (ra.append rb) (jn ?_) k⟩)
  ·rw [Zu] at hl
   rw [ra.len.1,rb.len.1,← gD]
   exact hl
  ·rw [Z5]
   exact (YO _ _).append (YO _ _)
 ·cases e
theorem Ct:gz G (rI0 fun i j=>.int (i - j)) qL:=by
 intro Φ η H0 H x y u w F1 F2 m t Q tw e k
 obtain ⟨m1,x⟩:=x
 obtain ⟨m2,y⟩:=y
 obtain ⟨same,r1,r2,f1,f2,nd⟩:=tw
 unfold qL at e
 split at e
 ·rename_i e1 e2
  cases e1
  cases e2
  cases e
  exact ⟨_,_,r1.int_inv,r2.int_inv,bJ k (.int _)⟩
 ·cases e
theorem AN:gz G (rI Ej fun i j=>.int (i / j)) fU:=by
 intro Φ η H0 H x y u w F1 F2 m t Q tw e k
 obtain ⟨m1,x⟩:=x
 obtain ⟨m2,y⟩:=y
 obtain ⟨same,r1,r2,f1,f2,nd⟩:=tw
 unfold fU at e
 split at e
 ·rename_i e1 e2
  cases e1
  cases e2
  split at e
  ·rename_i h
   cases e
   exact ⟨_,_,r1.int_inv,r2.int_inv,h,bJ k (.int _)⟩
  ·cases e
 ·cases e
theorem B5:gz G (rI (fun _ j=>0 < j) fun i j=>.int (i % j)) oMod:=by
 intro Φ η H0 H x y u w F1 F2 m t Q tw e k
 obtain ⟨m1,x⟩:=x
 obtain ⟨m2,y⟩:=y
 obtain ⟨same,r1,r2,f1,f2,nd⟩:=tw
 unfold oMod at e
 split at e
 ·rename_i e1 e2
  cases e1
  cases e2
  split at e
  ·rename_i h
   cases e
   exact ⟨_,_,r1.int_inv,r2.int_inv,h,bJ k (.int _)⟩
  ·cases e
 ·cases e
theorem mE:∀ (s t:Tx),ltx s t=decide (s < t)
 | [],[]=>by simp [ltx]
 | [],_ :: _=>by simp [ltx]
 | _ :: _,[]=>by simp [ltx]
 | a :: s,b :: t=>by
  unfold ltx
  rw [mE s t]
  by_cases h1:a < b
  ·simp [h1,WI]
  ·by_cases h2:b < a
   ·have:¬ a=b:=by exact W9 h2
    simp [h1,h2,WI,this]
   ·have:a=b:=by lia
    subst this
    simp [WI]
noncomputable def rLt:R2:=fun x y H Q=>rI0 (fun i j=>.bl (decide (i < j))) x y H Q\/(∃ i j,x=.str i/\y=.str j/\Q (.bl (decide (i.cps.toList < j.cps.toList))) H)
theorem wo:OpR X (compareOp .Lt) rLt:=Ez.or vd
theorem Bn:gz G rLt oLt:=by
 intro Φ η H0 H x y u w F1 F2 m t Q tw e k
 obtain ⟨m1,x⟩:=x
 obtain ⟨m2,y⟩:=y
 obtain ⟨same,r1,r2,f1,f2,nd⟩:=tw
 unfold oLt at e
 split at e
 ·rename_i e1 e2
  cases e1
  cases e2
  cases e
  exact .inl ⟨_,_,r1.int_inv,r2.int_inv,bJ k (.bl _)⟩
 ·rename_i s _ s' e1 e2
  cases e1
  cases e2
  cases e
  refine .inr ⟨_,_,r1.str_inv.1,r2.str_inv.1,?_⟩
  have:decide ((sx s).cps.toList < (sx s').cps.toList)=ltx s s':=by rw [mE];exact decide_eq_decide.mpr (by simp [sx])
  rw [this]
  exact bJ k (.bl _)
 ·cases e
theorem mD:Tells oLt:=by
 intro x y m t e
 unfold oLt at e
 split at e <;> first | (cases e;exact ⟨_,rfl⟩) | cases e
theorem Dj:B64=2 ^ 64:=rfl
theorem Dg:gz G (rI zY fun i j=>.int (i * j)) fz:=by
 intro Φ η H0 H x y u w F1 F2 m t Q tw e k
 obtain ⟨m1,x⟩:=x
 obtain ⟨m2,y⟩:=y
 obtain ⟨same,r1,r2,f1,f2,nd⟩:=tw
 unfold fz at e
 split at e
 ·rename_i e1 e2
  cases e1
  cases e2
  split at e
  ·rename_i h
   cases e
   refine ⟨_,_,r1.int_inv,r2.int_inv,?_,bJ k (.int _)⟩
   rw [Dj] at h
   exact h
  ·cases e
 ·cases e
theorem vg:OpR X (compareOp .LtE) (fun x y H Q=>∃ i j,x=.str i/\y=.str j/\Q (.bl (!decide (j.cps.toList < i.cps.toList))) H):=by
 intro pins s σ H x y v u Q I rx ry h
 obtain ⟨i,j,rfl,rfl,q⟩:=h
 obtain ⟨t,rfl⟩:=rx
 obtain ⟨t',rfl⟩:=ry
 exact PySem.P.le_str ⟨.bl _,H,I,rfl,q⟩
noncomputable def rLe:R2:=fun x y H Q=>rI0 (fun i j=>.bl (decide (i<=j))) x y H Q\/(∃ i j,x=.str i/\y=.str j/\Q (.bl (!decide (j.cps.toList < i.cps.toList))) H)
theorem C9:OpR X (compareOp .LtE) rLe:=Fx.or vg
theorem Eo:gz G rLe oLe:=by
 intro Φ η H0 H x y u w F1 F2 m t Q tw e k
 obtain ⟨m1,x⟩:=x
 obtain ⟨m2,y⟩:=y
 obtain ⟨same,r1,r2,f1,f2,nd⟩:=tw
 unfold oLe at e
 split at e
 ·rename_i e1 e2
  cases e1
  cases e2
  cases e
  exact .inl ⟨_,_,r1.int_inv,r2.int_inv,bJ k (.bl _)⟩
 ·rename_i s _ s' e1 e2
  cases e1
  cases e2
  cases e
  refine .inr ⟨_,_,r1.str_inv.1,r2.str_inv.1,?_⟩
  have:decide ((sx s').cps.toList < (sx s).cps.toList)=ltx s' s:=by rw [mE];exact decide_eq_decide.mpr (by simp [sx])
  rw [this]
  exact bJ k (.bl _)
 ·cases e
theorem wm:Tells oLe:=by
 intro x y m t e
 unfold oLe at e
 split at e <;> first | (cases e;exact ⟨_,rfl⟩) | cases e
theorem BO {n:Nat} {i:Int}:ixP n i=ixN n i:=by
 unfold ixP ixN
 by_cases h:0<=i
 ·rw [Zr h,Zr h]
 ·rw [Zq h,Zq h]
  by_cases h2:0<=i+n
  ·rw [Zr h2,Zr (by lia)]
  ·rw [Zq h2,Zq (by lia)]
theorem mf {α:Type} {l:List α} {i:Int} {k:Nat} {x:α} (h1:ixP l.length i=some k) (h2:l[k]?=some x):atI l i=some x:=by
 unfold atI
 rw [← BO,h1]
 exact h2
theorem fS {Fs:Yg} {F:Xb} {i:Nat} (h:Fs[i]?=some F):F.Sublist Fs.flatten:=by
 obtain ⟨hi,rfl⟩:=ZX.mp h
 exact List.sublist_flatten_of_mem (XY hi)
theorem Fp.sub {Φ:Fps} {η:VS.Env} {H:Hp} {F F':Xb} (h:F.Sublist F'):∀ {m:Md},Fp Φ η H m F'->Fp Φ η H m F
 | .fr,f=>⟨f.1.sublist h,fun a ha=>f.2 a (h.subset ha)⟩
 | .pu,f=>fun a ha=>f a (h.subset ha)
 | .bo,f=>fun a ha=>f a (h.subset ha)
theorem yc:gz G (rIx G.K) bh:=by
 intro Φ η H0 H x y u w F1 F2 m t Q tw e k
 obtain ⟨m1,x⟩:=x
 obtain ⟨m2,y⟩:=y
 obtain ⟨same,r1,r2,f1,f2,nd⟩:=tw
 unfold bh at e
 split at e
 ·rename_i m3 l m4 i e1 e2
  cases e1
  cases e2
  obtain ⟨j,h1,e⟩:=Zz.mp e
  obtain ⟨x,h2,e⟩:=Zl.mp e
  obtain ⟨a,vs,Fs,rfl,rfl,ha,ra⟩:=r1.lst_inv
  obtain ⟨v,F,g1,g2,g3⟩:=ra.get j h2
  refine .inl ⟨a,vs,i,v,rfl,r2.int_inv,SqL.of ha,mf (by rw [ra.len.1];exact h1) g1,?_⟩
  have f:=((f1.sub (YO _ _)).sub (fS g2)).up g3
  unfold VS.sub at e
  rw [e] at f
  have et:x=t:=congrArg Prod.snd e
  rw [et] at g3
  exact k v H F (aW.refl _) g3 f
 ·rename_i m3 l m4 i e1 e2
  cases e1
  cases e2
  obtain ⟨j,h1,e⟩:=Zz.mp e
  obtain ⟨x,h2,e⟩:=Zl.mp e
  obtain ⟨a,vs,Fs,rfl,rfl,ha,ra⟩:=r1.tup_inv
  obtain ⟨v,F,g1,g2,g3⟩:=ra.get j h2
  refine .inr (.inl ⟨a,vs,i,v,rfl,r2.int_inv,SqT.of ha,mf (by rw [ra.len.1];exact h1) g1,?_⟩)
  have f:=(f1.sub (fS g2)).up g3
  unfold VS.sub at e
  rw [e] at f
  have et:x=t:=congrArg Prod.snd e
  rw [et] at g3
  exact k v H F (aW.refl _) g3 f
 ·rename_i m3 l m4 i e1 e2
  cases e1
  cases e2
  obtain ⟨j,h1,e⟩:=Zz.mp e
  obtain ⟨x,h2,e⟩:=Zl.mp e
  cases e
  obtain ⟨a,rfl,rfl,sa⟩:=r1.scr_inv
  refine .inl ⟨a,l.map V.int,i,.int x,rfl,r2.int_inv,sa.seq,mf (by rw [Zv];exact h1) (by rw [ZC,h2];rfl),bJ k (.int _)⟩
 ·rename_i m3 l m4 i e1 e2
  cases e1
  cases e2
  obtain ⟨j,h1,e⟩:=Zz.mp e
  obtain ⟨x,h2,e⟩:=Zl.mp e
  cases e
  obtain ⟨rfl,hl⟩:=r1.str_inv
  refine .inr (.inr ⟨sx l,i,x,rfl,r2.int_inv,by rw [fE,← gD];exact hl.1,mf (k:=j) (by simpa [sx] using h1) (by simpa [sx] using h2),?_⟩)
  exact bJ k (.str [x] ⟨by show 1<=ip;decide,fun c hc=>by rw [Zn.mp hc];exact hl.2 x (YR h2)⟩)
 ·cases e
end
section
variable {G:Gx} {X:Cx} {a b c e:Expr} {es:List Expr} {ca cb cc:Ex} {cs:Exs} {pos p:Pos}
theorem si {x:Addr}:∀ {l:Vi} {Fs:Yg},x∈frs l Fs->∃ (i:Nat) (v:Val) (F:Xb),l[i]?=some v/\v.1=.fr/\Fs[i]?=some F/\x∈F
 | [],_,h=>by simp [frs] at h
 | _ :: _,[],h=>by simp [frs] at h
 | v :: l,F :: Fs,h=>by
  have go:x∈frs l Fs->∃ (i:Nat) (u:Val) (F':Xb),(v :: l)[i]?=some u/\u.1=.fr/\(F :: Fs)[i]?=some F'/\x∈F':=fun m=>by
   obtain ⟨i,u,F',h1,h2,h3,h4⟩:=si m
   exact ⟨i+1,u,F',by simpa using h1,h2,by simpa using h3,h4⟩
  unfold frs at h
  split at h
  ·rename_i hv
   rcases Zc.mp h with h | h
   ·exact ⟨0,v,F,rfl,hv,rfl,h⟩
   ·exact go h
  ·exact go h
theorem yQ:PVs G X [] aw:=PA.weak il fun σ H Q hq=>by
 obtain ⟨Φ,η,l,s,e,k⟩:=hq
 cases (show some ([]:Vi)=some l from e)
 exact k [] H [] (aW.refl _) .nil ⟨fun i v F h=>by simp at h,by simp [frs]⟩
theorem xh (ha:PV G X e ca) (hr:PVs G X es cs) (hs:starEach (e :: es) X.env=(false,eval e X.env) :: starEach es X.env:=by rfl):PVs G X (e :: es) (ag ca cs):=PA.weak (fO ha hr hs) fun σ H Q hq=>by
 obtain ⟨Φ,η,l,s,e,k⟩:=hq
 unfold ag at e
 obtain ⟨x,ea,e⟩:=Zz.mp e
 obtain ⟨xs,er,e⟩:=Zz.mp e
 cases e
 refine ⟨Φ,η,x.1,x.2,s,ea,fun v H1 F e1 r1 f1=>⟨Φ,η,xs,s.same e1,er,fun vs H2 Fs e2 r2 f2=>k (v :: vs) H2 (F :: Fs) (e1.trans e2) (.cons (r1.same e2) r2) ⟨fun i u F' h1 h2=>?_,?_⟩⟩⟩
 ·cases i with
  | zero =>
   cases (show some x=some u from h1)
   cases (show some F=some F' from h2)
   exact f1
  | succ i=>exact (f2.each i u F' (by simpa using h1) (by simpa using h2)).back e1
 ·unfold frs
  split
  ·rename_i hx
   rw [hx] at f1
   refine ZF.mpr ⟨f1.1,f2.nd,fun y hy z hz q=>?_⟩
   subst q
   obtain ⟨i,u,F',h1,h2,h3,h4⟩:=si hz
   have f:=f2.each i u F' h1 h3
   rw [h2] at f
   exact Mut.ne_none (r1.dom y hy) (f.2 y h4)
  ·exact f2.nd
theorem jW:∀ {l:Vi},bZ l=.fr->∀ v∈l,v.1=.fr
 | [],_,v,h=>by simp at h
 | (m,t) :: r,e,v,h=>by
  have e':m.join (bZ r)=.fr:=e
  have h1:m=.fr:=by
   revert e'
   cases m <;> cases bZ r <;> simp [Md.join]
  have h2:bZ r=.fr:=by
   revert e'
   cases m <;> cases bZ r <;> simp [Md.join]
  rcases Zo.mp h with rfl | h
  ·exact h1
  ·exact jW h2 v h
theorem kc:∀ {l:Vi},bZ l ≠ .bo->∀ v∈l,v.1 ≠ .bo
 | [],_,v,h=>by simp at h
 | (m,t) :: r,e,v,h=>by
  have e':m.join (bZ r) ≠ .bo:=e
  have h1:m ≠ .bo:=by
   revert e'
   cases m <;> cases bZ r <;> simp [Md.join]
  have h2:bZ r ≠ .bo:=by
   revert e'
   cases m <;> cases bZ r <;> simp [Md.join]
  rcases Zo.mp h with rfl | h
  ·exact h1
  ·exact kc h2 v h
theorem sF:∀ {l:Vi} {Fs:Yg},l.length=Fs.length->(∀ v∈l,v.1=.fr)->frs l Fs=Fs.flatten
 | [],[],_,_=>rfl
 | [],_ :: _,h,_=>by simp at h
 | _ :: _,[],h,_=>by simp at h
 | v :: l,F :: Fs,h,q=>by
  unfold frs
  rw [q v Zw,sF (by simpa using h) fun u hu=>q u (Zx _ hu)]
  rfl
theorem gv {x:Addr} {Fs:Yg} (h:x∈Fs.flatten):∃ (i:Nat) (F:Xb),Fs[i]?=some F/\x∈F:=by
 obtain ⟨F,hF,hx⟩:=WS.mp h
 obtain ⟨i,hi⟩:=List.mem_iff_getElem?.mp hF
 exact ⟨i,F,hi,hx⟩
theorem FpL.join {Φ:Fps} {η:VS.Env} {H:Hp} {l:Vi} {Fs:Yg} (f:FpL Φ η H l Fs) (hl:l.length=Fs.length):Fp Φ η H (bZ l) Fs.flatten:=by
 have at':∀ x∈Fs.flatten,∃ v F,v∈l/\x∈F/\Fp Φ η H v.1 F:=fun x hx=>by
  obtain ⟨i,F,hi,hxF⟩:=gv hx
  have:i < l.length:=by
   have:=(ZX.mp hi).1
   lia
  exact ⟨l[i],F,XY this,hxF,f.each i _ F (Zb this) hi⟩
 cases e:bZ l with
 | fr =>
  have al:=jW e
  refine ⟨by rw [← sF hl al];exact f.nd,fun x hx=>?_⟩
  obtain ⟨v,F,hv,hxF,q⟩:=at' x hx
  rw [al v hv] at q
  exact q.2 x hxF
 | pu =>
  have al:=kc (l:=l) (by rw [e];decide)
  intro x hx
  obtain ⟨v,F,hv,hxF,q⟩:=at' x hx
  exact Fp.pu (al v hv) q x hxF
 | bo =>
  intro x hx
  obtain ⟨v,F,hv,hxF,q⟩:=at' x hx
  exact q.bo x hxF
structure Args (G:Gx) (Φ:Fps) (η:VS.Env) (H0 H:Hp) (l:Vi) (vs:List V) (Fs:Yg):Prop where
 same:aW H0 H
 rp:RpL G H vs (trees l) Fs
 fp:FpL Φ η H0 l Fs
theorem Args.len {Φ:Fps} {η:VS.Env} {H0 H:Hp} {l:Vi} {vs:List V} {Fs:Yg} (A:Args G Φ η H0 H l vs Fs):l.length=Fs.length:=by
 have:=A.rp.len.2
 simp [trees] at this
 exact Eq.symm this
noncomputable def iE (G:Gx) (r:List V->Hp->VK->Prop) (f:Vi->Vh):Prop:=∀ (Φ:Fps) (η:VS.Env) (H0 H:Hp) (l:Vi) (vs:List V) (Fs:Yg) (m:Md) (t:T) (Q:VK),Args G Φ η H0 H l vs Fs->f l=some (m,t) →
 (∀ v H' F,aW H H'->Rp G H' v t F->Fp Φ η H0 m F->Q v H')->r vs H Q
theorem By {r:List V->Hp->VK->Prop} {f:Vi->Vh} (ok:iE G r f) {σ:L2.St} {H:Hp} {Q:VK} {η:VS.Env} {Φ:Fps} {l:Vi} {m:Md} {t:T} (s:SR G Φ η σ H) (el:cs η=some l) (e:f l=some (m,t))
  (k:∀ v H' F,aW H H'->Rp G H' v t F->Fp Φ η H m F->Q v H'):tEs G cs σ H fun vs H1=>r vs H1 Q :=
 ⟨Φ,η,l,s,el,fun vs H' Fs e1 r1 f1=>ok Φ η H H' l vs Fs m t Q ⟨e1,r1,f1⟩ e fun v H2 F e2 r2 f2=>k v H2 F (e1.trans e2) r2 f2⟩
theorem o7 {r:List V->Hp->VK->Prop} {f:Vi->Vh} {id:String} {x:Str} (hc:fj X (.builtin id) r) (ok:iE G r f) (hg:Gl X x) (hm:X.mg x=none) (hv:bootBuiltins x=some (.builtin id)) (ha:PVs G X (e :: es) cs)
  (hn:x ≠ "__name__" := by decide) (hdb:(x == ("__debug__" : Str))=false:=by decide)
  (he:starEach (e :: es) X.env=(false,eval e X.env) :: starEach es X.env:=by rfl) (hpl:(backTo pos (starEach es X.env)).any (·.1)=false:=by rfl):PV G X (.Call (.Name x p) (e :: es) [] pos) (eN f cs) :=
 PE.weak (pS hc hg hm hv ha hn hdb he hpl) fun σ H Q hq=>by
  obtain ⟨Φ,η,m,t,s,e,k⟩:=hq
  unfold eN at e
  obtain ⟨l,el,e⟩:=Zz.mp e
  exact By ok s el e k
theorem kj {r:List V->Hp->VK->Prop} {f:Vi->Vh} {Ty:String} {x:Str} (hc:fj X (.type Ty) r) (ok:iE G r f) (hg:Gl X x) (hm:X.mg x=none) (hv:bootBuiltins x=some (.type Ty)) (ha:PVs G X (e :: es) cs)
  (hn:x ≠ "__name__" := by decide) (hdb:(x == ("__debug__" : Str))=false:=by decide)
  (he:starEach (e :: es) X.env=(false,eval e X.env) :: starEach es X.env:=by rfl) (hpl:(backTo pos (starEach es X.env)).any (·.1)=false:=by rfl):PV G X (.Call (.Name x p) (e :: es) [] pos) (eN f cs) :=
 PE.weak (uv hc hg hm hv ha hn hdb he hpl) fun σ H Q hq=>by
  obtain ⟨Φ,η,m,t,s,e,k⟩:=hq
  unfold eN at e
  obtain ⟨l,el,e⟩:=Zz.mp e
  exact By ok s el e k
theorem Dr (h:PVs G X es cs):PV G X (.List es pos) (fC cs):=PE.weak (oB h) fun σ H Q hq=>by
 obtain ⟨Φ,η,m,t,s,e,k⟩:=hq
 unfold fC at e
 obtain ⟨l,el,e⟩:=Zz.mp e
 refine ⟨Φ,η,l,s,el,fun vs H' Fs e1 r1 f1=>?_⟩
 have A:Args G Φ η H H' l vs Fs:=⟨e1,r1,f1⟩
 obtain ⟨_,hl,_⟩:=oF e
 refine ⟨by rw [r1.len.1,← gD];exact hl,jd e1 e r1 (f1.join A.len) fun v H2 F e2 r2 f2=>k v H2 F (e1.trans e2) r2 f2⟩
theorem BM {x1} (h:PVs G X es cs):PV G X (.Tuple es x1 pos) (mP cs):=PE.weak (BW h) fun σ H Q hq=>by
 obtain ⟨Φ,η,m,t,s,e,k⟩:=hq
 unfold mP at e
 obtain ⟨l,el,e⟩:=Zz.mp e
 refine ⟨Φ,η,l,s,el,fun vs H' Fs e1 r1 f1=>?_⟩
 have A:Args G Φ η H H' l vs Fs:=⟨e1,r1,f1⟩
 unfold qG at e
 split at e
 ·rename_i hl
  cases e
  refine ⟨by rw [r1.len.1,← gD,trees,Zv];exact hl,fun q hq=>?_⟩
  have r2:Rp G (upd H' q (.tup vs)) (.ref q) (.tup (trees l)) Fs.flatten:=.tup aK (r1.same (cJ hq))
  exact k _ _ _ (e1.trans (cJ hq)) r2 (Fp.up (f1.join A.len) r2)
 ·cases e
theorem Bf {H:Hp} {v:V} {t:T} {F:Xb} {k:Bool} (r:Rp G H v t F) (h:tru t=some k):Cd G.K v H k:=by
 cases r with
 | non=>cases h;rfl
 | bl b=>cases h;rfl
 | int i=>cases h;rfl
 | str s hl =>
  cases h
  refine ⟨by rw [fE,← gD];exact hl.1,?_⟩
  rw [fE]
  cases s with
  | nil=>rfl
  | cons a r =>
   have:((List.length (a :: r):Int) != 0)=true:=by simp;lia
   rw [this]
   rfl
 | scr h'=>cases h
 | tup h' q =>
  cases h
  refine .inr (.inl ⟨_,SqT.of h',?_⟩)
  have:=q.len.1
  rename_i vs ts _
  cases vs <;> cases ts <;> simp_all
 | lst h' q =>
  cases h
  refine .inl ⟨_,SqL.of h',?_⟩
  have:=q.len.1
  rename_i vs ts _
  cases vs <;> cases ts <;> simp_all
 | dct h' hl q =>
  cases h
  refine .inr (.inr ⟨_,h',?_⟩)
  have:=q.len.1
  rename_i ks vs ts _
  cases ks <;> cases vs <;> cases ts <;> simp_all
 | dctT h' hl q=>cases h
 | dctN h' hl n q=>cases h
 | obj h' hl q=>cases h
theorem yZ (h:PV G X a ca) (hK:X.K=G.K:=by rfl) (he:∀ whole,isTrue a X.env whole=(do let v ← whole;standAt a.pos;holding [v] (truthy v)):=by intro _;rfl):PVT G X a ca :=
 PT.weak (yz h he) fun σ H Q ⟨Φ,η,m,r,b,s,e,eb,k⟩=>⟨Φ,η,m,r,s,e,fun v H' F e1 r1 f1=>⟨b,by rw [hK];exact Bf r1 eb,k H' e1⟩⟩
noncomputable def PVW (G:Gx) (X:Cx) (e:Expr) (c:Ex):Prop:=PW X e (tT G c)
theorem PW.weak {X:Cx} {e:Expr} {t t':TT} (h:PW X e t) (w:∀ σ H Q,t' σ H Q->t σ H Q):PW X e t':=fun wh pins s σ H Q I q=>h wh pins s σ H Q I (w σ H Q q)
theorem PVW.pvt (h:PVW G X e ca):PVT G X e ca:=PW.pt h
variable {rest:List Expr}
theorem vE (ha:PVT G X a ca):PVW G X (.BoolOp .And [a] pos) ca:=As ha
theorem zU (ha:PVT G X a ca):PVW G X (.BoolOp .Or [a] pos) ca:=BN ha
theorem qN {η:VS.Env} {m:Md} {r:T} (e:iw ca cb η=some (m,r)):(∃ n,ca η=some (n,.bl true)/\cb η=some (m,r))\/(∃ n,ca η=some (n,.bl false)/\m=.fr/\r=.bl false):=by
 unfold iw at e
 obtain ⟨⟨n,x⟩,ea,e⟩:=Zz.mp e
 split at e
 ·rename_i h
  cases (show x=.bl true from h)
  exact .inl ⟨n,ea,e⟩
 ·rename_i h
  cases (show x=.bl false from h)
  cases e
  exact .inr ⟨n,ea,rfl,rfl⟩
 ·cases e
theorem AF {η:VS.Env} {m:Md} {r:T} (e:eOr ca cb η=some (m,r)):(∃ n,ca η=some (n,.bl false)/\cb η=some (m,r))\/(∃ n,ca η=some (n,.bl true)/\m=.fr/\r=.bl true):=by
 unfold eOr at e
 obtain ⟨⟨n,x⟩,ea,e⟩:=Zz.mp e
 split at e
 ·rename_i h
  cases (show x=.bl true from h)
  cases e
  exact .inr ⟨n,ea,rfl,rfl⟩
 ·rename_i h
  cases (show x=.bl false from h)
  exact .inl ⟨n,ea,e⟩
 ·cases e
theorem A7 (ha:PVT G X a ca) (hb:PVW G X (.BoolOp .And (b :: rest) pos) cb):PVW G X (.BoolOp .And (a :: b :: rest) pos) (iw ca cb) :=
 PW.weak (CW ha hb) fun σ H Q hq=>by
  obtain ⟨Φ,η,m,r,k,s,e,eb,q⟩:=hq
  rcases qN e with ⟨n,ea,e2⟩ | ⟨n,ea,rfl,rfl⟩
  ·refine ⟨Φ,η,n,_,true,s,ea,rfl,fun H' e1=>?_⟩
   refine xi ?_
   exact ⟨Φ,η,m,r,k,s.same e1,e2,eb,fun H2 e2=>q H2 (e1.trans e2)⟩
  ·refine ⟨Φ,η,n,_,false,s,ea,rfl,fun H' e1=>?_⟩
   refine wc ?_
   cases eb
   exact q H' e1
theorem C4 (ha:PVT G X a ca) (hb:PVW G X (.BoolOp .Or (b :: rest) pos) cb):PVW G X (.BoolOp .Or (a :: b :: rest) pos) (eOr ca cb) :=
 PW.weak (Ek ha hb) fun σ H Q hq=>by
  obtain ⟨Φ,η,m,r,k,s,e,eb,q⟩:=hq
  rcases AF e with ⟨n,ea,e2⟩ | ⟨n,ea,rfl,rfl⟩
  ·refine ⟨Φ,η,n,_,false,s,ea,rfl,fun H' e1=>?_⟩
   refine wc ?_
   exact ⟨Φ,η,m,r,k,s.same e1,e2,eb,fun H2 e2=>q H2 (e1.trans e2)⟩
  ·refine ⟨Φ,η,n,_,true,s,ea,rfl,fun H' e1=>?_⟩
   refine xi ?_
   cases eb
   exact q H' e1
theorem pf {η:VS.Env} {m:Md} {r:T} (e:gy ca η=some (m,r)):∃ n b,ca η=some (n,.bl b)/\m=.fr/\r=.bl (!b):=by
 unfold gy at e
 obtain ⟨⟨n,x⟩,ea,e⟩:=Zz.mp e
 split at e
 ·rename_i b h
  cases (show x=.bl b from h)
  cases e
  exact ⟨n,b,ea,rfl,rfl⟩
 ·cases e
theorem zo (ha:PVT G X a ca):PVT G X (.UnaryOp .Not a pos) (gy ca):=PT.weak (Dl ha) fun σ H Q hq=>by
 obtain ⟨Φ,η,m,r,k,s,e,eb,q⟩:=hq
 obtain ⟨n,b,ea,rfl,rfl⟩:=pf e
 cases eb
 exact ⟨Φ,η,n,_,b,s,ea,rfl,fun H' e1=>q H' e1⟩
theorem B0 (ha:PV G X a ca):PV G X (.UnaryOp .Not a pos) (gy ca):=PE.weak (CU ha) fun σ H Q hq=>by
 obtain ⟨Φ,η,m,r,s,e,q⟩:=hq
 obtain ⟨n,b,ea,rfl,rfl⟩:=pf e
 exact ⟨Φ,η,n,_,s,ea,fun v H' F e1 r1 f1=>⟨b,r1.bl_inv,q _ H' _ e1 (.bl _) Fp.nil⟩⟩
theorem Dw {op} (h:PV G X a ca):PV G X (.BoolOp op [a] pos) ca:=CB h
theorem Cv (ha:PV G X a ca) (hb:PV G X (.BoolOp .And (b :: rest) pos) cb):PV G X (.BoolOp .And (a :: b :: rest) pos) (iw ca cb) :=
 PE.weak (Cf ha hb) fun σ H Q hq=>by
  obtain ⟨Φ,η,m,r,s,e,q⟩:=hq
  rcases qN e with ⟨n,ea,e2⟩ | ⟨n,ea,rfl,rfl⟩
  ·refine ⟨Φ,η,n,_,s,ea,fun v H' F e1 r1 f1=>⟨true,r1.bl_inv,?_⟩⟩
   refine xi ?_
   exact ⟨Φ,η,m,r,s.same e1,e2,fun v H2 F e2 r2 f2=>q v H2 F (e1.trans e2) r2 (f2.back e1)⟩
  ·refine ⟨Φ,η,n,_,s,ea,fun v H' F e1 r1 f1=>⟨false,r1.bl_inv,?_⟩⟩
   refine wc ?_
   exact q _ H' _ e1 (.bl _) Fp.nil
theorem El (hc:PVT G X c cc) (ha:PV G X a ca) (hb:PV G X b cb):PV G X (.IfExp c a b pos) (eIf cc ca cb) :=
 PE.weak (wz hc ha hb) fun σ H Q hq=>by
  obtain ⟨Φ,η,m,r,s,e,q⟩:=hq
  unfold eIf at e
  obtain ⟨⟨n,x⟩,ec,e⟩:=Zz.mp e
  obtain ⟨k,ek,e⟩:=Zz.mp e
  refine ⟨Φ,η,n,x,k,s,ec,ek,fun H' e1=>?_⟩
  cases k with
  | true =>
   rw [Zr rfl] at e
   refine xi ?_
   exact ⟨Φ,η,m,r,s.same e1,e,fun v H2 F e2 r2 f2=>q v H2 F (e1.trans e2) r2 (f2.back e1)⟩
  | false =>
   rw [Zq Zh] at e
   refine wc ?_
   exact ⟨Φ,η,m,r,s.same e1,e,fun v H2 F e2 r2 f2=>q v H2 F (e1.trans e2) r2 (f2.back e1)⟩
theorem Bb {H:Hp} {v:V} {t:T} {F:Xb} (r:Rp G H v t F):decide (v=.non)=isN t:=by
 cases r <;> simp [isN]
theorem DS {t:TE} {c:Ex} {σ:L2.St} {H:Hp} {Q:Bool->Hp->Prop} (h:tT G c σ H Q) (ht:∀ η m r,c η=some (m,r)->∃ b,r=.bl b) (w:∀ Q,tE G c σ H Q->t σ H Q):tB t σ H Q:=by
 obtain ⟨Φ,η,m,r,b,s,e,eb,k⟩:=h
 refine w _ ⟨Φ,η,m,r,s,e,fun v H' F e1 r1 f1=>?_⟩
 obtain ⟨b',er⟩:=ht η m r e
 rw [er] at eb r1
 cases (show some b'=some b from eb)
 exact ⟨_,r1.bl_inv,k H' e1⟩
end
section
variable {G:Gx} {X:Cx} {a b c e:Expr} {es:List Expr} {ca cb cc:Ex} {cs:Exs} {pos p:Pos}
theorem RpL.one {H:Hp} {vs:List V} {t:T} {Fs:Yg} (r:RpL G H vs [t] Fs):∃ v F,vs=[v]/\Fs=[F]/\Rp G H v t F:=by
 cases r with
 | cons r q=>cases q;exact ⟨_,_,rfl,rfl,r⟩
theorem RpL.two {H:Hp} {vs:List V} {t t':T} {Fs:Yg} (r:RpL G H vs [t,t'] Fs):∃ v v' F F',vs=[v,v']/\Fs=[F,F']/\Rp G H v t F/\Rp G H v' t' F':=by
 cases r with
 | cons r q =>
  obtain ⟨v',F',rfl,rfl,r'⟩:=q.one
  exact ⟨_,_,_,_,rfl,rfl,r,r'⟩
noncomputable def DR (K:Y1):List V->Hp->VK->Prop:=fun xs H Q=>(∃ x n,xs=[x]/\Fu K x H n/\Q (.int n) H)\/(∃ a kvs,xs=[V.ref a]/\H a=some (.dK kvs)/\Q (.int kvs.length) H)
theorem rn:fj X (.builtin "len") (fun xs H Q=>∃ a kvs,xs=[V.ref a]/\H a=some (.dK kvs)/\Q (.int kvs.length) H):=by
 intro pins s σ H xs us Q I r h
 obtain ⟨a,kvs,rfl,ha,q⟩:=h
 obtain ⟨u,rfl,ru⟩:=vals1 r
 cases ru
 exact EZ I (.inl ha) fun t s' I'=>⟨.int kvs.length,H,I',⟨t,rfl⟩,q⟩
theorem uI:fj X (.builtin "len") (DR X.K):=wy.or rn
theorem Ci:iE G (DR G.K) d5:=by
 intro Φ η H0 H l vs Fs m t Q A e k
 refine L2.fh fun P_ k_=>?_
 unfold d5 at e
 split at e
 ·rename_i x
  obtain ⟨mx,x⟩:=x
  obtain ⟨n,en,e⟩:=Zl.mp e
  cases e
  obtain ⟨v,F,rfl,rfl,r⟩:=(show RpL G H vs [x] Fs from A.rp).one
  have fin:Q (.int (n:Int)) H:=bJ k (.int _)
  cases r with
  | non=>cases en
  | bl b=>cases en
  | int i=>cases en
  | str s hl =>
   cases en
   refine k_ ?_
   exact .inl ⟨_,_,rfl,⟨by rw [fE,← gD];exact hl.1,rfl⟩,by rw [fE];exact fin⟩
  | scr h =>
   cases en
   refine k_ ?_
   refine .inl ⟨_,_,rfl,.inl ⟨_,h.seq,rfl⟩,?_⟩
   rw [Zv]
   exact fin
  | tup h q =>
   cases en
   refine k_ ?_
   refine .inl ⟨_,_,rfl,.inr ⟨_,SqT.of h,rfl⟩,?_⟩
   rw [q.len.1]
   exact fin
  | lst h q =>
   cases en
   refine k_ ?_
   refine .inl ⟨_,_,rfl,.inl ⟨_,SqL.of h,rfl⟩,?_⟩
   rw [q.len.1]
   exact fin
  | dct h hl q =>
   cases en
   refine k_ ?_
   refine .inr ⟨_,_,rfl,h,?_⟩
   rename_i ks ws ts _
   have e1:=q.len.1
   rw [Ya,Zv] at fin
   rw [Ya,e1]
   exact fin
  | dctT h hl q=>cases en
  | dctN h hl n q=>cases en
  | obj h hl q=>cases en
 ·cases e
theorem zB:iE G (fun xs H Q=>∃ i j,xs=[.int i,.int j]/\Q (.int (if j < i then j else i)) H) nN:=by
 intro Φ η H0 H l vs Fs m t Q A e k
 unfold nN at e
 split at e
 ·rename_i _ i _ j
  cases e
  obtain ⟨v,v',F,F',rfl,rfl,r,r'⟩:=(show RpL G H vs [.int i,.int j] Fs from A.rp).two
  exact ⟨i,j,by rw [r.int_inv,r'.int_inv],bJ k (.int _)⟩
 ·cases e
noncomputable def Bw (K:Y1):List V->Hp->VK->Prop:=fun xs H Q=>∃ p ys,xs=[.ref p]/\(SqL K H p ys\/SqT K H p ys)/\∀ l,H l=none->Q (.ref l) (upd H l (.lst ys))
theorem tR:iE G (Bw G.K) Bx:=by
 intro Φ η H0 H l vs Fs m t Q A e k
 unfold Bx at e
 split at e
 ·rename_i mx x
  obtain ⟨v,F,rfl,rfl,rx⟩:=(show RpL G H vs [.lst x] Fs from A.rp).one
  obtain ⟨a,ys,Gs,rfl,rfl,ha,ra⟩:=rx.lst_inv
  have f:=A.fp.each 0 _ _ rfl rfl
  exact ⟨a,ys,rfl,.inl (SqL.of ha),jd A.same e ra (f.sub (YO _ _)) k⟩
 ·rename_i mx x
  obtain ⟨v,F,rfl,rfl,rx⟩:=(show RpL G H vs [.tup x] Fs from A.rp).one
  obtain ⟨a,ys,Gs,rfl,rfl,ha,ra⟩:=rx.tup_inv
  have f:=A.fp.each 0 _ _ rfl rfl
  exact ⟨a,ys,rfl,.inr (SqT.of ha),jd A.same e ra f k⟩
 ·cases e
noncomputable def tO (G:Gx) (c:Option Ex):TO:=fun σ H Q=>∃ Φ η o,SR G Φ η σ H/\nj c η=some o/\∀ H',aW H H'->Q o H'
noncomputable def PVO (G:Gx) (X:Cx) (e:Option Expr) (c:Option Ex):Prop:=PO X e (tO G c)
theorem PO.weak {X:Cx} {e:Option Expr} {t t':TO} (h:PO X e t) (w:∀ σ H Q,t' σ H Q->t σ H Q):PO X e t':=fun pins s σ H Q I q=>h pins s σ H Q I (w σ H Q q)
theorem vJ:PVO G X none none:=PO.weak Aj fun σ H Q hq=>by
 obtain ⟨Φ,η,o,s,e,k⟩:=hq
 cases (show some (none:Option Int)=some o from e)
 exact k H (aW.refl _)
theorem wx (h:PV G X a ca):PVO G X (some a) (some ca):=PO.weak (zr h) fun σ H Q hq=>by
 obtain ⟨Φ,η,o,s,e,k⟩:=hq
 obtain ⟨⟨m,y⟩,ea,e⟩:=Zz.mp (show (ca η).bind (fun y=>(int? y.2).map some)=some o from e)
 obtain ⟨i,ei,e⟩:=Zl.mp e
 cases e
 refine ⟨Φ,η,m,y,s,ea,fun v H' F e1 r1 f1=>?_⟩
 cases y with
 | int j =>
  cases ei
  exact ⟨_,r1.int_inv,k H' e1⟩
 | _=>cases ei
theorem kA {α:Type} (l:List α) (lo hi:Option Int):cut l lo hi=(l.drop (HT.sIx l.length 0 lo)).take (HT.sIx l.length l.length hi - HT.sIx l.length 0 lo):=by
 unfold cut
 cases lo <;> cases hi <;> rfl
theorem yx (lo hi:Option Int) (n:Nat):Builtin.Str.strSliceIndices lo hi 1 n=Builtin.Str.strSliceIndices (some ((min (HT.sIx n 0 lo) n:Nat):Int)) (some ((min (HT.sIx n n hi) n:Nat):Int)) 1 n:=by
 have e1:∀ k:Nat,¬ ((k:Int) < 0):=fun k=>by lia
 unfold Builtin.Str.strSliceIndices
 simp only [show (1:Int) > 0 by decide,if_true,e1,if_false]
 congr 1
 ·cases lo with
  | none=>simp only [HT.sIx];lia
  | some i =>
   simp only [HT.sIx]
   by_cases h:i < 0
   ·simp only [h,if_true];lia
   ·simp only [h,if_false];lia
 ·cases hi with
  | none=>simp only [HT.sIx];lia
  | some i =>
   simp only [HT.sIx]
   by_cases h:i < 0
   ·simp only [h,if_true];lia
   ·simp only [h,if_false];lia
theorem mW (s:Tx) (lo hi:Option Int):PySem.StrLaws.sliceText (sx s) lo hi=sx (cut s lo hi):=by
 have key:PySem.StrLaws.sliceText (sx s) lo hi=PySem.StrLaws.sliceText (sx s) (some ((min (HT.sIx s.length 0 lo) s.length:Nat):Int)) (some ((min (HT.sIx s.length s.length hi) s.length:Nat):Int)):=by
  unfold PySem.StrLaws.sliceText
  rw [fE,yx]
 rw [key]
 have hd:∀ a:Nat,s.drop (min a s.length)=s.drop a:=fun a=>by
  by_cases h:a<=s.length
  ·rw [Yt h]
  ·rw [X3 (by exact YB h),Xr (Zp _),Xr (by exact YB h)]
 by_cases h:min (HT.sIx s.length 0 lo) s.length<=min (HT.sIx s.length s.length hi) s.length
 ·rw [PySem.StrLaws.sliceText_nat (sx s) h (by rw [fE];exact Nat.min_le_right _ _),kA]
  show (⟨_⟩:Str)=⟨_⟩
  congr 2
  show ((sx s).cps.toList.drop _).take _=_
  have:(sx s).cps.toList=s:=rfl
  rw [this,hd]
  by_cases h2:HT.sIx s.length 0 lo<=s.length
  ·rw [Yt h2]
   by_cases h3:HT.sIx s.length s.length hi<=s.length
   ·rw [Yt h3]
   ·rw [X3 (by exact YB h3),ZA (by rw [ZK];exact Zp _),ZA (by rw [ZK];lia)]
  ·rw [Xr (by exact YB h2)]
   simp
 ·have e0:cut s lo hi=[]:=by
   rw [kA]
   have:HT.sIx s.length s.length hi - HT.sIx s.length 0 lo=0:=by omega
   rw [this,List.take_zero]
  rw [e0]
  unfold PySem.StrLaws.sliceText
  have e2:Builtin.Str.strSliceIndices (some ((min (HT.sIx s.length 0 lo) s.length:Nat):Int)) (some ((min (HT.sIx s.length s.length hi) s.length:Nat):Int)) 1 (sx s).length=[]:=by
   have e1:∀ k:Nat,¬ ((k:Int) < 0):=fun k=>by lia
   unfold Builtin.Str.strSliceIndices sliceRange
   simp only [show (1:Int) > 0 by decide,if_true,e1,if_false,fE]
   rw [Zq (by omega)]
   rfl
  rw [e2]
  have:¬ ((1:Int) == 1 && ([]:Vm).length == (sx s).length)=true:=by
   rw [fE]
   simp
   lia
  rw [Zq this]
  rfl
noncomputable def DH:V->Option Int->Option Int->Hp->VK->Prop:=fun x lo hi H Q=>∃ z,x=.str z/\z.length<=sizeLine/\Q (.str (PySem.StrLaws.sliceText z lo hi)) H
theorem part_of {v:Value} {o:Option Int} (h:IsPart v o):∃ q:Option (Int×Tok),v=partValue q/\o=q.map (·.1):=by
 cases h with
 | none=>exact ⟨none,rfl,rfl⟩
 | int i t=>exact ⟨some (i,t),rfl,rfl⟩
theorem oV {α β:Type} (f:α->Option β) (l:List α):(l.filterMap f).length<=l.length:=List.length_filterMap_le f l
theorem Ah (lo hi:Option Int) (n:Nat):(Builtin.Str.strSliceIndices lo hi 1 n).length<=n:=by
 rw [yx]
 by_cases h:min (HT.sIx n 0 lo) n<=min (HT.sIx n n hi) n
 ·rw [PySem.StrLaws.strSliceIndices_plain h (by exact Nat.min_le_right _ _),Zv,Z2]
  lia
 ·have e1:∀ k:Nat,¬ ((k:Int) < 0):=fun k=>by lia
  unfold Builtin.Str.strSliceIndices sliceRange
  simp only [show (1:Int) > 0 by decide,if_true,e1,if_false]
  rw [Zq (by omega)]
  simp
theorem DA:SlR X DH:=by
 intro pins s σ H x v vl vu lo hi sl Q I rx hs pl pu h
 obtain ⟨z,rfl,hz,q⟩:=h
 obtain ⟨t,rfl⟩:=rx
 obtain ⟨l,rfl,rfl⟩:=part_of pl
 obtain ⟨u,rfl,rfl⟩:=part_of pu
 refine ⟨"str",_,F.slot_str_getitem.lookup,typeIs_str s z t,wpAny_getItem_str_slice (l:=l) (u:=u) (st:=none) hs rfl ?_⟩
 unfold sliceMade
 split
 ·rename_i hc
  refine ⟨.str z,H,I,⟨t,rfl⟩,?_⟩
  have e:PySem.StrLaws.sliceText z (l.map (·.1)) (u.map (·.1))=z:=by
   unfold PySem.StrLaws.sliceText
   exact Zr hc
  rw [e] at q
  exact q
 ·rename_i hc
  refine ⟨ZV ?_ hz,.str _,H,I.tok _,⟨_,rfl⟩,?_⟩
  ·show (List.filterMap _ _).toArray.size<=_
   rw [Zd]
   exact ZV (oV _ _) (Ah _ _ _)
  ·have e:PySem.StrLaws.sliceText z (l.map (·.1)) (u.map (·.1))=⟨((slicePicked z l u none).filterMap (z.cps[·]?)).toArray⟩:=by
    unfold PySem.StrLaws.sliceText
    exact Zq hc
   rw [e] at q
   exact q
noncomputable def rSl (K:Y1):V->Option Int->Option Int->Hp->VK->Prop:=fun x lo hi H Q=>DH x lo hi H Q\/DU K x lo hi H Q
theorem FQ:SlR X (rSl X.K):=DA.or yP
theorem za {α:Type} (l:List α) (lo hi:Option Int):(cut l lo hi).length<=l.length:=by
 rw [kA,ZO,ZK]
 lia
theorem RpL.cut {H:Hp} {vs:List V} {ts:Vg} {Fs:Yg} (r:RpL G H vs ts Fs) (lo hi:Option Int):RpL G H (ub vs lo hi) (VS.cut ts lo hi) (VS.cut Fs lo hi):=by
 have h:=r.len
 rw [kA,kA,h.2]
 unfold ub
 rw [h.1]
 exact (r.drop _).take _
theorem sN {α:Type} (l:List α) (lo hi:Option Int):(VS.cut l lo hi).Sublist l:=by
 rw [kA]
 exact (List.take_sublist _ _).trans (List.drop_sublist _ _)
theorem xO {F G:Yg} (h:F.Sublist G):F.flatten.Sublist G.flatten:=by
 induction h with
 | slnil=>exact WZ _
 | cons a _ ih=>rw [Ze];exact ih.trans (List.sublist_append_right _ _)
 | cons_cons a _ ih=>rw [Ze,Ze];exact (WZ _).append ih
theorem yb {lo hi:Option Expr} {cl ch:Option Ex} {p2:Pos} (ha:PV G X a ca) (hl:PVO G X lo cl) (hh:PVO G X hi ch) (hK:X.K=G.K:=by rfl):PV G X (.Subscript a (.Slice lo hi none p2) pos) (eSl ca cl ch) :=
 PE.weak (vm FQ ha hl hh) fun σ H Q hq=>by
  obtain ⟨Φ,η,m,t,s,e,k⟩:=hq
  unfold eSl at e
  obtain ⟨⟨mx,x⟩,ea,e'⟩:=Zz.mp e
  obtain ⟨l,el,e''⟩:=Zz.mp e'
  obtain ⟨h,eh,e4⟩:=Zz.mp e''
  clear e e' e''
  refine ⟨Φ,η,mx,x,s,ea,fun v H1 F e1 r1 f1=>⟨Φ,η,l,s.same e1,el,fun H2 e2=>⟨Φ,η,h,(s.same e1).same e2,eh,fun H3 e3=>?_⟩⟩⟩
  have e03:aW H H3:=(e1.trans e2).trans e3
  have r3:=(r1.same e2).same e3
  unfold oSl at e4
  split at e4
  ·rename_i m' z q
   cases q
   cases e4
   obtain ⟨rfl,hl⟩:=r3.str_inv
   refine .inl ⟨_,rfl,by rw [fE,← gD];exact hl.1,?_⟩
   rw [mW]
   exact k _ H3 _ e03 (.str _ ⟨ZV (za _ _ _) hl.1,fun c hc=>hl.2 c ((sN _ _ _).subset hc)⟩) Fp.nil
  ·rename_i m' z q
   cases q
   obtain ⟨a',vs,Fs,rfl,rfl,ha',ra⟩:=r3.lst_inv
   refine .inr ⟨a',vs,rfl,by rw [hK];exact SqL.of ha',jd e03 e4 (ra.cut l h) ((f1.sub (YO _ _)).sub (xO (sN _ _ _))) fun v H4 F e5 r4 f4=>k v H4 F (e03.trans e5) r4 f4⟩
  ·cases e4
noncomputable def tyS:Ty->String
 | .int => "int"
 | .str => "str"
 | .bool => "bool"
 | .list => "list"
 | .tuple => "tuple"
 | .dict => "dict"
noncomputable def rIs (K:Y1):List V->Hp->VK->Prop:=fun vs H Q=>∃ x c t b,vs=[x,.ty c]/\TyOf K H x t/\PySem.W.kitOne K t (.type c)=some b/\Q (.bl b) H
theorem Bc:fj X (.builtin "isinstance") (rIs X.K):=by
 intro pins s σ H xs us Q I r h
 obtain ⟨x,c,t,b,rfl,ty,e,q⟩:=h
 obtain ⟨u,w',rfl,r1,r2⟩:=vals2 r
 cases r2
 exact uL I r1 ty e fun tk=>⟨.bl b,H,I.tok _,rfl,q⟩
theorem zI (K:Y1) (ty:Ty):(PySem.W.kitOne K (.type "NoneType") (.type (tyS ty))=some false)/\(PySem.W.kitOne K (.type "bool") (.type (tyS ty))=some (oW ty (.bl true)))/\(PySem.W.kitOne K (.type "int") (.type (tyS ty))=some (oW ty (.int 0))) ∧
  (PySem.W.kitOne K (.type "str") (.type (tyS ty))=some (oW ty (.str [])))/\(PySem.W.kitOne K (.type "list") (.type (tyS ty))=some (oW ty (.lst [])))/\(PySem.W.kitOne K (.type "tuple") (.type (tyS ty))=some (oW ty (.tup [])))/\(PySem.W.kitOne K (.type "dict") (.type (tyS ty))=some (oW ty (.dct 0 []))):=by
 cases ty <;> refine ⟨?_,?_,?_,?_,?_,?_,?_⟩ <;> kernel_rfl
theorem EF {H:Hp} {v:V} {t:T} {F:Xb} (ty:Ty) (r:Rp G H v t F) (h:oi t=true):∃ t',TyOf G.K H v t'/\PySem.W.kitOne G.K t' (.type (tyS ty))=some (oW ty t):=by
 obtain ⟨k1,k2,k3,k4,k5,k6,k7⟩:=zI G.K ty
 cases r with
 | non=>exact ⟨_,.non,by rw [k1];cases ty <;> rfl⟩
 | bl b=>exact ⟨_,.bl b,by rw [k2];cases ty <;> rfl⟩
 | int i=>exact ⟨_,.int i,by rw [k3];cases ty <;> rfl⟩
 | str s _=>exact ⟨_,.str _,by rw [k4];cases ty <;> rfl⟩
 | scr _=>cases h
 | tup h' q=>exact ⟨_,.tup h',by rw [k6];cases ty <;> rfl⟩
 | lst h' q=>exact ⟨_,.lst h',by rw [k5];cases ty <;> rfl⟩
 | dct h' l q=>exact ⟨_,.dK h',by rw [k7];cases ty <;> rfl⟩
 | dctT h' l q=>exact ⟨_,.dT h',by rw [k7];cases ty <;> rfl⟩
 | dctN h' l n q=>simp at h
 | obj _ _ _=>cases h
theorem Fg (ty:Ty) {x:Str} {p1 p2:Pos} (ha:PV G X a ca) (hg:Gl X "isinstance") (hm:X.mg "isinstance" = none) (hg2:Gl X x) (hm2:X.mg x=none) (hv:bootBuiltins x=some (.type (tyS ty))) (hK:X.K=G.K:=by rfl)
  (hn:x ≠ "__name__" := by decide) (hdb:(x == ("__debug__" : Str))=false:=by decide) (hs:starEach [a,.Name x p2] X.env=(false,eval a X.env) :: starEach [.Name x p2] X.env:=by rfl)
  (hs2:starEach [.Name x p2] X.env=(false,eval (.Name x p2) X.env) :: starEach [] X.env:=by rfl) (hpl:(backTo pos (starEach [Expr.Name x p2] X.env)).any (·.1)=false:=by rfl) :
  PV G X (.Call (.Name "isinstance" p1) [a,.Name x p2] [] pos) (eIs ty ca) :=
 PE.weak (pS Bc hg hm boot_isinstance (fO ha (fO (zl (v:=.ty (tyS ty)) hg2 hm2 hv rfl hn hdb) il hs2) hs) (by decide) rfl hs hpl) fun σ H Q hq=>by
  obtain ⟨Φ,η,m,t,s,e,k⟩:=hq
  unfold eIs at e
  obtain ⟨⟨mx,y⟩,ea,e'⟩:=Zz.mp e
  split at e'
  ·rename_i hk
   cases e'
   refine ⟨Φ,η,mx,y,s,ea,fun v H' F e1 r1 f1=>?_⟩
   obtain ⟨t',h1,h2⟩:=EF ty r1 hk
   exact ⟨v,tyS ty,t',_,rfl,by rw [hK];exact h1,by rw [hK];exact h2,k _ H' _ e1 (.bl _) Fp.nil⟩
  ·cases e'
end
end VS
end
section
namespace VS
@[simp] noncomputable def oIx (x y:Val):Vh:=match x.2 with
 | .dct 0 l=>if gP y.2 then (bS l y.2).map (sub x.1) else none
 | _=>bh x y
@[simp] noncomputable def flat:T->Bool
 | .non=>true
 | .bl _=>true
 | .int _=>true
 | .str _=>true
 | _=>false
@[simp] noncomputable def lH (x y:Val):Vh:=match y.2 with
 | .dct 0 l=>if gP x.2 then some (.fr,.bl (bS l x.2).isSome) else none
 | .lst l=>if flat x.2 && l.all flat then some (.fr,.bl (l.any fun y=>eqT y x.2)) else none
 | .tup l=>if flat x.2 && l.all flat then some (.fr,.bl (l.any fun y=>eqT y x.2)) else none
 | _=>none
@[simp] noncomputable def fJ (x y:Val):Vh:=match lH x y with
 | some (_,.bl b)=>some (.fr,.bl (!b))
 | _=>none
noncomputable def pm {α:Type} (f:T->Option (T×α)):List Ky->T->Option (T×α)
 | [],t=>f t
 | .fld k :: r,.obj c fs=>(fs.findIdx? fun p=>p.1 == k).bind fun i=>(fs[i]?).bind fun p=>(pm f r p.2).map fun z=>(.obj c (fs.set i (p.1,z.1)),z.2)
 | .at (.int i) :: r,.lst l=>(ixP l.length i).bind fun j=>(l[j]?).bind fun x=>(pm f r x).map fun z=>(.lst (l.set j z.1),z.2)
 | .at k :: r,.dct 0 l=>if gP k then (l.findIdx? fun p=>eqT p.1 k).bind fun i=>(l[i]?).bind fun p=>(pm f r p.2).map fun z=>(.dct 0 (l.set i (p.1,z.1)),z.2) else none
 | _,_=>none
end VS
end
section
namespace VS
open PySem PySem.Spec PyProof.Rows L2
section
variable {G:Gx} {X:Cx} {a b c e:Expr} {es:List Expr} {ca cb cc:Ex} {cs:Exs} {pos p:Pos}
mutual
noncomputable def toP:T->PyData
 | .non=>.none
 | .bl b=>.bool b
 | .int i=>.int i
 | .str s=>.str (sx s)
 | .tup l=>.tuple (mq l)
 | .lst l=>.list (mq l)
 | _=>.none
noncomputable def mq:Vg->List PyData
 | []=>[]
 | t :: r=>toP t :: mq r
end
theorem D7 {s:Tx} (h:jq s):PyData.strOk (sx s)=true:=by
 unfold PyData.strOk sx
 simp only [Array.all_eq_true,decide_eq_true_eq]
 intro i hi
 have:s.toArray[i]∈s:=by simp
 have:=h.2 _ this
 simpa using this
theorem yq {s t:Tx}:(sx s == sx t)=(s == t):=by
 rw [Bool.eq_iff_iff,beq_iff_eq,beq_iff_eq]
 constructor
 ·intro h
  have:(sx s).cps=(sx t).cps:=by rw [h]
  simpa [sx] using this
 ·intro h
  rw [h]
mutual
theorem oN:∀ (n k:Nat) (t u:T),eqD n t=true->eqD k u=true->PyData.eqv (toP t) (toP u)=eqT t u
 | n,k,t,u,h1,h2=>by
  cases t with
  | scr _=>cases n <;> simp at h1
  | dct _ _=>cases n <;> simp at h1
  | obj _ _=>cases n <;> simp at h1
  | tup l =>
   cases n with
   | zero=>simp at h1
   | succ n =>
    cases u with
    | tup r =>
     cases k with
     | zero=>simp at h2
     | succ k =>
      simp only [toP,PyData.eqv,eqT]
      exact mK n k l r (by simpa using h1) (by simpa using h2)
    | scr _=>cases k <;> simp at h2
    | dct _ _=>cases k <;> simp at h2
    | obj _ _=>cases k <;> simp at h2
    | _=>simp [toP,PyData.eqv,eqT]
  | lst l =>
   cases n with
   | zero=>simp at h1
   | succ n =>
    cases u with
    | lst r =>
     cases k with
     | zero=>simp at h2
     | succ k =>
      simp only [toP,PyData.eqv,eqT]
      exact mK n k l r (by simpa using h1) (by simpa using h2)
    | scr _=>cases k <;> simp at h2
    | dct _ _=>cases k <;> simp at h2
    | obj _ _=>cases k <;> simp at h2
    | _=>simp [toP,PyData.eqv,eqT]
  | str s =>
   cases u with
   | str r=>simp only [toP,PyData.eqv,eqT];exact yq
   | scr _=>cases k <;> simp at h2
   | dct _ _=>cases k <;> simp at h2
   | obj _ _=>cases k <;> simp at h2
   | _=>simp [toP,PyData.eqv,eqT]
  | _ =>
   cases u with
   | scr _=>cases k <;> simp at h2
   | dct _ _=>cases k <;> simp at h2
   | obj _ _=>cases k <;> simp at h2
   | _=>simp [toP,PyData.eqv,eqT]
theorem mK:∀ (n k:Nat) (l r:Vg),(∀ t∈l,eqD n t=true)->(∀ t∈r,eqD k t=true)->PyData.eqvAll (mq l) (mq r)=m7 l r
 | _,_,[],[],_,_=>rfl
 | _,_,[],_ :: _,_,_=>rfl
 | _,_,_ :: _,[],_,_=>rfl
 | n,k,t :: l,u :: r,h1,h2=>by
  simp only [mq,PyData.eqvAll,m7]
  rw [oN n k t u (h1 t Zw) (h2 u Zw),mK n k l r (fun x hx=>h1 x (Zx _ hx)) fun x hx=>h2 x (Zx _ hx)]
end
theorem Rp.tup_inv5 {H:Hp} {v:V} {ts:Vg} {F:Xb} (r:Rp G H v (.tup ts) F):∃ b vs Fs,v=.ref b/\H b=some (.tup vs)/\RpL G H vs ts Fs:=by
 cases r with
 | tup h q=>exact ⟨_,_,_,rfl,h,q⟩
theorem Rp.lst_inv5 {H:Hp} {v:V} {ts:Vg} {F:Xb} (r:Rp G H v (.lst ts) F):∃ b vs Fs,v=.ref b/\H b=some (.lst vs)/\RpL G H vs ts Fs:=by
 cases r with
 | lst h q=>exact ⟨_,_,_,rfl,h,q⟩
theorem kg {H:Hp} {s:Shared} {n:Nat} (rd:∀ {v:V} {t:T} {F:Xb} {u:Value},Rp G H v t F->RelV v u->eqD n t=true->∃ as,Reads s.heap u (toP t) as/\(toP t).canLay0=true/\(toP t).depth<=n):∀ {vs:List V} {ts:Vg} {Fs:Yg} {us:X1},RpL G H vs ts Fs->aU vs us->(∀ t∈ts,eqD n t=true) →
  ∃ as,ReadsAll s.heap us (mq ts) as/\PyData.canLayAll0 (mq ts)=true/\PyData.depthAll (mq ts)<=n
 | _,_,_,_,.nil,r,_=>by cases r;exact ⟨_,.nil,rfl,ZS _⟩
 | _,_,_,_,.cons p q,r,h=>by
  cases r with
  | cons r1 r2 =>
   obtain ⟨as,h1,h2,h3⟩:=rd p r1 (h _ Zw)
   obtain ⟨bs,g1,g2,g3⟩:=kg rd q r2 fun t ht=>h t (Zx _ ht)
   exact ⟨_,.cons h1 g1,by simp only [mq,PyData.canLayAll0,h2,g2,Bool.and_self],by simp only [mq,PyData.depthAll];lia⟩
theorem ml {h:Heap} {H:Hp} {v:V} {t:T} {F:Xb} {u:Value} {n:Nat} (r:Rp G H v t F) (ru:RelV v u) (hf:flat t=true):∃ as,Reads h u (toP t) as/\(toP t).canLay0=true/\(toP t).depth<=n:=by
 cases r with
 | non=>cases ru;exact ⟨_,.none,rfl,ZS _⟩
 | bl b=>cases ru;exact ⟨_,.bool b,rfl,ZS _⟩
 | int i=>obtain ⟨t,rfl⟩:=ru;exact ⟨_,.int i t,rfl,ZS _⟩
 | str s h=>obtain ⟨t,rfl⟩:=ru;exact ⟨_,.str _ t,D7 h,ZS _⟩
 | _=>cases hf
theorem jT {H:Hp} {pins:Yo} {σ:L2.St} {s:Shared} (I:Inv X pins σ H s) (n:Nat):∀ {v:V} {t:T} {F:Xb} {u:Value},Rp G H v t F->RelV v u->eqD n t=true->∃ as,Reads s.heap u (toP t) as/\(toP t).canLay0=true/\(toP t).depth<=n:=by
 induction n with
 | zero =>
  intro v t F u r ru h
  refine ml r ru ?_
  cases t <;> first | rfl | exact h
 | succ n ih =>
  intro v t F u r ru h
  cases t with
  | tup l =>
   obtain ⟨b,vs,Fs,rfl,e,q⟩:=Rp.tup_inv5 r
   cases ru
   obtain ⟨its,rv,tp,hz⟩:=I.tuple (SqT.of e)
   obtain ⟨as,h1,h2,h3⟩:=kg ih q rv (by simpa using h)
   obtain ⟨o,ho,hc,n',hd⟩:=tp
   exact ⟨_,.tuple ho hc hd (by simpa using h1),h2,by simp only [toP,PyData.depth];exact YC h3⟩
  | lst l =>
   obtain ⟨b,vs,Fs,rfl,e,q⟩:=Rp.lst_inv5 r
   cases ru
   obtain ⟨its,rv,pl,hz⟩:=I.list (SqL.of e)
   obtain ⟨as,h1,h2,h3⟩:=kg ih q rv (by simpa using h)
   obtain ⟨o,ho,hc,n',hd⟩:=pl.isList
   exact ⟨_,.list ho hc hd (by simpa using h1),h2,by simp only [toP,PyData.depth];exact YC h3⟩
  | scr _=>simp at h
  | dct _ _=>simp at h
  | obj _ _=>simp at h
  | _=>exact ml r ru rfl
noncomputable def zz (G:Gx) (neg:Bool):R2:=fun x y H Q=>∃ t u F F',Rp G H x t F/\Rp G H y u F'/\eqD 60 t=true/\eqD 60 u=true/\Q (.bl (if neg then !eqT t u else eqT t u)) H
theorem jb {d:PyData} (h:d.canLay0=true) (h2:d.depth<=60):SeqAt.shaped d=true:=by
 unfold SeqAt.shaped
 rw [h,Bool.true_and]
 exact decide_eq_true (by lia)
theorem wG (hu:X.A.units+64 < cLine):OpR X (compareOp .Eq) (zz G false):=by
 intro pins s σ H x y v u Q I rx ry h
 obtain ⟨t,w,F,F',r1,r2,h1,h2,q⟩:=h
 obtain ⟨as,a1,a2,a3⟩:=jT I 60 r1 rx h1
 obtain ⟨bs,b1,b2,b3⟩:=jT I 60 r2 ry h2
 refine eq_dataH a1 b1 (jb a2 a3) (jb b2 b3) hu ⟨.bl _,H,I,rfl,?_⟩
 rw [oN 60 60 t w h1 h2]
 exact q
theorem Cu (hu:X.A.units+64 < cLine):OpR X (compareOp .NotEq) (zz G true):=by
 intro pins s σ H x y v u Q I rx ry h
 obtain ⟨t,w,F,F',r1,r2,h1,h2,q⟩:=h
 obtain ⟨as,a1,a2,a3⟩:=jT I 60 r1 rx h1
 obtain ⟨bs,b1,b2,b3⟩:=jT I 60 r2 ry h2
 refine ne_dataH a1 b1 (jb a2 a3) (jb b2 b3) hu ⟨.bl _,H,I,rfl,?_⟩
 rw [oN 60 60 t w h1 h2]
 exact q
theorem Br:gz G (zz G false) oEq:=by
 intro Φ η H0 H x y u w F1 F2 m t Q tw e k
 unfold oEq at e
 split at e
 ·rename_i h
  cases e
  exact ⟨_,_,_,_,tw.r1,tw.r2,h.1,h.2,bJ k (.bl _)⟩
 ·cases e
theorem Em:gz G (zz G true) oNe:=by
 intro Φ η H0 H x y u w F1 F2 m t Q tw e k
 unfold oNe at e
 split at e
 ·rename_i h
  cases e
  exact ⟨_,_,_,_,tw.r1,tw.r2,h.1,h.2,bJ k (.bl _)⟩
 ·cases e
theorem tells_eq:Tells oEq:=by
 intro x y m t e
 unfold oEq at e
 split at e <;> first | (cases e;exact ⟨_,rfl⟩) | cases e
theorem vF:Tells oNe:=by
 intro x y m t e
 unfold oNe at e
 split at e <;> first | (cases e;exact ⟨_,rfl⟩) | cases e
end
structure Frm (Φ:Fps) (η:VS.Env) (H:Hp) (Φ':Fps) (η':VS.Env) (H':Hp):Prop where
 keep:∀ a o,H a=some o->¬ b6 Φ η a->H' a=some o/\¬ b6 Φ' η' a
 dom:∀ a,H a ≠ none->H' a ≠ none
 ow:∀ a,b6 Φ' η' a->b6 Φ η a\/H a=none
 pu:∀ a,dJ Φ' η' a->dJ Φ η a\/b6 Φ η a\/H a=none
 kept:Kept H H'
theorem Frm.refl (Φ:Fps) (η:VS.Env) (H:Hp):Frm Φ η H Φ η H:=⟨fun a o h n=>⟨h,n⟩,fun _ h=>h,fun _ h=>.inl h,fun _ h=>.inl h,Kept.refl H⟩
theorem Frm.none {Φ Φ':Fps} {η η':VS.Env} {H H':Hp} (f:Frm Φ η H Φ' η' H') {a:Addr} (h:H' a=none):H a=none:=by
 cases e:H a with
 | none=>rfl
 | some o=>exact absurd h (f.dom a (by rw [e];exact fun z=>nomatch z))
theorem Frm.trans {Φ Φ1 Φ2:Fps} {η η1 η2:VS.Env} {H H1 H2:Hp} (f:Frm Φ η H Φ1 η1 H1) (g:Frm Φ1 η1 H1 Φ2 η2 H2):Frm Φ η H Φ2 η2 H2 where
 keep:=fun a o h n=>let ⟨h1,n1⟩:=f.keep a o h n;g.keep a o h1 n1
 dom:=fun a h=>g.dom a (f.dom a h)
 ow:=fun a h=>by
  rcases g.ow a h with h | h
  ·exact f.ow a h
  ·exact .inr (f.none h)
 pu:=fun a h=>by
  rcases g.pu a h with h | h | h
  ·exact f.pu a h
  ·rcases f.ow a h with h | h
   ·exact .inr (.inl h)
   ·exact .inr (.inr h)
  ·exact .inr (.inr (f.none h))
 kept:=f.kept.trans g.kept
theorem Frm.same {Φ:Fps} {η:VS.Env} {H H':Hp} (e:aW H H'):Frm Φ η H Φ η H' :=
 ⟨fun a o h n=>⟨e a o h,n⟩,fun a h z=>h (e.free z),fun _ h=>.inl h,fun _ h=>.inl h,Kept.of e⟩
noncomputable def qd (Φ:Fps) (η:VS.Env) (H:Hp):Md->Xb->Prop
 | .fr,F=>F.Nodup/\∀ a∈F,H a=none\/b6 Φ η a
 | _,F=>∀ a∈F,H a=none\/dJ Φ η a\/b6 Φ η a
theorem qd.back {Φ Φ1:Fps} {η η1:VS.Env} {H H1:Hp} (f:Frm Φ η H Φ1 η1 H1) {F:Xb}:∀ {m:Md},qd Φ1 η1 H1 m F->qd Φ η H m F
 | .fr,h=>⟨h.1,fun a ha=>(h.2 a ha).elim (fun z=>.inl (f.none z)) fun z=>(f.ow a z).elim .inr .inl⟩
 | .pu,h=>fun a ha=>by
  rcases h a ha with z | z | z
  ·exact .inl (f.none z)
  ·rcases f.pu a z with z | z | z
   ·exact .inr (.inl z)
   ·exact .inr (.inr z)
   ·exact .inl z
  ·exact (f.ow a z).elim (fun z=>.inr (.inr z)) .inl
 | .bo,h=>fun a ha=>by
  rcases h a ha with z | z | z
  ·exact .inl (f.none z)
  ·rcases f.pu a z with z | z | z
   ·exact .inr (.inl z)
   ·exact .inr (.inr z)
   ·exact .inl z
  ·exact (f.ow a z).elim (fun z=>.inr (.inr z)) .inl
noncomputable def Nx (G:Gx) (Φ:Fps) (η:VS.Env) (H:Hp) (η':VS.Env) (k:L2.St->Hp->Prop):Prop:=∀ Φ' σ' H',SR G Φ' η' σ' H'->Frm Φ η H Φ' η' H'->k σ' H'
noncomputable def sV (G:Gx) (Φ:Fps) (η:VS.Env) (H:Hp) (D:Ends):Out->Prop
 | .nx η'=>Nx G Φ η H η' D.nx
 | .bk η'=>Nx G Φ η H η' D.bk
 | .ct η'=>Nx G Φ η H η' D.ct
 | .rt v η'=>∀ u H' F Φ' σ',SR G Φ' η' σ' H'->Frm Φ η H Φ' η' H'->Rp G H' u v.2 F->qd Φ η H v.1 F->D.rt u H'
noncomputable def tS (G:Gx) (c:Sx):TS:=fun D σ H=>∃ Φ η o,SR G Φ η σ H/\c η=some o/\sV G Φ η H D o
noncomputable def PSV (G:Gx) (X:Cx) (st:Stmt) (c:Sx):Prop:=PS X st (tS G c)
noncomputable def fI (G:Gx) (X:Cx) (st:List Stmt) (c:Sx):Prop:=PSs X st (tS G c)
theorem PS.weak {X:Cx} {e:Stmt} {t t':TS} (h:PS X e t) (w:∀ D σ H,t' D σ H->t D σ H):PS X e t':=fun pins s σ H D I q=>h pins s σ H D I (w D σ H q)
theorem PSs.weak {X:Cx} {e:List Stmt} {t t':TS} (h:PSs X e t) (w:∀ D σ H,t' D σ H->t D σ H):PSs X e t':=fun pins s σ H D I q=>h pins s σ H D I (w D σ H q)
theorem sV.back {G:Gx} {Φ Φ1:Fps} {η η1:VS.Env} {H H1:Hp} {D:Ends} (f:Frm Φ η H Φ1 η1 H1):∀ {o:Out},sV G Φ η H D o->sV G Φ1 η1 H1 D o
 | .nx η',h=>fun Φ' σ' H' s g=>h Φ' σ' H' s (f.trans g)
 | .bk η',h=>fun Φ' σ' H' s g=>h Φ' σ' H' s (f.trans g)
 | .ct η',h=>fun Φ' σ' H' s g=>h Φ' σ' H' s (f.trans g)
 | .rt v η',h=>fun u H' F Φ' σ' s g r q=>h u H' F Φ' σ' s (f.trans g) r (q.back f)
section
variable {G:Gx} {X:Cx} {st:Stmt} {sts:List Stmt} {c c1 c2:Sx} {pos:Pos} {e:Expr} {ce:Ex}
theorem zd:fI G X [] gS:=PSs.weak zy fun D σ H hq=>by
 obtain ⟨Φ,η,o,s,e,k⟩:=hq
 cases (show some (Out.nx η)=some o from e)
 exact k Φ σ H s (Frm.refl _ _ _)
theorem xa (h1:PSV G X st c1) (h2:fI G X sts c2):fI G X (st :: sts) (au c1 c2):=PSs.weak (xA h1 h2) fun D σ H hq=>by
 obtain ⟨Φ,η,o,s,e,k⟩:=hq
 unfold au at e
 obtain ⟨o1,e1,e2⟩:=Zz.mp e
 refine ⟨Φ,η,o1,s,e1,?_⟩
 cases o1 with
 | nx η1=>exact fun Φ' σ' H' s' f=>⟨Φ',η1,o,s',e2,k.back f⟩
 | rt v η1=>cases e2;exact k
 | bk η1=>cases e2;exact k
 | ct η1=>cases e2;exact k
theorem AU (h1:PSV G X st c1):fI G X [st] c1:=AR h1
theorem Cc {t:Expr} {ct:Ex} {a b:List Stmt} (hc:PVT G X t ct) (ha:fI G X a c1) (hb:fI G X b c2):PSV G X (.If t a b pos) (sIf ct c1 c2):=PS.weak (D1 hc ha hb) fun D σ H hq=>by
 obtain ⟨Φ,η,o,s,e,k⟩:=hq
 unfold sIf at e
 obtain ⟨⟨m,x⟩,ec,e1⟩:=Zz.mp e
 obtain ⟨b',eb,e2⟩:=Zz.mp e1
 refine ⟨Φ,η,m,x,b',s,ec,eb,fun H' e3=>?_⟩
 cases b' with
 | true =>
  rw [Zr rfl] at e2
  exact xi ⟨Φ,η,o,s.same e3,e2,k.back (Frm.same e3)⟩
 | false =>
  rw [Zq Zh] at e2
  exact wc ⟨Φ,η,o,s.same e3,e2,k.back (Frm.same e3)⟩
theorem Fp.ret {Φ:Fps} {η:VS.Env} {H:Hp} {F:Xb}:∀ {m:Md},Fp Φ η H m F->qd Φ η H (match m with | .bo=>.pu | m=>m) F
 | .fr,f=>⟨f.1,fun a ha=>.inl (f.2 a ha)⟩
 | .pu,f=>fun a ha=>(f a ha).elim .inl fun z=>.inr (.inl z)
 | .bo,f=>f
theorem zi (he:PV G X e ce):PSV G X (.Return (some e) pos) (dy ce):=PS.weak (rJ he) fun D σ H hq=>by
 obtain ⟨Φ,η,o,s,e,k⟩:=hq
 unfold dy at e
 obtain ⟨⟨m,x⟩,ec,e1⟩:=Zz.mp e
 cases e1
 exact ⟨Φ,η,m,x,s,ec,fun v H' F e1 r1 f1=>k v H' F Φ σ (s.same e1) (Frm.same e1) r1 f1.ret⟩
theorem cj {η:VS.Env} {i j:Nat} {c:Cell} (h:(η.set i none)[j]?=some (some c)):j ≠ i/\η[j]?=some (some c):=by
 rw [List.getElem?_set] at h
 split at h
 ·split at h <;> cases h
 ·rename_i n
  exact ⟨fun z=>n z.symm,h⟩
theorem SR.drop {Φ:Fps} {η:VS.Env} {σ:L2.St} {H:Hp} (s:SR G Φ η σ H) (i:Nat):SR G Φ (η.set i none) σ H :=
 ⟨by rw [XN];exact s.len,fun j c h=>s.rp j c (cj h).2,fun j t h=>s.nd j t (cj h).2,fun j k t c h1 h2 n=>s.sep j k t c (cj h1).2 (cj h2).2 n⟩
theorem Frm.drop {Φ:Fps} {η:VS.Env} {H:Hp} (i:Nat):Frm Φ η H Φ (η.set i Option.none) H :=
 ⟨fun a o h n=>⟨h,fun ⟨j,t,h1,h2⟩=>n ⟨j,t,(cj h1).2,h2⟩⟩,fun _ h=>h,fun a ⟨j,t,h1,h2⟩=>.inl ⟨j,t,(cj h1).2,h2⟩,fun a ⟨j,t,h1,h2⟩=>.inl ⟨j,t,(cj h1).2,h2⟩,Kept.refl H⟩
theorem yD (i:Nat) {x:Str} {p:Pos} (hN:X.N[i]?=some x:=by rfl) (hv:Vis X.env.scope x:=by first | exact Or.inl rfl | exact Or.inr (Or.inl rfl) | exact Or.inr (Or.inr rfl)) (hd:(x == ("__debug__" : Str))=false:=by decide)
  (hcd:(x == ("__classdict__" : Str))=false:=by decide):PSV G X (.Return (some (.Name x p)) pos) (gQ i):=PS.weak (rJ (fW hN hv hd hcd)) fun D σ H hq=>by
 obtain ⟨Φ,η,o,s,e,k⟩:=hq
 unfold gQ at e
 split at e
 ·rename_i t h
  obtain ⟨v,h1,h2⟩:=s.rp _ _ h
  cases e
  exact ⟨v,h1,k v H (Φ i) Φ σ (s.drop i) (Frm.drop i) h2 ⟨s.nd i t h,fun a ha=>.inr ⟨i,t,h,ha⟩⟩⟩
 ·rename_i t h
  obtain ⟨v,h1,h2⟩:=s.rp _ _ h
  cases e
  refine ⟨v,h1,k v H (Φ i) Φ σ s (Frm.refl _ _ _) h2 ?_⟩
  have f:Fp Φ η H .pu (Φ i):=fun a ha=>.inr ⟨i,t,h,ha⟩
  have f2:=(f.up h2).ret
  have:(match (VS.up .pu (kU (.pu t))).1 with | .bo=>Md.pu | m=>m)=(VS.up .pu t).1:=by
   show (match (VS.up .pu t).1 with | .bo=>Md.pu | m=>m)=_
   unfold VS.up
   split <;> (rename_i q;revert q;split <;> simp)
  rw [this] at f2
  exact f2
 ·cases e
noncomputable def jt (Φ:Fps) (i:Nat) (F:Xb):Fps:=fun j=>if j=i then F else Φ j
theorem gI {Φ:Fps} {i:Nat} {F:Xb}:jt Φ i F i=F:=Zr rfl
theorem gC {Φ:Fps} {i j:Nat} {F:Xb} (h:j ≠ i):jt Φ i F j=Φ j:=Zq h
theorem iD {η:VS.Env} {i j:Nat} {c c':Cell} (h:(η.set i (some c))[j]?=some (some c')):(j=i/\c'=c)\/(j ≠ i/\η[j]?=some (some c')):=by
 rw [List.getElem?_set] at h
 split at h
 ·rename_i e
  split at h
  ·exact .inl ⟨e.symm,(ZE (ZE h)).symm⟩
  ·cases h
 ·rename_i n
  exact .inr ⟨fun z=>n z.symm,h⟩
theorem SR.put {Φ:Fps} {η:VS.Env} {σ:L2.St} {H H':Hp} {i:Nat} {v:V} {c:Cell} {F:Xb} (s:SR G Φ η σ H) (hi:i < η.length) (r:Rp G H' v (kU c) F)
  (hk:∀ j c',j ≠ i->η[j]?=some (some c')->∀ w,Rp G H w (kU c') (Φ j)->Rp G H' w (kU c') (Φ j))
  (hnd:∀ t,c=.ow t->F.Nodup) (hown:∀ t,c=.ow t->∀ j c',j ≠ i->η[j]?=some (some c')->∀ a∈F,a ∉ Φ j) (hpu:∀ j t,j ≠ i->η[j]?=some (some (.ow t))->∀ a∈Φ j,a ∉ F) :
  SR G (jt Φ i F) (η.set i (some c)) (σ.set i (some v)) H' where
 len:=by rw [XN,XN];exact s.len
 rp:=fun j c' h=>by
  rcases iD h with ⟨rfl,rfl⟩ | ⟨n,h⟩
  ·exact ⟨v,by rw [Xs (by rw [← s.len];exact hi)],by rw [gI];exact r⟩
  ·obtain ⟨w,h1,h2⟩:=s.rp j c' h
   exact ⟨w,by rw [Xf (YG n)];exact h1,by rw [gC n];exact hk j c' n h w h2⟩
 nd:=fun j t h=>by
  rcases iD h with ⟨rfl,e⟩ | ⟨n,h⟩
  ·rw [gI];exact hnd t e.symm
  ·rw [gC n];exact s.nd j t h
 sep:=fun j k t c' h1 h2 n=>by
  rcases iD h1 with ⟨rfl,e⟩ | ⟨n1,g1⟩
  ·rcases iD h2 with ⟨rfl,e2⟩ | ⟨n2,g2⟩
   ·exact absurd rfl n
   ·rw [gI,gC n2]
    exact hown t e.symm k c' n2 g2
  ·rcases iD h2 with ⟨rfl,e2⟩ | ⟨n2,g2⟩
   ·rw [gI,gC n1]
    exact hpu j t n1 g1
   ·rw [gC n1,gC n2]
    exact s.sep j k t c' g1 g2 n
theorem mw {Φ:Fps} {η:VS.Env} {i:Nat} {c:Cell} {F:Xb} {a:Addr} (h:b6 (jt Φ i F) (η.set i (some c)) a):(∃ t,c=.ow t/\a∈F)\/b6 Φ η a:=by
 obtain ⟨j,t,h1,h2⟩:=h
 rcases iD h1 with ⟨rfl,e⟩ | ⟨n,h1⟩
 ·rw [gI] at h2;exact .inl ⟨t,e.symm,h2⟩
 ·rw [gC n] at h2;exact .inr ⟨j,t,h1,h2⟩
theorem rX {Φ:Fps} {η:VS.Env} {i:Nat} {c:Cell} {F:Xb} {a:Addr} (h:dJ (jt Φ i F) (η.set i (some c)) a):(∃ t,c=.pu t/\a∈F)\/dJ Φ η a:=by
 obtain ⟨j,t,h1,h2⟩:=h
 rcases iD h1 with ⟨rfl,e⟩ | ⟨n,h1⟩
 ·rw [gI] at h2;exact .inl ⟨t,e.symm,h2⟩
 ·rw [gC n] at h2;exact .inr ⟨j,t,h1,h2⟩
theorem SR.ow_pu {Φ:Fps} {η:VS.Env} {σ:L2.St} {H:Hp} (s:SR G Φ η σ H) {a:Addr} (h:b6 Φ η a) (h':dJ Φ η a):False:=by
 obtain ⟨j,t,h1,h2⟩:=h
 obtain ⟨k,u,g1,g2⟩:=h'
 have n:j ≠ k:=fun e=>by subst e;rw [h1] at g1;cases g1
 exact s.sep j k t _ h1 g1 n a h2 g2
theorem SR.val {Φ:Fps} {η:VS.Env} {σ:L2.St} {H H':Hp} {i:Nat} {v:V} {t:T} {m:Md} {F:Xb} {c:Cell} (s:SR G Φ η σ H) (hi:i < η.length) (e:aW H H') (r:Rp G H' v t F) (f:Fp Φ η H m F)
  (hc:(c=.pu t/\m ≠ .bo)\/(c=.ow t/\m=.fr)):SR G (jt Φ i F) (η.set i (some c)) (σ.set i (some v)) H'/\Frm Φ η H (jt Φ i F) (η.set i (some c)) H':=by
 have dom:∀ {a},H a=none->∀ j c',η[j]?=some (some c')->a ∉ Φ j:=fun {a} h j c' hj ha=>by
  obtain ⟨w,_,q⟩:=s.rp j c' hj
  exact Mut.ne_none (q.dom a ha) h
 have ct:kU c=t:=by rcases hc with ⟨rfl,_⟩ | ⟨rfl,_⟩ <;> rfl
 have fpu:∀ a∈F,H a=none\/dJ Φ η a:=fun a ha=>by
  rcases hc with ⟨_,n⟩ | ⟨_,n⟩
  ·exact f.pu n a ha
  ·rw [n] at f;exact .inl (f.2 a ha)
 constructor
 ·refine s.put hi (by rw [ct];exact r) (fun j c' n hj w q=>q.same e) (fun u hu=>?_) (fun u hu j c' n hj a ha=>?_) fun j u n hj a ha hF=>?_
  ·rcases hc with ⟨h,_⟩ | ⟨_,h⟩
   ·rw [h] at hu;cases hu
   ·rw [h] at f;exact f.1
  ·rcases hc with ⟨h,_⟩ | ⟨_,h⟩
   ·rw [h] at hu;cases hu
   ·rw [h] at f;exact dom (f.2 a ha) j c' hj
  ·rcases fpu a hF with z | z
   ·exact dom z j _ hj ha
   ·exact s.ow_pu ⟨j,u,hj,ha⟩ z
 ·refine ⟨fun a o h n=>⟨e a o h,fun z=>?_⟩,fun a h z=>h (e.free z),fun a h=>?_,fun a h=>?_,Kept.of e⟩
  ·rcases mw z with ⟨u,hu,ha⟩ | z
   ·rcases hc with ⟨h',_⟩ | ⟨_,h'⟩
    ·rw [h'] at hu;cases hu
    ·rw [h'] at f
     rw [f.2 a ha] at h;cases h
   ·exact n z
  ·rcases mw h with ⟨u,hu,ha⟩ | z
   ·rcases hc with ⟨h',_⟩ | ⟨_,h'⟩
    ·rw [h'] at hu;cases hu
    ·rw [h'] at f
     exact .inr (f.2 a ha)
   ·exact .inl z
  ·rcases rX h with ⟨u,hu,ha⟩ | z
   ·exact (fpu a ha).elim (fun z=>.inr (.inr z)) .inl
   ·exact .inl z
theorem zT {i:Nat} {x:Str} {pos':Pos} (he:PV G X e ce) (hN:X.N.Nodup) (hi:X.N[i]?=some x:=by rfl) (hx:Loc X.env.scope x:=by first | exact Or.inl rfl | exact Or.inr rfl)
  (hs:swapsWith e (some (.Name x pos')) pos.line X.env=pure false:=by rfl) (hf:X.fn x=true\/X.env.scope.names.lookup x=some .local:=by first | exact .inl rfl | exact .inr rfl) :
  PSV G X (.Assign [.Name x pos'] e pos) (gZ i ce):=PS.weak (vZ hN hi hx he hs hf) fun D σ H hq=>by
 obtain ⟨Φ,η,o,s,e,k⟩:=hq
 unfold gZ at e
 obtain ⟨⟨m,t⟩,ec,e1⟩:=Zz.mp e
 obtain ⟨c,eC,e2⟩:=Zz.mp e1
 split at e2
 ·rename_i hl
  cases e2
  refine ⟨Φ,η,m,t,s,ec,fun v H' F e3 r3 f3=>?_⟩
  obtain ⟨q1,q2⟩:=s.val (c:=c) hl e3 r3 f3 (by
   unfold cellOf at eC
   cases m with
   | fr =>
    simp only [Option.some.injEq] at eC
    split at eC
    ·exact .inr ⟨eC.symm,rfl⟩
    ·exact .inl ⟨eC.symm,by decide⟩
   | pu=>cases eC;exact .inl ⟨rfl,by decide⟩
   | bo=>cases eC)
  exact k _ _ H' q1 q2
 ·cases e2
theorem ya {i:Nat} {x:Str} {pos':Pos} (he:PV G X e ce) (hN:X.N.Nodup) (hi:X.N[i]?=some x:=by rfl) (hx:Loc X.env.scope x:=by first | exact Or.inl rfl | exact Or.inr rfl)
  (hs:swapsWith e (some (.Name x pos')) pos.line X.env=pure false:=by rfl) (hf:X.fn x=true\/X.env.scope.names.lookup x=some .local:=by first | exact .inl rfl | exact .inr rfl) :
  PSV G X (.Assign [.Name x pos'] e pos) (aQ i ce):=PS.weak (vZ hN hi hx he hs hf) fun D σ H hq=>by
 obtain ⟨Φ,η,o,s,e,k⟩:=hq
 unfold aQ at e
 obtain ⟨⟨m,t⟩,ec,e1⟩:=Zz.mp e
 split at e1
 ·cases e1
 ·rename_i hm
  split at e1
  ·rename_i hl
   cases e1
   refine ⟨Φ,η,m,t,s,ec,fun v H' F e3 r3 f3=>?_⟩
   obtain ⟨q1,q2⟩:=s.val (c:=.pu t) hl e3 r3 f3 (.inl ⟨rfl,hm⟩)
   exact k _ _ H' q1 q2
  ·cases e1
theorem SR.frz {Φ:Fps} {η:VS.Env} {σ:L2.St} {H:Hp} {i:Nat} {t:T} (s:SR G Φ η σ H) (h:η[i]?=some (some (.ow t))):SR G Φ (η.set i (some (.pu t))) σ H/\Frm Φ η H Φ (η.set i (some (.pu t))) H:=by
 have back:∀ {j c},(η.set i (some (.pu t)))[j]?=some (some c)->∃ c',η[j]?=some (some c')/\kU c'=kU c/\∀ u,c=.ow u->c'=.ow u:=fun {j c} hj=>by
  rcases iD hj with ⟨rfl,rfl⟩ | ⟨n,hj⟩
  ·exact ⟨.ow t,h,rfl,fun u hu=>nomatch hu⟩
  ·exact ⟨c,hj,rfl,fun u hu=>hu⟩
 refine ⟨⟨by rw [XN];exact s.len,fun j c hj=>?_,fun j u hj=>?_,fun j k u c h1 h2 n=>?_⟩,⟨fun a o ha n=>⟨ha,fun ⟨j,u,h1,h2⟩=>?_⟩,fun _ h=>h,fun a ⟨j,u,h1,h2⟩=>?_,fun a ⟨j,u,h1,h2⟩=>?_,Kept.refl H⟩⟩
 ·obtain ⟨c',h1,h2,_⟩:=back hj
  obtain ⟨v,g1,g2⟩:=s.rp j c' h1
  exact ⟨v,g1,by rw [← h2];exact g2⟩
 ·obtain ⟨c',h1,_,h3⟩:=back hj
  rw [h3 u rfl] at h1
  exact s.nd j u h1
 ·obtain ⟨c1,g1,_,g3⟩:=back h1
  obtain ⟨c2,k1,_,_⟩:=back h2
  rw [g3 u rfl] at g1
  exact s.sep j k u c2 g1 k1 n
 ·obtain ⟨c1,g1,_,g3⟩:=back h1
  rw [g3 u rfl] at g1
  exact n ⟨j,u,g1,h2⟩
 ·obtain ⟨c1,g1,_,g3⟩:=back h1
  rw [g3 u rfl] at g1
  exact .inl ⟨j,u,g1,h2⟩
 ·rcases iD h1 with ⟨rfl,_⟩ | ⟨n,h1⟩
  ·exact .inr (.inl ⟨j,t,h,h2⟩)
  ·exact .inl ⟨j,u,h1,h2⟩
theorem yL (i:Nat) (h:fI G X sts c):fI G X sts (au (uM i) c):=PSs.weak h fun D σ H hq=>by
 obtain ⟨Φ,η,o,s,e,k⟩:=hq
 unfold au at e
 obtain ⟨o1,e1,e2⟩:=Zz.mp e
 unfold uM at e1
 split at e1
 ·rename_i t ht
  cases e1
  obtain ⟨q1,q2⟩:=s.frz ht
  exact ⟨Φ,_,o,q1,e2,k.back q2⟩
 ·cases e1
  exact ⟨Φ,η,o,s,e2,k⟩
 ·cases e1
end
section
variable {G:Gx} {X:Cx} {st:Stmt} {sts:List Stmt} {c c1 c2:Sx} {pos:Pos} {e:Expr} {es:List Expr} {ce:Ex} {cs:Exs}
structure Chg (G:Gx) (H:Hp) (v:V) (F:Xb) (t':T) (H2:Hp) (F':Xb):Prop where
 kept:Kept H H2
 keep:∀ b o,b ∉ F->H b=some o->H2 b=some o
 dom:∀ b,H b ≠ none->H2 b ≠ none
 rp:Rp G H2 v t' F'
 nd:F'.Nodup
 sub:∀ a∈F',a∈F\/H a=none
theorem SR.mut {Φ:Fps} {η:VS.Env} {σ:L2.St} {H H2:Hp} {i:Nat} {v:V} {t t':T} {F':Xb} (s:SR G Φ η σ H) (hi:η[i]?=some (some (.ow t))) (hv:σ[i]?=some (some v)) (g:Chg G H v (Φ i) t' H2 F') :
  SR G (jt Φ i F') (η.set i (some (.ow t'))) σ H2/\Frm Φ η H (jt Φ i F') (η.set i (some (.ow t'))) H2:=by
 have hl:i < η.length:=(ZX.mp hi).1
 have off:∀ j c',j ≠ i->η[j]?=some (some c')->∀ a∈Φ j,a ∉ Φ i:=fun j c' n hj a ha ha'=>s.sep i j t c' hi hj (YG n) a ha' ha
 have es:σ.set i (some v)=σ:=by
  obtain ⟨h,e⟩:=ZX.mp hv
  rw [← e]
  exact List.set_getElem_self h
 have new:∀ a∈F',∀ j c',j ≠ i->η[j]?=some (some c')->a ∉ Φ j:=fun a ha j c' n hj ha'=>by
  rcases g.sub a ha with z | z
  ·exact off j c' n hj a ha' z
  ·obtain ⟨w,_,q⟩:=s.rp j c' hj
   exact Mut.ne_none (q.dom a ha') z
 constructor
 ·have:=s.put (c:=.ow t') (F:=F') (H':=H2) (v:=v) hl g.rp (fun j c' n hj w q=>q.keep g.kept fun a ha o ho=>g.keep a o (off j c' n hj a ha) ho) (fun _ _=>g.nd) (fun u hu j c' n hj a ha=>new a ha j c' n hj) fun j u n hj a ha ha'=>new a ha' j _ n hj ha
  rw [es] at this
  exact this
 ·refine ⟨fun a o h n=>⟨g.keep a o (fun z=>n ⟨i,t,hi,z⟩) h,fun z=>?_⟩,g.dom,fun a h=>?_,fun a h=>?_,g.kept⟩
  ·rcases mw z with ⟨u,_,ha⟩ | z
   ·rcases g.sub a ha with z | z
    ·exact n ⟨i,t,hi,z⟩
    ·rw [z] at h;cases h
   ·exact n z
  ·rcases mw h with ⟨u,_,ha⟩ | z
   ·rcases g.sub a ha with z | z
    ·exact .inl ⟨i,t,hi,z⟩
    ·exact .inr z
   ·exact .inl z
  ·rcases rX h with ⟨u,hu,ha⟩ | z
   ·cases hu
   ·exact .inl z
noncomputable def Bm (G:Gx) (r:V->List V->Hp->VK->Prop) (f:T->Vi->Option (T×Val)):Prop:=∀ (Φ:Fps) (η:VS.Env) (H H1:Hp) (v:V) (t t':T) (F:Xb) (l:Vi) (vs:List V) (Fs:Yg) (x:Val) (Q:VK),
 Rp G H v t F->F.Nodup->Args G Φ η H H1 l vs Fs->f t l=some (t',x)->(∀ u H2 F',Chg G H v F t' H2 F'->Q u H2)->r v vs H1 Q
theorem vY {T' id:String} {name x:Str} {r:V->List V->Hp->VK->Prop} {f:T->Vi->Option (T×Val)} {apos cpos p1:Pos} (i:Nat) (pa:PlainAttrs T') (slot:Slot T' name id) (hty:typeOf (.builtin id)=pure (.type "method_descriptor")) (hm:MtR X id r) (ok:Bm G r f)
  (hT:∀ H v t F l z,Rp G H v t F->f t l=some z->tyV G.K T' v H) (ha:PVs G X (e :: es) cs) (hK:X.K=G.K:=by rfl)
  (hN:X.N[i]?=some x:=by rfl) (hv:Vis X.env.scope x:=by first | exact Or.inl rfl | exact Or.inr (Or.inl rfl) | exact Or.inr (Or.inr rfl)) (hd:(x == ("__debug__" : Str))=false:=by decide)
  (hcd:(x == ("__classdict__" : Str))=false:=by decide)
  (hbase:attributeBase (.Name x p1) name X.env (eval (.Name x p1) X.env)=eval (.Name x p1) X.env:=by rfl)
  (hfew:((backTo cpos (starEach (e :: es) X.env)).all (fun x=>!x.1) && (backToKw cpos (keywordEach [] X.env)).all (fun x=>x.1.isSome)
   && decide ((e :: es).length+([]:List Keyword).length+(if ([]:List Keyword).isEmpty then 0 else 1) < 30))=true:=by rfl)
  (hline:(apos.endLine == cpos.line)=true:=by rfl) (hs:starEach (e :: es) X.env=(false,eval e X.env) :: starEach es X.env:=by rfl) (hplain:(backTo cpos (starEach es X.env)).any (·.1)=false:=by rfl)
  (hsw:swapsWith (.Call (.Attribute (.Name x p1) name apos) (e :: es) [] cpos) none pos.line X.env=pure false:=by rfl) :
  PSV G X (.Expr (.Call (.Attribute (.Name x p1) name apos) (e :: es) [] cpos) pos) (sX (j6 i [] f cs)) :=
 PS.weak (j3 (p7 pa slot hty hm (fW hN hv hd hcd) ha hbase hfew hline hs hplain) hsw) fun D σ H hq=>by
  obtain ⟨Φ,η,o,s,e,k⟩:=hq
  unfold sX j6 at e
  obtain ⟨⟨x',η'⟩,e1,e2⟩:=Zl.mp e
  split at e1
  ·rename_i t ht
   obtain ⟨ks,ek,e3⟩:=Zz.mp e1
   cases (show some ([]:List Ky)=some ks from ek)
   obtain ⟨l,el,e4⟩:=Zz.mp e3
   obtain ⟨⟨t',x2⟩,e5,e6⟩:=Zl.mp e4
   cases e6
   cases e2
   obtain ⟨v,h1,h2⟩:=s.rp _ _ ht
   have e7:f t l=some (t',x'):=e5
   refine ⟨v,h1,by rw [hK];exact hT H v t _ l _ h2 e7,Φ,η,l,s,el,fun vs H' Fs q1 q2 q3=>?_⟩
   refine ok Φ η H H' v t t' (Φ i) l vs Fs x' _ h2 (s.nd i t ht) ⟨q1,q2,q3⟩ e7 fun u H2 F' g=>?_
   obtain ⟨w1,w2⟩:=s.mut ht h1 g
   exact k _ σ H2 w1 w2
  ·cases e1
theorem Chg.upd {H H1:Hp} {v:V} {F:Xb} {a:Addr} {o:HO} {t':T} {F':Xb} (e:aW H H1) (ha:a∈F) (hm:Mut (H1 a)) (r:Rp G (upd H1 a o) v t' F') (nd:F'.Nodup) (sub:∀ a∈F',a∈F\/H a=none):Chg G H v F t' (upd H1 a o) F' :=
 ⟨(Kept.of e).trans (Kept.upd (.inl hm)),fun b o' hb h=>by rw [aF (fun z=>hb (by rw [z];exact ha))];exact e b o' h,
  fun b h z=>by
   by_cases q:b=a
   ·subst q;rw [aK] at z;cases z
   ·rw [aF q] at z;exact h (e.free z),r,nd,sub⟩
theorem RpL.off {H:Hp} {vs:List V} {ts:Vg} {Fs:Yg} {a:Addr} {o:HO} (r:RpL G H vs ts Fs) (hm:Mut (H a)) (h:a ∉ Fs.flatten):RpL G (upd H a o) vs ts Fs :=
 r.keep (Kept.upd (.inl hm)) fun b hb o' ho=>by rw [aF (fun z=>h (by rw [← z];exact hb))];exact ho
theorem Ab {v:Val} {t:T} (h:fit v=some t):v=(.fr,t):=by
 obtain ⟨m,x⟩:=v
 unfold fit at h
 cases m <;> first | (cases h;rfl) | cases h
theorem jg:Bm G lq aZ:=by
 intro Φ η H H1 v t t' F l vs Fs x Q r nd A e k
 unfold aZ at e
 split at e
 ·rename_i ts y
  obtain ⟨z,ez,e1⟩:=Zz.mp e
  have ey:=Ab ez
  subst ey
  split at e1
  ·rename_i hl
   cases e1
   obtain ⟨a,us,Gs,rfl,rfl,ha,ra⟩:=r.lst_inv
   obtain ⟨w,Fw,rfl,rfl,rw'⟩:=(show RpL G H1 vs [z] Fs from A.rp).one
   have fw:Fp Φ η H .fr Fw:=A.fp.each 0 _ _ rfl rfl
   have ha1:H1 a=some (.lst us):=A.same a _ ha
   have m1:Mut (H1 a):=by rw [ha1];exact True.intro
   have na:a ∉ Gs.flatten:=(ZW.mp nd).1
   have nw:a ∉ Fw:=fun z=>by rw [fw.2 a z] at ha;cases ha
   refine ⟨a,us,w,rfl,rfl,ha1,by rw [ra.len.1];exact hl,k _ _ (a :: (Gs++[Fw]).flatten) ?_⟩
   have off:∀ b∈Gs.flatten,b ∉ Fw:=fun b hb hw=>Mut.ne_none (ra.dom b hb) (fw.2 b hw)
   refine Chg.upd A.same Zw m1 (.lst aK (((ra.same A.same).off m1 na).append (.cons (rw'.keep (Kept.upd (.inl m1)) fun b hb o ho=>by rw [aF (fun z=>nw (by rw [← z];exact hb))];exact ho) .nil))) ?_ ?_
   ·rw [Z5]
    refine ZW.mpr ⟨fun m=>?_,ZF.mpr ⟨(ZW.mp nd).2,by simpa using fw.1,fun b hb c hc z=>?_⟩⟩
    ·rcases Zc.mp m with m | m
     ·exact na m
     ·exact nw (by simpa using m)
    ·subst z;exact off b hb (by simpa using hc)
   ·intro b hb
    rcases Zo.mp hb with rfl | hb
    ·exact .inl Zw
    ·rw [Z5] at hb
     rcases Zc.mp hb with hb | hb
     ·exact .inl (Zx _ hb)
     ·exact .inr (fw.2 b (by simpa using hb))
  ·cases e1
 ·cases e
theorem yJ {H:Hp} {v:V} {ts:Vg} {F:Xb} (r:Rp G H v (.lst ts) F):tyV G.K "list" v H:=by
 obtain ⟨a,us,Gs,rfl,rfl,ha,ra⟩:=r.lst_inv
 exact .inl ⟨rfl,_,SqL.of ha⟩
theorem gF {H:Hp} {v:V} {t:T} {F:Xb} {l:Vi} {z:T×Val} (r:Rp G H v t F) (h:aZ t l=some z):tyV G.K "list" v H:=by
 unfold aZ at h
 split at h
 ·exact yJ r
 ·cases h
end
structure ItOk (G:Gx) (J:It) (l:Vg) (C:Xb) (H:Hp):Prop where
 run:∀ H2,Kept H H2->(∀ a∈C,∀ o,H a=some o->H2 a=some o) →
  (∀ (i:Nat) (t:T),l[i]?=some t->J.go i H2/\∀ x H3,J.yld i H2 x H3->aW H2 H3/\∃ F,Rp G H3 x t F/\∀ a∈F,a∈C\/H2 a=none)/\∀ (i:Nat),l.length<=i->J.stop i H2
 dom:∀ a∈C,H a ≠ none
noncomputable def FpC (Φ:Fps) (η:VS.Env) (H:Hp) (m:Md) (C:Xb):Prop:=∀ a∈C,H a=none\/dJ Φ η a\/(m=.bo/\b6 Φ η a)
theorem Fp.c {Φ:Fps} {η:VS.Env} {H:Hp} {F:Xb}:∀ {m:Md},Fp Φ η H m F->FpC Φ η H m F
 | .fr,f=>fun a ha=>.inl (f.2 a ha)
 | .pu,f=>fun a ha=>(f a ha).imp id .inl
 | .bo,f=>fun a ha=>(f a ha).imp id fun z=>z.imp id fun z=>⟨rfl,z⟩
noncomputable def tI (G:Gx) (c:Its):TI:=fun σ H R=>∃ Φ η m l,SR G Φ η σ H/\c η=some (m,l)/\∀ J H' C,aW H H'->ItOk G J l C H'->FpC Φ η H m C->R J H'
noncomputable def PVI (G:Gx) (X:Cx) (tg iter:Expr) (c:Its):Prop:=PI X tg iter (tI G c)
theorem PI.weak {X:Cx} {tg e:Expr} {t t':TI} (h:PI X tg e t) (w:∀ σ H Q,t' σ H Q->t σ H Q):PI X tg e t':=fun pins s σ H Q I q=>h pins s σ H Q I (w σ H Q q)
section
variable {G:Gx} {X:Cx} {tg e a b:Expr} {es:List Expr} {ca cb:Ex} {cs:Exs} {pos p:Pos}
theorem wH (H:Hp) (lo:Int) (n:Nat):ItOk G (Itr lo n) (rng lo n) [] H:=by
 refine ⟨fun H2 _ _=>⟨fun i t h=>?_,fun i h=>(by simpa [rng] using h:n<=i)⟩,fun a h=>by simp at h⟩
 unfold rng at h
 rw [ZC] at h
 obtain ⟨k,hk,e⟩:=Zl.mp h
 obtain ⟨hlt,e2⟩:=ZX.mp hk
 rw [Z2] at hlt
 have ek:i=k:=by simpa using e2
 subst ek
 refine ⟨hlt,fun x H3 ⟨e3,e4⟩=>?_⟩
 subst e3
 subst e4
 rw [← e]
 exact ⟨aW.refl _,[],.int _,fun a h=>by simp at h⟩
theorem rC (ha:PV G X a ca) (hg:Gl X "range") (hm:X.mg "range" = none) (hs:starEach [a] X.env=(false,eval a X.env) :: starEach [] X.env:=by rfl) (hs':starEach [a] X.env=[(false,eval a X.env)]:=by rfl):PVI G X tg (.Call (.Name "range" p) [a] [] pos) (cy ca) :=
 PI.weak (uS hg hm (fO ha il hs) hs') fun σ H R hq=>by
  obtain ⟨Φ,η,m,l,s,e,k⟩:=hq
  unfold cy at e
  obtain ⟨⟨mx,x⟩,ea,e1⟩:=Zz.mp e
  obtain ⟨j,ej,e2⟩:=Zz.mp e1
  split at e2
  ·rename_i hj
   cases e2
   refine ⟨Φ,η,mx,x,s,ea,fun v H' F e3 r3 f3=>?_⟩
   cases x with
   | int j' =>
    cases ej
    refine ⟨j,by rw [r3.int_inv],?_,?_,k _ H' [] e3 (wH H' 0 j.toNat) fun a h=>by simp at h⟩
    ·have:=hj.1;unfold B62 at this;lia
    ·have:=hj.2;unfold B62 at this;lia
   | _=>cases ej
  ·cases e2
theorem gn {Fs:Yg} {i:Nat} {F:Xb} (h:Fs[i]?=some F) {a:Addr} (ha:a∈F):a∈Fs.flatten:=(fS h).subset ha
theorem Ai {H:Hp} {a:Addr} {vs:List V} {ts:Vg} {Fs:Yg} (K:Y1) (ha:H a=some (.lst vs)) (r:RpL G H vs ts Fs):ItOk G (Itl K a) ts (a :: Fs.flatten) H:=by
 refine ⟨fun H2 k c=>?_,fun b hb=>?_⟩
 ·have ha2:H2 a=some (.lst vs):=c a Zw _ ha
  have r2:RpL G H2 vs ts Fs:=r.keep k fun b hb o ho=>c b (Zx _ hb) o ho
  refine ⟨fun i t h=>?_,fun i h=>⟨vs,SqL.of ha2,by rw [r.len.1];exact h⟩⟩
  obtain ⟨v,F,h1,h2,h3⟩:=r2.get i h
  refine ⟨⟨vs,v,SqL.of ha2,h1⟩,fun x H3 ⟨e1,e2⟩=>?_⟩
  subst e1
  have ex:=e2 vs (SqL.of ha2)
  rw [h1] at ex
  cases ex
  exact ⟨aW.refl _,F,h3,fun b hb=>.inl (Zx _ (gn h2 hb))⟩
 ·rcases Zo.mp hb with rfl | hb
  ·rw [ha];exact fun z=>nomatch z
  ·exact Mut.ne_none (r.dom b hb)
theorem Cy {H:Hp} {a:Addr} {vs:List V} {ts:Vg} {Fs:Yg} (K:Y1) (ha:H a=some (.tup vs)) (r:RpL G H vs ts Fs):ItOk G (Itt K a) ts Fs.flatten H:=by
 refine ⟨fun H2 k c=>?_,fun b hb=>Mut.ne_none (r.dom b hb)⟩
 have ha2:H2 a=some (.tup vs):=k.tup a _ ha
 have r2:RpL G H2 vs ts Fs:=r.keep k fun b hb o ho=>c b hb o ho
 refine ⟨fun i t h=>?_,fun i h=>⟨vs,SqT.of ha2,by rw [r.len.1];exact h⟩⟩
 obtain ⟨v,F,h1,h2,h3⟩:=r2.get i h
 refine ⟨⟨vs,v,SqT.of ha2,h1⟩,fun x H3 ⟨e1,e2⟩=>?_⟩
 subst e1
 have ex:=e2 vs (SqT.of ha2)
 rw [h1] at ex
 cases ex
 exact ⟨aW.refl _,F,h3,fun b hb=>.inl (gn h2 hb)⟩
noncomputable def tG (G:Gx) (g:Tg):TG:=fun v σ H Q=>∃ Φ η t F η',SR G Φ η σ H/\Rp G H v t F/\(∀ a∈F,¬ b6 Φ η a)/\g t η=some η' ∧
 ∀ Φ' σ',SR G Φ' η' σ' H->(∀ a,b6 Φ' η' a->b6 Φ η a)->(∀ a,dJ Φ' η' a->dJ Φ η a\/a∈F)->Q σ' H
noncomputable def tGs (G:Gx) (gs:List Tg):TGs:=fun vs σ H Q=>∃ Φ η ts Fs η',SR G Φ η σ H/\RpL G H vs ts Fs/\(∀ a∈Fs.flatten,¬ b6 Φ η a)/\rP gs ts η=some η' ∧
 ∀ Φ' σ',SR G Φ' η' σ' H->(∀ a,b6 Φ' η' a->b6 Φ η a)->(∀ a,dJ Φ' η' a->dJ Φ η a\/a∈Fs.flatten)->Q σ' H
noncomputable def PVG (G:Gx) (X:Cx) (e:Expr) (g:Tg):Prop:=PG X e (tG G g)
noncomputable def pE (G:Gx) (X:Cx) (e:List Expr) (g:List Tg):Prop:=PGs X e (tGs G g)
theorem PG.weak {X:Cx} {e:Expr} {t t':TG} (h:PG X e t) (w:∀ v σ H Q,t' v σ H Q->t v σ H Q):PG X e t':=fun pins s σ H v u Q I r q=>h pins s σ H v u Q I r (w v σ H Q q)
theorem PGs.weak {X:Cx} {e:List Expr} {t t':TGs} (h:PGs X e t) (w:∀ v σ H Q,t' v σ H Q->t v σ H Q):PGs X e t':=fun pins s σ H v u Q I r q=>h pins s σ H v u Q I r (w v σ H Q q)
theorem vH (i:Nat) {x:Str} (hN:X.N.Nodup) (hi:X.N[i]?=some x:=by rfl) (hx:Loc X.env.scope x:=by first | exact Or.inl rfl | exact Or.inr rfl)
  (hf:X.fn x=true\/X.env.scope.names.lookup x=some .local:=by first | exact .inl rfl | exact .inr rfl):PVG G X (.Name x pos) (aY i):=PG.weak (tJ hN hi hx hf) fun v σ H Q hq=>by
 obtain ⟨Φ,η,t,F,η',s,r,no,e,k⟩:=hq
 unfold aY at e
 split at e
 ·rename_i hl
  cases e
  refine k (jt Φ i F) (σ.set i (some v)) (s.put (c:=.pu t) hl r (fun j c' n hj w q=>q) (fun u hu=>nomatch hu) (fun u hu=>nomatch hu) fun j u n hj a ha ha'=>no a ha' ⟨j,u,hj,ha⟩) (fun a h=>?_) fun a h=>?_
  ·rcases mw h with ⟨u,hu,_⟩ | z
   ·cases hu
   ·exact z
  ·rcases rX h with ⟨u,hu,ha⟩ | z
   ·exact .inr ha
   ·exact .inl z
 ·cases e
theorem xy:pE G X [] []:=PGs.weak zS fun v σ H Q hq=>by
 obtain ⟨Φ,η,ts,Fs,η',s,r,no,e,k⟩:=hq
 cases r with
 | nil =>
  cases (show some η=some η' from e)
  exact ⟨rfl,k Φ σ s (fun _ h=>h) fun _ h=>.inl h⟩
 | cons r q=>cases (show (none:Option VS.Env)=some η' from e)
theorem ue {g:Tg} {gs:List Tg} (h1:PVG G X e g) (h2:pE G X es gs) (hs:(assignEach (e :: es) X.env).map (·.2)=assign e X.env :: (assignEach es X.env).map (·.2):=by rfl):pE G X (e :: es) (g :: gs) :=
 PGs.weak (xx h1 h2 hs) fun v σ H Q hq=>by
  obtain ⟨Φ,η,ts,Fs,η',s,r,no,e,k⟩:=hq
  cases r with
  | nil=>cases (show (none:Option VS.Env)=some η' from e)
  | cons r q =>
   rename_i v' t' F' vs' ts' Fs'
   obtain ⟨η1,e1,e2⟩:=Zz.mp e
   refine ⟨_,_,rfl,Φ,η,_,_,η1,s,r,fun a ha=>no a (by rw [Ze];exact Y7 _ ha),e1,fun Φ1 σ1 s1 o1 p1=>?_⟩
   refine ⟨Φ1,η1,_,_,η',s1,q,fun a ha z=>no a (by rw [Ze];exact Z3 _ ha) (o1 a z),e2,fun Φ2 σ2 s2 o2 p2=>k Φ2 σ2 s2 (fun a h=>o1 a (o2 a h)) fun a h=>?_⟩
   rcases p2 a h with h | h
   ·rcases p1 a h with h | h
    ·exact .inl h
    ·exact .inr (by rw [Ze];exact Y7 _ h)
   ·exact .inr (by rw [Ze];exact Z3 _ h)
theorem pU:∀ {gs:List Tg} {ts:Vg} {η η':VS.Env},rP gs ts η=some η'->ts.length=gs.length
 | [],[],_,_,_=>rfl
 | [],_ :: _,_,_,h=>by simp [rP] at h
 | _ :: _,[],_,_,h=>by simp [rP] at h
 | g :: gs,t :: ts,η,η',h=>by
  obtain ⟨η1,_,e2⟩:=Zz.mp (show (g t η).bind (fun η'=>rP gs ts η')=some η' from h)
  simp [pU e2]
theorem zR {gs:List Tg} {k:Nat} (hc:X.calm=true) (h:pE G X es gs) (hn:(assignEach es X.env).length=gs.length:=by rfl) (hst:(assignEach es X.env).findIdx? (·.1)=none:=by rfl) (hK:X.K=G.K:=by rfl):PVG G X (.Tuple es k pos) (j4 gs) :=
 PG.weak (Cp (n:=gs.length) hc h hn hst) fun v σ H Q hq=>by
  obtain ⟨Φ,η,t,F,η',s,r,no,e,q⟩:=hq
  unfold j4 at e
  split at e
  ·rename_i l
   obtain ⟨a',vs,Fs,rfl,rfl,ha',ra⟩:=r.tup_inv
   exact ⟨a',vs,rfl,SqT.of ha',by rw [ra.len.1];exact pU e,Φ,η,l,Fs,η',s,ra,no,e,q⟩
  ·cases e
theorem nJ {tgt:Tg} {body:Sx} {l:Vg} {η:VS.Env} {i:Nat} {t:T} (h:l[i]?=some t):l.drop i=t :: l.drop (i+1):=by
 obtain ⟨hi,e⟩:=ZX.mp h
 rw [← e]
 exact Y4 hi
theorem zh {iter:Expr} {body:List Stmt} {ci:Its} {g:Tg} {cb:Sx} (hp:PassesOwn (model X.prog X.w) X.A X.env X.xe) (hc:X.calm=true) (hi:PVI G X tg iter ci) (hg:PVG G X tg g) (hb:fI G X body cb)
  (hs:∀ x,foldedSetIterable iter X.env x=pure x:=by intro _;rfl):PSV G X (.For tg iter body [] pos) (dN g ci cb):=PS.weak (BG hp hc hi hg hb hs) fun D σ H hq=>by
 obtain ⟨Φ,η,o,s,e,k⟩:=hq
 unfold dN at e
 obtain ⟨⟨m,l⟩,el,e1⟩:=Zz.mp e
 dsimp only at e1
 split at e1
 ·rename_i hm
  have hm':m ≠ .bo:=fun z=>by rw [z] at hm;cases hm
  refine ⟨Φ,η,m,l,s,el,fun J H' C e2 ok fc=>?_⟩
  have cno:∀ a∈C,¬ b6 Φ η a:=fun a ha z=>by
   rcases fc a ha with q | q | q
   ·exact Mut.ne_none (s.ow_dom z) q
   ·exact s.ow_pu z q
   ·exact hm' q.1
  refine ⟨fun i n σ2 H2=>n=l.length - i/\∃ Φ2 η2,SR G Φ2 η2 σ2 H2/\Frm Φ η H Φ2 η2 H2/\Kept H' H2/\(∀ a∈C,∀ o,H' a=some o->H2 a=some o/\¬ b6 Φ2 η2 a)/\forL g cb (l.drop i) η2=some o,
   ⟨l.length - 0,rfl,Φ,η,s.same e2,Frm.same e2,Kept.refl _,fun a ha o' ho=>⟨ho,cno a ha⟩,by rw [Xe];exact e1⟩,?_⟩
  rintro i n σ2 H2 ⟨rfl,Φ2,η2,s2,f2,kp,con,e3⟩
  obtain ⟨go,stop⟩:=ok.run H2 kp fun a ha o' ho=>(con a ha o' ho).1
  cases hit:l[i]? with
  | none =>
   have hl:l.length<=i:=YK.mp hit
   left
   rw [Xr hl] at e3
   cases (show some (Out.nx η2)=some o from e3)
   exact ⟨stop i hl,k Φ2 σ2 H2 s2 f2⟩
  | some t =>
   have hl:i < l.length:=(ZX.mp hit).1
   right
   obtain ⟨g1,y1⟩:=go i t hit
   rw [nJ (tgt:=g) (body:=cb) (η:=η2) hit] at e3
   obtain ⟨η3,e4,e5⟩:=Zz.mp (show (g t η2).bind (fun η1=>(cb η1).bind fun o=>match o with
    | .nx η2=>forL g cb (l.drop (i+1)) η2
    | .ct η2=>forL g cb (l.drop (i+1)) η2
    | .bk η2=>some (.nx η2)
    | .rt v η2=>some (.rt v η2))=some o from e3)
   obtain ⟨o',e6,e7⟩:=Zz.mp e5
   refine ⟨g1,fun σ4 H4=>∃ Φ4 η4,SR G Φ4 η4 σ4 H4/\Frm Φ η H Φ4 η4 H4/\Kept H' H4/\(∀ a∈C,∀ o,H' a=some o->H4 a=some o/\¬ b6 Φ4 η4 a)/\forL g cb (l.drop (i+1)) η4=some o,fun σ4 H4 ⟨Φ4,η4,q⟩=>⟨l.length - (i+1),by omega,rfl,Φ4,η4,q⟩,fun x H3 yl=>?_⟩
   obtain ⟨e8,F,rF,hF⟩:=y1 x H3 yl
   have s3:=s2.same e8
   have noF:∀ a∈F,¬ b6 Φ2 η2 a:=fun a ha z=>by
    rcases hF a ha with q | q
    ·have hne:=ok.dom a q
     cases ho:H' a with
     | none=>exact hne ho
     | some o''=>exact (con a q o'' ho).2 z
    ·exact Mut.ne_none (s2.ow_dom z) q
   refine ⟨Φ2,η2,t,F,η3,s3,rF,noF,e4,fun Φ3 σ3 s4 o3 p3=>?_⟩
   have f3:Frm Φ η H Φ3 η3 H3:=⟨fun a o' h n=>let ⟨h1,n1⟩:=f2.keep a o' h n;⟨e8 a o' h1,fun z=>n1 (o3 a z)⟩,fun a h z=>f2.dom a h (e8.free z),fun a h=>f2.ow a (o3 a h),fun a h=>by
    rcases p3 a h with h | h
    ·exact f2.pu a h
    ·rcases hF a h with q | q
     ·rcases fc a q with q | q | q
      ·exact .inr (.inr q)
      ·exact .inl q
      ·exact .inr (.inl q.2)
     ·exact .inr (.inr (f2.none q)),f2.kept.trans (Kept.of e8)⟩
   have next:∀ {Φ4 η4 H4},Frm Φ3 η3 H3 Φ4 η4 H4->Kept H' H4/\∀ a∈C,∀ o,H' a=some o->H4 a=some o/\¬ b6 Φ4 η4 a:=fun fb =>
    ⟨(kp.trans (Kept.of e8)).trans fb.kept,fun a ha o' ho=>by
     obtain ⟨h1,n1⟩:=con a ha o' ho
     exact fb.keep a o' (e8 a o' h1) fun z=>n1 (o3 a z)⟩
   refine ⟨Φ3,η3,o',s4,e6,?_⟩
   cases o' with
   | nx η4=>exact fun Φ4 σ4 H4 s5 fb=>⟨Φ4,η4,s5,f3.trans fb,(next fb).1,(next fb).2,e7⟩
   | ct η4=>exact fun Φ4 σ4 H4 s5 fb=>⟨Φ4,η4,s5,f3.trans fb,(next fb).1,(next fb).2,e7⟩
   | bk η4 =>
    cases (show some (Out.nx η4)=some o from e7)
    exact fun Φ4 σ4 H4 s5 fb=>k Φ4 σ4 H4 s5 (f3.trans fb)
   | rt v η4 =>
    cases (show some (Out.rt v η4)=some o from e7)
    exact fun u H4 F4 Φ4 σ4 s5 fb r5 q5=>k u H4 F4 Φ4 σ4 s5 (f3.trans fb) r5 (q5.back f3)
 ·cases e1
end
noncomputable def Ge (H:Hp) (Fs:Yg):Md->Xb->Prop
 | .fr,F=>F.Nodup/\∀ a∈F,H a=none
 | _,F=>∀ a∈F,H a=none\/a∈Fs.flatten
noncomputable def spF (G:Gx) (g:Fn):Sp:=fun vs H Q _=>∃ ts Fs m r,RpL G H vs ts Fs/\g ts=some (m,r)/\∀ v H' F,aW H H'->Rp G H' v r F->Ge H Fs m F->Q v H'
section
variable {G:Gx} {X:Cx} {k:Nat} {f:Addr} {fd:FuncData} {ps:List Str} {x:Str} {p pos:Pos} {e:Expr} {es:List Expr} {cs:Exs} {g:Fn}
theorem call_of {σ:L2.St} {H:Hp} {Q:VK} {E:XK} (h:tE G (aM g cs) σ H Q):BC (spF G g) [] E (tEs G cs) σ H Q:=by
 obtain ⟨Φ,η,m,t,s,e,kk⟩:=h
 unfold aM at e
 obtain ⟨l,el,e1⟩:=Zz.mp e
 obtain ⟨⟨n,r⟩,er,e2⟩:=Zz.mp e1
 refine ⟨Φ,η,l,s,el,fun vs H1 Fs q1 q2 q3=>?_⟩
 have A:Args G Φ η H H1 l vs Fs:=⟨q1,q2,q3⟩
 have jn:=q3.join A.len
 show spF G g (vs++[]) H1 Q E
 rw [ZD]
 refine ⟨trees l,Fs,n,r,q2,er,fun v H' F q4 q5 q6=>?_⟩
 have wide:(∀ a∈F,H1 a=none\/a∈Fs.flatten)->Fp Φ η H ((Md.pu).join (bZ l)) F:=fun h=>by
  cases ej:bZ l with
  | fr =>
   rw [ej] at jn
   exact fun a ha=>.inl ((h a ha).elim q1.free (jn.2 a))
  | pu =>
   rw [ej] at jn
   exact fun a ha=>(h a ha).elim (fun z=>.inl (q1.free z)) (jn a)
  | bo =>
   rw [ej] at jn
   exact fun a ha=>(h a ha).elim (fun z=>.inl (q1.free z)) (jn a)
 cases n with
 | fr =>
  cases e2
  exact kk v H' F (q1.trans q4) q5 ⟨q6.1,fun a ha=>q1.free (q6.2 a ha)⟩
 | pu =>
  cases e2
  exact kk v H' F (q1.trans q4) q5 (wide q6)
 | bo =>
  cases e2
  exact kk v H' F (q1.trans q4) q5 (wide q6)
theorem AW (F:FnOk X.prog X.w X.K X.mg X.base CX0 k f fd ps (spF G g)) (hr:Room k X.A) (hg:Gl X x) (hm:X.mg x=some (.ref f)) (hk:PySem.W.keepIn X.K (.ref f)=true) (hb:Binds X.K fd ps [])
  (ha:PVs G X (e :: es) cs) (hdb:(x == ("__debug__" : Str))=false:=by decide) (he:starEach (e :: es) X.env=(false,eval e X.env) :: starEach es X.env:=by rfl) (hpl:(backTo pos (starEach es X.env)).any (·.1)=false:=by rfl) :
  PV G X (.Call (.Name x p) (e :: es) [] pos) (aM g cs) :=
 PE.weak (zG F hr hg hm hk hb .nil DX ha hdb he hpl) fun σ H Q h=>call_of h
theorem xH {H:Hp} {vs:List V} {ts:Vg} {Fs:Yg} (r:RpL G H vs ts Fs) (n nv:Nat) (hv:nv=vs.length):SR G (fun i=>Fs.getD i []) (ts.map (fun t=>some (.pu t))++List.replicate (n - ts.length) none) (vs.map some++List.replicate (n - nv) none) H:=by
 subst hv
 have hl:=r.len
 have back:∀ {i:Nat} {c:Cell},(ts.map (fun t=>some (Cell.pu t))++List.replicate (n - ts.length) none)[i]?=some (some c)->∃ t,ts[i]?=some t/\c=.pu t:=fun {i c} h=>by
  by_cases hi:i < ts.length
  ·rw [Ym (by rw [Zv];exact hi),ZC] at h
   obtain ⟨t,h1,h2⟩:=Zl.mp h
   exact ⟨t,h1,(ZE h2).symm⟩
  ·rw [Yw (by rw [Zv];exact Xz hi),Xy] at h
   split at h <;> cases h
 refine ⟨by simp;lia,fun i c h=>?_,fun i t h=>?_,fun i j t c h=>?_⟩
 ·obtain ⟨t,h1,rfl⟩:=back h
  obtain ⟨v,F,g1,g2,g3⟩:=r.get i h1
  refine ⟨v,?_,?_⟩
  ·have:i < vs.length:=(ZX.mp g1).1
   rw [Ym (by rw [Zv];exact this),ZC,g1]
   rfl
  ·show Rp G H v t (Fs.getD i [])
   rw [Z4,g2]
   exact g3
 ·obtain ⟨t',_,h2⟩:=back h
  cases h2
 ·obtain ⟨t',_,h2⟩:=back h
  cases h2
theorem i6 {ts:Vg} {n:Nat} {Φ:Fps} {a:Addr}:¬ b6 Φ (ts.map (fun t=>some (Cell.pu t))++List.replicate n none) a:=by
 rintro ⟨i,t,h,_⟩
 by_cases hi:i < ts.length
 ·rw [Ym (by rw [Zv];exact hi),ZC] at h
  obtain ⟨t',_,h2⟩:=Zl.mp h
  cases h2
 ·rw [Yw (by rw [Zv];exact Xz hi),Xy] at h
  split at h <;> cases h
theorem p6 {H:Hp} {vs:List V} {ts:Vg} {Fs:Yg} {n:Nat} {a:Addr} (h:dJ (fun i=>Fs.getD i []) (ts.map (fun t=>some (Cell.pu t))++List.replicate n none) a):a∈Fs.flatten:=by
 obtain ⟨i,t,_,h2⟩:=h
 simp only [Z4] at h2
 cases e:Fs[i]? with
 | none=>rw [e] at h2;simp at h2
 | some F=>rw [e] at h2;exact gn e h2
end
section
variable {G:Gx} {P:Program} {w:World} {K:Y1} {mg:Xv} {base:Heap}
theorem fnV {x qual:Str} {st:Stmt} {f:Addr} {fd:FuncData} {N ps:List Str} {k np nn:Nat} {c:Sx} (F:Fun K x qual st f fd) (S:FnScope N ps (aq st)) (hp:ps.length=np) (hn:N.length=nn)
  (hb:∀ (cdv:Value) (A:Around) (outer:List PySem.Env) (s:Shared) (H:Hp) (E:XK),Room k (A.deeper (envOfC qual (aq st) s.heap.objs.size f cdv))->fI G (mT CX0 P w K mg base N qual (aq st) f cdv A outer s H E).nox (aO st) c) :
  FnOk P w K mg base CX0 (k+1) f fd ps (spF G (fn np nn c)):=by
 refine F.ok S (fun vs H Q E h=>?_) fun cdv A outer s H vs Q E hr h=>⟨_,hb cdv A outer s H E hr,?_⟩
 ·obtain ⟨ts,Fs,m,r,h1,h2,_⟩:=h
  unfold fn at h2
  split at h2
  ·rename_i hl
   rw [h1.len.1,hl,hp]
  ·cases h2
 ·obtain ⟨ts,Fs,m,r,h1,h2,q⟩:=h
  unfold fn at h2
  split at h2
  ·rename_i hl
   obtain ⟨o,e1,e2⟩:=Zz.mp h2
   have s0:=xH h1 nn vs.length rfl
   rw [hl] at s0
   have e3:L2.start N vs=vs.map some++List.replicate (nn - vs.length) none:=by
    unfold L2.start
    rw [hn]
   rw [e3]
   refine ⟨_,_,o,s0,e1,?_⟩
   cases o with
   | nx η' =>
    cases e2
    intro Φ' σ' H' s' fr
    exact q .non H' [] (fun a o h=>(fr.keep a o h i6).1) .non ⟨Wg,fun a h=>by simp at h⟩
   | rt v η' =>
    cases e2
    intro u H' F' Φ' σ' s' fr r' rf
    refine q u H' F' (fun a o h=>(fr.keep a o h i6).1) r' ?_
    cases m with
    | fr=>exact ⟨rf.1,fun a ha=>(rf.2 a ha).elim id fun z=>absurd z i6⟩
    | pu=>exact fun a ha=>(rf a ha).elim .inl fun z=>z.elim (fun z=>.inr (p6 (H:=H) (vs:=vs) z)) fun z=>absurd z i6
    | bo=>exact fun a ha=>(rf a ha).elim .inl fun z=>z.elim (fun z=>.inr (p6 (H:=H) (vs:=vs) z)) fun z=>absurd z i6
   | bk η'=>cases e2
   | ct η'=>cases e2
  ·cases h2
end
end VS
end
section
namespace L2
open PySem PySem.Spec PyProof.Rows
theorem kD (env:Env):∀ (l:List (Str×NameKind)) (acc:List (Str×Addr)),(∀ y∈l,y.2=.free->∃ c,env.cells.lookup y.1=some c)->(∀ x c,acc.lookup x=some c->env.cells.lookup x=some c) →
  ∃ cl,(forIn l acc (fun x r=>if (x.snd == NameKind.free)=true then (do let a ← cellOf env x.fst;pure (ForInStep.yield ((x.fst,a) :: r))) else pure (ForInStep.yield r)):Sem (List (Str×Addr)))=pure cl ∧
   (∀ x c,cl.lookup x=some c->env.cells.lookup x=some c)/\(∀ x c,acc.lookup x=some c->∃ c',cl.lookup x=some c')/\∀ y∈l,y.2=.free->∃ c,cl.lookup y.1=some c
 | [],acc,_,ha=>⟨acc,rfl,ha,fun x c h=>⟨c,h⟩,fun y hy=>nomatch hy⟩
 | (n,k) :: l,acc,hf,ha=>by
  by_cases hk:k=.free
  ·subst hk
   obtain ⟨c,hc⟩:=hf (n,.free) Zw rfl
   have ec:cellOf env n=pure c:=by unfold cellOf;dsimp only at hc;rw [hc]
   have ha':∀ x c',((n,c) :: acc).lookup x=some c'->env.cells.lookup x=some c':=fun x c' h=>by
    rw [Y0] at h
    split at h
    ·rename_i hx
     have:x=n:=by simpa using hx
     rw [this,← h];exact hc
    ·exact ha x c' h
   obtain ⟨cl,h1,h2,h3,h4⟩:=kD env l ((n,c) :: acc) (fun y hy=>hf y (Zx _ hy)) ha'
   refine ⟨cl,?_,h2,fun x c' h=>?_,fun y hy hyf=>?_⟩
   ·rw [List.forIn_cons]
    dsimp only
    rw [Zr (show (NameKind.free == NameKind.free)=true from rfl),ec,pure_bind,pure_bind]
    exact h1
   ·by_cases hx:x=n
    ·exact h3 x c (by rw [Y0,hx];simp)
    ·refine h3 x c' ?_
     rw [Y0]
     have:(x == n)=false:=by simpa using hx
     rw [this];exact h
   ·rcases Zo.mp hy with rfl | hy
    ·exact h3 n c (by rw [Y0];simp)
    ·exact h4 y hy hyf
  ·obtain ⟨cl,h1,h2,h3,h4⟩:=kD env l acc (fun y hy=>hf y (Zx _ hy)) ha
   refine ⟨cl,?_,h2,h3,fun y hy hyf=>?_⟩
   ·rw [List.forIn_cons]
    dsimp only
    rw [Zq (by simpa using hk),pure_bind]
    exact h1
   ·rcases Zo.mp hy with rfl | hy
    ·exact absurd hyf hk
    ·exact h4 y hy hyf
theorem Ap {sc:Scope} {env:Env} (hf:∀ y∈sc.names,y.2=.free->∃ c,env.cells.lookup y.1=some c) :
  ∃ cl,closureFor sc env=pure cl/\(∀ x c,cl.lookup x=some c->env.cells.lookup x=some c)/\∀ y∈sc.names,y.2=.free->∃ c,cl.lookup y.1=some c:=by
 obtain ⟨cl,h1,h2,_,h4⟩:=kD env sc.names [] hf (fun x c h=>nomatch h)
 refine ⟨cl,?_,h2,h4⟩
 simp only [closureFor]
 rw [h1]
 rfl
theorem gJ {l:List (Str×NameKind)} {x:Str} {k:NameKind} (h:l.lookup x=some k):(x,k)∈l:=by
 induction l with
 | nil=>cases h
 | cons p l ih =>
  rw [Y0] at h
  split at h
  ·rename_i hx
   have e:x=p.1:=by simpa using hx
   cases h
   rw [e];exact Zw
  ·exact Zx _ (ih h)
theorem de {env:Env} {x:Str} {k:NameKind}:∀ {l:List (Str×NameKind)},(l.map fun (n,k)=>if (k == NameKind.free && env.scope.kind == .function && env.kindOf n == some .cell) then (n,NameKind.cell) else (n,k)).lookup x=some k →
  ∃ k0,l.lookup x=some k0/\(k=k0\/(k0=.free/\k=.cell))
 | [],h=>nomatch h
 | (n,k1) :: l,h=>by
  rw [Zt,Y0] at h
  by_cases hc:(k1 == NameKind.free && env.scope.kind == .function && env.kindOf n == some .cell)=true
  ·simp only [hc,if_true] at h
   rw [Y0]
   cases hx:x == n with
   | true =>
    rw [hx] at h
    have:k1=.free:=by
     have:=(Wx.mp (Wx.mp hc).1).1
     simpa using this
    exact ⟨k1,rfl,.inr ⟨this,(ZE h).symm⟩⟩
   | false=>rw [hx] at h;exact de h
  ·simp only [hc,if_false,ZG] at h
   rw [Y0]
   cases hx:x == n with
   | true=>rw [hx] at h;exact ⟨k1,rfl,.inl (ZE h).symm⟩
   | false=>rw [hx] at h;exact de h
noncomputable def ba (X:Cx) (N:List Str) (sc:Scope) (cl:List (Str×Addr)) (C:Addr) (s:Shared) (H:Hp) (fp:Xb):Cx :=
 { X with N:=N,s₀:=s,H₀:=H,env:=compEnvC sc cl C X.env,outer:=X.stack,ex:=fp,fn:=fun _=>false,pn:=[],xe:=fun _ _=>False }
noncomputable def jV (env:Env) (sc:Scope):Bool:=sc.kind == .function && sc.names.all fun y=>match y.2 with
 | .cell=>false
 | .local=>sc.names.lookup y.1 == some .local
 | .free=>env.kindOf y.1 == some .cell || env.kindOf y.1 == some .free
 | _=>true
noncomputable def iT (sc:Scope):List Str->List Str->Bool
 | [],[]=>true
 | a :: as,b :: bs=>((a == b && sc.names.lookup a == some .free) || sc.names.lookup a == none || sc.names.lookup a == some .globalImplicit) && iT sc as bs
 | _,_=>false
theorem tj {sc:Scope}:∀ {as bs:List Str},iT sc as bs=true->as.length=bs.length/\∀ (i:Nat) (x:Str),as[i]?=some x->(bs[i]?=some x/\sc.names.lookup x=some .free)\/sc.names.lookup x=none\/sc.names.lookup x=some .globalImplicit
 | [],[],_=>⟨rfl,fun i x h=>by simp at h⟩
 | a :: as,b :: bs,h=>by
  simp only [iT,Yq] at h
  obtain ⟨h1,h2⟩:=h
  obtain ⟨l,r⟩:=tj h2
  refine ⟨by simp [l],fun i x e=>?_⟩
  cases i with
  | zero =>
   have:a=x:=by simpa using e
   subst this
   simp only [Bool.or_eq_true,Yq] at h1
   rcases h1 with (⟨z1,z2⟩ | z) | z
   ·exact .inl ⟨by simpa using (by simpa using z1:a=b).symm,by simpa using z2⟩
   ·exact .inr (.inl (by simpa using z))
   ·exact .inr (.inr (by simpa using z))
  | succ i=>simpa using r i x (by simpa using e)
 | [],_ :: _,h=>by simp [iT] at h
 | _ :: _,[],h=>by simp [iT] at h
section
variable {X:Cx} {pins:Yo} {σ:St} {H:Hp} {s:Shared}
theorem Inv.block {N:List Str} {sc:Scope} {cl:List (Str×Addr)} {C D:Addr} {fp:Xb} {k:Nat} {h1:Heap} {t:Nat} {m:Xv} (I:Inv X pins σ H s) (hsc:jV X.env sc=true) (hnm:iT sc (N.drop k) X.N=true) (hNl:k<=N.length)
  (hc1:∀ x c,cl.lookup x=some c->X.env.cells.lookup x=some c) (hc2:∀ y∈sc.names,y.2=.free->∃ c,cl.lookup y.1=some c) (hfp:∀ b∈fp,jB X pins H b) (hD:s.heap.objs.size<=D) (hC:s.heap.objs.size<=C) (hDC:D ≠ C) (hfC:C ∉ fp)
  (keep:∀ b u,s.heap.get? b=some u->h1.get? b=some u) (hns:h1.Ns C m) (hDo:h1.get? D=some { cls:=.type "list",data:=.seq ([]:X1).toArray 0 }) :
  Inv (ba X N sc cl C s H fp) [] (List.replicate k none++σ) (upd H D (.lst [])) { s with heap:=h1,toks:=t }:=by
 unfold jV at hsc
 rw [Yq,Z9] at hsc
 obtain ⟨hk,hall⟩:=hsc
 have hkind:sc.kind=.function:=by simpa using hk
 obtain ⟨hlen,hat⟩:=tj hnm
 have hcell:∀ y∈sc.names,y.2 ≠ .cell:=fun y hy e=>by have:=hall y hy;rw [e] at this;cases this
 have frees:∀ x k',(relabel sc X.env).names.lookup x=some k'->k'=.cell\/k'=.free->sc.names.lookup x=some .free:=fun x k' h hk'=>by
  obtain ⟨k0,h0,hk0⟩:=de h
  rcases hk0 with e | ⟨e,_⟩
  ·subst e
   rcases hk' with e | e
   ·subst e;exact absurd rfl (hcell _ (gJ h0))
   ·subst e;exact h0
  ·subst e;exact h0
 have hHD:H D=none:=I.hok.fresh hD
 have hHC:H C=none:=I.hok.fresh hC
 refine ⟨⟨I.mod,hkind,I.ok.glob,I.ok.blt,hC,fun x y c e1 e2=>I.ok.inj x y c (hc1 x c e1) (hc1 y c e2),fun x hx=>?_,fun x c e=>(nomatch e),I.ok.hd,I.ok.frames,.inl rfl,fun b hb=>⟨fun (e:b=C)=>hfC (e ▸ hb),fun x c e=>(hfp b hb).2.2.2.2.1 x c (hc1 x c e)⟩,
  I.bs,ZV I.ok.bsz I.sz,fun b o e hb=>?_,fun b hb hb'=>?_,I.stack,I.stkFree⟩,rfl,I.bare,Un.laid keep hD hHD,⟨m,hns,fun i x v e1 e2 e3=>?_⟩,fun x c e=>?_,?_,fun x c e=>?_,fun p hp=>(nomatch hp),I.hok.laid keep hD ?_,?_⟩
 ·have h:∃ k',(relabel sc X.env).names.lookup x=some k'/\(k'=.cell\/k'=.free):=by
   rcases hx with e | e
   ·exact ⟨_,e,.inl rfl⟩
   ·exact ⟨_,e,.inr rfl⟩
  obtain ⟨k',h1',h2'⟩:=h
  exact hc2 _ (gJ (frees x k' h1' h2')) rfl
 ·have hb':b∈fp:=hb
  rcases (hfp b hb').2.2.2.1 with z | z
  ·exact I.ok.noex b o e z
  ·exact absurd (Z1 (ZZ e) (ZV I.ok.bsz z)) (YH _)
 ·have hb0:b∈frs X.stack:=hb'
  rcases Zo.mp (I.stkSub b hb0) with z | z
  ·exact (hfp b hb).2.1 z
  ·exact (hfp b hb).2.2.1 z
 ·
  have hik:k<=i:=by
   rcases Wn i k with z | z
   ·rw [Ym (by simpa using z),Xy] at e2
    split at e2 <;> cases e2
   ·exact z
  rw [Yw (by simpa using hik),Y2] at e2
  have e1':(N.drop k)[i - k]?=some x:=by
   rw [List.getElem?_drop,show k+(i - k)=i by exact Vy hik];exact e1
  have vis:sc.names.lookup x=some .free->∃ k',(relabel sc X.env).names.lookup x=some k'/\(k'=.cell\/k'=.free):=fun h0=>by
   have e3':Vis (relabel sc X.env) x:=e3
   rcases e3' with z | z | z
   ·obtain ⟨k0,h1',h2'⟩:=de z
    rw [h0] at h1';cases h1'
    rcases h2' with q | ⟨_,q⟩ <;> cases q
   ·exact ⟨_,z,.inl rfl⟩
   ·exact ⟨_,z,.inr rfl⟩
  have no:∀ k0,sc.names.lookup x=some k0->∃ k',(relabel sc X.env).names.lookup x=some k'->True:=fun _ _=>⟨.local,fun _=>trivial⟩
  rcases hat _ x e1' with ⟨hX,h0⟩ | h0 | h0
  ·obtain ⟨k',hk1,hk2⟩:=vis h0
   have hf:=hall _ (gJ h0)
   have hf':X.env.kindOf x=some .cell\/X.env.kindOf x=some .free:=by
    simpa using hf
   obtain ⟨mX,hnX,hlX⟩:=I.loc
   have visX:Vis X.env.scope x:=hf'.elim (fun z=>.inr (.inl z)) fun z=>.inr (.inr z)
   obtain ⟨u,r,l⟩:=hlX _ x v hX e2 visX
   refine ⟨u,r,.inr ⟨?_,?_⟩⟩
   ·rcases hk2 with z | z
    ·subst z;exact .inl hk1
    ·subst z;exact .inr hk1
   ·obtain ⟨c,hc⟩:=hc2 _ (gJ h0) rfl
    refine ⟨c,hc,?_⟩
    rcases l with ⟨z,_⟩ | ⟨_,c',hc',hcell'⟩
    ·rcases hf' with q | q <;> (rw [z] at q;cases q)
    ·have:=hc1 x c hc
     rw [hc'] at this;cases this
     exact hcell'.keeps keep
  ·have e3':Vis (relabel sc X.env) x:=e3
   rcases e3' with z | z | z <;> (obtain ⟨k0,z1,_⟩:=de z;rw [h0] at z1;cases z1)
  ·have e3':Vis (relabel sc X.env) x:=e3
   rcases e3' with z | z | z <;> (obtain ⟨k0,z1,z2⟩:=de z;rw [h0] at z1;cases z1;rcases z2 with q | ⟨q,_⟩ <;> cases q)
 ·obtain ⟨v,z⟩:=I.cell x c (hc1 x c e)
  exact ⟨v,z.keeps keep⟩
 ·show upd H D (.lst []) C=none
  rw [aF (YG hDC)];exact hHC
 ·obtain ⟨v,z⟩:=I.cell x c (hc1 x c e)
  rw [aF (ZR (Z1 z.lt hD))]
  exact I.freeC x c (hc1 x c e)
 ·exact ⟨ZS _,[],0,.nil,hDo⟩
 ·show (List.replicate k none++σ).length=N.length
  rw [Zu,Y2,I.len,← hlen,ZK]
  exact Vy hNl
noncomputable def vt (X:Cx) (ifs:List Expr) (t:TT):Prop :=
 ∀ (pins:Yo) (s:Shared) (σ:St) (H:Hp) (Q:Bool->Hp->Prop),Inv X pins σ H s->t σ H Q →
  wpAny (model X.prog X.w) X.A (forIn ifs true fun c r=>if r=true then (do let ok ← isTrue c X.env (eval c X.env);pure (ForInStep.yield ok)) else pure (ForInStep.yield r)) (TP X pins σ Q) X.xe s
theorem md:vt X [] (fun σ H Q=>Q true H):=fun pins s σ H Q I q=>Zs ⟨H,I,q⟩
theorem wW {c:Expr} {t:TT} (h:PT X c t):vt X [c] t:=fun pins s σ H Q I q=>by
 rw [List.forIn_cons,Zr rfl]
 refine Zy (Zy (thn (h pins s σ H Q I q) fun b s1 q1=>Zs ?_))
 exact Zs q1
section
variable {prog:Program} {w:World} {A:Around} {R:Result->Shared->Prop}
theorem qA {elt target iter:Expr} {ifs:List Expr} {scope:Scope} {pos:Pos} {it acc:Value} {env:Env} {s:Shared} (I:Nat->Shared->Prop)
  (turn:∀ n s,I n s->wpAny (model prog w) A (pyNext it) (fun r s₁=>match r with
   | none=>R (.ok .next) s₁
   | some v=>wpAny (model prog w) A (letOwnedTupleGo target it v) (fun _ s₀=>wpAny (model prog w) A (assign target env v) (fun _ s₂ =>
     wpAny (model prog w) A (forIn ifs true fun c r=>if r=true then (do let ok ← isTrue c env (eval c env);pure (ForInStep.yield ok)) else pure (ForInStep.yield r)) (fun ok s₃ =>
      if ok=true then wpAny (model prog w) A (eval elt env) (fun x s₄ =>
       wpAny (model prog w) A (call (.builtin "list.append") [acc,x]) (fun _ s₅=>∃ m,m < n/\I m s₅) (fun _ _=>False) s₄) (fun _ _=>False) s₃
      else ∃ m,m < n/\I m s₃) (fun _ _=>False) s₂) (fun _ _=>False) s₀) (fun _ _=>False) s₁) (fun _ _=>False) s)
  (n:Nat) (h:I n s) :
  codeAny (model prog w) A (.compLoop (.ListComp elt [⟨target,iter,ifs,0⟩] scope pos) 0 it acc env) R s:=by
 refine codeAny_loop rfl I (fun n s hI=>?_) n h
 show wpAny _ A ((compTurn (.ListComp elt [⟨target,iter,ifs,0⟩] scope pos) 0 it acc env).onRaise (fun x=>do noteFrame x env;theTreesLotGoes x)) _ _ s
 refine wpAny_noted ?_
 rw [compTurn_list]
 refine Zy (wpAny_standAt (Zy (YY (turn n s hI) (fun r s₁ h₁=>?_) fun _ _ h'=>h'.elim)))
 cases r with
 | none=>exact Zs h₁
 | some v =>
  refine Zy (YY h₁ (fun _ s₀ h₀=>?_) fun _ _ h'=>h'.elim)
  refine Zy (YY h₀ (fun _ s₂ h₂=>Zy (YY h₂ (fun ok s₃ h₃=>?_) fun _ _ h'=>h'.elim)) fun _ _ h'=>h'.elim)
  cases ok with
  | false=>exact Zs ⟨rfl,h₃⟩
  | true =>
   rw [Zr rfl] at h₃
   exact Zy (Zy (YY h₃ (fun x s₄ h₄=>Zy (YY h₄ (fun _ s₅ h₅=>Zs (Zs ⟨rfl,h₅⟩)) fun _ _ h'=>h'.elim)) fun _ _ h'=>h'.elim))
end
noncomputable def sM (k:Nat) (wi:TI) (g:TG) (tc:TT) (te:TE) (σ:St) (H:Hp) (Q:VK):Prop:=wi σ H fun J H1=>∀ D,H1 D=none->∃ W:Nat->Nat->St->Hp->Prop,
 (∃ m,W 0 m (List.replicate k none++σ) (upd H1 D (.lst [])))/\∀ i m σ' H',W i m σ' H'->(J.stop i H'/\Q (.ref D) H')\/(J.go i H'/\∀ x H2,J.yld i H' x H2->g x σ' H2 fun σ3 H3=>tc σ3 H3 fun b H4 =>
  if b=true then te σ3 H4 fun y H5=>∃ ys,H5 D=some (.lst ys)/\ys.length < sizeLine/\∃ m',m' < m/\W (i+1) m' σ3 (upd H5 D (.lst (ys++[y]))) else ∃ m',m' < m/\W (i+1) m' σ3 H4)
theorem nC {elt tg iter:Expr} {ifs:List Expr} {sc:Scope} {pos pos':Pos} {N:List Str} {k:Nat} {wi:TI} {g:TG} {tc:TT} {te:TE} {use:Option (Value->Sem Unit)} {QQ:Z8} {Q:VK} (hcalm:X.calm=true) (hi:PI X tg iter wi) (hsc:jV X.env sc=true)
  (hnm:iT sc (N.drop k) X.N=true) (hNl:k<=N.length) (hin:∀ cl C s H fp,PG (ba X N sc cl C s H fp) tg g/\vt (ba X N sc cl C s H fp) ifs tc/\PE (ba X N sc cl C s H fp) elt te)
  (hs:∀ x,foldedSetIterable iter X.env x=pure x) (I:Inv X pins σ H s) (h:sM k wi g tc te σ H Q)
  (hq:∀ s' H' D C m,Inv X pins σ H' s'->Q (.ref D) H'->s'.heap.Ns C m->jB X pins H' C->compPost (model X.prog X.w) X.A X.xe use QQ (.ref D) C (.ok .next) s') :
  wpAny (model X.prog X.w) X.A (comprehension (.ListComp elt [⟨tg,iter,ifs,0⟩] sc pos) sc X.env pos' (newList []) false (eval iter X.env) use) QQ X.xe s:=by
 have hsc':=hsc
 unfold jV at hsc'
 rw [Yq,Z9] at hsc'
 obtain ⟨hk,hall⟩:=hsc'
 have hkind:sc.kind=.function:=by simpa using hk
 have hcell:∀ y∈sc.names,y.2 ≠ .cell:=fun y hy e=>by have:=hall y hy;rw [e] at this;cases this
 have hnames:∀ y∈sc.names,y.2=.local->sc.names.lookup y.1=some .local:=fun y hy e=>by
  have:=hall y hy
  rw [e] at this
  simpa using this
 obtain ⟨cl,hcl,hc1,hc2⟩:=Ap (sc:=sc) (env:=X.env) fun y hy e=>I.ok.has y.1 (by
  have:=hall y hy
  rw [e] at this
  simpa using this)
 refine wpAny_comprehension_free (use:=use) rfl hs hcl hkind hnames (thn (hi pins s σ H _ I h) fun v s1 h1=>thn h1 fun itv s2 h2=>?_)
 obtain ⟨it,fp,tn,J,H2,e,I2,T,st2,f2,hW⟩:=h2
 subst e
 refine X8 (wpAny_newFunctionEnv hcell (by intro y hy;simp at hy) (fun h₁ hns₁ hsb₁=>?_) hkind)
 dsimp only at hns₁ hsb₁ ⊢
 generalize hP:s2.heap.push { cls:=.type "list",dict:=none,data:=.seq ([]:X1).toArray }=P at hns₁ hsb₁ ⊢
 have hCs:P.objs.size=s2.heap.objs.size+1:=by rw [← hP,Heap.size_push]
 have old:∀ b o,s2.heap.get? b=some o->h₁.get? b=some o:=fun b o e =>
  hsb₁.extBut b o (by rw [hCs];exact ZR (Wc (ZZ e))) (Zi _ (hP ▸ Zi _ e))
 have hDC:s2.heap.objs.size ≠ P.objs.size:=by rw [hCs];exact ZR (WT _)
 have hDo:h₁.get? s2.heap.objs.size=some { cls:=.type "list",data:=.seq ([]:X1).toArray 0 }:=hsb₁.extBut _ _ hDC (Zi _ (hP ▸ ZU _ rfl))
 have hCle:s2.heap.objs.size<=P.objs.size:=by rw [hCs];exact Nat.le_succ _
 have lt_fp:∀ b∈fp,b < s2.heap.objs.size:=fun b hb=>let ⟨o,ho,_⟩:=T.obj 0 _ st2 b hb;ZZ ho
 have hfC:P.objs.size ∉ fp:=fun hb=>absurd (Z1 (lt_fp _ hb) hCle) (YH _)
 have IY:=I2.block (N:=N) (sc:=sc) (cl:=cl) (C:=P.objs.size) (D:=s2.heap.objs.size) (fp:=fp) (k:=k) (t:=s2.toks+([]:List (Str×Value)).length) hsc hnm hNl hc1 hc2 f2 (Zp _) hCle hDC hfC old hns₁ hDo
 obtain ⟨hG,hT,hE⟩:=hin cl P.objs.size s2 H2 fp
 generalize hY:ba X N sc cl P.objs.size s2 H2 fp=Y at IY hG hT hE
 have hYm:Y.prog=X.prog/\Y.w=X.w/\Y.K=X.K/\Y.A=X.A/\Y.env=compEnvC sc cl P.objs.size X.env/\Y.calm=X.calm/\(Y.xe=fun _ _=>False):=by rw [← hY];exact ⟨rfl,rfl,rfl,rfl,rfl,rfl,rfl⟩
 obtain ⟨y1,y2,y3,y4,y5,y6,y7⟩:=hYm
 have stat:∀ {H':Hp},(∀ b∈fp,H' b=none)->∀ b∈fp,jB Y [] H' b:=fun {H'} hn b hb=>by
  rw [← hY]
  refine ⟨hn b hb,fun (e:b=P.objs.size)=>hfC (e ▸ hb),fun hb'=>?_,.inl hb,fun x c e=>(f2 b hb).2.2.2.2.1 x c (hc1 x c e),fun p hp=>(nomatch hp)⟩
  rcases Zo.mp (I2.stkSub b hb') with z | z
  ·exact (f2 b hb).2.1 z
  ·exact (f2 b hb).2.2.1 z
 obtain ⟨W,⟨m0,w0⟩,turn⟩:=hW s2.heap.objs.size (I2.hok.fresh (Zp _))
 have hfp0:∀ b∈fp,upd H2 s2.heap.objs.size (.lst []) b=none:=fun b hb=>by rw [aF (ZR (lt_fp b hb))];exact (f2 b hb).1
 have st3:tn 0 h₁:=T.keep _ _ _ st2 fun b _ o e=>old b o e
 have loop:codeAny (model X.prog X.w) X.A (.compLoop (.ListComp elt [⟨tg,iter,ifs,0⟩] sc pos) 0 (.ref it) (.ref s2.heap.objs.size) (compEnvC sc cl P.objs.size X.env)) (compPost (model X.prog X.w) X.A X.xe use QQ (.ref s2.heap.objs.size) P.objs.size)
   { s2 with heap:=h₁,toks:=s2.toks+([]:List (Str×Value)).length }:=by
  refine qA (fun n s'=>∃ i σ' H',Inv Y [] σ' H' s'/\tn i s'.heap/\(∀ b∈fp,H' b=none)/\W i n σ' H') ?_ m0 ⟨0,_,_,IY,st3,hfp0,w0⟩
  rintro n s3 ⟨i,σ3,H3,I3,st3,fr3,w3⟩
  rcases turn i n σ3 H3 w3 with ⟨stop,qn⟩ | ⟨go,step⟩
  ·have q:=T.done Y y1 y2 y3 (y6.trans hcalm) i [] s3 σ3 H3 (fun _ _=>False) I3 (stat fr3) st3 stop
   rw [y4] at q
   refine thn q fun r s4 ⟨hr,I4⟩=>?_
   subst hr
   have IX:Inv X pins σ H3 s4:=by
    have b4:=I4.base
    have o4:=I4.os
    have k4:=I4.hok
    rw [← hY] at b4 o4 k4
    refine I2.call' (ch:=fp) o4 b4 k4 I4.bare fun b hb=>?_
    exact ⟨(f2 b hb).2.2.2.1,(f2 b hb).2.1,(f2 b hb).2.2.2.2.1,(f2 b hb).2.2.2.2.2⟩
   obtain ⟨mC,hmC,_⟩:=I4.loc
   have f4:=I4.free
   rw [y5] at hmC f4
   exact hq s4 H3 _ P.objs.size mC IX qn hmC (I2.fpOk hCle f4)
  ·have q:=T.item Y y1 y2 y3 (y6.trans hcalm) i [] s3 σ3 H3 (fun _ _=>False) I3 (stat fr3) st3 go
   rw [y4] at q
   refine thn q fun r s4 ⟨u,hr,h4⟩=>?_
   subst hr
   refine thn h4 fun _ s5 ⟨x,H5,I5,r5,yl5,st5,fr5⟩=>?_
   have I5':=I5.pinned (stat fr5) (T.obj _ _ st5)
   have again:∀ {σ7:St} {H7:Hp} {s7:Shared} {m:Nat},Inv Y ([]++lT fp s5.heap) σ7 H7 s7->W (i+1) m σ7 H7->∃ i σ' H',Inv Y [] σ' H' s7/\tn i s7.heap/\(∀ b∈fp,H' b=none)/\W i m σ' H':=fun {σ7 H7 s7 m} I7 w7=>by
    refine ⟨i+1,σ7,H7,I7.unpinned,T.keep _ _ _ st5 fun b hb o e=>(I7.pin (b,o) (Z3 _ (Z3 _ (ir hb e)))).1,fun b hb=>?_,w7⟩
    obtain ⟨o,e,d⟩:=T.obj _ _ st5 b hb
    exact (I7.pin (b,o) (Z3 _ (Z3 _ (ir hb e)))).2.1
   have qa:=hG _ s5 σ3 H5 x u _ I5' r5 (step x H5 yl5)
   rw [y1,y2,y4,y5,y7] at qa
   refine thn qa fun _ s6 ⟨σ6,H6,I6,q6⟩=>?_
   have qt:=hT _ s6 σ6 H6 _ I6 q6
   rw [y1,y2,y4,y5,y7] at qt
   refine thn qt fun b s7 ⟨H7,I7,q7⟩=>?_
   cases b with
   | false =>
    rw [Zq Zh] at q7 ⊢
    obtain ⟨m',hm,w7⟩:=q7
    exact ⟨m',hm,again I7 w7⟩
   | true =>
    rw [Zr rfl] at q7 ⊢
    have qe:=hE _ s7 σ6 H7 _ I7 q7
    rw [y1,y2,y4,y5,y7] at qe
    refine thn qe fun yv s8 ⟨y,H8,I8,r8,ys,hD8,hl8,m',hm,w8⟩=>?_
    have qp:=gO (X:=Y) _ s8 σ6 H8 (.ref s2.heap.objs.size) [y] (.ref s2.heap.objs.size) [yv] (fun _ H9=>W (i+1) m' σ6 H9) I8 rfl (.cons r8 .nil) ⟨_,ys,y,rfl,rfl,hD8,hl8,w8⟩
    rw [y1,y2,y4,y7] at qp
    refine thn qp fun _ s9 ⟨_,H9,I9,_,w9⟩=>?_
    exact ⟨m',hm,again I9 w9⟩
 exact codeAny_compStart_list loop (T.self _ 0 _ _ _ st3 loop)
theorem n6 {elt tg iter:Expr} {ifs:List Expr} {sc:Scope} {pos:Pos} {N:List Str} {k:Nat} {wi:TI} {g:TG} {tc:TT} {te:TE} (hcalm:X.calm=true) (hi:PI X tg iter wi) (hsc:jV X.env sc=true)
  (hnm:iT sc (N.drop k) X.N=true) (hNl:k<=N.length) (hin:∀ cl C s H fp,PG (ba X N sc cl C s H fp) tg g/\vt (ba X N sc cl C s H fp) ifs tc/\PE (ba X N sc cl C s H fp) elt te)
  (hs:∀ x,foldedSetIterable iter X.env x=pure x:=by intro _;rfl):PE X (.ListComp elt [⟨tg,iter,ifs,0⟩] sc pos) (sM k wi g tc te):=by
 intro pins s σ H Q I h
 rw [eval_ListComp]
 refine nC (use:=none) hcalm hi hsc hnm hNl hin hs I h fun s' H' D C m I' q hn f=>⟨m,hn,fun h' hs'=>?_⟩
 exact ⟨.ref D,H',I'.turned (it:=C) (t':=s'.toks) (fun b o hb e=>hs'.extBut b o hb e) f.1 f.2.1 f.2.2.2.1 f.2.2.2.2.1 f.2.2.2.2.2,rfl,q⟩
theorem rR {elt tg iter:Expr} {ifs:List Expr} {sc:Scope} {pos pos' spos:Pos} {N:List Str} {k i:Nat} {x:Str} {wi:TI} {g:TG} {tc:TT} {te:TE} (hN:X.N.Nodup) (hiN:X.N[i]?=some x) (hx:Loc X.env.scope x) (hcalm:X.calm=true) (hi:PI X tg iter wi) (hsc:jV X.env sc=true)
  (hnm:iT sc (N.drop k) X.N=true) (hNl:k<=N.length) (hin:∀ cl C s H fp,PG (ba X N sc cl C s H fp) tg g/\vt (ba X N sc cl C s H fp) ifs tc/\PE (ba X N sc cl C s H fp) elt te)
  (hsw:swapsWith (.ListComp elt [⟨tg,iter,ifs,0⟩] sc pos) (some (.Name x pos')) spos.line X.env=pure true)
  (hf:X.fn x=true\/X.env.scope.names.lookup x=some .local) (hs:∀ x,foldedSetIterable iter X.env x=pure x:=by intro _;rfl) :
  PS X (.Assign [.Name x pos'] (.ListComp elt [⟨tg,iter,ifs,0⟩] sc pos) spos) (fun D σ H=>sM k wi g tc te σ H fun v H1=>D.nx (σ.set i (some v)) H1):=by
 intro pins s σ H D I h
 rw [exec_Assign_Name_used _ _ _ _ hsw]
 refine Zy (wpAny_standAt (Zy ?_))
 show wpAny _ X.A (do let _ ← comprehension (.ListComp elt [⟨tg,iter,ifs,0⟩] sc pos) sc X.env _ (newList []) false (eval iter X.env) (some (assign (.Name x pos') X.env))) _ _ s
 refine Zy (YY (nC (use:=some (assign (.Name x pos') X.env)) (QQ:=fun _ s'=>SP X pins D .next s') hcalm hi hsc hnm hNl hin hs I h fun s' H' D' C m I' q hn f=>?_) (fun _ s' hq=>Zs (Zs hq)) fun _ _ e=>e)
 show wpAny _ X.A (assign (.Name x pos') X.env (.ref D')) _ _ _
 refine wpAny_assign_Name (nO I' hN hiN hx (v:=.ref D') rfl (fun s2 I2 ⟨a,hsb,ha⟩=>?_) hf)
 have hCa:C ≠ a:=fun e=>by
  rcases ha with z | z
  ·exact f.2.1 (e.trans z)
  ·exact f.2.2.2.2.1 x a z e.symm
 refine ⟨m,hn.sameBut hsb hCa,fun h' hs'=>⟨_,H',?_,q⟩⟩
 exact I2.turned (it:=C) (t':=s2.toks) (fun b o hb e=>hs'.extBut b o hb e) f.1 f.2.1 f.2.2.2.1 f.2.2.2.2.1 f.2.2.2.2.2
end
end L2
end
section
namespace VS
open PySem PySem.Spec PyProof.Rows L2
noncomputable def qU (k:Nat) (g:Tg):Prop:=∀ t η η',g t η=some η'->η'.length=η.length/\∀ i,k<=i->η'[i]?=η[i]?
theorem gL {k i:Nat} (h:i < k):qU k (aY i):=fun t η η' e=>by
 unfold aY at e
 split at e
 ·cases e
  exact ⟨by simp,fun j hj=>by rw [Xf (by lia)]⟩
 ·cases e
theorem sI:∀ (l:Vg) {i:Nat} {t:T},fN l=true->l[i]?=some t->imm t=true
 | [],_,_,_,h=>by simp at h
 | x :: l,0,t,h,e=>by
  simp only [fN,Yq] at h
  simp at e;rw [← e];exact h.1
 | x :: l,i+1,t,h,e=>by
  simp only [fN,Yq] at h
  exact sI l h.2 (by simpa using e)
noncomputable def tC (G:Gx):Option Ex->TT
 | none=>fun σ H Q=>Q true H
 | some c=>tT G c
section
variable {G:Gx} {Φ:Fps} {η:VS.Env} {σ:L2.St} {H:Hp} {k:Nat}
theorem jM {i:Nat} {c:Cell}:(List.replicate k none++η)[i]?=some (some c) ↔ k<=i/\η[i - k]?=some (some c):=by
 rcases Wn i k with h | h
 ·rw [Ym (by simpa using h),Xy]
  constructor
  ·intro e;split at e <;> cases e
  ·intro ⟨e,_⟩;lia
 ·rw [Yw (by simpa using h),Y2]
  exact ⟨fun e=>⟨h,e⟩,fun e=>e.2⟩
theorem xJ {a:Addr}:b6 (fun i=>Φ (i - k)) (List.replicate k none++η) a ↔ b6 Φ η a:=by
 constructor
 ·rintro ⟨j,t,h1,h2⟩
  exact ⟨j - k,t,(jM.mp h1).2,h2⟩
 ·rintro ⟨j,t,h1,h2⟩
  refine ⟨j+k,t,jM.mpr ⟨Y5 _ _,by rw [Wh];exact h1⟩,?_⟩
  show a∈Φ (j+k - k)
  rw [Wh];exact h2
theorem yp {a:Addr}:dJ (fun i=>Φ (i - k)) (List.replicate k none++η) a ↔ dJ Φ η a:=by
 constructor
 ·rintro ⟨j,t,h1,h2⟩
  exact ⟨j - k,t,(jM.mp h1).2,h2⟩
 ·rintro ⟨j,t,h1,h2⟩
  refine ⟨j+k,t,jM.mpr ⟨Y5 _ _,by rw [Wh];exact h1⟩,?_⟩
  show a∈Φ (j+k - k)
  rw [Wh];exact h2
theorem SR.sh (s:SR G Φ η σ H):SR G (fun i=>Φ (i - k)) (List.replicate k none++η) (List.replicate k none++σ) H:=by
 refine ⟨by simp [s.len],fun i c h=>?_,fun i t h=>?_,fun i j t c h1 h2 n=>?_⟩
 ·obtain ⟨h1,h2⟩:=jM.mp h
  obtain ⟨v,g1,g2⟩:=s.rp _ c h2
  refine ⟨v,?_,g2⟩
  rw [Yw (by simpa using h1),Y2]
  exact g1
 ·exact s.nd _ t (jM.mp h).2
 ·obtain ⟨a1,a2⟩:=jM.mp h1
  obtain ⟨b1,b2⟩:=jM.mp h2
  exact s.sep _ _ t c a2 b2 (by lia)
theorem SR.less {η':VS.Env} (s:SR G Φ η' σ H) (hl:η.length=η'.length) (h:∀ (i:Nat) c,η[i]?=some (some c)->η'[i]?=some (some c)):SR G Φ η σ H :=
 ⟨hl.trans s.len,fun i c e=>s.rp i c (h i c e),fun i t e=>s.nd i t (h i _ e),fun i j t c e1 e2 n=>s.sep i j t c (h i _ e1) (h j _ e2) n⟩
theorem SR.off {D:Addr} {o:HO} (s:SR G Φ η σ H) (m:Mut (H D)\/H D=none) (n1:¬ dJ Φ η D) (n2:¬ b6 Φ η D):SR G Φ η σ (upd H D o):=by
 refine ⟨s.len,fun i c e=>?_,s.nd,s.sep⟩
 obtain ⟨v,g1,g2⟩:=s.rp i c e
 refine ⟨v,g1,g2.keep (Kept.upd m) fun b hb o' ho=>?_⟩
 rw [aF fun z=>?_]
 ·exact ho
 ·subst z
  cases c with
  | pu t=>exact n1 ⟨i,t,e,hb⟩
  | ow t=>exact n2 ⟨i,t,e,hb⟩
theorem lX:∀ (l:Vi) (v:Val),bZ (l++[v])=(bZ l).join v.1
 | [],(m,t)=>by cases m <;> rfl
 | (m,t) :: l,v=>by
  show m.join (bZ (l++[v]))=(m.join (bZ l)).join v.1
  rw [lX l v]
  generalize bZ l=q
  generalize v.1=r
  cases m <;> cases q <;> cases r <;> rfl
theorem Fp.join2 {m n:Md} {F F':Xb} (f:Fp Φ η H m F) (g:Fp Φ η H n F') (d:n=.fr->∀ a∈F,a ∉ F'):Fp Φ η H (m.join n) (F++F'):=by
 have both:∀ {P:Addr->Prop},(∀ a∈F,P a)->(∀ a∈F',P a)->∀ a∈F++F',P a:=fun p q a h=>(Zc.mp h).elim (p a) (q a)
 cases m <;> cases n
 ·exact ⟨ZF.mpr ⟨f.1,g.1,fun a ha b hb e=>d rfl a ha (e ▸ hb)⟩,both f.2 g.2⟩
 ·exact both (fun a ha=>.inl (f.2 a ha)) g
 ·exact both (fun a ha=>.inl (f.2 a ha)) g
 ·exact both f fun a ha=>.inl (g.2 a ha)
 ·exact both f g
 ·exact both (fun a ha=>(f a ha).imp id .inl) g
 ·exact both f fun a ha=>.inl (g.2 a ha)
 ·exact both f fun a ha=>(g a ha).imp id .inl
 ·exact both f g
theorem Fp.cons1 {m:Md} {F:Xb} {D:Addr} (f:Fp Φ η H m F) (h:H D=none) (d:D ∉ F):Fp Φ η H m (D :: F):=by
 have all:∀ {P:Addr->Prop},P D->(∀ a∈F,P a)->∀ a∈D :: F,P a:=fun p q a ha=>(Zo.mp ha).elim (fun e=>e ▸ p) (q a)
 cases m
 ·exact ⟨ZW.mpr ⟨d,f.1⟩,all h f.2⟩
 ·exact all (.inl h) f
 ·exact all (.inl h) f
end
section
variable {G:Gx} {k:Nat} {tg:Tg} {ci:Its} {cond:Option Ex} {ce:Ex}
noncomputable def CI (G:Gx) (Φ:Fps) (η η0:VS.Env) (H H1:Hp) (D:Addr) (l:Vg) (all:Vi) (tg:Tg) (cond:Option Ex) (ce:Ex) (i n:Nat) (σ':L2.St) (H':Hp):Prop:=n=l.length - i/\∃ Φ1 vs Fs xs rest,SR G Φ1 η0 σ' H'/\(∀ a,b6 Φ1 η0 a->b6 Φ η a)/\(∀ a,dJ Φ1 η0 a->H a=none\/dJ Φ η a)/\¬ dJ Φ1 η0 D/\¬ b6 Φ1 η0 D/\Kept H1 H' ∧
     (∀ a o,a ≠ D->H1 a=some o->H' a=some o)/\H' D=some (.lst xs)/\RpL G H' xs (trees vs) Fs/\D ∉ Fs.flatten/\Fp Φ η H (bZ vs) Fs.flatten/\jx tg cond ce η0 (l.drop i)=some rest/\vs++rest=all
theorem oZ {σ:L2.St} {H:Hp} {Q:VK} (hin:qU k tg) (h:tE G (dE k tg ci cond ce) σ H Q):sM k (tI G ci) (tG G tg) (tC G cond) (tE G ce) σ H Q:=by
 refine L2.fh fun P_ k_=>?_
 obtain ⟨Φ,η,m,r,s,e,kq⟩:=h
 unfold dE at e
 obtain ⟨⟨mi,l⟩,el,e1⟩:=Zz.mp e
 dsimp only at e1
 split at e1
 ·rename_i hok
  obtain ⟨all,ea,e2⟩:=Zz.mp e1
  unfold mkL at e2
  split at e2
  ·rename_i hlen
   cases e2
   refine k_ ?_
   refine ⟨Φ,η,mi,l,s,el,fun J H1 C e3 ok fc D hD=>?_⟩
   have hHD:H D=none:=e3.free hD
   let η0:VS.Env:=List.replicate k none++η
   have good:∀ {t:T} {i:Nat} {H' H2:Hp} {v:V} {F:Xb},l[i]?=some t->Rp G H2 v t F->(∀ a,H1 a ≠ none->H' a ≠ none)->(∀ a∈F,a∈C\/H' a=none)->∀ a∈F,(H a=none\/dJ Φ η a)/\¬ b6 Φ η a:=fun {t i H' H2 v F} hi rF keep hF a ha=>by
    have dom:∀ {b},H b ≠ none->H' b ≠ none:=fun {b} hb=>keep b fun z=>hb (e3.free z)
    rcases hF a ha with z | z
    ·rcases fc a z with q | q | ⟨q,w⟩
     ·exact ⟨.inl q,fun w=>Mut.ne_none (s.ow_dom w) q⟩
     ·exact ⟨.inr q,fun w=>s.ow_pu w q⟩
     ·subst q
      have:imm t=true:=by
       exact sI l hok hi
      rw [rF.imm this] at ha
      simp at ha
    ·have hz:H a=none:=Classical.byContradiction fun q=>dom q z
     exact ⟨.inl hz,fun w=>Mut.ne_none (s.ow_dom w) hz⟩
   refine ⟨CI G Φ η η0 H H1 D l all tg cond ce,?_,?_⟩
   ·refine ⟨l.length - 0,rfl,fun i=>Φ (i - k),[],[],[],all,?_,fun a h=>xJ.mp h,fun a h=>.inr (yp.mp h),fun h=>?_,fun h=>?_,Kept.upd (.inr hD),fun a o n h=>by rw [aF n];exact h,aK,.nil,by simp,Fp.nil,by rw [Xe];exact ea,rfl⟩
    ·exact ((s.same e3).sh).off (.inr hD) (fun h=>Mut.ne_none (s.pu_dom (yp.mp h)) hHD) fun h=>Mut.ne_none (s.ow_dom (xJ.mp h)) hHD
    ·exact Mut.ne_none (s.pu_dom (yp.mp h)) hHD
    ·exact Mut.ne_none (s.ow_dom (xJ.mp h)) hHD
   ·intro i n σ' H' hh_
    refine L2.fh fun P_ k_=>?_
    obtain ⟨rfl,Φ1,vs,Fs,xs,rest,s1,ow1,pu1,np1,no1,kp,old,hD',rp,nD,fp,er,ev⟩:=hh_
    refine k_ ?_
    have keepdom:∀ a,H1 a ≠ none->H' a ≠ none:=fun a ha z=>by
     by_cases q:a=D
     ·subst q;rw [hD'] at z;cases z
     ·cases e:H1 a with
      | none=>exact ha e
      | some o=>rw [old a o q e] at z;cases z
    refine L2.fh fun P_ k_=>?_
    obtain ⟨go,stop⟩:=ok.run H' kp fun a ha o ho=>old a o (fun z=>ok.dom a ha (z ▸ hD)) ho
    cases hit:l[i]? with
    | none =>
     have hl:l.length<=i:=YK.mp hit
     refine k_ ?_
     left
     refine ⟨stop i hl,?_⟩
     rw [Xr hl] at er
     cases (show some ([]:Vi)=some rest from er)
     rw [ZD] at ev
     subst ev
     refine kq (.ref D) H' (D :: Fs.flatten) (fun a o h=>old a o (fun z=>by rw [z,hHD] at h;cases h) (e3 a o h)) (.lst hD' rp) ?_
     by_cases hi:fN (trees vs)=true
     ·rw [Zr hi,rp.imm hi]
      exact ⟨by simp,fun a ha=>by rw [Zn.mp ha];exact hHD⟩
     ·rw [Zq hi]
      exact fp.cons1 hHD nD
    | some t =>
     have hl:i < l.length:=(ZX.mp hit).1
     obtain ⟨g1,y1⟩:=go i t hit
     refine k_ ?_
     right
     refine ⟨g1,fun x H2 yl=>?_⟩
     refine L2.fh fun P_ k_=>?_
     obtain ⟨e8,F,rF,hF⟩:=y1 x H2 yl
     rw [nJ (tgt:=tg) (body:=gS) (η:=η) hit] at er
     rw [jx] at er
     obtain ⟨η3,e4,e5⟩:=Zz.mp er
     obtain ⟨b,eb,e6⟩:=Zz.mp e5
     have gd:=good hit rF keepdom hF
     have s2:=s1.same e8
     have DF:D ∉ F:=fun h=>by
      rcases hF D h with z | z
      ·exact ok.dom D z hD
      ·rw [hD'] at z;cases z
     refine k_ ?_
     refine ⟨Φ1,η0,t,F,η3,s2,rF,fun a ha z=>(gd a ha).2 (ow1 a z),e4,fun Φ3 σ3 s3 o3 p3=>?_⟩
     obtain ⟨tl,tsame⟩:=hin t η0 η3 e4
     have low:∀ j c,η0[j]?=some (some c)->η3[j]?=some (some c):=fun j c h=>by rw [tsame j (jM.mp h).1];exact h
     have pu3:∀ a,dJ Φ3 η3 a->H a=none\/dJ Φ η a:=fun a h=>(p3 a h).elim (pu1 a) fun h=>(gd a h).1
     have ow3:∀ a,b6 Φ3 η3 a->b6 Φ η a:=fun a h=>ow1 a (o3 a h)
     have np3:¬ dJ Φ3 η3 D:=fun h=>(p3 D h).elim np1 DF
     have no3:¬ b6 Φ3 η3 D:=fun h=>no1 (o3 D h)
     have pul:∀ a,dJ Φ3 η0 a->dJ Φ3 η3 a:=fun a ⟨j,u,h1,h2⟩=>⟨j,u,low j _ h1,h2⟩
     have owl:∀ a,b6 Φ3 η0 a->b6 Φ3 η3 a:=fun a ⟨j,u,h1,h2⟩=>⟨j,u,low j _ h1,h2⟩
     have rest':∀ H4,aW H2 H4->(if b=true then tE G ce σ3 H4 fun y H5=>∃ ys,H5 D=some (.lst ys)/\ys.length < sizeLine/\∃ m',m' < l.length - i/\CI G Φ η η0 H H1 D l all tg cond ce (i+1) m' σ3 (upd H5 D (.lst (ys++[y]))) else ∃ m',m' < l.length - i/\CI G Φ η η0 H H1 D l all tg cond ce (i+1) m' σ3 H4):=fun H4 e9=>by
      have eo:∀ {H5},aW H4 H5->∀ a o,H' a=some o->H5 a=some o:=fun {H5} e10 a o h=>e10 a o (e9 a o (e8 a o h))
      cases b with
      | false =>
       rw [Zq Zh] at e6 ⊢
       have same:=eo (aW.refl H4)
       exact ⟨_,by lia,rfl,Φ3,vs,Fs,xs,rest,(s3.same e9).less (by rw [tl]) low,fun a h=>ow3 a (owl a h),fun a h=>pu3 a (pul a h),fun h=>np3 (pul D h),fun h=>no3 (owl D h),kp.trans ((Kept.of e8).trans (Kept.of e9)),fun a o n h=>same a o (old a o n h),same D _ hD',rp.same (aW.trans e8 e9),nD,fp,e6,ev⟩
      | true =>
       rw [Zr rfl] at e6 ⊢
       obtain ⟨⟨mv,tv⟩,ece,e7⟩:=Zz.mp e6
       obtain ⟨rest1,er1,e7'⟩:=Zl.mp e7
       refine ⟨Φ3,η3,mv,tv,s3.same e9,ece,fun y H5 Fy e10 ry fy=>?_⟩
       have same:=eo e10
       have hD5:=same D _ hD'
       have mD5:Mut (H5 D):=by rw [hD5];exact True.intro
       have hD4:H4 D=some (.lst xs):=e9 D _ (e8 D _ hD')
       have none4:∀ a,H4 a=none->H a=none:=fun a h=>Classical.byContradiction fun q=>keepdom a (fun z=>q (e3.free z)) (e8.free (e9.free h))
       have fyo:Fp Φ η H mv Fy:=by
        cases mv with
        | fr=>exact ⟨fy.1,fun a ha=>none4 a (fy.2 a ha)⟩
        | pu=>exact fun a ha=>(fy a ha).elim (fun z=>.inl (none4 a z)) (pu3 a)
        | bo=>exact fun a ha=>(fy a ha).elim (fun z=>.inl (none4 a z)) fun z=>z.elim (fun z=>(pu3 a z).imp id .inl) fun z=>.inr (.inr (ow3 a z))
       have DFy:D ∉ Fy:=fun h=>by
        cases mv with
        | fr=>have:=fy.2 D h;rw [hD4] at this;cases this
        | pu=>exact (fy D h).elim (fun z=>by rw [hD4] at z;cases z) np3
        | bo=>exact (fy D h).elim (fun z=>by rw [hD4] at z;cases z) fun z=>z.elim np3 no3
       have rp5:RpL G H5 xs (trees vs) Fs:=rp.same ((e8.trans e9).trans e10)
       have lenx:xs.length=vs.length:=by rw [rp.len.1];simp
       have lenv:vs.length < all.length:=by rw [← ev,← e7'];simp
       refine ⟨xs,hD5,?_,_,by lia,rfl,Φ3,vs++[(mv,tv)],Fs++[Fy],xs++[y],rest1,(((s3.same e9).same e10).off (.inl mD5) np3 no3).less (by rw [tl]) low,fun a h=>ow3 a (owl a h),fun a h=>pu3 a (pul a h),fun h=>np3 (pul D h),fun h=>no3 (owl D h),?_,fun a o n h=>?_,aK,?_,?_,?_,er1,?_⟩
       ·have hlen':all.length<=ip:=by simpa using hlen
        have:sizeLine=ip:=rfl
        lia
       ·exact (kp.trans ((Kept.of e8).trans ((Kept.of e9).trans (Kept.of e10)))).trans (Kept.upd (.inl mD5))
       ·rw [aF n];exact same a o (old a o n h)
       ·have:trees (vs++[(mv,tv)])=trees vs++[tv]:=by simp
        rw [this]
        exact (rp5.off mD5 nD).append (.cons (ry.keep (Kept.upd (.inl mD5)) fun b hb o ho=>by rw [aF (fun z=>DFy (by rw [← z];exact hb))];exact ho) .nil)
       ·rw [Z5]
        intro h
        rcases Zc.mp h with z | z
        ·exact nD z
        ·exact DFy (by simpa using z)
       ·rw [Z5,lX]
        have:([Fy]:Yg).flatten=Fy:=by simp
        rw [this]
        refine fp.join2 fyo fun hm a ha hb=>?_
        subst hm
        have h4:=fy.2 a hb
        have:Mut (H4 a):=(rp.same (e8.trans e9)).dom a ha
        rw [h4] at this;exact this
       ·rw [Zf,← ev,← e7'];rfl
     cases cond with
     | none =>
      cases (show some true=some b from eb)
      exact rest' H2 (aW.refl H2)
     | some c =>
      obtain ⟨⟨mc,xc⟩,ec1,ec2⟩:=Zz.mp eb
      exact ⟨Φ3,η3,mc,xc,b,s3,ec1,ec2,fun H4 e9=>rest' H4 e9⟩
  ·cases e2
 ·cases e1
end
section
variable {G:Gx} {X:Cx} {elt tg iter c:Expr} {sc:Scope} {pos pos' spos:Pos} {N:List Str} {k i:Nat} {x:Str} {ci:Its} {g:Tg} {cc ce:Ex}
theorem Au (k:Nat) (N:List Str) (hcalm:X.calm=true) (hi:PVI G X tg iter ci) (hin:qU k g) (hg:∀ cl C s H fp,PVG G (ba X N sc cl C s H fp) tg g) (he:∀ cl C s H fp,PV G (ba X N sc cl C s H fp) elt ce)
  (hsc:jV X.env sc=true:=by rfl) (hnm:iT sc (N.drop k) X.N=true:=by rfl) (hNl:k<=N.length:=by decide) (hs:∀ x,foldedSetIterable iter X.env x=pure x:=by intro _;rfl) :
  PV G X (.ListComp elt [⟨tg,iter,[],0⟩] sc pos) (dE k g ci none ce) :=
 PE.weak (n6 hcalm hi hsc hnm hNl (fun cl C s H fp=>⟨hg cl C s H fp,md,he cl C s H fp⟩) hs) fun σ H Q h=>oZ (cond:=none) hin h
theorem uY (k:Nat) (N:List Str) (hcalm:X.calm=true) (hi:PVI G X tg iter ci) (hin:qU k g) (hg:∀ cl C s H fp,PVG G (ba X N sc cl C s H fp) tg g) (hc:∀ cl C s H fp,PVT G (ba X N sc cl C s H fp) c cc) (he:∀ cl C s H fp,PV G (ba X N sc cl C s H fp) elt ce)
  (hsc:jV X.env sc=true:=by rfl) (hnm:iT sc (N.drop k) X.N=true:=by rfl) (hNl:k<=N.length:=by decide) (hs:∀ x,foldedSetIterable iter X.env x=pure x:=by intro _;rfl) :
  PV G X (.ListComp elt [⟨tg,iter,[c],0⟩] sc pos) (dE k g ci (some cc) ce) :=
 PE.weak (n6 hcalm hi hsc hnm hNl (fun cl C s H fp=>⟨hg cl C s H fp,wW (hc cl C s H fp),he cl C s H fp⟩) hs) fun σ H Q h=>oZ (cond:=some cc) hin h
theorem B8 {D:Ends} {σ:L2.St} {H:Hp} {ce:Ex} (h:tS G (gZ i ce) D σ H):tE G ce σ H fun v H1=>D.nx (σ.set i (some v)) H1:=by
 refine L2.fh fun P_ k_=>?_
 obtain ⟨Φ,η,o,s,e,k⟩:=h
 unfold gZ at e
 obtain ⟨⟨m,t⟩,ec,e1⟩:=Zz.mp e
 obtain ⟨c,eC,e2⟩:=Zz.mp e1
 refine k_ ?_
 split at e2
 ·rename_i hl
  cases e2
  refine ⟨Φ,η,m,t,s,ec,fun v H' F e3 r3 f3=>?_⟩
  obtain ⟨q1,q2⟩:=s.val (c:=c) hl e3 r3 f3 (by
   unfold cellOf at eC
   cases m with
   | fr =>
    simp only [Option.some.injEq] at eC
    split at eC
    ·exact .inr ⟨eC.symm,rfl⟩
    ·exact .inl ⟨eC.symm,by decide⟩
   | pu=>cases eC;exact .inl ⟨rfl,by decide⟩
   | bo=>cases eC)
  exact k _ _ H' q1 q2
 ·cases e2
theorem sP {D:Ends} {σ:L2.St} {H:Hp} {ce:Ex} (h:tS G (aQ i ce) D σ H):tE G ce σ H fun v H1=>D.nx (σ.set i (some v)) H1:=by
 refine L2.fh fun P_ k_=>?_
 obtain ⟨Φ,η,o,s,e,k⟩:=h
 unfold aQ at e
 obtain ⟨⟨m,t⟩,ec,e1⟩:=Zz.mp e
 refine k_ ?_
 split at e1
 ·cases e1
 ·rename_i hm
  split at e1
  ·rename_i hl
   cases e1
   refine ⟨Φ,η,m,t,s,ec,fun v H' F e3 r3 f3=>?_⟩
   obtain ⟨q1,q2⟩:=s.val (c:=.pu t) hl e3 r3 f3 (.inl ⟨rfl,hm⟩)
   exact k _ _ H' q1 q2
  ·cases e1
theorem xY (k:Nat) (N:List Str) {cS:Sx} (hS:∀ D σ H,tS G cS D σ H->tE G (dE k g ci none ce) σ H fun v H1=>D.nx (σ.set i (some v)) H1) (hcalm:X.calm=true) (hi:PVI G X tg iter ci) (hin:qU k g) (hg:∀ cl C s H fp,PVG G (ba X N sc cl C s H fp) tg g)
  (he:∀ cl C s H fp,PV G (ba X N sc cl C s H fp) elt ce) (hN:X.N.Nodup) (hiN:X.N[i]?=some x:=by rfl) (hx:Loc X.env.scope x:=by first | exact Or.inl rfl | exact Or.inr rfl)
  (hsc:jV X.env sc=true:=by rfl) (hnm:iT sc (N.drop k) X.N=true:=by rfl) (hNl:k<=N.length:=by decide) (hsw:swapsWith (.ListComp elt [⟨tg,iter,[],0⟩] sc pos) (some (.Name x pos')) spos.line X.env=pure true:=by rfl)
  (hf:X.fn x=true\/X.env.scope.names.lookup x=some .local:=by first | exact .inl rfl | exact .inr rfl) (hs:∀ x,foldedSetIterable iter X.env x=pure x:=by intro _;rfl) :
  PSV G X (.Assign [.Name x pos'] (.ListComp elt [⟨tg,iter,[],0⟩] sc pos) spos) cS :=
 PS.weak (rR hN hiN hx hcalm hi hsc hnm hNl (fun cl C s H fp=>⟨hg cl C s H fp,md,he cl C s H fp⟩) hsw hf hs) fun D σ H h=>oZ (cond:=none) hin (hS D σ H h)
end
end VS
end
section
namespace L2
open PySem PySem.Spec PyProof.Rows
noncomputable def Ite (K:Y1) (a:Addr):It :=
 ⟨fun i H=>∃ xs x,SqL K H a xs/\xs[i]?=some x,fun i H v H'=>∃ p x,H p=none/\v=.ref p/\H'=upd H p (.tup [.int i,x])/\∀ xs,SqL K H a xs->xs[i]?=some x,fun i H=>∃ xs,SqL K H a xs/\xs.length<=i⟩
theorem u0 {P:Program} {w:World} {K:Y1} {elts:List Expr} {n:Nat} {pos:Pos} (a e it:Addr) (hne:e ≠ it):Turn P w K (.Tuple elts n pos) (Ite K a) [e,it] e (fun i h=>(∃ old,IsEnum h e it i old)/\h.IsListIter it a i) where
 mem:=by simp
 obj:=fun i h st b hb=>by
  obtain ⟨⟨old,he⟩,o,ho,c,d⟩:=st
  rcases Zo.mp hb with rfl | hb
  ·exact ⟨_,he,fun v z=>by cases (show Data.fields _=Data.cell v from z)⟩
  ·rw [Zn.mp hb]
   exact ⟨o,ho,fun v z=>by rw [d] at z;cases z⟩
 keep:=fun i h h' st k=>⟨let ⟨old,he⟩:=st.1;⟨old,k e (by simp) _ he⟩,st.2.at fun o x=>k it (by simp) o x⟩
 item:=by
  intro X hP hw hK hc i pins s σ H E I hf st hg
  subst hP hw hK
  obtain ⟨xs,x,hq,hx⟩:=hg
  obtain ⟨its,rv,p,hz⟩:=I.list hq
  obtain ⟨u,hu,ru⟩:=rv.get hx
  obtain ⟨⟨old,he⟩,hit⟩:=st
  refine wpAny_pyNext_enum_item he hit p.isList (x:=u) (by simpa using hu) hne fun h1 ho hit1 hT hsz hk=>⟨_,rfl,?_⟩
  refine wpAny_letOwnedTupleGo_enum ho fun h2 he2 hs2=>?_
  have hs2:Heap.SameBut e h1 h2:=hs2
  have ltE:e < s.heap.objs.size:=ZZ he
  have ltI:it < s.heap.objs.size:=let ⟨_,z,_⟩:=hit;ZZ z
  have hHT:H s.heap.objs.size=none:=I.hok.fresh (Zp _)
  have kk:∀ b o,b ∉ [e,it]->s.heap.get? b=some o->h2.get? b=some o:=fun b o hb q=>by
   have h1b:b ≠ e:=fun z=>hb (by simp [z])
   have h2b:b ≠ it:=fun z=>hb (by simp [z])
   exact (hs2.2 b h1b).trans (hk b o h1b h2b q)
  have hT2:h2.get? s.heap.objs.size=some { cls:=.type "tuple",data:=.seq #[.int i s.toks,u] }:=(hs2.2 _ (W9 ltE)).trans hT
  have nfp:∀ b o,H b=some o->b ∉ [e,it]:=fun b o q hb=>by rw [(hf b hb).1] at q;cases q
  have lt:∀ b o,s.heap.get? b=some o->b ≠ s.heap.objs.size:=fun b o q=>ZR (ZZ q)
  have up:∀ b o,H b=some o->upd H s.heap.objs.size (.tup [.int i,x]) b=some o:=fun b o q=>by rw [aF (bN q hHT)];exact q
  have hok2:HOk X.prog X.w (upd H s.heap.objs.size (.tup [.int i,x])) h2:=fun b ob q=>by
   by_cases hb:b=s.heap.objs.size
   ·subst hb
    rw [aK] at q
    cases q
    exact ⟨by show 2<=sizeLine;decide,[.int i s.toks,u],.cons ⟨_,rfl⟩ (.cons ru .nil),NoD.of hT2 rfl,⟨_,hT2,rfl,_,rfl⟩⟩
   ·rw [aF hb] at q
    refine (I.hok b ob q).stay (fun c v hc' r=>kk c v ?_ r) (fun c r=>up c _ r) fun c ys r=>up c _ r
    rcases hc' with z | z
    ·rw [z];exact nfp b ob q
    ·exact nfp c _ z
  refine ⟨.ref s.heap.objs.size,upd H s.heap.objs.size (.tup [.int i,x]),?_,rfl,⟨_,x,hHT,rfl,rfl,fun ys hy=>by rw [I.list_inj hy hq];exact hx⟩,⟨⟨u,by simpa using he2⟩,hit1.at fun o y=>(hs2.2 it hne.symm).trans y⟩,fun b hb=>?_⟩
  ·show Inv X pins σ _ { s with heap:=h2,gens:=s.gens,drawn:=s.drawn,toks:=s.toks+1 }
   refine I.step (g':=s.gens) (d':=s.drawn) (t':=s.toks+1) (ch:=[e,it]) (fun b hb=>?_) (fun b o _ _ hc' q _=>kk b o hc' q) (fun b o _ _ hc' q _=>⟨o.slots,kk b o hc' q⟩) (fun b o _ q r=>by rw [aF (lt b o q)];exact r) (fun b o hc' q=>⟨o,kk b o hc' q⟩)
    (fun b ys q=>up b _ q) (fun b o v q=>up b _ q) (fun b ps q=>⟨#[],by rw [up b _ q];simp⟩) (fun m hm=>?_) hok2 I.bare
   ·obtain ⟨f0,f1,f2,f3,f4,f5⟩:=hf b hb
    exact ⟨f3,f1,f4,f5⟩
   ·obtain ⟨o,es,ep,ho',r⟩:=hm
    refine ⟨o,es,ep,kk _ o (fun z=>?_) ho',r⟩
    exact (hf _ z).2.1 rfl
  ·have:b ≠ s.heap.objs.size:=by
    rcases Zo.mp hb with rfl | hb
    ·exact ZR ltE
    ·rw [Zn.mp hb];exact ZR ltI
   rw [aF this]
   exact (hf b hb).1
 done:=by
  intro X hP hw hK hc i pins s σ H E I hf st hg
  subst hP hw hK
  obtain ⟨xs,hq,hx⟩:=hg
  obtain ⟨its,rv,p,hz⟩:=I.list hq
  obtain ⟨⟨old,he⟩,hit⟩:=st
  obtain ⟨f0,f1,f2,f3,f4,f5⟩:=hf it (by simp)
  have hl:=rv.length
  exact wpAny_pyNext_enum_end (I.ok.hd hc) he hit p.isList (by simp;lia) fun h' eb=>⟨rfl,I.turned (t':=s.toks) (fun b o hb q=>eb b o hb q) f0 f1 f3 f4 f5⟩
 self:=fun _ _ _ _ _ st h=>let ⟨_,he⟩:=st.1;wpAny_pyIter_enum he h
section
variable {X:Cx} {tg a:Expr} {ta:TA} {p pos:Pos}
noncomputable def Gi (K:Y1) (ta:TA):TI:=fun σ H R=>ta σ H fun vs H1=>∃ l,vs=[.ref l]/\(∃ xs,SqL K H1 l xs)/\R (Ite K l) H1
theorem zq {elts:List Expr} {n:Nat} {tpos:Pos} (hg:Gl X "enumerate") (hm:X.mg "enumerate" = none) (ha:PA X [a] ta) (hs:starEach [a] X.env=[(false,eval a X.env)]:=by rfl):PI X (.Tuple elts n tpos) (.Call (.Name "enumerate" p) [a] [] pos) (Gi X.K ta):=by
 intro pins s σ H R I h
 refine Call_ (jE I hg hm boot_enumerate (Wp (thn (ha pos pins s σ H _ I h) fun us s1 ⟨vs,H1,I1,r1,q1⟩=>?_) hs rfl))
 obtain ⟨l,e,⟨xs,hq⟩,q⟩:=q1
 subst e
 cases r1 with
 | cons r rr =>
  cases rr
  cases r
  obtain ⟨its,rv,pl,hz⟩:=I1.list hq
  refine call_enumerate_list pl.isList fun h' he hit hsz hk=>?_
  refine wpAny_pyIter_enum he ?_
  refine ⟨_,_,_,_,H1,rfl,I1.kept (t':=s1.toks) hk,u0 l (s1.heap.objs.size+1) s1.heap.objs.size (Nat.succ_ne_self _),⟨⟨_,he⟩,hit⟩,fun b hb=>?_,q⟩
  have hb':s1.heap.objs.size<=b:=by
   rcases Zo.mp hb with rfl | hb
   ·exact ZL _ _
   ·rw [Zn.mp hb];exact Zp _
  exact I1.fpOk hb' (I1.hok.fresh hb')
end
end L2
namespace VS
open PySem PySem.Spec PyProof.Rows L2
section
variable {G:Gx} {X:Cx} {a:Expr} {ca:Ex} {pos p tpos:Pos} {elts:List Expr} {n:Nat}
theorem qR:∀ (l:Vg) (k i:Nat) {t:T},(dC k l)[i]?=some t->∃ x,l[i]?=some x/\t=.tup [.int ((k+i:Nat):Int),x]
 | [],_,_,_,h=>by simp [dC] at h
 | x :: l,k,0,t,h=>by
  simp [dC] at h
  exact ⟨x,rfl,by rw [← h];rfl⟩
 | x :: l,k,i+1,t,h=>by
  obtain ⟨y,h1,h2⟩:=qR l (k+1) i (by simpa [dC] using h)
  refine ⟨y,by simpa using h1,?_⟩
  rw [h2,show k+1+i=k+(i+1) by lia]
theorem nB:∀ (l:Vg) (k:Nat),(dC k l).length=l.length
 | [],_=>rfl
 | x :: l,k=>by simp [dC,nB l (k+1)]
theorem zw {H:Hp} {a:Addr} {vs:List V} {ts:Vg} {Fs:Yg} (K:Y1) (ha:H a=some (.lst vs)) (r:RpL G H vs ts Fs):ItOk G (Ite K a) (dC 0 ts) (a :: Fs.flatten) H:=by
 refine ⟨fun H2 k c=>?_,fun b hb=>?_⟩
 ·have ha2:H2 a=some (.lst vs):=c a Zw _ ha
  have r2:RpL G H2 vs ts Fs:=r.keep k fun b hb o ho=>c b (Zx _ hb) o ho
  refine ⟨fun i t h=>?_,fun i h=>⟨vs,SqL.of ha2,by rw [nB] at h;rw [r.len.1];exact h⟩⟩
  obtain ⟨y,hy,et⟩:=qR ts 0 i h
  rw [Xu] at et
  obtain ⟨v,F,h1,h2,h3⟩:=r2.get i hy
  refine ⟨⟨vs,v,SqL.of ha2,h1⟩,fun x H3 ⟨p,z,hp,e1,e2,e3⟩=>?_⟩
  subst e1 e2
  have ex:=e3 vs (SqL.of ha2)
  rw [h1] at ex
  cases ex
  have sm:aW H2 (upd H2 p (.tup [.int i,v])):=fun b o q=>by rw [aF (bN q hp)];exact q
  refine ⟨sm,F,?_,fun b hb=>.inl (Zx _ (gn h2 hb))⟩
  rw [et]
  have:F=([[],F]:Yg).flatten:=by simp
  rw [this]
  exact .tup aK (.cons (.int _) (.cons (h3.same sm) .nil))
 ·rcases Zo.mp hb with rfl | hb
  ·rw [ha];exact fun z=>nomatch z
  ·exact Mut.ne_none (r.dom b hb)
theorem wX (ha:PV G X a ca) (hg:Gl X "enumerate") (hm:X.mg "enumerate" = none) (hs:starEach [a] X.env=(false,eval a X.env) :: starEach [] X.env:=by rfl) (hs':starEach [a] X.env=[(false,eval a X.env)]:=by rfl) :
  PVI G X (.Tuple elts n tpos) (.Call (.Name "enumerate" p) [a] [] pos) (iX ca) :=
 PI.weak (zq hg hm (fO ha il hs) hs') fun σ H R hq=>by
  obtain ⟨Φ,η,m,l,s,e,k⟩:=hq
  unfold iX at e
  obtain ⟨⟨mx,x⟩,ea,e1⟩:=Zz.mp e
  refine ⟨Φ,η,mx,x,s,ea,fun v H' F e3 r3 f3=>?_⟩
  cases x with
  | lst ts =>
   cases e1
   obtain ⟨a',vs,Fs,rfl,rfl,ha',ra⟩:=r3.lst_inv
   exact ⟨a',rfl,⟨vs,SqL.of ha'⟩,k _ H' _ e3 (zw X.K ha' ra) f3.c⟩
  | _=>cases e1
end
noncomputable instance {s:Tx}:Decidable (jq s):=inferInstanceAs (Decidable (_/\_))
section
variable {G:Gx} {X:Cx} {a b c e:Expr} {es:List Expr} {ca cb cc:Ex} {cs:Exs} {pos p p1 p2 apos cpos:Pos} {k k':Nat}
theorem w_add (ha:PV G X a ca) (hb:PV G X b cb):PV G X (.BinOp a .Add b pos) (e2 cm ca cb):=nH Aa Ck ha hb
theorem w_sub (ha:PV G X a ca) (hb:PV G X b cb):PV G X (.BinOp a .Sub b pos) (e2 qL ca cb):=nH C6 Ct ha hb
theorem w_mul (ha:PV G X a ca) (hb:PV G X b cb):PV G X (.BinOp a .Mult b pos) (e2 fz ca cb):=nH DC Dg ha hb
theorem BJ (ha:PV G X a ca) (hb:PV G X b cb):PV G X (.BinOp a .FloorDiv b pos) (e2 fU ca cb):=nH AL AN ha hb
theorem w_mod (ha:PV G X a ca) (hb:PV G X b cb):PV G X (.BinOp a .Mod b pos) (e2 oMod ca cb):=nH CT B5 ha hb
theorem Fe (ha:PV G X a ca) (hb:PV G X b cb):PVT G X (.Compare a [.Lt] [b] pos) (e2 oLt ca cb):=iA wo Bn mD ha hb (kl _)
theorem w_eq (hr:Room k X.A) (ha:PV G X a ca) (hb:PV G X b cb):PV G X (.Compare a [.Eq] [b] pos) (e2 oEq ca cb):=CH (wG hr.units) Br ha hb (kl _)
theorem EY (hr:Room k X.A) (ha:PV G X a ca) (hb:PV G X b cb):PVT G X (.Compare a [.Eq] [b] pos) (e2 oEq ca cb):=iA (wG hr.units) Br tells_eq ha hb (kl _)
theorem DM (hr:Room k X.A) (ha:PV G X a ca) (hb:PV G X b cb):PVT G X (.Compare a [.NotEq] [b] pos) (e2 oNe ca cb):=iA (Cu hr.units) Em vF ha hb (kl _)
theorem DW (ha:PV G X a ca) (hb:PV G X b cb) (hs:fM b:=by intro _ _;rfl) (hK:X.K=G.K:=by rfl):PV G X (.Subscript a b pos) (e2 bh ca cb) :=
 PE.weak (tU yA ha hb hs) fun σ H Q h=>by rw [hK];exact lO yc h
theorem E3 (hm:X.mg "len" = none) (ha:PVs G X [e] cs) (hg:Gl X "len" := by rfl) (hK:X.K=G.K:=by rfl) (he:starEach [e] X.env=(false,eval e X.env) :: starEach [] X.env:=by rfl):PV G X (.Call (.Name "len" p) [e] [] pos) (eN d5 cs) :=
 o7 (hK ▸ uI) Ci hg hm PySem.boot_len ha (he:=he) (hpl:=rfl)
theorem wu:bootBuiltins ("min" : Str)=some (.builtin "min"):=by decide +kernel
theorem zM:bootBuiltins ("list" : Str)=some (.type "list"):=by decide +kernel
theorem BK (hm:X.mg "min" = none) (ha:PVs G X [a,b] cs) (hc:X.calm=true:=by rfl) (hg:Gl X "min" := by rfl) (he:starEach [a,b] X.env=(false,eval a X.env) :: starEach [b] X.env:=by rfl) (hpl:(backTo pos (starEach [b] X.env)).any (·.1)=false:=by rfl):PV G X (.Call (.Name "min" p) [a,b] [] pos) (eN nN cs) :=
 o7 (uy hc) zB hg hm wu ha (he:=he) (hpl:=hpl)
noncomputable def tyN:Ty->Str
 | .int => "int" | .str => "str" | .bool => "bool" | .list => "list" | .tuple => "tuple" | .dict => "dict"
theorem Et (t:Ty):bootBuiltins (tyN t)=some (.type (tyS t)):=by cases t <;> decide +kernel
theorem w_is (t:Ty) (hm:X.mg "isinstance" = none) (hm2:X.mg (tyN t)=none) (ha:PV G X a ca) (hg:Gl X "isinstance" := by rfl) (hg2:Gl X (tyN t):=by rfl) (hK:X.K=G.K:=by rfl)
  (hs:starEach [a,.Name (tyN t) p2] X.env=(false,eval a X.env) :: starEach [.Name (tyN t) p2] X.env:=by rfl):PV G X (.Call (.Name "isinstance" p1) [a,.Name (tyN t) p2] [] pos) (eIs t ca) :=
 Fg t ha hg hm hg2 hm2 (Et t) hK (by cases t <;> decide) (by cases t <;> decide) hs rfl rfl
theorem wV (i:Nat) {x:Str} (ha:PVs G X [e] cs) (hK:X.K=G.K:=by rfl)
  (hN:X.N[i]?=some x:=by rfl) (hv:Vis X.env.scope x:=by first | exact Or.inl rfl | exact Or.inr (Or.inl rfl) | exact Or.inr (Or.inr rfl)) (hd:(x == ("__debug__" : Str))=false:=by decide)
  (hcd:(x == ("__classdict__" : Str))=false:=by decide) (hfew:((backTo cpos (starEach [e] X.env)).all (fun x=>!x.1) && (backToKw cpos (keywordEach [] X.env)).all (fun x=>x.1.isSome)
   && decide ([e].length+([]:List Keyword).length+(if ([]:List Keyword).isEmpty then 0 else 1) < 30))=true:=by rfl)
  (hline:(apos.endLine == cpos.line)=true:=by rfl) (hs:starEach [e] X.env=(false,eval e X.env) :: starEach [] X.env:=by rfl) :
  PSV G X (.Expr (.Call (.Attribute (.Name x p1) "append" apos) [e] [] cpos) pos) (sX (j6 i [] aZ cs)) :=
 vY i XH XR XS gO jg (fun H v t F l z r h=>gF r h) ha hK hN hv hd hcd rfl hfew hline hs rfl rfl
end
structure FnAt (P:Program) (w:World) (K:Y1) (mg:Xv) (base:Heap) (k:Nat) (x:Str) (ps:List Str) (G:Gx) (g:Fn):Prop where
 ex:∃ f fd,FnOk P w K mg base CX0 k f fd ps (spF G g)/\mg x=some (.ref f)/\PySem.W.keepIn K (.ref f)=true/\Binds K fd ps []
section
variable {G:Gx} {X:Cx} {e:Expr} {es:List Expr} {cs:Exs} {pos p:Pos} {k k':Nat} {x:Str} {ps:List Str} {g:Fn}
theorem CA (F:FnAt X.prog X.w X.K X.mg X.base k x ps G g) (hr:Room k' X.A) (ha:PVs G X (e :: es) cs) (hk:k<=k':=by decide) (hg:Gl X x:=by rfl) (hdb:(x == ("__debug__" : Str))=false:=by decide)
  (he:starEach (e :: es) X.env=(false,eval e X.env) :: starEach es X.env:=by rfl) (hpl:(backTo pos (starEach es X.env)).any (·.1)=false:=by rfl) :
  PV G X (.Call (.Name x p) (e :: es) [] pos) (aM g cs):=by
 obtain ⟨f,fd,h1,h2,h3,h4⟩:=F.ex
 exact AW h1 (hr.mono hk) hg h2 h3 h4 ha hdb he hpl
end
section
variable {G:Gx} {P:Program} {w:World} {K:Y1} {mg:Xv} {base:Heap}
theorem Fm {x:Str} {st:Stmt} {f:Addr} {fd:FuncData} {N ps:List Str} {k np nn:Nat} {c:Sx} (F:Fun K x x st f fd) (hm:mg x=some (.ref f)) (S:FnScope N ps (aq st)) (hp:ps.length=np) (hn:N.length=nn)
  (hbd:∀ (kV doc pm:Value) (an:Option Addr) (cdv ct:Value) (us:X1),us.length=ps.length->bindArgs (PySem.W.fnOf x x (aS st) (aO st) (aq st) .none kV doc pm an cdv ct) ⟨us,[]⟩=pure (ps.zip us))
  (hb:∀ (cdv:Value) (A:Around) (outer:List PySem.Env) (s:Shared) (H:Hp) (E:XK),Room k (A.deeper (envOfC x (aq st) s.heap.objs.size f cdv))->fI G (mT CX0 P w K mg base N x (aq st) f cdv A outer s H E).nox (aO st) c) :
  FnAt P w K mg base (k+1) x ps G (fn np nn c) :=
 ⟨f,fd,fnV F S hp hn hb,hm,F.kp,F.binds hbd⟩
end
end VS
end
section
namespace L2
open PySem PySem.Spec PyProof.Rows
noncomputable def Its (x:Str):It:=⟨fun i _=>i < x.cps.size,fun i H v H'=>H'=H/\∃ c,x.cps[i]?=some c/\v=.str ⟨#[c]⟩,fun i _=>x.cps.size<=i⟩
theorem nq {P:Program} {w:World} {K:Y1} {tg:Expr} (x:Str) (t:Tok) (it:Addr) (ty:String) (hn:["enumerate", "zip", "dict_itemiterator", "dict_reverseitemiterator", "odict_iterator", "itertools.zip_longest", "itertools.pairwise"].contains ty=false)
  (W:∀ A:Around,A.handled=none->Walks P w A it [it] [it] x.cps.size (fun i v=>∃ c u,x.cps[i]?=some c/\v=.str ⟨#[c]⟩ u) (fun i h=>h.IsStrIter it ty x t i)) (hend:∀ (A:Around),A.handled=none->∀ (i:Nat) (s:Shared) (Q:Vt->Shared->Prop) (E:Z8),s.heap.IsStrIter it ty x t i->x.cps[i]?=none->(∀ h',Heap.ExtBut it s.heap h'->Q none { s with heap:=h' })->wpAny (model P w) A (pyNext (.ref it)) Q E s)
  (hself:∀ (A:Around) (i:Nat) (s:Shared) (Q:Z8) (E:Z8),s.heap.IsStrIter it ty x t i->Q (.ref it) s->wpAny (model P w) A (pyIter (.ref it)) Q E s) :
  Turn P w K tg (Its x) [it] it (fun i h=>h.IsStrIter it ty x t i) where
 mem:=by simp
 obj:=fun i h st b hb=>by
  rw [Zn.mp hb]
  obtain ⟨o,e,c,d⟩:=st
  exact ⟨o,e,fun v z=>by rw [d] at z;cases z⟩
 keep:=fun i h h' st k=>let ⟨o,e,r⟩:=st;⟨o,k it (by simp) o e,r⟩
 item:=by
  intro X hP hw hK hc i pins s σ H E I hf st hg
  subst hP hw hK
  obtain ⟨f0,f1,f2,f3,f4,f5⟩:=hf it (by simp)
  refine (W X.A (I.ok.hd hc)).item i s _ _ hg st fun v h' tk hv st' kk=>?_
  obtain ⟨c,u,hc',rfl⟩:=hv
  have I1:Inv X pins σ H { s with heap:=h',toks:=tk }:=I.turned (fun b o hb e=>kk b o (by simpa using hb) e) f0 f1 f3 f4 f5
  obtain ⟨o,e,c1,d⟩:=id st'
  exact ⟨_,rfl,qb (s:={ s with heap:=h',toks:=tk }) e c1 d hn ⟨.str ⟨#[c]⟩,H,I1,⟨u,rfl⟩,⟨rfl,c,hc',rfl⟩,st',fun b hb=>(hf b hb).1⟩⟩
 done:=by
  intro X hP hw hK hc i pins s σ H E I hf st hg
  subst hP hw hK
  obtain ⟨f0,f1,f2,f3,f4,f5⟩:=hf it (by simp)
  have hx:x.cps.size<=i:=hg
  exact hend X.A (I.ok.hd hc) i s _ _ st (by simp [hx]) fun h' eb=>⟨rfl,I.turned (t':=s.toks) (fun b o hb e=>eb b o hb e) f0 f1 f3 f4 f5⟩
 self:=fun A i s Q E st h=>hself A i s Q E st h
theorem xj {P:Program} {w:World} {K:Y1} {tg:Expr} (x:Str) (t:Tok) (it:Addr):Turn P w K tg (Its x) [it] it (fun i h=>h.IsStrIter it (strIterType x) x t i):=by
 cases ha:x.cps.all (· < 128)
 ·have e:strIterType x = "str_iterator" := by simp [strIterType,ha]
  rw [e]
  exact nq x t it "str_iterator" rfl (fun A hA=>Walks.strWide hA it x t) (fun A hA i s Q E st hx q=>wpAny_pyNext_wide_end hA st hx q) fun A i s Q E st q=>wpAny_pyIter_striter_wide st q
 ·have e:strIterType x = "str_ascii_iterator" := by simp [strIterType,ha]
  rw [e]
  exact nq x t it "str_ascii_iterator" rfl (fun A hA=>Walks.strAscii hA it x t) (fun A hA i s Q E st hx q=>wpAny_pyNext_ascii_end hA st hx q) fun A i s Q E st q=>wpAny_pyIter_striter_ascii st q
section
variable {X:Cx} {tg l a b c:Expr} {tl ta tb tc:TE} {pos:Pos}
noncomputable def DG (K:Y1) (tl:TE):TI:=fun σ H R=>tl σ H fun x H1=>(∃ a,x=.ref a/\(∃ xs,SqL K H1 a xs)/\R (Itl K a) H1)\/(∃ a,x=.ref a/\(∃ xs,SqT K H1 a xs)/\R (Itt K a) H1)\/∃ z,x=.str z/\R (Its z) H1
theorem AH (hl:PE X l tl):PI X tg l (DG X.K tl):=by
 intro pins s σ H R I h
 refine thn (hl pins s σ H _ I h) fun v s1 ⟨x,H1,I1,r1,q1⟩=>?_
 have fp1:∀ b∈[s1.heap.objs.size],jB X pins H1 b:=fun b hb=>by
  rw [Zn.mp hb]
  exact I1.fpOk (Zp _) (I1.hok.fresh (Zp _))
 rcases q1 with ⟨a,e,⟨xs,hq⟩,q⟩ | ⟨a,e,⟨xs,hq⟩,q⟩ | ⟨z,e,q⟩
 ·subst e
  cases r1
  obtain ⟨its,rv,p,hz⟩:=I1.list hq
  exact wpAny_pyIter_list p.isList ⟨s1.heap.objs.size,[s1.heap.objs.size],_,_,H1,rfl,I1.kept (t':=s1.toks) fun b o e=>Zi _ e,va a _,⟨_,ZU _ rfl,rfl,rfl⟩,fp1,q⟩
 ·subst e
  cases r1
  obtain ⟨its,rv,p,hz⟩:=I1.tuple hq
  exact wpAny_pyIter_tuple (show s1.heap.IsTuple a its.toArray from p) ⟨s1.heap.objs.size,[s1.heap.objs.size],_,_,H1,rfl,I1.kept (t':=s1.toks) fun b o e=>Zi _ e,rB a _,⟨_,ZU _ rfl,rfl,rfl⟩,fp1,q⟩
 ·subst e
  obtain ⟨t,rfl⟩:=r1
  exact wpAny_pyIter_strU ⟨s1.heap.objs.size,[s1.heap.objs.size],_,_,H1,rfl,I1.kept (t':=s1.toks) fun b o e=>Zi _ e,xj z t _,⟨_,ZU _ rfl,rfl,rfl⟩,fp1,q⟩
theorem sT {s:Shared} {h':Heap} {o:Obj} (hk:∀ b x,b ∉ [s.heap.objs.size]->(s.heap.push o).get? b=some x->h'.get? b=some x) (b:Addr) (x:Obj) (e:s.heap.get? b=some x):h'.get? b=some x :=
 hk b x (fun hm=>YH _ (by have:=ZZ e;rw [Zn.mp hm] at this;exact this)) (Zi _ e)
theorem uZ:OpR X (compareOp .Gt) (fun x y H Q=>∃ i j,x=.str i/\y=.str j/\Q (.bl (decide (j.cps.toList < i.cps.toList))) H):=by
 intro pins s σ H x y v u Q I rx ry h
 obtain ⟨i,j,rfl,rfl,q⟩:=h
 obtain ⟨t,rfl⟩:=rx
 obtain ⟨t',rfl⟩:=ry
 exact PySem.P.gt_str ⟨.bl _,H,I,rfl,q⟩
theorem tX:OpR X (compareOp .GtE) (fun x y H Q=>∃ i j,x=.str i/\y=.str j/\Q (.bl (!decide (i.cps.toList < j.cps.toList))) H):=by
 intro pins s σ H x y v u Q I rx ry h
 obtain ⟨i,j,rfl,rfl,q⟩:=h
 obtain ⟨t,rfl⟩:=rx
 obtain ⟨t',rfl⟩:=ry
 exact PySem.P.ge_str ⟨.bl _,H,I,rfl,q⟩
end
end L2
end
section
namespace VS
open PySem PySem.Spec PyProof.Rows L2
section
variable {G:Gx} {X:Cx} {a b c e tg:Expr} {es:List Expr} {ca cb cc:Ex} {cs:Exs} {pos p p1 p2 apos cpos:Pos} {k k':Nat}
theorem BS (H:Hp) (s:Tx) (ok:jq s):ItOk G (L2.Its (sx s)) (s.map fun c=>T.str [c]) [] H:=by
 have sz:(sx s).cps.size=s.length:=rfl
 refine ⟨fun H2 _ _=>⟨fun i t h=>?_,fun i h=>(by rw [Zv] at h;show (sx s).cps.size<=i;lia)⟩,fun a h=>by simp at h⟩
 rw [ZC] at h
 obtain ⟨c,hc,rfl⟩:=Zl.mp h
 refine ⟨(by show i < (sx s).cps.size;have:=(ZX.mp hc).1;lia),fun x H3 ⟨e1,c',hc',e2⟩=>?_⟩
 subst e1
 have:c'=c:=by
  have h1:(sx s).cps[i]?=some c:=by simp [sx,hc]
  rw [h1] at hc';exact (ZE hc').symm
 subst this
 rw [e2]
 exact ⟨aW.refl _,[],.str [c'] ⟨(by show 1<=ip;decide),fun d hd=>by rw [Zn.mp hd];exact ok.2 c' (YR hc)⟩,fun a h=>by simp at h⟩
theorem AO (ha:PV G X a ca) (hK:X.K=G.K:=by rfl):PVI G X tg a (eT ca) :=
 PI.weak (AH ha) fun σ H R hq=>by
  obtain ⟨Φ,η,m,l,s,e,k⟩:=hq
  unfold eT at e
  obtain ⟨⟨mx,x⟩,ea,e1⟩:=Zz.mp e
  refine ⟨Φ,η,mx,x,s,ea,fun v H' F e3 r3 f3=>?_⟩
  cases x with
  | lst ts =>
   cases e1
   obtain ⟨a',vs,Fs,rfl,rfl,ha',ra⟩:=r3.lst_inv
   exact .inl ⟨a',rfl,⟨vs,SqL.of ha'⟩,k _ H' _ e3 (Ai X.K ha' ra) f3.c⟩
  | tup ts =>
   cases e1
   obtain ⟨a',vs,Fs,rfl,rfl,ha',ra⟩:=r3.tup_inv
   exact .inr (.inl ⟨a',rfl,⟨vs,SqT.of ha'⟩,k _ H' _ e3 (Cy X.K ha' ra) f3.c⟩)
  | str z =>
   cases e1
   obtain ⟨rfl,ok⟩:=r3.str_inv
   exact .inr (.inr ⟨_,rfl,k _ H' [] e3 (BS H' z ok) fun a h=>by simp at h⟩)
  | _=>cases e1
theorem xV:bootBuiltins ("tuple" : Str)=some (.type "tuple"):=by decide +kernel
theorem xn:iE G (fun xs H Q=>∃ p ys,xs=[.ref p]/\((SqL G.K H p ys/\∀ l,H l=none->Q (.ref l) (upd H l (.tup ys)))\/(SqT G.K H p ys/\Q (.ref p) H))) gE:=by
 intro Φ η H0 H l vs Fs m t Q A e k
 unfold gE at e
 split at e
 ·rename_i mx x
  split at e
  ·rename_i hl
   cases e
   obtain ⟨v,F,rfl,rfl,rx⟩:=(show RpL G H vs [.lst x] Fs from A.rp).one
   obtain ⟨a,ys,Gs,rfl,rfl,ha,ra⟩:=rx.lst_inv
   have f:=(A.fp.each 0 _ _ rfl rfl).sub (YO _ _)
   refine ⟨a,ys,rfl,.inl ⟨SqL.of ha,fun q hq=>?_⟩⟩
   have sm:aW H (upd H q (.tup ys)):=cJ hq
   have r:Rp G (upd H q (.tup ys)) (.ref q) (.tup x) Gs.flatten:=.tup aK (ra.same sm)
   exact k _ _ _ sm r (f.up r)
  ·cases e
 ·cases e
theorem zV (hm:X.mg "tuple" = none) (ha:PVs G X [e] cs) (hg:Gl X "tuple" := by rfl) (hK:X.K=G.K:=by rfl) (he:starEach [e] X.env=(false,eval e X.env) :: starEach [] X.env:=by rfl):PV G X (.Call (.Name "tuple" p) [e] [] pos) (eN gE cs) :=
 kj mU (hK ▸ xn) hg hm xV ha (he:=he) (hpl:=rfl)
noncomputable def rGt:R2:=fun x y H Q=>rI0 (fun i j=>.bl (decide (j < i))) x y H Q\/(∃ i j,x=.str i/\y=.str j/\Q (.bl (decide (j.cps.toList < i.cps.toList))) H)
noncomputable def rGe:R2:=fun x y H Q=>rI0 (fun i j=>.bl (decide (j<=i))) x y H Q\/(∃ i j,x=.str i/\y=.str j/\Q (.bl (!decide (i.cps.toList < j.cps.toList))) H)
theorem xW (s t:Tx):decide ((sx s).cps.toList < (sx t).cps.toList)=ltx s t:=by rw [mE];exact decide_eq_decide.mpr (by simp [sx])
theorem Fz:gz G rGt oGt:=by
 intro Φ η H0 H x y u w F1 F2 m t Q tw e k
 obtain ⟨m1,x⟩:=x
 obtain ⟨m2,y⟩:=y
 obtain ⟨same,r1,r2,f1,f2,nd⟩:=tw
 unfold oGt oLt at e
 split at e
 ·rename_i e1 e2
  cases e1
  cases e2
  cases e
  exact .inl ⟨_,_,r1.int_inv,r2.int_inv,bJ k (.bl _)⟩
 ·rename_i s _ s' e1 e2
  cases e1
  cases e2
  cases e
  refine .inr ⟨_,_,r1.str_inv.1,r2.str_inv.1,?_⟩
  rw [xW]
  exact bJ k (.bl _)
 ·cases e
theorem DJ:gz G rGe oGe:=by
 intro Φ η H0 H x y u w F1 F2 m t Q tw e k
 obtain ⟨m1,x⟩:=x
 obtain ⟨m2,y⟩:=y
 obtain ⟨same,r1,r2,f1,f2,nd⟩:=tw
 unfold oGe oLe at e
 split at e
 ·rename_i e1 e2
  cases e1
  cases e2
  cases e
  exact .inl ⟨_,_,r1.int_inv,r2.int_inv,bJ k (.bl _)⟩
 ·rename_i s _ s' e1 e2
  cases e1
  cases e2
  cases e
  refine .inr ⟨_,_,r1.str_inv.1,r2.str_inv.1,?_⟩
  rw [xW]
  exact bJ k (.bl _)
 ·cases e
theorem xw:Tells oGt:=fun x y m t e=>mD y x m t e
theorem xb:Tells oGe:=fun x y m t e=>wm y x m t e
theorem EO (ha:PV G X a ca) (hb:PV G X b cb):PVT G X (.Compare a [.Gt] [b] pos) (e2 oGt ca cb):=iA (r:=rGt) (FC.or uZ) Fz xw ha hb (kl _)
theorem Eh (ha:PV G X a ca) (hb:PV G X b cb):PVT G X (.Compare a [.GtE] [b] pos) (e2 oGe ca cb):=iA (r:=rGe) (Fl.or tX) DJ xb ha hb (kl _)
theorem xM {r r':R2} {f g:Val->Val->Vh} (ok:gz G r f) (ok':gz G r' g) {σ:L2.St} {H:Hp} {Q:VK} (h:tE G (ij f g ca cb cc) σ H Q):yG r r' (tE G ca) (tE G cb) (tE G cc) σ H Q:=by
 obtain ⟨Φ,η,m,t,s,e,k⟩:=h
 unfold ij at e
 obtain ⟨x,ea,e⟩:=Zz.mp e
 obtain ⟨y,eb,e⟩:=Zz.mp e
 obtain ⟨⟨mz,z⟩,ez,e⟩:=Zz.mp e
 refine wO s ea eb fun u w H2 F1 F2 tw=>ok Φ η H H2 x y u w F1 F2 mz z _ tw ez fun v H3 F e1 r1 f1=>?_
 cases z with
 | bl q =>
  refine ⟨q,r1.bl_inv,?_⟩
  cases q with
  | false =>
   cases e
   rw [Zq Zh]
   exact k _ H3 [] (tw.same.trans e1) (.bl false) Fp.nil
  | true =>
   rw [Zr rfl]
   obtain ⟨z2,ec,e⟩:=Zz.mp (show (cc η).bind (fun z=>g y z)=some (m,t) from e)
   have sm:=tw.same.trans e1
   refine ⟨Φ,η,z2.1,z2.2,s.same sm,ec,fun w2 H4 F4 e4 r4 f4=>?_⟩
   refine ok' Φ η H H4 y z2 w w2 F2 F4 m t Q ⟨sm.trans e4,(tw.r2.same e1).same e4,r4,tw.f2,f4.back sm,fun hx hy=>?_⟩ e fun v' H5 F5 e5 r5 f5=>k v' H5 F5 ((sm.trans e4).trans e5) r5 f5
   have f2:=tw.f2
   rw [hx] at f2
   rw [hy] at f4
   refine ZF.mpr ⟨f2.1,f4.1,fun a ha b hb z=>?_⟩
   subst z
   exact Mut.ne_none ((tw.r2.same e1).dom a ha) (f4.2 a hb)
 | _=>cases e
end
end VS
end
section
namespace L2
open PySem PySem.Spec PyProof.Rows
section
variable {X:Cx}
theorem uG {α:Type} (l:List α) (n:Nat):∀ acc:List α,List.foldl (fun x1 x2=>x1++x2) acc.toArray (List.replicate n l.toArray)=(acc++(List.replicate n l).flatten).toArray:=by
 induction n with
 | zero=>intro acc;simp
 | succ n ih =>
  intro acc
  rw [Ws,XM]
  have e:acc.toArray++l.toArray=(acc++l).toArray:=by simp
  rw [e,ih (acc++l),Ws,Ze,Zf]
theorem yT:OpR X (binaryOp .Mult) (fun x y H Q=>∃ (l:Vm) (k:Int),x=.str ⟨l.toArray⟩/\y=.int k/\-(2 ^ 62)<=k/\k < 2 ^ 62/\l.length * k.toNat<=sizeLine/\Q (.str ⟨(List.replicate k.toNat l).flatten.toArray⟩) H):=by
 intro pins s σ H x y v u Q I rx ry h
 obtain ⟨l,k,rfl,rfl,h1,h2,hz,q⟩:=h
 obtain ⟨t,rfl⟩:=rx
 obtain ⟨t',rfl⟩:=ry
 have hlen:(⟨l.toArray⟩:Str).length=l.length:=rfl
 refine PySem.P.mul_str ?_ ?_ ?_ ?_
 ·rw [Bool.or_eq_false_iff]
  exact ⟨ZP (by lia),ZP (by lia)⟩
 ·intro h3 _ hh
  rw [hlen] at hh
  have hk:0 < k:=by lia
  have:(l.length:Int) * k<=16777216:=by
   have hz':l.length * k.toNat<=16777216:=hz
   have:((l.length * k.toNat:Nat):Int)<=16777216:=by lia
   rw [Int.natCast_mul] at this
   rwa [Int.toNat_of_nonneg (by lia)] at this
  have h5:(l.length:Int) * k<=2 ^ 63 - 1:=by lia
  have:=(Int.le_ediv_iff_mul_le hk).mpr h5
  lia
 ·intro _ _
  rw [hlen]
  exact ZP (by show ¬ _ > _;exact Nat.not_lt.mpr hz)
 ·by_cases h3:k < 1
  ·rw [Zr h3]
   have e:k.toNat=0:=by lia
   rw [e] at q
   exact ⟨by decide,⟨.str ⟨#[]⟩,H,I.tok _,⟨_,rfl⟩,q⟩⟩
  ·rw [Zq h3]
   split
   ·rename_i hc
    have e:(List.replicate k.toNat l).flatten=l:=by
     rw [Bool.or_eq_true] at hc
     rcases hc with hc | hc
     ·have:k=1:=by simpa using hc
      subst this
      show (List.replicate 1 l).flatten=l
      simp
     ·have:l=[]:=by
       rw [hlen] at hc
       exact Wz (by simpa using hc)
      subst this
      simp
    rw [e] at q
    exact ⟨.str ⟨l.toArray⟩,H,I,⟨t,rfl⟩,q⟩
   ·have e:=uG l k.toNat []
    rw [Yr] at e
    rw [show (⟨l.toArray⟩:Str).cps=l.toArray from rfl,e]
    refine ⟨?_,⟨.str ⟨(List.replicate k.toNat l).flatten.toArray⟩,H,I.tok _,⟨s.toks,rfl⟩,q⟩⟩
    have hl:=len_rep l k.toNat
    show (⟨(List.replicate k.toNat l).flatten.toArray⟩:Str).length<=sizeLine
    show ((List.replicate k.toNat l).flatten.toArray).size<=sizeLine
    rw [Zd,hl,Nat.mul_comm]
    exact hz
end
end L2
namespace VS
open PySem PySem.Spec PyProof.Rows L2
section
variable {G:Gx} {X:Cx} {a b c e tg:Expr} {es:List Expr} {ca cb cc:Ex} {cs:Exs} {pos p p1 p2 apos cpos:Pos} {k k':Nat}
theorem Ao:gz G (fun x y H Q=>∃ (l:Vm) (k:Int),x=.str ⟨l.toArray⟩/\y=.int k/\-(2 ^ 62)<=k/\k < 2 ^ 62/\l.length * k.toNat<=sizeLine/\Q (.str ⟨(List.replicate k.toNat l).flatten.toArray⟩) H) lY:=by
 intro Φ η H0 H x y u w F1 F2 m t Q tw e k
 obtain ⟨m1,x⟩:=x
 obtain ⟨m2,y⟩:=y
 obtain ⟨same,r1,r2,f1,f2,nd⟩:=tw
 unfold lY at e
 split at e
 ·rename_i _ ts _ j e1 e2
  cases e1
  cases e2
  split at e
  ·rename_i hc
   cases e
   have b1:=hc.2.1
   have b2:=hc.2.2
   unfold B62 at b1 b2
   refine ⟨ts,j,r1.str_inv.1,r2.int_inv,by lia,by lia,hc.1,bJ k (.str _ ⟨?_,fun c hc'=>?_⟩)⟩
   ·rw [len_rep,Nat.mul_comm];exact hc.1
   ·obtain ⟨x,hx,hcx⟩:=WS.mp hc'
    rw [(List.mem_replicate.mp hx).2] at hcx
    exact r1.str_inv.2.2 c hcx
  ·cases e
 ·cases e
theorem CO (ha:PV G X a ca) (hb:PV G X b cb):PV G X (.BinOp a .Mult b pos) (e2 lY ca cb):=nH yT Ao ha hb
theorem Do:PV G X (.Dict [] [] pos) (lE 0 []):=PE.weak yo fun σ H Q hq=>by
 obtain ⟨Φ,η,m,t,s,e,k⟩:=hq
 cases (show some (Md.fr,T.dct 0 [])=some (m,t) from e)
 intro q hq
 have:Rp G (upd H q (.dK [])) (.ref q) (.dct 0 ((([]:List Key).map aR).zip [])) (q :: ([]:Yg).flatten):=.dct aK rfl .nil
 exact k _ _ [q] (cJ hq) this ⟨by simp,fun b hb=>by rw [Zn.mp hb];exact hq⟩
end
section
variable {G:Gx} {X:Cx} {a b c e tg:Expr} {es:List Expr} {ca cb cc ce:Ex} {cs:Exs} {pos p p1 p2 apos cpos pos':Pos} {k k':Nat}
theorem tW {body:List Stmt} {cb:Sx} (hp:PassesOwn (model X.prog X.w) X.A X.env X.xe) (hc:PVT G X c cc) (hb:fI G X body cb):PSV G X (.While c body [] pos) (qZ cc cb) :=
 PS.weak (wU hp hc hb) fun D σ H hq=>by
  obtain ⟨Φ,η,o,s,e,k⟩:=hq
  refine ⟨fun n σ2 H2=>∃ Φ2 η2,SR G Φ2 η2 σ2 H2/\Frm Φ η H Φ2 η2 H2/\eu cc cb n η2=some o,⟨ER,Φ,η,s,Frm.refl Φ η H,e⟩,?_⟩
  rintro n σ2 H2 ⟨Φ2,η2,s2,f2,e2⟩
  cases n with
  | zero=>cases (show (none:Option Out)=some o from e2)
  | succ n =>
   rw [eu] at e2
   obtain ⟨⟨mx,x⟩,ex,e3⟩:=Zz.mp e2
   obtain ⟨t,et,e4⟩:=Zz.mp e3
   refine ⟨Φ2,η2,mx,x,t,s2,ex,et,fun H3 sm=>?_⟩
   have s3:=s2.same sm
   have f3:Frm Φ η H Φ2 η2 H3:=f2.trans (Frm.same sm)
   cases t with
   | false =>
    rw [Zq Zh] at e4
    cases e4
    show if false=true then _ else _
    rw [Zq Zh]
    exact k Φ2 σ2 H3 s3 f3
   | true =>
    rw [Zr rfl] at e4
    show if true=true then _ else _
    rw [Zr rfl]
    obtain ⟨o',e5,e6⟩:=Zz.mp e4
    refine ⟨fun σ4 H4=>∃ Φ4 η4,SR G Φ4 η4 σ4 H4/\Frm Φ η H Φ4 η4 H4/\eu cc cb n η4=some o,fun σ4 H4 q=>⟨n,WT n,q⟩,Φ2,η2,o',s3,e5,?_⟩
    cases o' with
    | nx η4=>exact fun Φ4 σ4 H4 s5 fb=>⟨Φ4,η4,s5,f3.trans fb,e6⟩
    | ct η4=>exact fun Φ4 σ4 H4 s5 fb=>⟨Φ4,η4,s5,f3.trans fb,e6⟩
    | bk η4 =>
     cases (show some (Out.nx η4)=some o from e6)
     exact fun Φ4 σ4 H4 s5 fb=>k Φ4 σ4 H4 s5 (f3.trans fb)
    | rt v η4 =>
     cases (show some (Out.rt v η4)=some o from e6)
     exact fun u H4 F4 Φ4 σ4 s5 fb r5 q5=>k u H4 F4 Φ4 σ4 s5 (f3.trans fb) r5 (q5.back f3)
noncomputable def sNo:Sx:=fun _=>none
theorem BH {st:Stmt}:PSV G X st sNo:=fun pins s σ H D I ⟨_,_,_,_,e,_⟩=>nomatch (show (none:Option Out)=some _ from e)
theorem jc {H:Hp} {v:V} {l:List (T×T)} {F:Xb} (r:Rp G H v (.dct 0 l) F):∃ (a:Addr) (ks:List Key) (vs:List V) (ts:Vg) (Fs:Yg),v=.ref a/\F=a :: Fs.flatten/\H a=some (.dK (ks.zip vs))/\ks.length=vs.length/\l=(ks.map aR).zip ts/\RpL G H vs ts Fs:=by
 cases r with
 | dct h hl q=>exact ⟨_,_,_,_,_,rfl,rfl,h,hl,rfl,q⟩
theorem fX {H:Hp} {v:V} {t:T} {F:Xb} (r:Rp G H v t F) (h:gP t=true):∃ k:Key,v=kV k/\t=aR k:=by
 cases t with
 | int i=>exact ⟨.inl i,r.int_inv,rfl⟩
 | str s=>exact ⟨.inr (sx s),r.str_inv.1,by simp [aR,sx]⟩
 | _=>cases h
theorem lj {H:Hp} {k:Key}:∀ {ks:List Key} {vs:List V} {ts:Vg} {Fs:Yg},ks.length=vs.length->RpL G H vs ts Fs →
  (bS ((ks.map aR).zip ts) (aR k)=none/\cH (ks.zip vs) k=none)\/∃ (i:Nat) (v:V) (t:T) (F:Xb),bS ((ks.map aR).zip ts) (aR k)=some t/\cH (ks.zip vs) k=some v/\vs[i]?=some v/\Fs[i]?=some F/\Rp G H v t F
 | [],[],_,_,_,.nil=>.inl ⟨rfl,rfl⟩
 | k' :: ks,v :: vs,_,_,hl,.cons (t:=t) (F:=F) (ts:=ts) (Fs:=Fs) r q=>by
  have e:eqT (aR k') (aR k)=decide (k'=k):=by
   rw [Bool.eq_iff_iff,decide_eq_true_eq]
   cases k with
   | inl i=>cases k' <;> simp [aR]
   | inr x =>
    obtain ⟨⟨x⟩⟩:=x
    cases k' with
    | inl j=>simp [aR]
    | inr y=>obtain ⟨⟨y⟩⟩:=y;simp [aR]
  by_cases hk:k'=k
  ·refine .inr ⟨0,v,t,F,?_,cp hk,rfl,rfl,r⟩
   have e':eqT (aR k') (aR k)=true:=by rw [e];exact decide_eq_true hk
   simp only [bS,Zt,ZI,Yu,e']
   rfl
  ·have h1:bS (((k' :: ks).map aR).zip (t :: ts)) (aR k)=bS ((ks.map aR).zip ts) (aR k):=by
    have e':eqT (aR k') (aR k)=false:=by rw [e];exact ZP hk
    simp only [bS,Zt,ZI,Yu,e']
   have h2:cH ((k' :: ks).zip (v :: vs)) k=cH (ks.zip vs) k:=by simp [cH,hk]
   rw [h1,h2]
   rcases lj (k:=k) (by simpa using hl) q with h | ⟨i,v',t',F',a1,a2,a3,a4,a5⟩
   ·exact .inl h
   ·exact .inr ⟨i+1,v',t',F',a1,a2,by simpa using a3,by simpa using a4,a5⟩
theorem Ar (hu:X.A.units+1 < cLine):IxR X (fun x y H Q=>∃ a v,x=.ref a/\jF H a y (some v)/\Q v H):=by
 intro value slice pins s σ H x y v u Q I rx ry h hs
 obtain ⟨a,w,rfl,g,q⟩:=h
 cases rx
 have hT:=pN I g
 unfold subscriptTail
 refine Zy ?_
 rw [getitemInPython_of_ne hT.not_modules]
 refine Zy (Xh hT PySem.F.slot_dict_getitem.lookup ?_)
 have fin:wpAny (model X.prog X.w) X.A (subscripted slice false (.ref a) u) (fun r s₃=>wpAny (model X.prog X.w) X.A (letTemporaryGo value (.ref a) r >>= fun _=>pure r) (EP X pins σ Q) X.xe s₃) X.xe s:=by
  rw [hs]
  exact wpAny_operating (uA hu I g ry fun w' s3 I3 rw'=>Zy (wpAny_letTemporaryGo (Zs ⟨w,H,I3,rw',q⟩)))
 first
  | exact Zs (Zy fin)
  | exact Zy (Zs (Zy fin))
  | exact Zy fin
noncomputable def F6 (K:Y1):R2:=fun x y H Q=>rIx K x y H Q\/∃ a v,x=.ref a/\jF H a y (some v)/\Q v H
theorem EK:gz G (F6 G.K) oIx:=by
 intro Φ η H0 H x y u w F1 F2 m t Q tw e k
 obtain ⟨m1,x⟩:=x
 by_cases hd:∃ l,x=.dct 0 l
 ·obtain ⟨l,rfl⟩:=hd
  simp only [oIx] at e
  split at e
  ·rename_i hk
   obtain ⟨t',e1,e2⟩:=Zl.mp e
   obtain ⟨a,ks,vs,ts,Fs,rfl,rfl,ha,hl,rfl,q⟩:=jc tw.r1
   obtain ⟨kk,rfl,ek⟩:=fX tw.r2 hk
   rw [ek] at e1
   rcases lj (k:=kk) hl q with ⟨h1,_⟩ | ⟨i,v,t2,F,a1,a2,a3,a4,a5⟩
   ·rw [h1] at e1;cases e1
   ·rw [a1] at e1
    cases e1
    cases e2
    refine .inr ⟨a,v,rfl,by rw [← a2];exact jF.k ha,?_⟩
    have f:=((tw.f1.sub (YO _ _)).sub (fS a4)).up a5
    exact k v H F (aW.refl _) a5 f
  ·cases e
 ·have e':bh (m1,x) y=some (m,t):=by
   simp only [oIx] at e
   split at e
   ·rename_i l hx
    exact absurd ⟨_,rfl⟩ hd
   ·exact e
  exact .inl (yc Φ η H0 H (m1,x) y u w F1 F2 m t Q tw e' k)
theorem FM (hr:Room k X.A) (ha:PV G X a ca) (hb:PV G X b cb) (hs:fM b:=by intro _ _;rfl) (hK:X.K=G.K:=by rfl):PV G X (.Subscript a b pos) (e2 oIx ca cb) :=
 PE.weak (tU (IxR.or yA (Ar (sO hr))) ha hb hs) fun σ H Q h=>by rw [hK];exact lO EK h
noncomputable def fV:T->V
 | .bl b=>.bl b
 | .int i=>.int i
 | .str s=>.str (sx s)
 | _=>.non
theorem Bv {H:Hp} {v:V} {t:T} {F:Xb} (r:Rp G H v t F) (h:flat t=true):v=fV t/\fG v=true:=by
 cases r with
 | non=>exact ⟨rfl,rfl⟩
 | bl b=>exact ⟨rfl,rfl⟩
 | int i=>exact ⟨rfl,rfl⟩
 | str s hl=>exact ⟨rfl,rfl⟩
 | _=>cases h
theorem DV:∀ {t u:T},flat t=true->flat u=true->eqV (fV t) (fV u)=eqT t u
 | .non,.non,_,_=>rfl
 | .non,.bl _,_,_=>rfl
 | .non,.int _,_,_=>rfl
 | .non,.str _,_,_=>rfl
 | .bl _,.non,_,_=>rfl
 | .bl _,.bl _,_,_=>rfl
 | .bl _,.int _,_,_=>rfl
 | .bl _,.str _,_,_=>rfl
 | .int _,.non,_,_=>rfl
 | .int _,.bl _,_,_=>rfl
 | .int _,.int _,_,_=>rfl
 | .int _,.str _,_,_=>rfl
 | .str _,.non,_,_=>rfl
 | .str _,.bl _,_,_=>rfl
 | .str _,.int _,_,_=>rfl
 | .str _,.str _,_,_=>yq
theorem xS {H:Hp} {v w:V} {t u:T} {F F':Xb} (r:Rp G H v t F) (r':Rp G H w u F') (h1:flat t=true) (h2:flat u=true):eqV v w=eqT t u/\fG v=true/\fG w=true:=by
 obtain ⟨e1,f1⟩:=Bv r h1
 obtain ⟨e2,f2⟩:=Bv r' h2
 refine ⟨?_,f1,f2⟩
 rw [e1,e2]
 exact DV h1 h2
theorem o5 {H:Hp} {x:V} {t:T} {F:Xb} (r:Rp G H x t F) (hx:flat t=true):∀ {vs:List V} {ts:Vg} {Fs:Yg},RpL G H vs ts Fs->ts.all flat=true->vs.all fG=true/\inV x vs=ts.any fun y=>eqT y t
 | _,_,_,.nil,_=>⟨rfl,rfl⟩
 | _,_,_,.cons r' q,h=>by
  rw [X6,Yq] at h
  obtain ⟨h1,h2⟩:=o5 r hx q h.2
  obtain ⟨e1,e2,e3⟩:=xS r' r h.1 hx
  refine ⟨by rw [X6,e2,h1];rfl,?_⟩
  unfold inV at h2 ⊢
  rw [Y9,Y9,h2,e1]
noncomputable def E4 (K:Y1):R2:=fun x y H Q=>rIn K false x y H Q\/∃ a o,y=.ref a/\jF H a x o/\Q (.bl o.isSome) H
noncomputable def tK (K:Y1):R2:=fun x y H Q=>rIn K true x y H Q\/∃ a o,y=.ref a/\jF H a x o/\Q (.bl (!o.isSome)) H
theorem Ag (hu:X.A.units+1 < cLine):OpR X (compareOp .In) (fun x y H Q=>∃ a o,y=.ref a/\jF H a x o/\Q (.bl o.isSome) H):=by
 intro pins s σ H x y v u Q I rx ry h
 obtain ⟨a,o,rfl,g,q⟩:=h
 cases ry
 exact FF hu I g rx fun s3 I3=>⟨.bl o.isSome,H,I3,rfl,q⟩
theorem wI (hu:X.A.units+1 < cLine):OpR X (compareOp .NotIn) (fun x y H Q=>∃ a o,y=.ref a/\jF H a x o/\Q (.bl (!o.isSome)) H):=by
 intro pins s σ H x y v u Q I rx ry h
 obtain ⟨a,o,rfl,g,q⟩:=h
 cases ry
 exact zW hu I g rx fun s3 I3=>⟨.bl (!o.isSome),H,I3,rfl,q⟩
theorem qf {Φ:Fps} {η:VS.Env} {H0 H:Hp} {x y:Val} {u w:V} {F1 F2:Xb} {m:Md} {t:T} (tw:Two G Φ η H0 H x y u w F1 F2) (e:lH x y=some (m,t)) :
  ∃ b,m=.fr/\t=.bl b/\((∃ p xs,w=.ref p/\(SqL G.K H p xs\/SqT G.K H p xs)/\fG u=true/\xs.all fG=true/\inV u xs=b)\/∃ a o,w=.ref a/\jF H a u o/\o.isSome=b):=by
 obtain ⟨m2,y⟩:=y
 simp only [lH] at e
 split at e
 ·split at e
  ·rename_i hk
   cases e
   obtain ⟨a,ks,vs,ts,Fs,rfl,rfl,ha,hl,rfl,q⟩:=jc tw.r2
   obtain ⟨kk,rfl,ek⟩:=fX tw.r1 hk
   refine ⟨_,rfl,rfl,.inr ⟨a,cH (ks.zip vs) kk,rfl,jF.k ha,?_⟩⟩
   rw [ek]
   rcases lj (k:=kk) hl q with ⟨h1,h2⟩ | ⟨i,v,t2,F,a1,a2,_⟩
   ·rw [h1,h2];rfl
   ·rw [a1,a2];rfl
  ·cases e
 ·split at e
  ·rename_i hk
   cases e
   rw [Yq] at hk
   obtain ⟨a,vs,Fs,rfl,rfl,ha,ra⟩:=tw.r2.lst_inv
   obtain ⟨h1,h2⟩:=o5 tw.r1 hk.1 ra hk.2
   have hf:fG u=true:=(xS tw.r1 tw.r1 hk.1 hk.1).2.1
   exact ⟨_,rfl,rfl,.inl ⟨a,vs,rfl,.inl (SqL.of ha),hf,h1,h2⟩⟩
  ·cases e
 ·split at e
  ·rename_i hk
   cases e
   rw [Yq] at hk
   obtain ⟨a,vs,Fs,rfl,rfl,ha,ra⟩:=tw.r2.tup_inv
   obtain ⟨h1,h2⟩:=o5 tw.r1 hk.1 ra hk.2
   have hf:fG u=true:=(xS tw.r1 tw.r1 hk.1 hk.1).2.1
   exact ⟨_,rfl,rfl,.inl ⟨a,vs,rfl,.inr (SqT.of ha),hf,h1,h2⟩⟩
  ·cases e
 ·cases e
theorem E9:gz G (E4 G.K) lH:=by
 intro Φ η H0 H x y u w F1 F2 m t Q tw e k
 obtain ⟨b,rfl,rfl,h⟩:=qf tw e
 rcases h with ⟨p,xs,rfl,hq,f1,f2,hb⟩ | ⟨a,o,rfl,g,hb⟩
 ·refine .inl ⟨p,xs,rfl,hq,f1,f2,?_⟩
  rw [hb]
  exact bJ k (.bl b)
 ·refine .inr ⟨a,o,rfl,g,?_⟩
  rw [hb]
  exact bJ k (.bl b)
theorem CK:gz G (tK G.K) fJ:=by
 intro Φ η H0 H x y u w F1 F2 m t Q tw e k
 unfold fJ at e
 split at e
 ·rename_i m' b' e'
  cases e
  obtain ⟨b,rfl,hb',h⟩:=qf tw e'
  cases hb'
  rcases h with ⟨p,xs,rfl,hq,f1,f2,hb⟩ | ⟨a,o,rfl,g,hb⟩
  ·refine .inl ⟨p,xs,rfl,hq,f1,f2,?_⟩
   rw [hb]
   exact bJ k (.bl (!b'))
  ·refine .inr ⟨a,o,rfl,g,?_⟩
   rw [hb]
   exact bJ k (.bl (!b'))
 ·cases e
theorem vO:Tells lH:=by
 intro x y m t e
 simp only [lH] at e
 split at e
 all_goals first | (split at e <;> first | (cases e;exact ⟨_,rfl⟩) | cases e) | cases e
theorem t8:Tells fJ:=by
 intro x y m t e
 unfold fJ at e
 split at e
 ·cases e;exact ⟨_,rfl⟩
 ·cases e
theorem Fq (hr:Room k X.A) (ha:PV G X a ca) (hb:PV G X b cb) (hm:behindInMarks .In b=false:=by with_unfolding_all rfl) (hK:X.K=G.K:=by rfl):PVT G X (.Compare a [.In] [b] pos) (e2 lH ca cb):=iA (r:=E4 X.K) (uC.or (Ag (sO hr))) (hK ▸ E9) vO ha hb hm
theorem CM (hr:Room k X.A) (ha:PV G X a ca) (hb:PV G X b cb) (hm:behindInMarks .NotIn b=false:=by with_unfolding_all rfl) (hK:X.K=G.K:=by rfl):PVT G X (.Compare a [.NotIn] [b] pos) (e2 fJ ca cb):=iA (r:=tK X.K) (oe.or (wI (sO hr))) (hK ▸ CK) t8 ha hb hm
end
end VS
end
section
open PySem PyProof.Rows
namespace TS
noncomputable def oS:Bool->Keyed->Array Keyed->Nat->Nat->Nat->StateT SortSt Sem (Option Nat):=sortPriv% PySem.Builtin.gallop
noncomputable def lJ:Array Keyed->Array Keyed->StateT SortSt Sem (Array Keyed):=sortPriv% PySem.Builtin.mergeLo
noncomputable def mJ:Array Keyed->Array Keyed->StateT SortSt Sem (Array Keyed):=sortPriv% PySem.Builtin.mergeHi
theorem all2 {A0 A1:Type} {P:A0×A1->Prop} (h:∀ a0 a1,P (a0,a1)):∀ x,P x:=fun (a0,a1)=>h a0 a1
theorem iH {A0 A1 A2:Type} {P:A0×A1×A2->Prop} (h:∀ a0 a1 a2,P (a0,a1,a2)):∀ x,P x:=fun (a0,a1,a2)=>h a0 a1 a2
theorem uU {A0 A1 A2 A3 A4:Type} {P:A0×A1×A2×A3×A4->Prop} (h:∀ a0 a1 a2 a3 a4,P (a0,a1,a2,a3,a4)):∀ x,P x:=fun (a0,a1,a2,a3,a4)=>h a0 a1 a2 a3 a4
theorem qr {A0 A1 A2 A3 A4 A5:Type} {P:A0×A1×A2×A3×A4×A5->Prop} (h:∀ a0 a1 a2 a3 a4 a5,P (a0,a1,a2,a3,a4,a5)):∀ x,P x:=fun (a0,a1,a2,a3,a4,a5)=>h a0 a1 a2 a3 a4 a5
theorem yM {A0 A1 A2 A3 A4 A5 A6:Type} {P:A0×A1×A2×A3×A4×A5×A6->Prop} (h:∀ a0 a1 a2 a3 a4 a5 a6,P (a0,a1,a2,a3,a4,a5,a6)):∀ x,P x:=fun (a0,a1,a2,a3,a4,a5,a6)=>h a0 a1 a2 a3 a4 a5 a6
variable {prog:Program} {w:World} {A:Around} {E:Z8} {s:Shared}
structure Cmp (prog:Program) (w:World) (A:Around) (E:Z8) (s:Shared) (κ:SortKind) (G:Keyed->Prop) (r:Keyed->Keyed->Bool):Prop where
 run:∀ (st:SortSt) (x y:Keyed) (Q:Option Bool->SortSt->Prop),kindOf st=κ->G x->G y->Q (some (r x y)) st->wpS (model prog w) A E s (lt' x y) Q st
 asym:∀ x y,G x->G y->r x y=true->r y x=false
 trans:∀ x y z,G x->G y->G z->r y x=false->r z y=false->r z x=false
variable {κ:SortKind} {G:Keyed->Prop} {r:Keyed->Keyed->Bool}
noncomputable def le (r:Keyed->Keyed->Bool) (x y:Keyed):Prop:=r y x=false
theorem d8 {arr:Array Keyed} {i:Nat} {Q:Keyed->SortSt->Prop} {st:SortSt} (hi:i < arr.size) (h:Q arr[i] st):wpS (model prog w) A E s (elem' arr i) Q st:=by
 rw [elem'_eq,getElem?_pos arr i hi]
 exact Zk h
noncomputable def bey (r:Keyed->Keyed->Bool) (left:Bool) (key x:Keyed):Bool:=if left then r x key else !(r key x)
noncomputable def bf (left:Bool) (key:Keyed) (arr:Array Keyed) (i:Nat):StateT SortSt Sem (Option Bool):=do
 let x ← elem' arr i
 if left=true then lt' x key else do
  let l ← lt' key x
  pure (Option.map (fun x=>!x) l)
theorem jN (C:Cmp prog w A E s κ G r) {left:Bool} {key:Keyed} {arr:Array Keyed} {i:Nat} {Q:Option Bool->SortSt->Prop} {st:SortSt} (hk:kindOf st=κ) (gk:G key) (ga:∀ x∈arr,G x)
  (hi:i < arr.size) (h:Q (some (bey r left key arr[i])) st) :
  wpS (model prog w) A E s (bf left key arr i) Q st:=by
 unfold bf
 refine Za (d8 hi ?_)
 have g:=ga _ (Zg hi)
 cases left with
 | true=>exact C.run st _ _ _ hk g gk h
 | false=>exact Za (C.run st _ _ _ hk gk g (Zk h))
theorem rN (C:Cmp prog w A E s κ G r) {left:Bool} {key:Keyed} {arr:Array Keyed} {base n hint:Nat} {Q:Option Nat->SortSt->Prop} {st:SortSt} (hk:kindOf st=κ) (gk:G key) (ga:∀ x∈arr,G x)
  (hb:base+n<=arr.size) (hh:hint < n) (mono:∀ i j (hi:base+i < arr.size) (hj:base+j < arr.size),i<=j->j < n->bey r left key arr[base+j]=true->bey r left key arr[base+i]=true)
  (h:∀ k,k<=n->(∀ i (hi:base+i < arr.size),i < k->bey r left key arr[base+i]=true)->(∀ i (hi:base+i < arr.size),k<=i->i < n->bey r left key arr[base+i]=false)->Q (some k) st) :
  wpS (model prog w) A E s (oS left key arr base n hint) Q st:=by
 obtain ⟨f,fe⟩:∃ f:Nat->Bool,∀ i (hi:base+i < arr.size),f i=bey r left key arr[base+i]:=⟨fun i=>if hi:base+i < arr.size then bey r left key arr[base+i] else false,fun i hi=>dif_pos hi⟩
 have fm:∀ i j,i<=j->j < n->f j=true->f i=true:=fun i j hij hj e=>by
  rw [fe j (by lia)] at e
  rw [fe i (by lia)]
  exact mono i j (by lia) (by lia) hij hj e
 have fin:∀ k,k<=n->(∀ i,i < k->f i=true)->(∀ i,k<=i->i < n->f i=false)->Q (some k) st:=fun k h1 h2 h3 =>
  h k h1 (fun i hi hik=>by rw [← fe i hi];exact h2 i hik) fun i hi h4 h5=>by rw [← fe i hi];exact h3 i h4 h5
 clear h mono
 unfold oS
 change wpS (model prog w) A E s (_ >>= _) Q st
 dsimp only
 have h0:base+hint < arr.size:=by lia
 refine Za (jN C hk gk ga h0 ?_)
 dsimp only
 rw [← fe _ h0]
 cases e0:f hint with
 | true =>
  rw [Zr rfl]
  refine Za (Y8 (Yk
   (I:=fun x c st'=>st=st'/\c.1=none/\f (hint+c.2.1)=true/\c.2.1 < c.2.2/\hint+c.2.1 < n/\x < c.2.2)
   (Q:=fun c st'=>st=st'/\c.1=none/\f (hint+c.2.1)=true/\c.2.1 < c.2.2/\hint+c.2.1 < n/\(hint+c.2.2 < n->f (hint+c.2.2)=false)) ?step1 ?fin1 ?init1) ?post1)
  case init1=>exact ⟨rfl,rfl,e0,by decide,by dsimp only;omega,by decide⟩
  case fin1 =>
   refine iH fun c1 c2 c3=>?_
   rintro st' ⟨rfl,e1,g1,g2,g3,g4⟩
   dsimp only at *
   exact ⟨rfl,e1,g1,g2,g3,fun z=>by (try dsimp only at z);lia⟩
  case step1 =>
   intro x
   refine iH fun c1 c2 c3=>?_
   rintro st' _ hx ⟨rfl,e1,g1,g2,g3,g4⟩
   dsimp only at *
   split
   ·exact Zk ⟨rfl,rfl,g1,g2,g3,fun z=>by (try dsimp only at z);lia⟩
   ·have hm:base+(hint+c3) < arr.size:=by lia
    refine Za (jN C hk gk ga hm ?_)
    dsimp only
    rw [← fe _ hm]
    cases e:f (hint+c3) with
    | true=>exact Zk ⟨rfl,rfl,e,by dsimp only;lia,by dsimp only;lia,by dsimp only;lia⟩
    | false=>exact Zk ⟨rfl,rfl,g1,g2,g3,fun _=>e⟩
  case post1 =>
   refine iH fun c1 c2 c3=>?_
   rintro st' ⟨rfl,e1,g1,g2,g3,g4⟩
   dsimp only at *
   subst e1
   dsimp only
   have h1:hint+c2+1<=hint+min c3 (n - hint):=by omega
   have h2:hint+min c3 (n - hint)<=n:=by omega
   have h3:∀ i,i < hint+c2+1->f i=true:=fun i hi=>fm i _ (by exact Yf hi) (by omega) g1
   have h4:∀ i,hint+min c3 (n - hint)<=i->i < n->f i=false:=fun i hi hn=>by
    cases e2:f i with
    | false=>rfl
    | true =>
     have:=g4 (by lia)
     rw [fm _ i (by lia) hn e2] at this;cases this
   clear g1 g2 g3 g4
   refine Za (Y8 (Yk
    (I:=fun x c st'=>st=st'/\c.1=none/\c.2.1<=c.2.2/\c.2.2<=n/\(∀ i,i < c.2.1->f i=true)/\(∀ i,c.2.2<=i->i < n->f i=false)/\c.2.2 - c.2.1+x<=n)
    (Q:=fun c st'=>st=st'/\c.1=none/\c.2.1=c.2.2/\c.2.2<=n/\(∀ i,i < c.2.1->f i=true)/\(∀ i,c.2.2<=i->i < n->f i=false)) ?step ?fin ?init) ?post)
   case init=>exact ⟨rfl,rfl,h1,h2,h3,h4,by (try dsimp only);omega⟩
   case fin =>
    refine iH fun c1 c2 c3=>?_
    rintro st' ⟨rfl,e1,g1,g2,g3,g4,g5⟩
    try dsimp only at *
    exact ⟨rfl,e1,by (try dsimp only at *);lia,g2,g3,g4⟩
   case step =>
    intro x
    refine iH fun c1 c2 c3=>?_
    rintro st' _ hx ⟨rfl,e1,g1,g2,g3,g4,g5⟩
    try dsimp only at *
    split
    ·exact Zk ⟨rfl,rfl,by (try dsimp only at *);lia,g2,g3,g4⟩
    ·have hm:base+(c2+(c3 - c2) / 2) < arr.size:=by lia
     refine Za (jN C hk gk ga hm ?_)
     try dsimp only
     rw [← fe _ hm]
     cases e:f (c2+(c3 - c2) / 2) with
     | true =>
      rw [Zr rfl]
      exact Zk ⟨rfl,rfl,by (try dsimp only);lia,g2,fun i hi=>fm i _ (by (try dsimp only at hi);exact Yf hi) (by lia) e,g4,by (try dsimp only);lia⟩
     | false =>
      rw [Zq Zh]
      refine Zk ⟨rfl,rfl,by (try dsimp only);exact ZL _ _,by (try dsimp only);lia,g3,fun i hi hn=>?_,by (try dsimp only);omega⟩
      try dsimp only at hi
      cases e2:f i with
      | false=>rfl
      | true=>rw [fm _ i hi hn e2] at e;cases e
   case post =>
    refine iH fun c1 c2 c3=>?_
    rintro st' ⟨rfl,e1,g1,g2,g3,g4⟩
    try dsimp only at *
    subst e1
    exact Zk (fin c3 g2 (fun i hi=>g3 i (by lia)) g4)
 | false =>
  rw [Zq Zh]
  refine Za (Y8 (Yk
   (I:=fun x c st'=>st=st'/\c.1=none/\f (hint - c.2.1)=false/\c.2.1 < c.2.2/\c.2.1<=hint/\x < c.2.2)
   (Q:=fun c st'=>st=st'/\c.1=none/\f (hint - c.2.1)=false/\c.2.1 < c.2.2/\c.2.1<=hint/\(c.2.2<=hint->f (hint - c.2.2)=true)) ?step1 ?fin1 ?init1) ?post1)
  case init1=>exact ⟨rfl,rfl,e0,by decide,by dsimp only;exact ZS _,by decide⟩
  case fin1 =>
   refine iH fun c1 c2 c3=>?_
   rintro st' ⟨rfl,e1,g1,g2,g3,g4⟩
   dsimp only at *
   exact ⟨rfl,e1,g1,g2,g3,fun z=>by (try dsimp only at z);lia⟩
  case step1 =>
   intro x
   refine iH fun c1 c2 c3=>?_
   rintro st' _ hx ⟨rfl,e1,g1,g2,g3,g4⟩
   dsimp only at *
   split
   ·exact Zk ⟨rfl,rfl,g1,g2,g3,fun z=>by (try dsimp only at z);lia⟩
   ·have hm:base+(hint - c3) < arr.size:=by lia
    refine Za (jN C hk gk ga hm ?_)
    dsimp only
    rw [← fe _ hm]
    cases e:f (hint - c3) with
    | true=>exact Zk ⟨rfl,rfl,g1,g2,g3,fun _=>e⟩
    | false=>exact Zk ⟨rfl,rfl,e,by dsimp only;lia,by dsimp only;lia,by dsimp only;lia⟩
  case post1 =>
   refine iH fun c1 c2 c3=>?_
   rintro st' ⟨rfl,e1,g1,g2,g3,g4⟩
   dsimp only at *
   subst e1
   dsimp only
   have h1:hint+1 - min c3 (hint+1)<=hint - c2:=by omega
   have h2:hint - c2<=n:=by lia
   have h3:∀ i,i < hint+1 - min c3 (hint+1)->f i=true:=fun i hi=>fm i _ (by omega) (by omega) (g4 (by omega))
   have h4:∀ i,hint - c2<=i->i < n->f i=false:=fun i hi hn=>by
    cases e2:f i with
    | false=>rfl
    | true=>rw [fm _ i (by omega) hn e2] at g1;cases g1
   clear g1 g2 g3 g4
   refine Za (Y8 (Yk
    (I:=fun x c st'=>st=st'/\c.1=none/\c.2.1<=c.2.2/\c.2.2<=n/\(∀ i,i < c.2.1->f i=true)/\(∀ i,c.2.2<=i->i < n->f i=false)/\c.2.2 - c.2.1+x<=n)
    (Q:=fun c st'=>st=st'/\c.1=none/\c.2.1=c.2.2/\c.2.2<=n/\(∀ i,i < c.2.1->f i=true)/\(∀ i,c.2.2<=i->i < n->f i=false)) ?step ?fin ?init) ?post)
   case init=>exact ⟨rfl,rfl,h1,h2,h3,h4,by (try dsimp only);omega⟩
   case fin =>
    refine iH fun c1 c2 c3=>?_
    rintro st' ⟨rfl,e1,g1,g2,g3,g4,g5⟩
    try dsimp only at *
    exact ⟨rfl,e1,by (try dsimp only at *);lia,g2,g3,g4⟩
   case step =>
    intro x
    refine iH fun c1 c2 c3=>?_
    rintro st' _ hx ⟨rfl,e1,g1,g2,g3,g4,g5⟩
    try dsimp only at *
    split
    ·exact Zk ⟨rfl,rfl,by (try dsimp only at *);lia,g2,g3,g4⟩
    ·have hm:base+(c2+(c3 - c2) / 2) < arr.size:=by lia
     refine Za (jN C hk gk ga hm ?_)
     try dsimp only
     rw [← fe _ hm]
     cases e:f (c2+(c3 - c2) / 2) with
     | true =>
      rw [Zr rfl]
      exact Zk ⟨rfl,rfl,by (try dsimp only);lia,g2,fun i hi=>fm i _ (by (try dsimp only at hi);exact Yf hi) (by lia) e,g4,by (try dsimp only);lia⟩
     | false =>
      rw [Zq Zh]
      refine Zk ⟨rfl,rfl,by (try dsimp only);exact ZL _ _,by (try dsimp only);lia,g3,fun i hi hn=>?_,by (try dsimp only);omega⟩
      try dsimp only at hi
      cases e2:f i with
      | false=>rfl
      | true=>rw [fm _ i hi hn e2] at e;cases e
   case post =>
    refine iH fun c1 c2 c3=>?_
    rintro st' ⟨rfl,e1,g1,g2,g3,g4⟩
    try dsimp only at *
    subst e1
    exact Zk (fin c3 g2 (fun i hi=>g3 i (by lia)) g4)
end TS
end
section
open PySem PyProof.Rows
namespace TS
variable {prog:Program} {w:World} {A:Around} {E:Z8} {s:Shared} {κ:SortKind} {G:Keyed->Prop} {r:Keyed->Keyed->Bool}
theorem Cmp.refl (C:Cmp prog w A E s κ G r) {x:Keyed} (h:G x):le r x x:=by
 unfold le
 cases e:r x x with
 | false=>rfl
 | true=>exact absurd (C.asym x x h h e) (by rw [e];exact fun z=>nomatch z)
theorem Cmp.tr (C:Cmp prog w A E s κ G r) {x y z:Keyed} (hx:G x) (hy:G y) (hz:G z) (h1:le r x y) (h2:le r y z):le r x z:=C.trans x y z hx hy hz h1 h2
theorem Cmp.le_of (C:Cmp prog w A E s κ G r) {x y:Keyed} (hx:G x) (hy:G y) (h:r x y=true):le r x y:=C.asym x y hx hy h
noncomputable def Seg (r:Keyed->Keyed->Bool) (a:Array Keyed) (lo hi:Nat):Prop:=∀ i j (hi':i < a.size) (hj:j < a.size),lo<=i->i<=j->j < hi->le r a[i] a[j]
theorem gK (C:Cmp prog w A E s κ G r) {left:Bool} {key:Keyed} {arr:Array Keyed} {base n hint:Nat} {Q:Option Nat->SortSt->Prop} {st:SortSt} (hk:kindOf st=κ) (gk:G key) (ga:∀ x∈arr,G x)
  (hb:base+n<=arr.size) (hh:hint < n) (sg:Seg r arr base (base+n))
  (h:∀ k,k<=n->(∀ i (hi:i < arr.size),base<=i->i < base+k->le r arr[i] key)->(∀ i (hi:i < arr.size),base+k<=i->i < base+n->le r key arr[i])->Q (some k) st) :
  wpS (model prog w) A E s (oS left key arr base n hint) Q st:=by
 have g:∀ i (hi:i < arr.size),G arr[i]:=fun i hi=>ga _ (Zg hi)
 refine rN C hk gk ga hb hh (fun i j hi hj hij hjn e=>?_) fun k h1 h2 h3=>h k h1 (fun i hi h4 h5=>?_) fun i hi h4 h5=>?_
 ·have s1:=sg (base+i) (base+j) hi hj (by exact ZL _ _) (by lia) (by lia)
  cases left with
  | true =>
   unfold bey at e ⊢
   rw [Zr rfl] at e ⊢
   cases e2:r arr[base+i] key with
   | true=>rfl
   | false=>rw [show r arr[base+j] key=false from C.tr gk (g _ hi) (g _ hj) e2 s1] at e;cases e
  | false =>
   unfold bey at e ⊢
   rw [Zq Zh] at e ⊢
   have e':r key arr[base+j]=false:=by simpa using e
   have:=C.tr (g _ hi) (g _ hj) gk s1 e'
   rw [show r key arr[base+i]=false from this]
   rfl
 ·have e:=h2 (i - base) (by lia) (by lia)
  have ei:base+(i - base)=i:=by exact Vy h4
  simp only [ei] at e
  cases left with
  | true =>
   unfold bey at e
   rw [Zr rfl] at e
   exact C.le_of (g _ hi) gk e
  | false =>
   unfold bey at e
   rw [Zq Zh] at e
   show r key arr[i]=false
   simpa using e
 ·have e:=h3 (i - base) (by lia) (by lia) (by omega)
  have ei:base+(i - base)=i:=by lia
  simp only [ei] at e
  cases left with
  | true =>
   unfold bey at e
   rw [Zr rfl] at e
   exact e
  | false =>
   unfold bey at e
   rw [Zq Zh] at e
   exact C.le_of gk (g _ hi) (by simpa using e)
theorem pD {a:Array Keyed} {i:Nat} {x:Keyed} (h:x∈a.toList.drop i):∃ j,∃ (hj:j < a.size),i<=j/\a[j]=x:=by
 obtain ⟨k,hk,e⟩:=Ys h
 rw [ZK] at hk
 rw [Xj] at e
 have:i+k < a.size:=by simpa using (by omega:i+k < a.toList.length)
 exact ⟨i+k,this,by exact ZL _ _,by simpa using e⟩
theorem jZ {a:Array Keyed} {i k:Nat} {x:Keyed} (h:x∈(a.toList.drop i).take k):∃ j,∃ (hj:j < a.size),i<=j/\j < i+k/\a[j]=x:=by
 obtain ⟨m,hm,e⟩:=Ys h
 rw [ZO,ZK] at hm
 rw [Xk,Xj] at e
 have:i+m < a.size:=by simpa using (by omega:i+m < a.toList.length)
 exact ⟨i+m,this,by exact ZL _ _,by lia,by simpa using e⟩
theorem sv {a:Array Keyed} {i:Nat} (h:i < a.size):a.toList.drop i=a[i] :: a.toList.drop (i+1):=by
 have:i < a.toList.length:=by simpa using h
 rw [Y4 this]
 simp
theorem iK {a:Array Keyed} (h:Seg r a 0 a.size):a.toList.Pairwise (le r):=by
 rw [Y3]
 intro i j hi hj hij
 simpa using h i j (by simpa using hi) (by simpa using hj) (ZS _) (by exact ZQ hij) (by simpa using hj)
theorem xT (C:Cmp prog w A E s κ G r) {a:Array Keyed} (ga:∀ x∈a,G x) (h:a.toList.Pairwise (le r)):Seg r a 0 a.size:=by
 intro i j hi hj _ hij _
 rcases Wn i j with hlt | hge
 ·have:=Y3.mp h i j (by simpa using hi) (by simpa using hj) hlt
  simpa using this
 ·have:i=j:=by exact Nat.le_antisymm hij hge
  subst this
  exact C.refl (ga _ (Zg hi))
structure MI (r:Keyed->Keyed->Bool) (a b out:Array Keyed) (ia ib:Nat):Prop where
 pm:(out.toList++(a.toList.drop ia++b.toList.drop ib)).Perm (a.toList++b.toList)
 so:out.toList.Pairwise (le r)
 la:∀ x∈out.toList,∀ y∈a.toList.drop ia,le r x y
 lb:∀ x∈out.toList,∀ y∈b.toList.drop ib,le r x y
noncomputable def MR (r:Keyed->Keyed->Bool) (a b res:Array Keyed):Prop:=res.toList.Perm (a.toList++b.toList)/\res.toList.Pairwise (le r)
theorem MI.size {a b out:Array Keyed} {ia ib:Nat} (m:MI r a b out ia ib) (h1:ia<=a.size) (h2:ib<=b.size):out.size+(a.size - ia)+(b.size - ib)=a.size+b.size:=by
 have:=m.pm.length_eq
 simp at this
 lia
theorem MI.appA {a b out:Array Keyed} {ia ib k:Nat} (m:MI r a b out ia ib) (sa:Seg r a 0 a.size) (hl:∀ i (hi:i < a.size),ia<=i->i < ia+k->∀ j (hj:j < b.size),ib<=j->le r a[i] b[j]) :
  MI r a b (out++a.extract ia (ia+k)) (ia+k) ib:=by
 have e1:(out++a.extract ia (ia+k)).toList=out.toList++(a.toList.drop ia).take k:=by
  simp [List.extract_eq_drop_take]
 have e2:a.toList.drop ia=(a.toList.drop ia).take k++a.toList.drop (ia+k):=by
  rw [← List.drop_drop];exact (Yh _ _).symm
 have pa:(a.toList.drop ia).Pairwise (le r):=(iK sa).drop
 rw [e2,ZJ] at pa
 refine ⟨?_,?_,?_,?_⟩
 ·rw [e1]
  have:=m.pm
  rw [e2] at this
  simpa [Zf] using this
 ·rw [e1,ZJ]
  refine ⟨m.so,pa.1,fun x hx y hy=>m.la x hx y ?_⟩
  exact Yn hy
 ·rw [e1]
  intro x hx y hy
  rcases Zc.mp hx with hx | hx
  ·exact m.la x hx y (by rw [e2];exact Z3 _ hy)
  ·exact pa.2.2 x hx y hy
 ·rw [e1]
  intro x hx y hy
  rcases Zc.mp hx with hx | hx
  ·exact m.lb x hx y hy
  ·obtain ⟨i,hi,h1,h2,rfl⟩:=jZ hx
   obtain ⟨j,hj,h3,rfl⟩:=pD hy
   exact hl i hi h1 h2 j hj h3
theorem MI.swap {a b out:Array Keyed} {ia ib:Nat} (m:MI r a b out ia ib):MI r b a out ib ia :=
 ⟨((YJ.append_left _).trans m.pm).trans YJ,m.so,m.lb,m.la⟩
theorem MI.appB {a b out:Array Keyed} {ia ib k:Nat} (m:MI r a b out ia ib) (sb:Seg r b 0 b.size) (hl:∀ i (hi:i < b.size),ib<=i->i < ib+k->∀ j (hj:j < a.size),ia<=j->le r b[i] a[j]) :
  MI r a b (out++b.extract ib (ib+k)) ia (ib+k):=(m.swap.appA sb hl).swap
theorem vI {a out:Array Keyed} {i:Nat} (h:i < a.size):out.push a[i]=out++a.extract i (i+1):=by
 apply Array.ext'
 have:(a.extract i (i+1)).toList=[a[i]]:=by
  have e:i < a.toList.length:=by simpa using h
  simp [List.extract_eq_drop_take,Y4 e]
 rw [Yi,this,Vv]
theorem MI.pushA {a b out:Array Keyed} {ia ib:Nat} (m:MI r a b out ia ib) (sa:Seg r a 0 a.size) (h:ia < a.size) (hl:∀ j (hj:j < b.size),ib<=j->le r a[ia] b[j]):MI r a b (out.push a[ia]) (ia+1) ib:=by
 rw [vI h]
 refine m.appA sa fun i hi h1 h2 j hj h3=>?_
 have:i=ia:=by lia
 subst this
 exact hl j hj h3
theorem MI.pushB {a b out:Array Keyed} {ia ib:Nat} (m:MI r a b out ia ib) (sb:Seg r b 0 b.size) (h:ib < b.size) (hl:∀ j (hj:j < a.size),ia<=j->le r b[ib] a[j]):MI r a b (out.push b[ib]) ia (ib+1):=(m.swap.pushA sb h hl).swap
theorem lz {a:Array Keyed} {i:Nat}:(a.extract i a.size).toList=a.toList.drop i:=by
 rw [Ww,List.extract_eq_drop_take,ZA (by simp)]
theorem MI.fin {a b out:Array Keyed} {ia ib:Nat} (m:MI r a b out ia ib) (sa:Seg r a 0 a.size) (sb:Seg r b 0 b.size) (h:ia=a.size\/ib=b.size):MR r a b (out++a.extract ia a.size++b.extract ib b.size):=by
 have e:(out++a.extract ia a.size++b.extract ib b.size).toList=out.toList++(a.toList.drop ia++b.toList.drop ib):=by
  rw [Yi,Yi,lz,lz,Zf]
 refine ⟨by rw [e];exact m.pm,?_⟩
 rw [e,ZJ]
 refine ⟨m.so,?_,fun x hx y hy=>?_⟩
 ·rcases h with h | h
  ·rw [YN (as:=a.toList) (by simp [h]),Yr]
   exact (iK sb).drop
  ·rw [YN (as:=b.toList) (by simp [h]),ZD]
   exact (iK sa).drop
 ·rcases Zc.mp hy with hy | hy
  ·exact m.la x hx y hy
  ·exact m.lb x hx y hy
theorem MI.last {a b out:Array Keyed} {ia ib:Nat} (m:MI r a b out ia ib) (sb:Seg r b 0 b.size) (h:ia+1=a.size) (hl:∀ j (hj:j < b.size),le r b[j] a[ia]):MR r a b (out++b.extract ib b.size++a.extract ia a.size):=by
 have e:(out++b.extract ib b.size++a.extract ia a.size).toList=out.toList++(b.toList.drop ib++a.toList.drop ia):=by
  rw [Yi,Yi,lz,lz,Zf]
 have e2:a.toList.drop ia=[a[ia]]:=by rw [sv (by omega),YN (by simp;lia)]
 refine ⟨by rw [e];exact (YJ.append_left _).trans m.pm,?_⟩
 rw [e,ZJ]
 refine ⟨m.so,?_,fun x hx y hy=>?_⟩
 ·rw [ZJ]
  refine ⟨(iK sb).drop,by rw [e2];exact List.pairwise_singleton _ _,fun x hx y hy=>?_⟩
  rw [e2] at hy
  obtain ⟨j,hj,_,rfl⟩:=pD hx
  rw [Zn.mp hy]
  exact hl j hj
 ·rcases Zc.mp hy with hy | hy
  ·exact m.lb x hx y hy
  ·exact m.la x hx y hy
end TS
end
section
open PySem PyProof.Rows
namespace TS
variable {prog:Program} {w:World} {A:Around} {E:Z8} {s:Shared} {κ:SortKind} {G:Keyed->Prop} {r:Keyed->Keyed->Bool}
noncomputable def gN (st st':SortSt):Prop:=kindOf st'=kindOf st/\arrOf st'=arrOf st/\pendingOf st'=pendingOf st/\failedOf st'=failedOf st
noncomputable def fg:Nat->StateT SortSt Sem Unit:=sortPriv% PySem.Builtin.setMinGallop
theorem hJ {g:Nat} {Q:Unit->SortSt->Prop} {st st0:SortSt} (hk:gN st0 st) (h:∀ st',gN st0 st'->Q () st'):wpS (model prog w) A E s (fg g) Q st:=by
 unfold fg
 exact Wu (h _ hk)
theorem g7 {t:String} {Q:Unit->SortSt->Prop} {st:SortSt} (h:Q () st):wpS (model prog w) A E s (liftM (rule t)) Q st:=wpS_lift (Xi ⟨rfl,h⟩)
theorem aG {α:Type} {c:Prop} [Decidable c] {x y:StateT SortSt Sem α} {Q:α->SortSt->Prop} {st:SortSt} (ht:c->wpS (model prog w) A E s x Q st) (hf:¬ c->wpS (model prog w) A E s y Q st) :
  wpS (model prog w) A E s (if c then x else y) Q st:=by
 by_cases hc:c
 ·rw [Zr hc];exact ht hc
 ·rw [Zq hc];exact hf hc
theorem tM {α:Type} {c:Nat->Prop} [∀ n,Decidable (c n)] {B1 B2:Nat->StateT SortSt Sem α} {Q:α->SortSt->Prop} {st:SortSt} (e:∀ n,B1 n=B2 (n - 1)) (h:∀ n,wpS (model prog w) A E s (B2 n) Q st):∀ n,wpS (model prog w) A E s (if c n then B1 n else B2 n) Q st :=
 fun n=>aG (fun _=>by rw [e];exact h _) fun _=>h n
theorem bB {α:Type} {a:Array Keyed} {i:Nat} {c:Keyed->Prop} [∀ v,Decidable (c v)] {x y:Keyed->StateT SortSt Sem α} {Q:α->SortSt->Prop} {st:SortSt} (hi:i < a.size) (ht:c a[i]->wpS (model prog w) A E s (x a[i]) Q st) (hf:¬ c a[i]->wpS (model prog w) A E s (y a[i]) Q st) :
  wpS (model prog w) A E s (elem' a i >>= fun v=>if c v then x v else y v) Q st:=Za (d8 hi (aG ht hf))
theorem wQ {α:Type} {c d:Prop} [Decidable c] [Decidable d] {x y z:StateT SortSt Sem α} {Q:α->SortSt->Prop} {st:SortSt} (h1:c->wpS (model prog w) A E s x Q st) (h2:¬ c->d->wpS (model prog w) A E s y Q st) (h3:¬ c->¬ d->wpS (model prog w) A E s z Q st) :
  wpS (model prog w) A E s (if c then x else if d then y else z) Q st:=aG h1 fun e=>aG (h2 e) (h3 e)
theorem iI {α β:Type} {a:Array Keyed} {i:Nat} {m:Keyed->StateT SortSt Sem β} {f:Keyed->β->StateT SortSt Sem α} {Q:α->SortSt->Prop} {st:SortSt} (hi:i < a.size) (h:wpS (model prog w) A E s (m a[i]) (fun v st'=>wpS (model prog w) A E s (f a[i] v) Q st') st) :
  wpS (model prog w) A E s (elem' a i >>= fun u=>m u >>= fun v=>f u v) Q st:=Za (d8 hi (Za h))
structure MC (G:Keyed->Prop) (r:Keyed->Keyed->Bool) (a b:Array Keyed):Prop where
 ga:∀ x∈a,G x
 gb:∀ x∈b,G x
 sa:Seg r a 0 a.size
 sb:Seg r b 0 b.size
 na:0 < a.size
 nb:0 < b.size
 first:le r b[0] a[0]
 last:∀ j (hj:j < b.size),le r b[j] a[a.size - 1]
theorem MC.last' {a b:Array Keyed} (M:MC G r a b) {i:Nat} (hi:i < a.size) (h:i+1=a.size):∀ j (hj:j < b.size),le r b[j] a[i]:=by
 intro j hj
 have:=M.last j hj
 have e:a.size - 1=i:=by lia
 simpa [e] using this
theorem MC.bA (C:Cmp prog w A E s κ G r) {a b:Array Keyed} (M:MC G r a b) {i j:Nat} (hi:i < a.size) (hj:j < b.size) (h:le r b[j] a[i]):∀ k (hk:k < a.size),i<=k->le r b[j] a[k]:=fun k hk hik =>
 C.tr (M.gb _ (Zg hj)) (M.ga _ (Zg hi)) (M.ga _ (Zg hk)) h (M.sa i k hi hk (ZS _) hik hk)
theorem MC.aB (C:Cmp prog w A E s κ G r) {a b:Array Keyed} (M:MC G r a b) {i j:Nat} (hi:i < a.size) (hj:j < b.size) (h:le r a[i] b[j]):∀ k (hk:k < b.size),j<=k->le r a[i] b[k]:=fun k hk hik =>
 C.tr (M.ga _ (Zg hi)) (M.gb _ (Zg hj)) (M.gb _ (Zg hk)) h (M.sb j k hj hk (ZS _) hik hk)
theorem jo {a:Array Keyed} (h:Seg r a 0 a.size) (lo hi:Nat):Seg r a lo hi:=fun i j hi' hj h1 h2 h3=>h i j hi' hj (ZS _) h2 hj
theorem Ep (C:Cmp prog w A E s κ G r) {a b:Array Keyed} {st:SortSt} {Q:Array Keyed->SortSt->Prop} (hk:kindOf st=κ) (M:MC G r a b) (h:∀ res st',gN st st'->MR r a b res->Q res st') :
  wpS (model prog w) A E s (lJ a b) Q st:=by
 have hna:=M.na
 have hnb:=M.nb
 unfold lJ
 change wpS (model prog w) A E s (_ >>= _) Q st
 dsimp only
 refine Za (g7 ?_)
 have m0:MI r a b #[] 0 0:=⟨by simp,by simp,by simp,by simp⟩
 have m1:MI r a b #[b[0]] 0 1:=m0.pushB M.sb M.nb fun j hj _=>M.bA C M.na M.nb M.first j hj (ZS _)
 have kp0:gN st st:=⟨rfl,rfl,rfl,rfl⟩
 refine bB M.nb (fun e=>?_) fun e1=>?_
 ·exact Zk (h _ _ kp0 (m1.fin M.sa M.sb (.inr (by simpa using e))))
 refine aG (fun e=>?_) fun e2=>?_
 ·exact Zk (h _ _ kp0 (m1.last M.sb (by simpa using e) (M.last' M.na (by simpa using e))))
 have e1':1 < b.size:=by simp at e1;lia
 have e2':0+1 < a.size:=by simp at e2;lia
 refine Za (WH ?_)
 refine Za (Y8 (Yk
  (I:=fun x c st'=>gN st st'/\c.1=none/\MI r a b c.2.1 c.2.2.1 c.2.2.2.1/\c.2.2.1+1 < a.size/\c.2.2.2.1 < b.size/\x < c.2.1.size)
  (Q:=fun c st'=>gN st st'/\∃ res,c.1=some res/\MR r a b res) ?step ?fin ?init) ?post)
 case init=>exact ⟨kp0,rfl,m1,e2',e1',by simp⟩
 case fin =>
  refine uU fun c1 out ia ib mg st' hh=>?_
  have kp:=hh.1
  have q1:=hh.2.1
  have m:=hh.2.2.1
  have q2:=hh.2.2.2.1
  have q3:=hh.2.2.2.2.1
  have q4:=hh.2.2.2.2.2
  clear hh
  dsimp only at *
  have:=m.size (by lia) (by exact ZQ q3)
  lia
 case post =>
  refine uU fun c1 out ia ib mg=>?_
  rintro st' ⟨kp,res,q1,q2⟩
  dsimp only at *
  subst q1
  exact Zk (h _ _ kp q2)
 case step =>
  intro x
  refine uU fun c1 out ia ib mg st' _ hx hh=>?_
  have kp:=hh.1
  have q1:=hh.2.1
  have m:=hh.2.2.1
  have q2:=hh.2.2.2.1
  have q3:=hh.2.2.2.2.1
  have q4:=hh.2.2.2.2.2
  clear hh
  dsimp only at *
  refine Za (Y8 (Yk
   (I:=fun y c st'=>gN st st'/\c.1=none/\MI r a b c.2.1 c.2.2.1 c.2.2.2.1/\c.2.2.1+1 < a.size/\c.2.2.2.1 < b.size/\x+y < c.2.1.size)
   (Q:=fun c st'=>gN st st'/\((∃ res,c.1=some res/\MR r a b res)\/(c.1=none/\MI r a b c.2.1 c.2.2.1 c.2.2.2.1/\c.2.2.1+1 < a.size/\c.2.2.2.1 < b.size/\x+1 < c.2.1.size))) ?step2 ?fin2 ?init2) ?post2)
  case init2=>exact ⟨kp,rfl,m,q2,q3,by simpa using q4⟩
  case fin2 =>
   refine qr fun c1 out ia ib ac bc st' hh=>?_
   have kp:=hh.1
   have q1:=hh.2.1
   have m:=hh.2.2.1
   have q2:=hh.2.2.2.1
   have q3:=hh.2.2.2.2.1
   have q4:=hh.2.2.2.2.2
   clear hh
   dsimp only at *
   exact ⟨kp,.inr ⟨q1,m,q2,q3,by (try dsimp only);lia⟩⟩
  case step2 =>
   intro y
   refine qr fun c1 out ia ib ac bc st' _ hy hh=>?_
   have kp:=hh.1
   have q1:=hh.2.1
   have m:=hh.2.2.1
   have q2:=hh.2.2.2.1
   have q3:=hh.2.2.2.2.1
   have q4:=hh.2.2.2.2.2
   clear hh
   dsimp only at *
   have hia:ia < a.size:=by exact Y6 q2
   have gA:=M.ga _ (Zg hia)
   have gB:=M.gb _ (Zg q3)
   refine iI q3 (d8 hia ?_)
   refine Za (C.run _ _ _ _ (kp.1.trans hk) gB gA ?_)
   dsimp only
   cases e:r b[ib] a[ia] with
   | true =>
    rw [Zr rfl]
    have m2:=m.pushB M.sb q3 (M.bA C hia q3 (C.le_of gB gA e))
    refine bB q3 (fun e3=>?_) fun e3=>?_
    ·exact Zk ⟨kp,.inl ⟨_,rfl,m2.fin M.sa M.sb (.inr (by simpa using e3))⟩⟩
    ·have e3':ib+1 < b.size:=by simp at e3;lia
     refine aG (fun _=>?_) fun _=>?_
     ·exact Zk ⟨kp,.inr ⟨rfl,m2,q2,e3',by simp;lia⟩⟩
     ·exact Zk ⟨kp,rfl,m2,q2,e3',by simp;lia⟩
   | false =>
    rw [Zq Zh]
    have m2:=m.pushA M.sa hia (M.aB C hia q3 e)
    refine bB hia (fun e3=>?_) fun e3=>?_
    ·exact Zk ⟨kp,.inl ⟨_,rfl,m2.last M.sb (by simpa using e3) (M.last' (by omega) (by simpa using e3))⟩⟩
    ·have e3':ia+1+1 < a.size:=by simp at e3;lia
     refine aG (fun _=>?_) fun _=>?_
     ·exact Zk ⟨kp,.inr ⟨rfl,m2,e3',q3,by simp;lia⟩⟩
     ·exact Zk ⟨kp,rfl,m2,e3',q3,by simp;lia⟩
  case post2 =>
   refine qr fun c1 out ia ib ac bc=>?_
   rintro st' ⟨kp,⟨res,q1,q2⟩ | ⟨q1,m,q2,q3,q4⟩⟩
   ·dsimp only at *
    subst q1
    exact Zk ⟨kp,res,rfl,q2⟩
   ·dsimp only at *
    subst q1
    dsimp only
    refine Za (g7 ?_)
    refine Za (Y8 (Yk
     (I:=fun y c st'=>gN st st'/\c.1=none/\MI r a b c.2.1 c.2.2.1 c.2.2.2.1/\c.2.2.1+1 < a.size/\c.2.2.2.1 < b.size/\x+1 < c.2.1.size)
     (Q:=fun c st'=>gN st st'/\((∃ res,c.1=some res/\MR r a b res)\/(c.1=none/\MI r a b c.2.1 c.2.2.1 c.2.2.2.1/\c.2.2.1+1 < a.size/\c.2.2.2.1 < b.size/\x+1 < c.2.1.size))) ?step3 ?fin3 ?init3) ?post3)
    case init3=>exact ⟨kp,rfl,m,q2,q3,q4⟩
    case fin3 =>
     refine qr fun c1 out ia ib ac bc st' hh=>?_
     have kp:=hh.1
     have q1:=hh.2.1
     have m:=hh.2.2.1
     have q2:=hh.2.2.2.1
     have q3:=hh.2.2.2.2.1
     have q4:=hh.2.2.2.2.2
     clear hh
     exact ⟨kp,.inr ⟨q1,m,q2,q3,q4⟩⟩
    case post3 =>
     refine yM fun c1 out ia ib mg ac bc=>?_
     rintro st' ⟨kp,⟨res,q1,q2⟩ | ⟨q1,m,q2,q3,q4⟩⟩
     ·dsimp only at *
      subst q1
      exact Zk ⟨kp,res,rfl,q2⟩
     ·dsimp only at *
      subst q1
      dsimp only
      exact Za (hJ kp fun st2 kp2=>Zk ⟨kp2,rfl,m,q2,q3,q4⟩)
    case step3 =>
     intro y
     refine yM fun c1 out ia ib mg ac bc st' _ hy hh=>?_
     have kp:=hh.1
     have q1:=hh.2.1
     have m:=hh.2.2.1
     have q2:=hh.2.2.2.1
     have q3:=hh.2.2.2.2.1
     have q4:=hh.2.2.2.2.2
     clear hh
     dsimp only at *
     have both:∀ {mg:Nat} {F:Unit->StateT SortSt Sem (ForInStep (Option (Array Keyed)×Array Keyed×Nat×Nat×Nat×Nat×Nat))} {P},(∀ st2,gN st st2->wpS (model prog w) A E s (F ()) P st2)->wpS (model prog w) A E s (fg mg >>= F) P st':=fun hF=>Za (hJ kp fun st2 kp2=>hF st2 kp2)
     revert mg
     refine tM (fun _=>rfl) fun mg2=>?_
     refine both fun st2 kp2=>?_
     have hia:ia < a.size:=by exact Y6 q2
     have gB:=M.gb _ (Zg q3)
     refine iI q3 (gK C (kp2.1.trans hk) gB M.ga (by lia) (by exact W8 hia) (jo M.sa _ _) fun k hk1 hk2 hk3=>?_)
     dsimp only
     refine aG (fun e5=>?_) fun e5=>?_
     ·have m2:=m.appA (k:=k) M.sa (fun i hi h1 h2 j hj h3=>C.tr (M.ga _ (Zg hi)) gB (M.gb _ (Zg hj)) (hk2 i hi h1 h2) (M.sb _ j q3 hj (ZS _) h3 hj))
      refine wQ (fun e6=>?_) (fun e6 e7=>?_) fun e6 e7=>?_
      ·exact Zk ⟨kp2,.inl ⟨_,rfl,m2.last M.sb (by simpa using e6) (M.last' (by simp at e6;lia) (by simpa using e6))⟩⟩
      ·exact Zk ⟨kp2,.inl ⟨_,rfl,m2.fin M.sa M.sb (.inl (by simpa using e7))⟩⟩
      have hA1:ia+k < a.size:=by simp at e6 e7;lia
      have hA2:ia+k+1 < a.size:=by simp at e6 e7;lia
      have hle:∀ j (hj:j < a.size),ia+k<=j->le r b[ib] a[j]:=fun j hj h=>hk3 j hj h (by lia)
      clear e6
      have m3:=m2.pushB M.sb q3 hle
      refine bB q3 (fun e4=>?_) fun e4=>?_
      ·exact Zk ⟨kp2,.inl ⟨_,rfl,m3.fin M.sa M.sb (.inr (by simpa using e4))⟩⟩
      have e4':ib+1 < b.size:=by simp at e4;lia
      refine iI hA1 (gK C (kp2.1.trans hk) (M.ga _ (Zg hA1)) M.gb (by lia) (by exact W8 e4') (jo M.sb _ _) fun k2 hl1 hl2 hl3=>?_)
      dsimp only
      have m4:=m3.appB (k:=k2) M.sb (fun i hi h1 h2 j hj h3=>C.tr (M.gb _ (Zg hi)) (M.ga _ (Zg hA1)) (M.ga _ (Zg hj)) (hl2 i hi h1 h2) (M.sa _ j hA1 hj (ZS _) h3 hj))
      refine aG (fun e5=>?_) fun e5=>?_
      ·refine aG (fun e6=>?_) fun e6=>?_
       ·exact Zk ⟨kp2,.inl ⟨_,rfl,m4.fin M.sa M.sb (.inr (by simpa using e6))⟩⟩
       have m5:=m4.pushA M.sa hA1 (fun j hj h=>hl3 j hj h (by omega))
       refine bB hA1 (fun e7=>?_) fun e7=>?_
       ·exact Zk ⟨kp2,.inl ⟨_,rfl,m5.last M.sb (by simpa using e7) (M.last' (by simp at e7;omega) (by simpa using e7))⟩⟩
       have e7':=e7
       simp at e7'
       refine aG (fun _=>?_) fun _=>?_
       ·exact Zk ⟨kp2,.inr ⟨rfl,m5,by (try dsimp only);lia,by (try dsimp only);(try simp at e6);lia,by simp;lia⟩⟩
       ·exact Zk ⟨kp2,rfl,m5,by (try dsimp only);lia,by (try dsimp only);(try simp at e6);lia,by simp;lia⟩
      ·have m5:=m3.pushA M.sa hA1 (fun j hj h=>hl3 j hj (by lia) (by omega))
       refine bB hA1 (fun e7=>?_) fun e7=>?_
       ·exact Zk ⟨kp2,.inl ⟨_,rfl,m5.last M.sb (by simpa using e7) (M.last' (by simp at e7;omega) (by simpa using e7))⟩⟩
       have e7':=e7
       simp at e7'
       refine aG (fun _=>?_) fun _=>?_
       ·exact Zk ⟨kp2,.inr ⟨rfl,m5,by (try dsimp only);lia,by (try dsimp only);(try simp at e6);omega,by simp;lia⟩⟩
       ·exact Zk ⟨kp2,rfl,m5,by (try dsimp only);lia,by (try dsimp only);(try simp at e6);omega,by simp;lia⟩
     ·have m2:=m
      have hA1:ia < a.size:=by omega
      have hle:∀ j (hj:j < a.size),ia<=j->le r b[ib] a[j]:=fun j hj h=>hk3 j hj (by lia) (by lia)
      have m3:=m2.pushB M.sb q3 hle
      refine bB q3 (fun e4=>?_) fun e4=>?_
      ·exact Zk ⟨kp2,.inl ⟨_,rfl,m3.fin M.sa M.sb (.inr (by simpa using e4))⟩⟩
      have e4':ib+1 < b.size:=by simp at e4;lia
      refine iI hA1 (gK C (kp2.1.trans hk) (M.ga _ (Zg hA1)) M.gb (by lia) (by exact W8 e4') (jo M.sb _ _) fun k2 hl1 hl2 hl3=>?_)
      dsimp only
      have m4:=m3.appB (k:=k2) M.sb (fun i hi h1 h2 j hj h3=>C.tr (M.gb _ (Zg hi)) (M.ga _ (Zg hA1)) (M.ga _ (Zg hj)) (hl2 i hi h1 h2) (M.sa _ j hA1 hj (ZS _) h3 hj))
      refine aG (fun e5=>?_) fun e5=>?_
      ·refine aG (fun e6=>?_) fun e6=>?_
       ·exact Zk ⟨kp2,.inl ⟨_,rfl,m4.fin M.sa M.sb (.inr (by simpa using e6))⟩⟩
       have m5:=m4.pushA M.sa hA1 (fun j hj h=>hl3 j hj h (by omega))
       refine bB hA1 (fun e7=>?_) fun e7=>?_
       ·exact Zk ⟨kp2,.inl ⟨_,rfl,m5.last M.sb (by simpa using e7) (M.last' (by simp at e7;omega) (by simpa using e7))⟩⟩
       have e7':=e7
       simp at e7'
       refine aG (fun _=>?_) fun _=>?_
       ·exact Zk ⟨kp2,.inr ⟨rfl,m5,by (try dsimp only);lia,by (try dsimp only);(try simp at e6);lia,by simp;lia⟩⟩
       ·exact Zk ⟨kp2,rfl,m5,by (try dsimp only);lia,by (try dsimp only);(try simp at e6);lia,by simp;lia⟩
      ·have m5:=m3.pushA M.sa hA1 (fun j hj h=>hl3 j hj (by lia) (by omega))
       refine bB hA1 (fun e7=>?_) fun e7=>?_
       ·exact Zk ⟨kp2,.inl ⟨_,rfl,m5.last M.sb (by simpa using e7) (M.last' (by simp at e7;omega) (by simpa using e7))⟩⟩
       have e7':=e7
       simp at e7'
       refine aG (fun _=>?_) fun _=>?_
       ·exact Zk ⟨kp2,.inr ⟨rfl,m5,by (try dsimp only);lia,by (try dsimp only);(try simp at e6);omega,by simp;lia⟩⟩
       ·exact Zk ⟨kp2,rfl,m5,by (try dsimp only);lia,by (try dsimp only);(try simp at e6);omega,by simp;lia⟩
end TS
end
section
open PySem PyProof.Rows
namespace TS
variable {prog:Program} {w:World} {A:Around} {E:Z8} {s:Shared} {κ:SortKind} {G:Keyed->Prop} {r:Keyed->Keyed->Bool}
theorem xI {a:Array Keyed} {n:Nat} {x:Keyed} (h:x∈a.toList.take n):∃ j,∃ (hj:j < a.size),j < n/\a[j]=x:=by
 obtain ⟨m,hm,e⟩:=Ys h
 rw [ZO] at hm
 rw [Xk] at e
 have:m < a.size:=by simpa using (by lia:m < a.toList.length)
 exact ⟨m,this,by lia,by simpa using e⟩
structure HI (r:Keyed->Keyed->Bool) (a b out:Array Keyed) (na nb:Nat):Prop where
 pm:(a.toList.take na++(b.toList.take nb++out.toList.reverse)).Perm (a.toList++b.toList)
 so:out.toList.reverse.Pairwise (le r)
 la:∀ x∈out.toList,∀ y∈a.toList.take na,le r y x
 lb:∀ x∈out.toList,∀ y∈b.toList.take nb,le r y x
theorem HI.size {a b out:Array Keyed} {na nb:Nat} (m:HI r a b out na nb) (h1:na<=a.size) (h2:nb<=b.size):out.size+na+nb=a.size+b.size:=by
 have:=m.pm.length_eq
 simp at this
 lia
theorem HI.appA {a b out:Array Keyed} {na nb k:Nat} (m:HI r a b out na nb) (sa:Seg r a 0 a.size) (hk:k<=na) (hl:∀ i (hi:i < a.size),k<=i->i < na->∀ j (hj:j < b.size),j < nb->le r b[j] a[i]) :
  HI r a b (out++(a.extract k na).reverse) k nb:=by
 have e1:(out++(a.extract k na).reverse).toList.reverse=(a.toList.drop k).take (na - k)++out.toList.reverse:=by
  simp [List.extract_eq_drop_take]
 have e2:a.toList.take na=a.toList.take k++(a.toList.drop k).take (na - k):=by
  rw [← Yh k (a.toList.take na),List.take_take,Wf,Yt hk]
 have pa:(a.toList.take na).Pairwise (le r):=(iK sa).take
 rw [e2,ZJ] at pa
 have mem:∀ x,x∈(out++(a.extract k na).reverse).toList->x∈out.toList\/x∈(a.toList.drop k).take (na - k):=fun x hx=>by
  have:x∈(out++(a.extract k na).reverse).toList.reverse:=YA.mpr hx
  rw [e1] at this
  rcases Zc.mp this with h | h
  ·exact .inr h
  ·exact .inl (YA.mp h)
 refine ⟨?_,?_,?_,?_⟩
 ·rw [e1]
  have:=m.pm
  rw [e2] at this
  refine List.Perm.trans ?_ this
  rw [Zf]
  refine List.Perm.append_left _ ?_
  rw [← Zf,← Zf]
  exact List.Perm.append_right _ YJ
 ·rw [e1,ZJ]
  refine ⟨pa.2.1,m.so,fun x hx y hy=>m.la y (YA.mp hy) x ?_⟩
  rw [e2]
  exact Z3 _ hx
 ·intro x hx y hy
  rcases mem x hx with hx | hx
  ·exact m.la x hx y (by rw [e2];exact Y7 _ hy)
  ·exact pa.2.2 y hy x hx
 ·intro x hx y hy
  rcases mem x hx with hx | hx
  ·exact m.lb x hx y hy
  ·obtain ⟨i,hi,h1,h2,rfl⟩:=jZ hx
   obtain ⟨j,hj,h3,rfl⟩:=xI hy
   exact hl i hi h1 (by lia) j hj h3
theorem HI.swap {a b out:Array Keyed} {na nb:Nat} (m:HI r a b out na nb):HI r b a out nb na:=by
 refine ⟨?_,m.so,m.lb,m.la⟩
 refine List.Perm.trans ?_ (m.pm.trans YJ)
 rw [← Zf,← Zf]
 exact List.Perm.append_right _ YJ
theorem HI.appB {a b out:Array Keyed} {na nb k:Nat} (m:HI r a b out na nb) (sb:Seg r b 0 b.size) (hk:k<=nb) (hl:∀ i (hi:i < b.size),k<=i->i < nb->∀ j (hj:j < a.size),j < na->le r a[j] b[i]) :
  HI r a b (out++(b.extract k nb).reverse) na k:=(m.swap.appA sb hk hl).swap
theorem xg {a out:Array Keyed} {i:Nat} (h:i < a.size):out.push a[i]=out++(a.extract i (i+1)).reverse:=by
 apply Array.ext'
 have:(a.extract i (i+1)).toList=[a[i]]:=by
  have e:i < a.toList.length:=by simpa using h
  simp [List.extract_eq_drop_take,Y4 e]
 rw [Yi,WE,this,Vv]
 rfl
theorem HI.pushA {a b out:Array Keyed} {na nb:Nat} (m:HI r a b out na nb) (sa:Seg r a 0 a.size) (h0:0 < na) (h:na - 1 < a.size) (hl:∀ j (hj:j < b.size),j < nb->le r b[j] a[na - 1]):HI r a b (out.push a[na - 1]) (na - 1) nb:=by
 rw [xg h]
 have e:na - 1+1=na:=by lia
 rw [e]
 refine m.appA sa (by exact YQ _ _) fun i hi h1 h2 j hj h3=>?_
 have:i=na - 1:=by lia
 subst this
 exact hl j hj h3
theorem HI.pushB {a b out:Array Keyed} {na nb:Nat} (m:HI r a b out na nb) (sb:Seg r b 0 b.size) (h0:0 < nb) (h:nb - 1 < b.size) (hl:∀ j (hj:j < a.size),j < na->le r a[j] b[nb - 1]):HI r a b (out.push b[nb - 1]) na (nb - 1):=(m.swap.pushA sb h0 h hl).swap
theorem Am {a:Array Keyed} {n:Nat}:(a.extract 0 n).toList=a.toList.take n:=by
 rw [Ww,List.extract_eq_drop_take,Xe,Nat.sub_zero]
theorem HI.fin {a b out:Array Keyed} {na nb:Nat} (m:HI r a b out na nb) (sa:Seg r a 0 a.size) (sb:Seg r b 0 b.size) (h:na=0\/nb=0):MR r a b (a.extract 0 na++b.extract 0 nb++out.reverse):=by
 have e:(a.extract 0 na++b.extract 0 nb++out.reverse).toList=a.toList.take na++(b.toList.take nb++out.toList.reverse):=by
  rw [Yi,Yi,Am,Am,Zf,WE]
 refine ⟨by rw [e];exact m.pm,?_⟩
 rw [e,← Zf,ZJ]
 refine ⟨?_,m.so,fun x hx y hy=>?_⟩
 ·rcases h with h | h
  ·subst h
   rw [List.take_zero,Yr]
   exact (iK sb).take
  ·subst h
   rw [List.take_zero,ZD]
   exact (iK sa).take
 ·rcases Zc.mp hx with hx | hx
  ·exact m.la y (YA.mp hy) x hx
  ·exact m.lb y (YA.mp hy) x hx
theorem HI.first {a b out:Array Keyed} {na nb:Nat} (m:HI r a b out na nb) (sa:Seg r a 0 a.size) (h:nb=1) (hb:0 < b.size) (hl:∀ j (hj:j < a.size),le r b[0] a[j]):MR r a b (b.extract 0 nb++a.extract 0 na++out.reverse):=by
 have e:(b.extract 0 nb++a.extract 0 na++out.reverse).toList=b.toList.take nb++(a.toList.take na++out.toList.reverse):=by
  rw [Yi,Yi,Am,Am,Zf,WE]
 have e2:b.toList.take nb=[b[0]]:=by
  subst h
  have:=sv hb
  rw [Xe] at this
  rw [this]
  rfl
 refine ⟨?_,?_⟩
 ·rw [e]
  exact m.swap.pm.trans YJ
 rw [e,← Zf,ZJ]
 refine ⟨?_,m.so,fun x hx y hy=>?_⟩
 ·rw [ZJ]
  refine ⟨by rw [e2];exact List.pairwise_singleton _ _,(iK sa).take,fun x hx y hy=>?_⟩
  rw [e2] at hx
  obtain ⟨j,hj,_,rfl⟩:=xI hy
  rw [Zn.mp hx]
  exact hl j hj
 ·rcases Zc.mp hx with hx | hx
  ·exact m.lb y (YA.mp hy) x hx
  ·exact m.la y (YA.mp hy) x hx
theorem MC.first' (C:Cmp prog w A E s κ G r) {a b:Array Keyed} (M:MC G r a b):∀ j (hj:j < a.size),le r (b[0]'M.nb) a[j]:=fun j hj=>M.bA C M.na M.nb M.first j hj (ZS _)
theorem Ef (C:Cmp prog w A E s κ G r) {a b:Array Keyed} {st:SortSt} {Q:Array Keyed->SortSt->Prop} (hk:kindOf st=κ) (M:MC G r a b) (h:∀ res st',gN st st'->MR r a b res->Q res st') :
  wpS (model prog w) A E s (mJ a b) Q st:=by
 have hna:=M.na
 have hnb:=M.nb
 unfold mJ
 change wpS (model prog w) A E s (_ >>= _) Q st
 dsimp only
 have hl0:a.size - 1 < a.size:=by omega
 refine Za (g7 ?_)
 have m0:HI r a b #[] a.size b.size:=⟨by simp [ZA],by simp,by simp,by simp⟩
 have m1:HI r a b #[a[a.size - 1]] (a.size - 1) b.size:=m0.pushA M.sa hna hl0 fun j hj _=>M.last j hj
 have kp0:gN st st:=⟨rfl,rfl,rfl,rfl⟩
 refine bB hl0 (fun e=>?_) fun e1=>?_
 ·exact Zk (h _ _ kp0 (m1.fin M.sa M.sb (.inl (by simpa using e))))
 refine aG (fun e=>?_) fun e2=>?_
 ·exact Zk (h _ _ kp0 (m1.first M.sa (by simpa using e) M.nb (M.first' C)))
 have e1':0 < a.size - 1:=by simp at e1;exact Yp e1
 have e2':1 < b.size:=by simp at e2;lia
 refine Za (WH ?_)
 refine Za (Y8 (Yk
  (I:=fun x c st'=>gN st st'/\c.1=none/\HI r a b c.2.2.2.1 c.2.1 c.2.2.1/\0 < c.2.1/\c.2.1<=a.size/\1 < c.2.2.1/\c.2.2.1<=b.size/\x < c.2.2.2.1.size)
  (Q:=fun c st'=>gN st st'/\∃ res,c.1=some res/\MR r a b res) ?step ?fin ?init) ?post)
 case init=>exact ⟨kp0,rfl,m1,e1',by (try dsimp only);exact YQ _ _,e2',Zp _,by simp⟩
 case fin =>
  refine uU fun c1 na nb out mg st' hh=>?_
  have kp:=hh.1
  have q1:=hh.2.1
  have m:=hh.2.2.1
  have q2:=hh.2.2.2.1
  have q3:=hh.2.2.2.2.1
  have q5:=hh.2.2.2.2.2.1
  have q6:=hh.2.2.2.2.2.2.1
  have q4:=hh.2.2.2.2.2.2.2
  clear hh
  dsimp only at *
  have:=m.size (by omega) (by omega)
  lia
 case post =>
  refine uU fun c1 na nb out mg=>?_
  rintro st' ⟨kp,res,q1,q2⟩
  dsimp only at *
  subst q1
  exact Zk (h _ _ kp q2)
 case step =>
  intro x
  refine uU fun c1 na nb out mg st' _ hx hh=>?_
  have kp:=hh.1
  have q1:=hh.2.1
  have m:=hh.2.2.1
  have q2:=hh.2.2.2.1
  have q3:=hh.2.2.2.2.1
  have q5:=hh.2.2.2.2.2.1
  have q6:=hh.2.2.2.2.2.2.1
  have q4:=hh.2.2.2.2.2.2.2
  clear hh
  dsimp only at *
  refine Za (Y8 (Yk
   (I:=fun y c st'=>gN st st'/\c.1=none/\HI r a b c.2.2.2.1 c.2.1 c.2.2.1/\0 < c.2.1/\c.2.1<=a.size/\1 < c.2.2.1/\c.2.2.1<=b.size/\x+y < c.2.2.2.1.size)
   (Q:=fun c st'=>gN st st'/\((∃ res,c.1=some res/\MR r a b res)\/(c.1=none/\HI r a b c.2.2.2.1 c.2.1 c.2.2.1/\0 < c.2.1/\c.2.1<=a.size/\1 < c.2.2.1/\c.2.2.1<=b.size/\x+1 < c.2.2.2.1.size))) ?step2 ?fin2 ?init2) ?post2)
  case init2=>exact ⟨kp,rfl,m,q2,q3,q5,q6,by simpa using q4⟩
  case fin2 =>
   refine qr fun c1 na nb out ac bc st' hh=>?_
   have kp:=hh.1
   have q1:=hh.2.1
   have m:=hh.2.2.1
   have q2:=hh.2.2.2.1
   have q3:=hh.2.2.2.2.1
   have q5:=hh.2.2.2.2.2.1
   have q6:=hh.2.2.2.2.2.2.1
   have q4:=hh.2.2.2.2.2.2.2
   clear hh
   dsimp only at *
   exact ⟨kp,.inr ⟨q1,m,q2,q3,q5,q6,by (try dsimp only);lia⟩⟩
  case step2 =>
   intro y
   refine qr fun c1 na nb out ac bc st' _ hy hh=>?_
   have kp:=hh.1
   have q1:=hh.2.1
   have m:=hh.2.2.1
   have q2:=hh.2.2.2.1
   have q3:=hh.2.2.2.2.1
   have q5:=hh.2.2.2.2.2.1
   have q6:=hh.2.2.2.2.2.2.1
   have q4:=hh.2.2.2.2.2.2.2
   clear hh
   dsimp only at *
   have hA1:na - 1 < a.size:=by lia
   have hB1:nb - 1 < b.size:=by lia
   have gA:=M.ga _ (Zg hA1)
   have gB:=M.gb _ (Zg hB1)
   refine iI hB1 (d8 hA1 ?_)
   refine Za (C.run _ _ _ _ (kp.1.trans hk) gB gA ?_)
   dsimp only
   cases e:r b[nb - 1] a[na - 1] with
   | true =>
    rw [Zr rfl]
    have m2:=m.pushA M.sa q2 hA1 (fun j hj hjn=>C.tr (M.gb _ (Zg hj)) gB gA (M.sb j _ hj hB1 (ZS _) (by lia) hB1) (C.le_of gB gA e))
    refine bB hA1 (fun e3=>?_) fun e3=>?_
    ·exact Zk ⟨kp,.inl ⟨_,rfl,m2.fin M.sa M.sb (.inl (by simpa using e3))⟩⟩
    ·have e3':0 < na - 1:=by simp at e3;exact Yp e3
     refine aG (fun _=>?_) fun _=>?_
     ·exact Zk ⟨kp,.inr ⟨rfl,m2,e3',by (try dsimp only);exact ZQ hA1,q5,q6,by simp;lia⟩⟩
     ·exact Zk ⟨kp,rfl,m2,e3',by (try dsimp only);exact ZQ hA1,q5,q6,by simp;lia⟩
   | false =>
    rw [Zq Zh]
    have m2:=m.pushB M.sb (by exact Y6 q5) hB1 (fun j hj hjn=>C.tr (M.ga _ (Zg hj)) gA gB (M.sa j _ hj hA1 (ZS _) (by lia) hA1) e)
    refine bB hB1 (fun e3=>?_) fun e3=>?_
    ·exact Zk ⟨kp,.inl ⟨_,rfl,m2.first M.sa (by simpa using e3) M.nb (M.first' C)⟩⟩
    ·have e3':1 < nb - 1:=by simp at e3;lia
     refine aG (fun _=>?_) fun _=>?_
     ·exact Zk ⟨kp,.inr ⟨rfl,m2,q2,q3,e3',by (try dsimp only);exact ZQ hB1,by simp;lia⟩⟩
     ·exact Zk ⟨kp,rfl,m2,q2,q3,e3',by (try dsimp only);exact ZQ hB1,by simp;lia⟩
  case post2 =>
   refine qr fun c1 na nb out ac bc=>?_
   rintro st' ⟨kp,⟨res,q1,q2⟩ | ⟨q1,m,q2,q3,q5,q6,q4⟩⟩
   ·dsimp only at *
    subst q1
    exact Zk ⟨kp,res,rfl,q2⟩
   ·dsimp only at *
    subst q1
    dsimp only
    refine Za (g7 ?_)
    refine Za (Y8 (Yk
     (I:=fun y c st'=>gN st st'/\c.1=none/\HI r a b c.2.2.2.1 c.2.1 c.2.2.1/\0 < c.2.1/\c.2.1<=a.size/\1 < c.2.2.1/\c.2.2.1<=b.size/\x+1 < c.2.2.2.1.size)
     (Q:=fun c st'=>gN st st'/\((∃ res,c.1=some res/\MR r a b res)\/(c.1=none/\HI r a b c.2.2.2.1 c.2.1 c.2.2.1/\0 < c.2.1/\c.2.1<=a.size/\1 < c.2.2.1/\c.2.2.1<=b.size/\x+1 < c.2.2.2.1.size))) ?step3 ?fin3 ?init3) ?post3)
    case init3=>exact ⟨kp,rfl,m,q2,q3,q5,q6,q4⟩
    case fin3 =>
     refine qr fun c1 na nb out ac bc st' hh=>?_
     have kp:=hh.1
     have q1:=hh.2.1
     have m:=hh.2.2.1
     have q2:=hh.2.2.2.1
     have q3:=hh.2.2.2.2.1
     have q5:=hh.2.2.2.2.2.1
     have q6:=hh.2.2.2.2.2.2.1
     have q4:=hh.2.2.2.2.2.2.2
     clear hh
     exact ⟨kp,.inr ⟨q1,m,q2,q3,q5,q6,q4⟩⟩
    case post3 =>
     refine yM fun c1 na nb out mg ac bc=>?_
     rintro st' ⟨kp,⟨res,q1,q2⟩ | ⟨q1,m,q2,q3,q5,q6,q4⟩⟩
     ·dsimp only at *
      subst q1
      exact Zk ⟨kp,res,rfl,q2⟩
     ·dsimp only at *
      subst q1
      dsimp only
      exact Za (hJ kp fun st2 kp2=>Zk ⟨kp2,rfl,m,q2,q3,q5,q6,q4⟩)
    case step3 =>
     intro y
     refine yM fun c1 na nb out mg ac bc st' _ hy hh=>?_
     have kp:=hh.1
     have q1:=hh.2.1
     have m:=hh.2.2.1
     have q2:=hh.2.2.2.1
     have q3:=hh.2.2.2.2.1
     have q5:=hh.2.2.2.2.2.1
     have q6:=hh.2.2.2.2.2.2.1
     have q4:=hh.2.2.2.2.2.2.2
     clear hh
     dsimp only at *
     have both:∀ {mg:Nat} {F:Unit->StateT SortSt Sem (ForInStep (Option (Array Keyed)×Nat×Nat×Array Keyed×Nat×Nat×Nat))} {P},(∀ st2,gN st st2->wpS (model prog w) A E s (F ()) P st2)->wpS (model prog w) A E s (fg mg >>= F) P st':=fun hF=>Za (hJ kp fun st2 kp2=>hF st2 kp2)
     revert mg
     refine tM (fun _=>rfl) fun mg2=>?_
     refine both fun st2 kp2=>?_
     have hB0:0 < nb:=by exact Y6 q5
     have hB1:nb - 1 < b.size:=by lia
     have gB:=M.gb _ (Zg hB1)
     refine iI hB1 (gK C (kp2.1.trans hk) gB M.ga (by lia) (by lia) (jo M.sa _ _) fun k hk1 hk2 hk3=>?_)
     dsimp only
     refine aG (fun e5=>?_) fun e5=>?_
     ·have m2:=m.appA (k:=k) M.sa (by omega) (fun i hi h1 h2 j hj h3=>C.tr (M.gb _ (Zg hj)) gB (M.ga _ (Zg hi)) (M.sb j _ hj hB1 (ZS _) (by lia) hB1) (hk3 i hi (by lia) (by lia)))
      refine aG (fun e7=>?_) fun e7=>?_
      ·exact Zk ⟨kp2,.inl ⟨_,rfl,m2.fin M.sa M.sb (.inl (by simpa using e7))⟩⟩
      have hA0:0 < k:=by simp at e7;exact Yp e7
      have hA1:k - 1 < a.size:=by lia
      have hle:∀ j (hj:j < a.size),j < k->le r a[j] b[nb - 1]:=fun j hj h=>hk2 j hj (ZS _) (by lia)
      clear e7
      have m3:=m2.pushB M.sb hB0 hB1 hle
      refine bB hB1 (fun e4=>?_) fun e4=>?_
      ·exact Zk ⟨kp2,.inl ⟨_,rfl,m3.first M.sa (by simpa using e4) M.nb (M.first' C)⟩⟩
      have e4':1 < nb - 1:=by simp at e4;lia
      refine iI hA1 (gK C (kp2.1.trans hk) (M.ga _ (Zg hA1)) M.gb (by lia) (by lia) (jo M.sb _ _) fun k2 hl1 hl2 hl3=>?_)
      dsimp only
      have m4:=m3.appB (k:=k2) M.sb (by omega) (fun i hi h1 h2 j hj h3=>C.tr (M.ga _ (Zg hj)) (M.ga _ (Zg hA1)) (M.gb _ (Zg hi)) (M.sa j _ hj hA1 (ZS _) (by lia) hA1) (hl3 i hi (by lia) (by lia)))
      refine aG (fun e5=>?_) fun e5=>?_
      ·refine aG (fun e6=>?_) fun e6=>?_
       ·exact Zk ⟨kp2,.inl ⟨_,rfl,m4.first M.sa (by simpa using e6) M.nb (M.first' C)⟩⟩
       refine aG (fun e8=>?_) fun e8=>?_
       ·exact Zk ⟨kp2,.inl ⟨_,rfl,m4.fin M.sa M.sb (.inr (by simpa using e8))⟩⟩
       have m5:=m4.pushA M.sa hA0 hA1 (fun j hj h=>hl2 j hj (ZS _) (by lia))
       refine bB hA1 (fun e7=>?_) fun e7=>?_
       ·exact Zk ⟨kp2,.inl ⟨_,rfl,m5.fin M.sa M.sb (.inl (by simpa using e7))⟩⟩
       have e7':=e7
       simp at e7'
       refine aG (fun _=>?_) fun _=>?_
       ·exact Zk ⟨kp2,.inr ⟨rfl,m5,by (try dsimp only);exact Yp e7',by (try dsimp only);exact ZQ hA1,by (try dsimp only);(try simp at e6);(try simp at e8);lia,by (try dsimp only);(try simp at e6);lia,by simp;lia⟩⟩
       ·exact Zk ⟨kp2,rfl,m5,by (try dsimp only);exact Yp e7',by (try dsimp only);exact ZQ hA1,by (try dsimp only);(try simp at e6);(try simp at e8);lia,by (try dsimp only);(try simp at e6);lia,by simp;lia⟩
      ·have m5:=m3.pushA M.sa hA0 hA1 (fun j hj h=>hl2 j hj (ZS _) (by lia))
       refine bB hA1 (fun e7=>?_) fun e7=>?_
       ·exact Zk ⟨kp2,.inl ⟨_,rfl,m5.fin M.sa M.sb (.inl (by simpa using e7))⟩⟩
       have e7':=e7
       simp at e7'
       refine aG (fun _=>?_) fun _=>?_
       ·exact Zk ⟨kp2,.inr ⟨rfl,m5,by (try dsimp only);exact Yp e7',by (try dsimp only);exact ZQ hA1,by (try dsimp only);(try simp at e6);(try simp at e8);omega,by (try dsimp only);(try simp at e6);exact ZQ hB1,by simp;lia⟩⟩
       ·exact Zk ⟨kp2,rfl,m5,by (try dsimp only);exact Yp e7',by (try dsimp only);exact ZQ hA1,by (try dsimp only);(try simp at e6);(try simp at e8);omega,by (try dsimp only);(try simp at e6);exact ZQ hB1,by simp;lia⟩
     ·have m2:=m
      have hA0:0 < na:=q2
      have hA1:na - 1 < a.size:=by lia
      have hle:∀ j (hj:j < a.size),j < na->le r a[j] b[nb - 1]:=fun j hj h=>hk2 j hj (ZS _) (by lia)
      have m3:=m2.pushB M.sb hB0 hB1 hle
      refine bB hB1 (fun e4=>?_) fun e4=>?_
      ·exact Zk ⟨kp2,.inl ⟨_,rfl,m3.first M.sa (by simpa using e4) M.nb (M.first' C)⟩⟩
      have e4':1 < nb - 1:=by simp at e4;lia
      refine iI hA1 (gK C (kp2.1.trans hk) (M.ga _ (Zg hA1)) M.gb (by lia) (by lia) (jo M.sb _ _) fun k2 hl1 hl2 hl3=>?_)
      dsimp only
      have m4:=m3.appB (k:=k2) M.sb (by omega) (fun i hi h1 h2 j hj h3=>C.tr (M.ga _ (Zg hj)) (M.ga _ (Zg hA1)) (M.gb _ (Zg hi)) (M.sa j _ hj hA1 (ZS _) (by lia) hA1) (hl3 i hi (by lia) (by lia)))
      refine aG (fun e5=>?_) fun e5=>?_
      ·refine aG (fun e6=>?_) fun e6=>?_
       ·exact Zk ⟨kp2,.inl ⟨_,rfl,m4.first M.sa (by simpa using e6) M.nb (M.first' C)⟩⟩
       refine aG (fun e8=>?_) fun e8=>?_
       ·exact Zk ⟨kp2,.inl ⟨_,rfl,m4.fin M.sa M.sb (.inr (by simpa using e8))⟩⟩
       have m5:=m4.pushA M.sa hA0 hA1 (fun j hj h=>hl2 j hj (ZS _) (by lia))
       refine bB hA1 (fun e7=>?_) fun e7=>?_
       ·exact Zk ⟨kp2,.inl ⟨_,rfl,m5.fin M.sa M.sb (.inl (by simpa using e7))⟩⟩
       have e7':=e7
       simp at e7'
       refine aG (fun _=>?_) fun _=>?_
       ·exact Zk ⟨kp2,.inr ⟨rfl,m5,by (try dsimp only);exact Yp e7',by (try dsimp only);exact ZQ hA1,by (try dsimp only);(try simp at e6);(try simp at e8);lia,by (try dsimp only);(try simp at e6);lia,by simp;lia⟩⟩
       ·exact Zk ⟨kp2,rfl,m5,by (try dsimp only);exact Yp e7',by (try dsimp only);exact ZQ hA1,by (try dsimp only);(try simp at e6);(try simp at e8);lia,by (try dsimp only);(try simp at e6);lia,by simp;lia⟩
      ·have m5:=m3.pushA M.sa hA0 hA1 (fun j hj h=>hl2 j hj (ZS _) (by lia))
       refine bB hA1 (fun e7=>?_) fun e7=>?_
       ·exact Zk ⟨kp2,.inl ⟨_,rfl,m5.fin M.sa M.sb (.inl (by simpa using e7))⟩⟩
       have e7':=e7
       simp at e7'
       refine aG (fun _=>?_) fun _=>?_
       ·exact Zk ⟨kp2,.inr ⟨rfl,m5,by (try dsimp only);exact Yp e7',by (try dsimp only);exact ZQ hA1,by (try dsimp only);(try simp at e6);(try simp at e8);omega,by (try dsimp only);(try simp at e6);exact ZQ hB1,by simp;lia⟩⟩
       ·exact Zk ⟨kp2,rfl,m5,by (try dsimp only);exact Yp e7',by (try dsimp only);exact ZQ hA1,by (try dsimp only);(try simp at e6);(try simp at e8);omega,by (try dsimp only);(try simp at e6);exact ZQ hB1,by simp;lia⟩
end TS
end
section
open PySem PyProof.Rows
namespace TS
variable {prog:Program} {w:World} {A:Around} {E:Z8} {s:Shared} {κ:SortKind} {G:Keyed->Prop} {r:Keyed->Keyed->Bool}
noncomputable def K (xs:Array Keyed) (i:Nat):Keyed:=(xs[i]?).getD (.none,.none)
theorem xN {xs:Array Keyed} {i:Nat} (h:i < xs.size):K xs i=xs[i]:=by unfold K;rw [getElem?_pos xs i h];rfl
noncomputable def Sg (r:Keyed->Keyed->Bool) (xs:Array Keyed) (lo hi:Nat):Prop:=∀ i j,lo<=i->i<=j->j < hi->le r (K xs i) (K xs j)
noncomputable def Ds (r:Keyed->Keyed->Bool) (xs:Array Keyed) (lo hi:Nat):Prop:=∀ i j,lo<=i->i<=j->j < hi->le r (K xs j) (K xs i)
theorem kW {xs:Array Keyed} {i j:Nat} (hj:j<=xs.size) (k:Nat):K (mirror xs i j ((j - i) / 2)) k=if i<=k/\k < j then K xs (i+j - 1 - k) else K xs k:=by
 unfold K
 rw [getElem?_mirror_all hj]
 split <;> rfl
theorem Bp {xs:Array Keyed} {src d:Nat} (hs:src < xs.size) (hd:d<=src) (k:Nat):K (bubble xs src d) k=if k=src - d then K xs src else if src - d < k/\k<=src then K xs (k - 1) else K xs k:=by
 unfold K
 rw [getElem?_bubble hs d hd]
 split
 ·rfl
 ·split <;> rfl
structure Lc (lo:Nat) (st0 st:SortSt):Prop where
 kind:kindOf st=kindOf st0
 pend:pendingOf st=pendingOf st0
 fail:failedOf st=failedOf st0
 perm:(arrOf st).Perm (arrOf st0)
 pre:∀ j,j < lo->(arrOf st)[j]?=(arrOf st0)[j]?
theorem Lc.refl (lo:Nat) (st:SortSt):Lc lo st st:=⟨rfl,rfl,rfl,Array.Perm.refl _,fun _ _=>rfl⟩
theorem Lc.size {lo:Nat} {st0 st:SortSt} (L:Lc lo st0 st):(arrOf st).size=(arrOf st0).size:=L.perm.size_eq
theorem Lc.good {lo:Nat} {st0 st:SortSt} (L:Lc lo st0 st) (g:∀ x∈arrOf st0,G x) {i:Nat} (hi:i < (arrOf st0).size):G (K (arrOf st) i):=by
 rw [xN (by rw [L.size];exact hi)]
 refine g _ ?_
 have:(arrOf st)[i]'(by rw [L.size];exact hi)∈(arrOf st).toList:=by simp
 have:=(Xc.mp L.perm).mem_iff.mp this
 simpa using this
theorem Lc.arr {lo:Nat} {st0 st:SortSt} (L:Lc lo st0 st) {xs:Array Keyed} (hp:xs.Perm (arrOf st)) (hx:∀ j,j < lo->xs[j]?=(arrOf st)[j]?):Lc lo st0 (setArr st xs) :=
 ⟨L.kind,L.pend,L.fail,hp.trans L.perm,fun j hj=>(hx j hj).trans (L.pre j hj)⟩
theorem Lc.mir {lo:Nat} {st0 st:SortSt} (L:Lc lo st0 st) {i j:Nat} (hi:lo<=i) (hj:j<=(arrOf st0).size):Lc lo st0 (setArr st (mirror (arrOf st) i j ((j - i) / 2))) :=
 L.arr (mirror_perm _ _ _ _) fun k hk=>by rw [getElem?_mirror_all (by rw [L.size];exact hj),Zq (by lia)]
theorem ko (C:Cmp prog w A E s κ G r) {lo:Nat} {st0 st:SortSt} (hk:kindOf st0=κ) (g:∀ x∈arrOf st0,G x) (L:Lc lo st0 st) {i j:Nat} {Q:Option Bool->SortSt->Prop} (hi:i < (arrOf st0).size) (hj:j < (arrOf st0).size)
  (h:Q (some (r (K (arrOf st) i) (K (arrOf st) j))) st):wpS (model prog w) A E s (ltAt' i j) Q st:=by
 have gi:=L.good g hi
 have gj:=L.good g hj
 have hi':i < (arrOf st).size:=by rw [L.size];exact hi
 have hj':j < (arrOf st).size:=by rw [L.size];exact hj
 rw [ltAt'_eq]
 refine Za (WH ?_)
 refine Za (d8 hi' (Za (d8 hj' ?_)))
 rw [xN hi'] at gi h
 rw [xN hj'] at gj h
 exact C.run st _ _ _ (L.kind.trans hk) gi gj h
theorem Ds.mir (C:Cmp prog w A E s κ G r) {xs:Array Keyed} {lo hi i:Nat} (D:Ds r xs lo hi) (gx:∀ k,k < hi->G (K xs k)) (h1:lo<=i) (h2:hi<=xs.size) (h3:∀ k,i<=k->k < hi->le r (K xs k) (K xs (hi - 1))) :
  Ds r (mirror xs i hi ((hi - i) / 2)) lo hi:=fun p q hp hpq hq=>by
 rw [kW h2,kW h2]
 have eqv:∀ u v,i<=u->u < hi->i<=v->v < hi->le r (K xs u) (K xs v):=fun u v a b c d=>C.tr (gx u b) (gx _ (by lia)) (gx v d) (h3 u a b) (D v (hi - 1) (by exact ZV h1 c) (by lia) (by lia))
 split
 ·split
  ·exact eqv _ _ (by omega) (by omega) (by lia) (by omega)
  ·exact D p _ hp (by lia) (by omega)
 ·split
  ·lia
  ·exact D p q hp hpq hq
theorem Ds.rev {xs:Array Keyed} {lo hi:Nat} (D:Ds r xs lo hi) (h2:hi<=xs.size):Sg r (mirror xs lo hi ((hi - lo) / 2)) lo hi:=fun p q hp hpq hq=>by
 rw [kW h2,kW h2,Zr ⟨hp,by exact Wi hpq hq⟩,Zr ⟨by exact ZV hp hpq,hq⟩]
 exact D _ _ (by omega) (by omega) (by omega)
theorem Sg.snoc (C:Cmp prog w A E s κ G r) {xs:Array Keyed} {lo n:Nat} (S:Sg r xs lo (lo+n)) (gx:∀ k,k<=lo+n->G (K xs k)) (h1:1<=n) (h:le r (K xs (lo+n - 1)) (K xs (lo+n))):Sg r xs lo (lo+n+1):=fun i j hi hij hj=>by
 by_cases e:j < lo+n
 ·exact S i j hi hij e
 ·have:j=lo+n:=by lia
  subst this
  by_cases e2:i=lo+n
  ·subst e2
   exact C.refl (gx _ (Zp _))
  ·exact C.tr (gx i (by omega)) (gx _ (by exact YQ _ _)) (gx _ (Zp _)) (S i (lo+n - 1) hi (by lia) (by omega)) h
theorem Ds.snoc (C:Cmp prog w A E s κ G r) {xs:Array Keyed} {lo n:Nat} (S:Ds r xs lo (lo+n)) (gx:∀ k,k<=lo+n->G (K xs k)) (h1:1<=n) (h:le r (K xs (lo+n)) (K xs (lo+n - 1))):Ds r xs lo (lo+n+1):=fun i j hi hij hj=>by
 by_cases e:j < lo+n
 ·exact S i j hi hij e
 ·have:j=lo+n:=by lia
  subst this
  by_cases e2:i=lo+n
  ·subst e2
   exact C.refl (gx _ (Zp _))
  ·exact C.tr (gx _ (Zp _)) (gx _ (by exact YQ _ _)) (gx i (by omega)) h (S i (lo+n - 1) hi (by lia) (by omega))
theorem lh {st:SortSt} {i j:Nat} {Q:Unit->SortSt->Prop} (h:Q () (setArr st (mirror (arrOf st) i j ((j - i) / 2)))):wpS (model prog w) A E s (reverseSlice' i j) Q st:=by
 rw [reverseSlice'_eq]
 exact Wu h
theorem qz {α:Type} {c:Prop} [Decidable c] {x R:StateT SortSt Sem α} {Q:α->SortSt->Prop} {P:SortSt->Prop} {st:SortSt} (D:∀ st1,P st1->wpS (model prog w) A E s R Q st1) (h2:¬ c->P st) (h1:c->(∀ st1,P st1->wpS (model prog w) A E s R Q st1)->wpS (model prog w) A E s x Q st):wpS (model prog w) A E s (if c then x else R) Q st :=
 aG (fun z=>h1 z D) fun z=>D st (h2 z)
theorem CN (C:Cmp prog w A E s κ G r) {lo n:Nat} {st:SortSt} {Q:Option Nat->SortSt->Prop} (hk:kindOf st=κ) (g:∀ x∈arrOf st,G x) (h0:1<=n) (hn:lo+n<=(arrOf st).size)
  (h:∀ m st',Lc lo st st'->1<=m->m<=n->Sg r (arrOf st') lo (lo+m)->Q (some m) st'):wpS (model prog w) A E s (countRun' lo n) Q st:=by
 unfold countRun'
 change wpS (model prog w) A E s (_ >>= _) Q st
 dsimp only
 have L0:=Lc.refl lo st
 have n01:1<=1:=Zp _
 have s0:Sg r (arrOf st) lo (lo+1):=fun i j h1 h2 h3=>by
  have e1:i=lo:=by lia
  have e2:j=lo:=by lia
  subst e1 e2
  exact C.refl (L0.good g (by lia))
 refine Za (Y8 (Yk
  (I:=fun x c st'=>Lc lo st st'/\c.1=none/\c.2=x/\1<=x/\Sg r (arrOf st') lo (lo+x))
  (Q:=fun c st'=>Lc lo st st'/\c.1=none/\1<=c.2/\c.2<=n/\Sg r (arrOf st') lo (lo+c.2)/\(c.2 < n->r (K (arrOf st') (lo+c.2)) (K (arrOf st') (lo+c.2 - 1))=true)) ?stepA ?finA ?initA) ?postA)
 case initA=>exact ⟨L0,rfl,rfl,n01,s0⟩
 case finA =>
  refine all2 fun c1 c2=>?_
  rintro st' ⟨L,q1,q2,q3,q4⟩
  dsimp only at *
  subst q2
  refine ⟨L,q1,by (try dsimp only);omega,by (try dsimp only);lia,q4,fun z=>?_⟩
  (try dsimp only at z)
  lia
 case stepA =>
  intro x
  refine all2 fun c1 c2=>?_
  rintro st' hx1 hx2 ⟨L,q1,q2,q3,q4⟩
  dsimp only at *
  subst q2
  refine Za (ko C hk g L (by lia) (by omega) ?_)
  dsimp only
  have gx:∀ k,k<=lo+c2->G (K (arrOf st') k):=fun k hk=>L.good g (by lia)
  cases e:r (K (arrOf st') (lo+c2)) (K (arrOf st') (lo+c2 - 1)) with
  | true=>exact Zk ⟨L,rfl,q3,by (try dsimp only);exact ZQ hx2,q4,fun _=>e⟩
  | false=>exact Zk ⟨L,rfl,rfl,by exact Y5 _ _,Sg.snoc C q4 gx q3 e⟩
 case postA =>
  refine all2 fun c1 c2=>?_
  rintro st' ⟨L,q1,q2,q3,q4,q5⟩
  dsimp only at *
  subst q1
  dsimp only
  refine aG (fun e=>?_) fun e=>?_
  ·exact Zk (h c2 st' L q2 q3 q4)
  have e':c2 < n:=by simp at e;exact Nat.lt_of_le_of_ne q3 e
  have sm:=q5 e'
  have gx:∀ k,k<=lo+c2->G (K (arrOf st') k):=fun k hk=>L.good g (by lia)
  have le1:le r (K (arrOf st') (lo+c2)) (K (arrOf st') (lo+c2 - 1)):=C.le_of (gx _ (by exact Zp _)) (gx _ (by exact YQ _ _)) sm
  have hsz:=L.size
  refine qz (P:=fun st1=>Lc lo st st1/\Ds r (arrOf st1) lo (lo+(c2+1))) ?D ?two ?one
  case one =>
   intro e3 Dk
   refine Za (ko C hk g L (by lia) (by lia) ?_)
   dsimp only
   cases e4:r (K (arrOf st') lo) (K (arrOf st') (lo+c2 - 1)) with
   | true=>exact Zk (h c2 st' L q2 q3 q4)
   | false =>
    rw [Zq Zh]
    refine Za (lh ?_)
    have L1:=L.mir (i:=lo) (j:=lo+c2) (by exact Zp _) (by lia)
    have d0:Ds r (arrOf st') lo (lo+c2):=fun i j h1 h2 h3=>C.tr (gx j (by exact ZQ h3)) (gx _ (by exact YQ _ _)) (gx i (by lia)) (q4 j (lo+c2 - 1) (by exact ZV h1 h2) (by lia) (by omega))
     (C.tr (gx _ (by exact YQ _ _)) (gx _ (by exact ZL _ _)) (gx i (by lia)) e4 (q4 lo i (by exact Zp _) h1 (by exact Wi h2 h3)))
    have d2:=Ds.mir C d0 (fun k hk=>gx k (by exact ZQ hk)) (i:=lo) (by exact Zp _) (by lia) (fun k h1 h2=>q4 k _ h1 (by lia) (by omega))
    have d1:=Ds.snoc C d2 (fun k hk=>L1.good g (by lia)) q2 (by
     rw [kW (by lia),kW (by lia),Zq (by lia),Zr (by omega)]
     exact C.tr (gx _ (by exact Zp _)) (gx _ (by exact YQ _ _)) (gx _ (by omega)) le1 (d0 _ _ (by omega) (by omega) (by omega)))
    exact Dk _ ⟨L1,d1⟩
  case two =>
   intro e3
   have e5:c2=1:=by lia
   have d0:Ds r (arrOf st') lo (lo+c2):=fun i j h1 h2 h3=>by
    have e1:i=lo:=by lia
    have e2:j=lo:=by lia
    subst e1 e2
    exact C.refl (gx _ (by exact ZL _ _))
   have d1:=Ds.snoc C d0 gx q2 le1
   exact ⟨L,d1⟩
  case D =>
   rintro st' ⟨L1,d1⟩
   clear gx hsz
   refine Za (g7 ?_)
   refine Za (Y8 (Yk
    (I:=fun x c st'=>Lc lo st st'/\c.1=none/\c.2.1=x/\c.2.2+1<=x/\Ds r (arrOf st') lo (lo+x)/\(∀ k,lo+x - (c.2.2+1)<=k->k < lo+x->le r (K (arrOf st') k) (K (arrOf st') (lo+x - 1))))
    (Q:=fun c st'=>Lc lo st st'/\c.1=none/\c.2.2+1<=c.2.1/\c.2.1<=n/\Ds r (arrOf st') lo (lo+c.2.1)/\(∀ k,lo+c.2.1 - (c.2.2+1)<=k->k < lo+c.2.1->le r (K (arrOf st') k) (K (arrOf st') (lo+c.2.1 - 1)))) ?stepD ?finD ?initD) ?postD)
   case initD =>
    refine ⟨L1,rfl,rfl,by (try dsimp only);exact Y5 _ _,d1,fun k h1 h2=>?_⟩
    (try dsimp only at h1 h2)
    have e:k=lo+(c2+1) - 1:=by lia
    subst e
    exact C.refl (L1.good g (by lia))
   case finD =>
    refine iH fun c1 c2' neq=>?_
    rintro st' ⟨L,q1,q2,q3,q4,q5⟩
    dsimp only at *
    subst q2
    exact ⟨L,q1,q3,by (try dsimp only);lia,q4,q5⟩
   case stepD =>
    intro x
    refine iH fun c1 c2' neq=>?_
    rintro st' hx1 hx2 ⟨L,q1,q2,q3,q4,q5⟩
    dsimp only at *
    subst q2
    refine Za (ko C hk g L (by lia) (by omega) ?_)
    dsimp only
    have gx:∀ k,k<=lo+c2'->G (K (arrOf st') k):=fun k hk=>L.good g (by lia)
    have hsz:=L.size
    cases e:r (K (arrOf st') (lo+c2')) (K (arrOf st') (lo+c2' - 1)) with
    | true =>
     rw [Zr rfl]
     have le1:le r (K (arrOf st') (lo+c2')) (K (arrOf st') (lo+c2' - 1)):=C.le_of (gx _ (by exact Zp _)) (gx _ (by exact YQ _ _)) e
     refine aG (fun z=>?_) fun z=>?_
     ·refine Za (lh ?_)
      have L2:=L.mir (i:=lo+c2' - (neq+1)) (j:=lo+c2') (by lia) (by lia)
      have d2:=Ds.mir C q4 (fun k hk=>gx k (by exact ZQ hk)) (i:=lo+c2' - (neq+1)) (by lia) (by lia) q5
      refine Zk ⟨L2,rfl,rfl,by (try dsimp only);exact Y5 _ _,Ds.snoc C d2 (fun k hk=>L2.good g (by lia)) (by lia) ?_,fun k h1 h2=>?_⟩
      ·show le r (K (mirror _ _ _ _) _) (K (mirror _ _ _ _) _)
       rw [kW (by lia),kW (by lia),Zq (by lia),Zr (by omega)]
       exact C.tr (gx _ (by exact Zp _)) (gx _ (by exact YQ _ _)) (gx _ (by omega)) le1 (q4 _ _ (by lia) (by omega) (by omega))
      ·(try dsimp only at h1 h2)
       have e:k=lo+(c2'+1) - 1:=by lia
       subst e
       exact C.refl (L2.good g (by lia))
     ·refine Zk ⟨L,rfl,rfl,by (try dsimp only);exact Y5 _ _,Ds.snoc C q4 gx (by lia) le1,fun k h1 h2=>?_⟩
      (try dsimp only at h1 h2)
      have e:k=lo+(c2'+1) - 1:=by lia
      subst e
      exact C.refl (L.good g (by lia))
    | false =>
     rw [Zq Zh]
     refine Za (ko C hk g L (by lia) (by lia) ?_)
     dsimp only
     cases e2:r (K (arrOf st') (lo+c2' - 1)) (K (arrOf st') (lo+c2')) with
     | true=>exact Zk ⟨L,rfl,q3,by (try dsimp only);exact ZQ hx2,q4,q5⟩
     | false =>
      refine Zk ⟨L,rfl,rfl,by (try dsimp only);exact YC q3,Ds.snoc C q4 gx (by lia) e2,fun k h1 h2=>?_⟩
      (try dsimp only at h1 h2)
      have ee:lo+(c2'+1) - 1=lo+c2':=by lia
      rw [ee]
      by_cases ek:k=lo+c2'
      ·subst ek
       exact C.refl (gx _ (by exact Zp _))
      ·exact C.tr (gx _ (by lia)) (gx _ (by exact YQ _ _)) (gx _ (by exact Zp _)) (q5 k (by lia) (by lia)) e
   case postD =>
    refine iH fun c1 c2' neq=>?_
    rintro st' ⟨L,q1,q3,q6,q4,q5⟩
    dsimp only at *
    subst q1
    dsimp only
    have gx:∀ k,k < lo+c2'->G (K (arrOf st') k):=fun k hk=>L.good g (by lia)
    have hsz:=L.size
    have n01:1<=c2':=by lia
    refine qz (P:=fun st1=>Lc lo st st1/\Ds r (arrOf st1) lo (lo+c2')) ?R ?two2 ?one2
    case one2 =>
     intro z Dk2
     refine Za (lh ?_)
     have L2:=L.mir (i:=lo+c2' - (neq+1)) (j:=lo+c2') (by lia) (by lia)
     have d2:=Ds.mir C q4 gx (i:=lo+c2' - (neq+1)) (by lia) (by lia) q5
     exact Dk2 _ ⟨L2,d2⟩
    case two2=>exact fun _=>⟨L,q4⟩
    case R =>
     clear q4 q5 gx hsz L
     rintro st' ⟨L,q4⟩
     have hsz:=L.size
     refine Za (lh ?_)
     have L0:=L.mir (i:=lo) (j:=lo+c2') (by exact Zp _) (by lia)
     have s0:=q4.rev (by lia)
     refine Za (Y8 (Yk
      (I:=fun x c st'=>Lc lo st st'/\c.1=none/\c.2=x/\1<=x/\Sg r (arrOf st') lo (lo+x))
      (Q:=fun c st'=>Lc lo st st'/\c.1=none/\1<=c.2/\c.2<=n/\Sg r (arrOf st') lo (lo+c.2)/\(c.2 < n->r (K (arrOf st') (lo+c.2)) (K (arrOf st') (lo+c.2 - 1))=true)) ?stepA ?finA ?initA) ?postA)
     case initA=>exact ⟨L0,rfl,rfl,n01,s0⟩
     case finA =>
      refine all2 fun c1 c2=>?_
      rintro st' ⟨L,q1,q2,q3,q4⟩
      dsimp only at *
      subst q2
      refine ⟨L,q1,by (try dsimp only);omega,by (try dsimp only);lia,q4,fun z=>?_⟩
      (try dsimp only at z)
      lia
     case stepA =>
      intro x
      refine all2 fun c1 c2=>?_
      rintro st' hx1 hx2 ⟨L,q1,q2,q3,q4⟩
      dsimp only at *
      subst q2
      refine Za (ko C hk g L (by lia) (by lia) ?_)
      dsimp only
      have gx:∀ k,k<=lo+c2->G (K (arrOf st') k):=fun k hk=>L.good g (by lia)
      cases e:r (K (arrOf st') (lo+c2)) (K (arrOf st') (lo+c2 - 1)) with
      | true=>exact Zk ⟨L,rfl,q3,by (try dsimp only);exact ZQ hx2,q4,fun _=>e⟩
      | false=>exact Zk ⟨L,rfl,rfl,by exact Y5 _ _,Sg.snoc C q4 gx q3 e⟩
     case postA =>
      refine all2 fun c1 c3=>?_
      rintro st' ⟨L,q1,q2,q3,q4,q5⟩
      dsimp only at *
      subst q1
      exact Zk (h c3 st' L q2 q3 q4)
end TS
end
section
open PySem PyProof.Rows
namespace TS
variable {prog:Program} {w:World} {A:Around} {E:Z8} {s:Shared} {κ:SortKind} {G:Keyed->Prop} {r:Keyed->Keyed->Bool}
theorem xq {st:SortSt} {i j:Nat} {Q:Unit->SortSt->Prop} (h:Q () (setArr st (bubble (arrOf st) i (i - j)))):wpS (model prog w) A E s (moveDown' i j) Q st:=by
 rw [moveDown'_eq]
 exact Wu h
theorem Lc.bub {lo:Nat} {st0 st:SortSt} (L:Lc lo st0 st) {i d:Nat} (hd:lo+d<=i) (hj:i < (arrOf st0).size):Lc lo st0 (setArr st (bubble (arrOf st) i d)) :=
 L.arr (bubble_perm _ _ _) fun k hk=>by rw [getElem?_bubble (by rw [L.size];exact hj) d (by lia),Zq (by lia),Zq (by lia)]
theorem C5 (C:Cmp prog w A E s κ G r) {lo n ok:Nat} {st:SortSt} {Q:Bool->SortSt->Prop} (hk:kindOf st=κ) (g:∀ x∈arrOf st,G x) (h0:1<=ok) (hok:ok<=n) (hn:lo+n<=(arrOf st).size) (S:Sg r (arrOf st) lo (lo+ok))
  (h:∀ st',Lc lo st st'->Sg r (arrOf st') lo (lo+n)->Q true st'):wpS (model prog w) A E s (binarySort' lo n ok) Q st:=by
 unfold binarySort'
 change wpS (model prog w) A E s (_ >>= _) Q st
 dsimp only
 have em:max ok 1=ok:=by lia
 rw [em]
 refine Za (Y8 (Yk
  (I:=fun x c st'=>Lc lo st st'/\c.1=none/\Sg r (arrOf st') lo (lo+x))
  (Q:=fun c st'=>Lc lo st st'/\c.1=none/\Sg r (arrOf st') lo (lo+n)) ?step ?fin ?init) ?post)
 case init=>exact ⟨Lc.refl _ _,rfl,S⟩
 case fin =>
  refine all2 fun c1 c2=>?_
  rintro st' ⟨L,q1,q2⟩
  have e:max ok n=n:=by lia
  rw [e] at q2
  exact ⟨L,q1,q2⟩
 case post =>
  refine all2 fun c1 c2=>?_
  rintro st' ⟨L,q1,q2⟩
  dsimp only at *
  subst q1
  exact Zk (h st' L q2)
 case step =>
  intro k
  refine all2 fun c1 c2=>?_
  rintro st' hk1 hk2 ⟨L,q1,q2⟩
  dsimp only at *
  have hsz:=L.size
  have gx:∀ j,j<=lo+k->G (K (arrOf st') j):=fun j hj=>L.good g (by lia)
  refine Za (Y8 (Yk
   (I:=fun x c st2=>st'=st2/\c.1=none/\c.2.1<=c.2.2/\c.2.2<=k/\c.2.2 - c.2.1+x<=k/\(∀ i,lo<=i->i < lo+c.2.1->le r (K (arrOf st') i) (K (arrOf st') (lo+k)))/\(∀ i,lo+c.2.2<=i->i < lo+k->le r (K (arrOf st') (lo+k)) (K (arrOf st') i)))
   (Q:=fun c st2=>st'=st2/\c.1=none/\c.2.1=c.2.2/\c.2.2<=k/\(∀ i,lo<=i->i < lo+c.2.1->le r (K (arrOf st') i) (K (arrOf st') (lo+k)))/\(∀ i,lo+c.2.2<=i->i < lo+k->le r (K (arrOf st') (lo+k)) (K (arrOf st') i))) ?step2 ?fin2 ?init2) ?post2)
  case init2=>exact ⟨rfl,rfl,by (try dsimp only);exact ZS _,by (try dsimp only);exact Zp _,by (try dsimp only);lia,fun i h1 h2=>by (try dsimp only at h2);lia,fun i h1 h2=>by (try dsimp only at h1);lia⟩
  case fin2 =>
   refine iH fun d1 l rr=>?_
   rintro st2 ⟨e,q3,q4,q5,q6,q7,q8⟩
   dsimp only at *
   exact ⟨e,q3,by (try dsimp only);lia,q5,q7,q8⟩
  case step2 =>
   intro x
   refine iH fun d1 l rr=>?_
   rintro st2 _ hx ⟨e,q3,q4,q5,q6,q7,q8⟩
   subst e
   dsimp only at *
   refine aG (fun z=>?_) fun z=>?_
   ·exact Zk ⟨rfl,rfl,by (try dsimp only);exact Nat.le_antisymm q4 z,q5,q7,q8⟩
   ·refine Za (ko C hk g L (by lia) (by lia) ?_)
    dsimp only
    cases e2:r (K (arrOf st') (lo+k)) (K (arrOf st') (lo+(l+rr) / 2)) with
    | true =>
     have l1:=C.le_of (gx _ (by exact Zp _)) (gx _ (by lia)) e2
     exact Zk ⟨rfl,rfl,by (try dsimp only);lia,by (try dsimp only);lia,by (try dsimp only);lia,q7,fun i h1 h2=>C.tr (gx _ (by exact Zp _)) (gx _ (by lia)) (gx _ (by exact ZQ h2)) l1 (q2 _ i (by exact ZL _ _) h1 h2)⟩
    | false =>
     refine Zk ⟨rfl,rfl,by (try dsimp only);lia,by (try dsimp only);omega,by (try dsimp only);lia,fun i h1 h2=>?_,q8⟩
     (try dsimp only at h2)
     exact C.tr (gx _ (by lia)) (gx _ (by lia)) (gx _ (by exact Zp _)) (q2 i (lo+(l+rr) / 2) h1 (by lia) (by lia)) e2
  case post2 =>
   refine iH fun d1 l rr=>?_
   rintro st2 ⟨e,q3,q4,q5,q7,q8⟩
   subst e
   dsimp only at *
   subst q3
   dsimp only
   refine Za (xq ?_)
   have ed:lo+k - (lo+l)=k - l:=by lia
   rw [ed]
   refine Zk ⟨L.bub (by lia) (by lia),rfl,fun i j h1 h2 h3=>?_⟩
   show le r (K (bubble _ _ _) i) (K (bubble _ _ _) j)
   rw [Bp (by lia) (by lia),Bp (by lia) (by lia)]
   by_cases c1:i=lo+k - (k - l)
   ·rw [Zr c1]
    by_cases c2:j=lo+k - (k - l)
    ·rw [Zr c2];exact C.refl (gx _ (by exact Zp _))
    ·rw [Zq c2,Zr (by omega)]
     exact q8 _ (by omega) (by lia)
   ·rw [Zq c1]
    by_cases c3:lo+k - (k - l) < i/\i<=lo+k
    ·rw [Zr c3]
     rw [Zq (by lia),Zr (by omega)]
     exact q2 _ _ (by omega) (by lia) (by lia)
    ·rw [Zq c3]
     by_cases c2:j=lo+k - (k - l)
     ·rw [Zr c2]
      exact q7 i h1 (by lia)
     ·rw [Zq c2]
      by_cases c4:lo+k - (k - l) < j/\j<=lo+k
      ·rw [Zr c4]
       exact q2 _ _ h1 (by omega) (by lia)
      ·rw [Zq c4]
       exact q2 _ _ h1 h2 (by omega)
theorem tD (base:Nat):∀ (l:List Keyed) (off:Nat) (arr:Array Keyed),base+off+l.length<=arr.size →
  ((l.zipIdx off).foldl (fun a x=>a.setIfInBounds (base+x.snd) x.fst) arr).toList=arr.toList.take (base+off)++l++arr.toList.drop (base+off+l.length)
 | [],off,arr,h=>by simp
 | x :: l,off,arr,h=>by
  rw [Xa,XM]
  rw [Zj] at h
  rw [tD base l (off+1) _ (by rw [Array.size_setIfInBounds];lia)]
  dsimp only
  have hl:base+off < arr.toList.length:=by simp;lia
  rw [Array.toList_setIfInBounds,List.set_eq_take_append_cons_drop,Zr hl]
  have e1:(arr.toList.take (base+off)++x :: arr.toList.drop (base+off+1)).take (base+(off+1))=arr.toList.take (base+off)++[x]:=by
   have:(arr.toList.take (base+off)).length=base+off:=by rw [ZO];lia
   rw [List.take_append,this,ZA (by rw [this];lia)]
   have:base+(off+1) - (base+off)=1:=by lia
   rw [this];rfl
  have e2:(arr.toList.take (base+off)++x :: arr.toList.drop (base+off+1)).drop (base+(off+1)+l.length)=arr.toList.drop (base+off+(l.length+1)):=by
   have:(arr.toList.take (base+off)).length=base+off:=by rw [ZO];lia
   rw [X5,this,YN (by rw [this];lia),Yr]
   have:base+(off+1)+l.length - (base+off)=l.length+1:=by lia
   rw [this,List.drop_succ_cons,List.drop_drop]
   congr 1
   lia
  rw [e1,e2]
  simp
end TS
end
section
open PySem PyProof.Rows
namespace TS
variable {prog:Program} {w:World} {A:Around} {E:Z8} {s:Shared} {κ:SortKind} {G:Keyed->Prop} {r:Keyed->Keyed->Bool}
theorem iz {a:Array Keyed} {P X S:List Keyed} (e:a.toList=P++X++S) (j:Nat) (hj:j < X.length):∃ h:P.length+j < a.size,a[P.length+j]=X[j]:=by
 have hs:a.size=P.length+X.length+S.length:=by
  have:=congrArg List.length e
  simp at this
  lia
 have h:P.length+j < a.size:=by lia
 refine ⟨h,?_⟩
 have h1:a[P.length+j]?=X[j]?:=by
  rw [← Yx,e,Zf,Yw (by exact ZL _ _),YF,Ym hj]
 rw [getElem?_pos a _ h,getElem?_pos X _ hj] at h1
 exact ZE h1
theorem tN (C:Cmp prog w A E s κ G r) {a:Array Keyed} {P X S:List Keyed} (e:a.toList=P++X++S) (g:∀ x∈a,G x) (sx:X.Pairwise (le r)):Seg r a P.length (P.length+X.length):=by
 intro i j hi hj h1 h2 h3
 obtain ⟨i',rfl⟩:∃ i',i=P.length+i':=⟨i - P.length,by lia⟩
 obtain ⟨j',rfl⟩:∃ j',j=P.length+j':=⟨j - P.length,by lia⟩
 obtain ⟨_,e1⟩:=iz e i' (by lia)
 obtain ⟨_,e2⟩:=iz e j' (by lia)
 rcases Wn i' j' with hlt | hge
 ·rw [e1,e2]
  exact Y3.mp sx i' j' (by lia) (by lia) hlt
 ·have:i'=j':=by lia
  subst this
  exact C.refl (g _ (Zg hi))
theorem DB (C:Cmp prog w A E s κ G r) {i pw pw2:Nat} {st:SortSt} {Q:Bool->SortSt->Prop} {P X Y S:List Keyed} (hk:kindOf st=κ) (g:∀ x∈arrOf st,G x) (hf:failedOf st=none)
  (e1:(arrOf st).toList=P++X++(Y++S)) (p1:(pendingOf st)[i]?=some (P.length,X.length,pw)) (p2:(pendingOf st)[i+1]?=some (P.length+X.length,Y.length,pw2))
  (sX:X.Pairwise (le r)) (sY:Y.Pairwise (le r)) (nX:0 < X.length) (nY:0 < Y.length)
  (h:∀ st' M,M.Perm (X++Y)->M.Pairwise (le r)->(arrOf st').toList=P++M++S->kindOf st'=kindOf st->failedOf st'=none →
   pendingOf st'=((pendingOf st).setIfInBounds i (P.length,X.length+Y.length,pw)).eraseIdxIfInBounds (i+1)->Q true st'):wpS (model prog w) A E s (mergeAt' i) Q st:=by
 have e2:(arrOf st).toList=(P++X)++Y++S:=by rw [e1];simp
 have hs:(arrOf st).size=P.length+X.length+Y.length+S.length:=by
  have:=congrArg List.length e1
  simp at this
  lia
 have gm:∀ x,x∈(arrOf st).toList->G x:=fun x hx=>g x (by simpa using hx)
 have gX:∀ x∈X,G x:=fun x hx=>gm x (by rw [e1];simp [hx])
 have gY:∀ x∈Y,G x:=fun x hx=>gm x (by rw [e1];simp [hx])
 have segX:=tN C e1 g sX
 have segY:=tN C e2 g sY
 rw [Zu] at segY
 obtain ⟨hb,eb⟩:=iz e2 0 nY
 simp only [Zu,Nat.add_zero] at hb eb
 obtain ⟨hl,el⟩:=iz e1 (X.length - 1) (by lia)
 have gb:G (arrOf st)[P.length+X.length]:=g _ (Zg hb)
 unfold mergeAt'
 change wpS (model prog w) A E s (_ >>= _) Q st
 dsimp only
 refine Za (WH ?_)
 rw [show (sortPriv% PySem.Builtin.SortState.pending) st=pendingOf st from rfl,p1,p2]
 dsimp only
 refine Za (show wpS _ _ _ _ (set _) _ _ from ?_)
 refine (show wpS (model prog w) A E s (modify (fun _=>SortSt.mk' (kindOf st) (arrOf st) (((pendingOf st).setIfInBounds i (P.length,X.length+Y.length,pw)).eraseIdxIfInBounds (i+1)) (gallopOf st) (failedOf st))) _ st from Wu ?_)
 refine Za (d8 hb ?_)
 refine Za (gK C (hint:=0) (by exact hk) gb g (by show P.length+X.length<=(arrOf st).size;exact ZQ hb) nX segX fun k hk1 hk2 hk3=>?_)
 dsimp only
 have z1:∀ x∈X.take k,le r x (arrOf st)[P.length+X.length]:=fun x hx=>by
  obtain ⟨j,hj,rfl⟩:=Ys hx
  rw [ZO] at hj
  obtain ⟨h1,e3⟩:=iz e1 j (by lia)
  rw [Xk,← e3]
  exact hk2 _ h1 (by exact ZL _ _) (by lia)
 have z2:∀ x∈X.drop k,le r (arrOf st)[P.length+X.length] x:=fun x hx=>by
  obtain ⟨j,hj,rfl⟩:=Ys hx
  rw [ZK] at hj
  obtain ⟨h1,e3⟩:=iz e1 (k+j) (by lia)
  rw [Xj,← e3]
  exact hk3 _ h1 (by lia) (by lia)
 have b0Y:∀ y∈Y,le r (arrOf st)[P.length+X.length] y:=fun y hy=>by
  obtain ⟨j,hj,rfl⟩:=Ys hy
  obtain ⟨h1,e3⟩:=iz e2 j hj
  simp only [Zu] at h1 e3
  rw [← e3]
  exact segY _ _ hb h1 (by exact Zp _) (by exact ZL _ _) (by lia)
 refine aG (fun e3=>?_) fun e3=>?_
 ·have e3':X.length<=k:=by simp at e3;lia
  refine Zk (h _ (X++Y) (XD _) ?_ (by show (arrOf st).toList=_;rw [e1];simp) rfl hf rfl)
  rw [ZJ]
  refine ⟨sX,sY,fun x hx y hy=>C.tr (gX x hx) gb (gY y hy) (z1 x (by rw [ZA e3'];exact hx)) (b0Y y hy)⟩
 have hk':k < X.length:=by simp at e3;lia
 have ei:P.length+k+(X.length - k) - 1=P.length+(X.length - 1):=by lia
 refine Za (d8 (show P.length+k+(X.length - k) - 1 < (arrOf st).size by omega) ?_)
 have elst:∀ (q:P.length+k+(X.length - k) - 1 < (arrOf st).size),(arrOf st)[P.length+k+(X.length - k) - 1]=X[X.length - 1]:=fun q=>by
  simp only [ei]
  exact el
 rw [elst]
 have gl:G X[X.length - 1]:=gX _ (XY _)
 refine Za (gK C (hint:=Y.length - 1) (by exact hk) gl g (by show P.length+X.length+Y.length<=(arrOf st).size;lia) (by lia) segY fun m hm1 hm2 hm3=>?_)
 dsimp only
 have y1:∀ x∈Y.take m,le r x X[X.length - 1]:=fun x hx=>by
  obtain ⟨j,hj,rfl⟩:=Ys hx
  rw [ZO] at hj
  obtain ⟨h1,e3⟩:=iz e2 j (by lia)
  simp only [Zu] at h1 e3
  rw [Xk,← e3]
  exact hm2 _ h1 (by exact ZL _ _) (by lia)
 have y2:∀ x∈Y.drop m,le r X[X.length - 1] x:=fun x hx=>by
  obtain ⟨j,hj,rfl⟩:=Ys hx
  rw [ZK] at hj
  obtain ⟨h1,e3⟩:=iz e2 (m+j) (by lia)
  simp only [Zu] at h1 e3
  rw [Xj,← e3]
  exact hm3 _ h1 (by lia) (by lia)
 have xl:∀ x∈X,le r x X[X.length - 1]:=fun x hx=>by
  obtain ⟨j,hj,rfl⟩:=Ys hx
  rcases Wn j (X.length - 1) with hlt | hge
  ·exact Y3.mp sX j _ hj (by omega) hlt
  ·have:j=X.length - 1:=by omega
   subst this
   exact C.refl gl
 refine aG (fun e4=>?_) fun e4=>?_
 ·have e4':m=0:=by simpa using e4
  subst e4'
  refine Zk (h _ (X++Y) (XD _) ?_ (by show (arrOf st).toList=_;rw [e1];simp) rfl hf rfl)
  rw [ZJ]
  exact ⟨sX,sY,fun x hx y hy=>C.tr (gX x hx) gl (gY y hy) (xl x hx) (y2 y hy)⟩
 have hm':0 < m:=by simp at e4;exact Yp e4
 have ex:((arrOf st).extract (P.length+k) (P.length+X.length)).toList=X.drop k:=by
  rw [Ww,List.extract_eq_drop_take,e1,Zf,X5,YN (by exact ZL _ _),Yr]
  have:P.length+k - P.length=k:=by exact YF _ _
  rw [this,X5,Nat.sub_eq_zero_of_le (by omega:k<=X.length),Xe]
  rw [X9 (by rw [ZK];lia),ZA (by rw [ZK];lia)]
 have ey:((arrOf st).extract (P.length+X.length) (P.length+X.length+m)).toList=Y.take m:=by
  rw [Ww,List.extract_eq_drop_take,e2,Zf,X5,YN (by simp),Yr]
  have:P.length+X.length - (P++X).length=0:=by simp
  rw [this,Xe]
  have:P.length+X.length+m - (P.length+X.length)=m:=by exact YF _ _
  rw [this,X9 (by omega)]
 obtain ⟨ax,hax⟩:∃ ax,ax=(arrOf st).extract (P.length+k) (P.length+X.length):=⟨_,rfl⟩
 obtain ⟨ay,hay⟩:∃ ay,ay=(arrOf st).extract (P.length+X.length) (P.length+X.length+m):=⟨_,rfl⟩
 rw [← hax] at ex
 rw [← hay] at ey
 have mx:∀ x,x∈ax->x∈X.drop k:=fun x hx=>by rw [← ex];simpa using hx
 have my:∀ x,x∈ay->x∈Y.take m:=fun x hx=>by rw [← ey];simpa using hx
 have szx:ax.size=X.length - k:=by have:=congrArg List.length ex;simpa using this
 have szy:ay.size=m:=by have:=congrArg List.length ey;simp at this;lia
 have gax:∀ x∈ax,G x:=fun x hx=>gX x (Yd (mx x hx))
 have gay:∀ x∈ay,G x:=fun x hx=>gY x (Yn (my x hx))
 have y0:∀ (q:0 < ay.size),ay[0]=(arrOf st)[P.length+X.length]:=fun q=>by
  rw [eb]
  have:ay[0]?=Y[0]?:=by rw [← Yx,ey,List.getElem?_take_of_lt hm']
  rw [getElem?_pos ay 0 q,getElem?_pos Y 0 nY] at this
  exact ZE this
 have xl0:∀ (q:ax.size - 1 < ax.size),ax[ax.size - 1]=X[X.length - 1]:=fun q=>by
  have:ax[ax.size - 1]?=X[X.length - 1]?:=by
   rw [← Yx,ex,List.getElem?_drop]
   congr 1
   lia
  rw [getElem?_pos ax _ q,getElem?_pos X _ (by omega)] at this
  exact ZE this
 have M:MC G r ax ay:=by
  refine ⟨gax,gay,xT C gax (by rw [ex];exact sX.drop),xT C gay (by rw [ey];exact sY.take),by lia,by lia,?_,fun j hj=>?_⟩
  ·rw [y0]
   exact z2 _ (mx _ (Zg _))
  ·rw [xl0]
   exact y1 _ (my _ (Zg hj))
 have fin:∀ (st1:SortSt) (res:Array Keyed),gN (SortSt.mk' (kindOf st) (arrOf st) (((pendingOf st).setIfInBounds i (P.length,X.length+Y.length,pw)).eraseIdxIfInBounds (i+1)) (gallopOf st) (failedOf st)) st1->MR r ax ay res →
   Q (failedOf st1).isNone (SortSt.mk' (kindOf st1) (res.toList.zipIdx.foldl (fun a x=>a.setIfInBounds (P.length+k+x.snd) x.fst) (arrOf st1)) (pendingOf st1) (gallopOf st1) (failedOf st1)):=fun st1 res kp mr=>by
  obtain ⟨k1,k2,k3,k4⟩:=kp
  have k4':failedOf st1=none:=k4.trans hf
  have k2':arrOf st1=arrOf st:=k2
  rw [k4']
  have hl:res.toList.length=X.length - k+m:=by
   rw [mr.1.length_eq,ex,ey]
   simp
   exact Yt hm1
  have mem:∀ x,x∈res.toList->x∈X.drop k\/x∈Y.take m:=fun x hx=>by
   have:=mr.1.mem_iff.mp hx
   rw [ex,ey] at this
   exact Zc.mp this
  have bk:=tD (P.length+k) res.toList 0 (arrOf st1) (by rw [k2'];omega)
  rw [k2',Nat.add_zero] at bk
  have t1:(arrOf st).toList.take (P.length+k)=P++X.take k:=by
   rw [e1,Zf,List.take_append,ZA (by exact ZL _ _),YF,X9 (by omega)]
  have t2:(arrOf st).toList.drop (P.length+k+res.toList.length)=Y.drop m++S:=by
   rw [e2,Zf,X5,YN (by rw [Zu];omega),Yr]
   have:P.length+k+res.toList.length - (P++X).length=m:=by rw [Zu];omega
   rw [this,List.drop_append_of_le_length (by omega)]
  refine h _ (X.take k++res.toList++Y.drop m) ?_ ?_ ?_ k1 rfl k3
  ·have p:(X.take k++(X.drop k++Y.take m)++Y.drop m)=X++Y:=by
    rw [← Zf,Yh,Zf,Yh]
   rw [← p]
   have:=mr.1
   rw [ex,ey] at this
   exact (this.append_left _).append_right _
  ·rw [ZJ,ZJ]
   refine ⟨⟨sX.take,mr.2,fun x hx y hy=>?_⟩,sY.drop,fun x hx y hy=>?_⟩
   ·rcases mem y hy with hy | hy
    ·have:=sX
     rw [← Yh k X,ZJ] at this
     exact this.2.2 x hx y hy
    ·exact C.tr (gX _ (Yn hx)) gb (gY _ (Yn hy)) (z1 x hx) (b0Y y (Yn hy))
   ·rcases Zc.mp hx with hx | hx
    ·exact C.tr (gX _ (Yn hx)) gb (gY _ (Yd hy)) (z1 x hx) (b0Y y (Yd hy))
    ·rcases mem x hx with hx | hx
     ·exact C.tr (gX _ (Yd hx)) gl (gY _ (Yd hy)) (xl x (Yd hx)) (y2 y hy)
     ·have:=sY
      rw [← Yh m Y,ZJ] at this
      exact this.2.2 x hx y hy
  ·show (List.foldl _ (arrOf st1) _).toList=_
   rw [k2',bk,t1,t2]
   simp
 refine aG (fun _=>?_) fun _=>?_
 ·refine Za (?_:wpS (model prog w) A E s (lJ ((arrOf st).extract (P.length+k) (P.length+X.length)) ((arrOf st).extract (P.length+X.length) (P.length+X.length+m))) _ _)
  rw [← hax,← hay]
  refine Ep C (by exact hk) M fun res st1 kp mr=>?_
  exact Za (Wu (Za (WH (Zk (fin st1 res kp mr)))))
 ·refine Za (?_:wpS (model prog w) A E s (mJ ((arrOf st).extract (P.length+k) (P.length+X.length)) ((arrOf st).extract (P.length+X.length) (P.length+X.length+m))) _ _)
  rw [← hax,← hay]
  refine Ef C (by exact hk) M fun res st1 kp mr=>?_
  exact Za (Wu (Za (WH (Zk (fin st1 res kp mr)))))
end TS
end
section
open PySem PyProof.Rows
namespace TS
variable {prog:Program} {w:World} {A:Around} {E:Z8} {s:Shared} {κ:SortKind} {G:Keyed->Prop} {r:Keyed->Keyed->Bool}
noncomputable def jr:Nat->List (List Keyed)->List (Nat×Nat)
 | _,[]=>[]
 | o,R :: Rs=>(o,R.length) :: jr (o+R.length) Rs
theorem i3:∀ (a b:List (List Keyed)) (o:Nat),jr o (a++b)=jr o a++jr (o+a.flatten.length) b
 | [],b,o=>by simp [jr]
 | R :: a,b,o=>by
  show (o,R.length) :: jr (o+R.length) (a++b)=(o,R.length) :: (jr (o+R.length) a++_)
  rw [i3 a b]
  simp [XQ]
theorem iU:∀ (a:List (List Keyed)) (o:Nat),(jr o a).length=a.length
 | [],o=>rfl
 | R :: a,o=>by show (jr _ a).length+1=_;rw [iU a];rfl
theorem nI {α β:Type} (f:α->β):∀ (l:List α) (i:Nat),(l.eraseIdx i).map f=(l.map f).eraseIdx i
 | [],i=>rfl
 | x :: l,0=>rfl
 | x :: l,i+1=>by show f x :: (l.eraseIdx i).map f=f x :: (l.map f).eraseIdx i;rw [nI f l i]
structure RI (κ:SortKind) (r:Keyed->Keyed->Bool) (a₀:Array Keyed) (st:SortSt) (runs:List (List Keyed)) (rest:List Keyed):Prop where
 kind:kindOf st=κ
 fail:failedOf st=none
 arr:(arrOf st).toList=runs.flatten++rest
 pend:(pendingOf st).toList.map (fun p=>(p.1,p.2.1))=jr 0 runs
 ok:∀ R∈runs,0 < R.length/\R.Pairwise (le r)
 perm:(arrOf st).Perm a₀
theorem RI.good {a₀:Array Keyed} {st:SortSt} {runs:List (List Keyed)} {rest:List Keyed} (h:RI κ r a₀ st runs rest) (g:∀ x∈a₀,G x):∀ x∈arrOf st,G x:=fun x hx=>by
 have:x∈(arrOf st).toList:=by simpa using hx
 exact g x (by simpa using (Xc.mp h.perm).mem_iff.mp this)
theorem RI.psize {a₀:Array Keyed} {st:SortSt} {runs:List (List Keyed)} {rest:List Keyed} (h:RI κ r a₀ st runs rest):(pendingOf st).size=runs.length:=by
 have:=congrArg List.length h.pend
 rw [Zv,iU] at this
 simpa using this
theorem RI.at {a₀:Array Keyed} {st:SortSt} {pre post:List (List Keyed)} {X:List Keyed} {rest:List Keyed} (h:RI κ r a₀ st (pre++X :: post) rest):∃ pw,(pendingOf st)[pre.length]?=some (pre.flatten.length,X.length,pw):=by
 have e:((pendingOf st).toList.map (fun p=>(p.1,p.2.1)))[pre.length]?=some (pre.flatten.length,X.length):=by
  rw [h.pend,i3,Yw (by rw [iU];exact Zp _),iU,Nat.sub_self,Xu]
  rfl
 rw [ZC,Yx] at e
 obtain ⟨⟨a,b,c⟩,e1,e2⟩:=Zl.mp e
 injection e2 with e3 e4
 dsimp only at e3 e4
 exact ⟨c,by rw [e1,e3,e4]⟩
theorem pV {α:Type}:∀ {l:List α} {i:Nat},i+1 < l.length->∃ pre X Y post,l=pre++X :: Y :: post/\pre.length=i
 | [],i,h=>by simp at h
 | [x],i,h=>by simp at h
 | x :: y :: l,0,h=>⟨[],x,y,l,rfl,rfl⟩
 | x :: y :: l,i+1,h=>by
  obtain ⟨pre,X,Y,post,e,hp⟩:=pV (l:=y :: l) (i:=i) (by simp at h ⊢;omega)
  exact ⟨x :: pre,X,Y,post,by rw [e];rfl,by rw [Zj,hp]⟩
theorem RI.merge (C:Cmp prog w A E s κ G r) {a₀:Array Keyed} {st:SortSt} {runs:List (List Keyed)} {rest:List Keyed} {i:Nat} {Q:Bool->SortSt->Prop} (h:RI κ r a₀ st runs rest) (g:∀ x∈a₀,G x) (hi:i+1 < runs.length)
  (hq:∀ st' runs',RI κ r a₀ st' runs' rest->runs'.length+1=runs.length->runs'.flatten.length=runs.flatten.length->Q true st'):wpS (model prog w) A E s (mergeAt' i) Q st:=by
 obtain ⟨pre,X,Y,post,rfl,rfl⟩:=pV hi
 obtain ⟨pw,p1⟩:=h.at
 have h':RI κ r a₀ st ((pre++[X])++Y :: post) rest:=by
  have e:(pre++[X])++Y :: post=pre++X :: Y :: post:=by simp
  rw [e];exact h
 obtain ⟨pw2,p2⟩:=h'.at
 have oX:=h.ok X (by simp)
 have oY:=h.ok Y (by simp)
 have p2':(pendingOf st)[pre.length+1]?=some (pre.flatten.length+X.length,Y.length,pw2):=by
  simpa using p2
 refine DB C (P:=pre.flatten) (X:=X) (Y:=Y) (S:=post.flatten++rest) h.kind (h.good g) h.fail (by rw [h.arr];simp) p1 p2' oX.2 oY.2 oX.1 oY.1 fun st' M m1 m2 m3 m4 m5 m6=>?_
 have hl:=m1.length_eq
 rw [Zu] at hl
 refine hq st' (pre++M :: post) ⟨m4.trans h.kind,m5,by rw [m3];simp,?_,fun R hR=>?_,?_⟩ (by simp;exact XQ _ _ _) (by simp;lia)
 ·rw [m6]
  have e0:(((pendingOf st).setIfInBounds pre.length (pre.flatten.length,X.length+Y.length,pw)).eraseIdxIfInBounds (pre.length+1)).toList=((pendingOf st).toList.set pre.length (pre.flatten.length,X.length+Y.length,pw)).eraseIdx (pre.length+1):=by
   simp
  rw [e0,nI,List.map_set,h.pend]
  show ((jr 0 (pre++X :: Y :: post)).set pre.length (pre.flatten.length,X.length+Y.length)).eraseIdx (pre.length+1)=jr 0 (pre++M :: post)
  rw [i3,i3]
  have ol:=iU pre 0
  have e1:∀ (u v t:List (Nat×Nat)) (x y z:Nat×Nat),u.length=pre.length->((u++x :: y :: t).set pre.length z).eraseIdx (pre.length+1)=u++z :: t:=fun u v t x y z hu=>by
   rw [List.set_append_right _ _ (by exact WO hu),hu,Nat.sub_self,List.eraseIdx_append_of_length_le (by lia),hu]
   have:pre.length+1 - pre.length=1:=by exact YF _ _
   rw [this]
   rfl
  show ((jr 0 pre++(0+pre.flatten.length,X.length) :: (0+pre.flatten.length+X.length,Y.length) :: jr (0+pre.flatten.length+X.length+Y.length) post).set _ _).eraseIdx _=jr 0 pre++(0+pre.flatten.length,M.length) :: jr (0+pre.flatten.length+M.length) post
  rw [e1 _ [] _ _ _ _ ol,hl,Xu,XQ]
 ·rcases Zc.mp hR with hR | hR
  ·exact h.ok R (by simp [hR])
  ·rcases Zo.mp hR with rfl | hR
   ·exact ⟨by lia,m2⟩
   ·exact h.ok R (by simp [hR])
 ·refine Array.Perm.trans ?_ h.perm
  rw [Xc,m3,h.arr]
  have e:(pre++X :: Y :: post).flatten++rest=pre.flatten++(X++Y)++(post.flatten++rest):=by simp
  rw [e]
  exact (m1.append_left _).append_right _
end TS
end
section
open PySem PyProof.Rows
namespace TS
variable {prog:Program} {w:World} {A:Around} {E:Z8} {s:Shared} {κ:SortKind} {G:Keyed->Prop} {r:Keyed->Keyed->Bool}
theorem RI.loc {a₀:Array Keyed} {st st2:SortSt} {runs:List (List Keyed)} {rest:List Keyed} (h:RI κ r a₀ st runs rest) (L:Lc runs.flatten.length st st2):RI κ r a₀ st2 runs ((arrOf st2).toList.drop runs.flatten.length):=by
 refine ⟨L.kind.trans h.kind,L.fail.trans h.fail,?_,by rw [L.pend];exact h.pend,h.ok,L.perm.trans h.perm⟩
 have e:(arrOf st2).toList.take runs.flatten.length=runs.flatten:=by
  have e2:(arrOf st).toList.take runs.flatten.length=runs.flatten:=by rw [h.arr,List.take_left]
  refine Eq.trans ?_ e2
  apply Vw
  intro i
  rw [List.getElem?_take,List.getElem?_take]
  split
  ·rename_i hi
   rw [Yx,Yx]
   exact L.pre i hi
  ·rfl
 conv=>lhs;rw [← Yh runs.flatten.length (arrOf st2).toList,e]
theorem RI.push {a₀:Array Keyed} {st:SortSt} {runs:List (List Keyed)} {rest:List Keyed} {n lo:Nat} (h:RI κ r a₀ st runs rest) (hl:runs.flatten.length=lo) (h0:0 < n) (hn:n<=rest.length) (hp:(rest.take n).Pairwise (le r)) :
  RI κ r a₀ (setPending st ((pendingOf st).push (lo,n,0))) (runs++[rest.take n]) (rest.drop n):=by
 refine ⟨h.kind,h.fail,?_,?_,fun R hR=>?_,h.perm⟩
 ·show (arrOf st).toList=_
  rw [h.arr]
  simp
 ·show ((pendingOf st).push (lo,n,0)).toList.map _=_
  rw [Vv,Yv,h.pend,i3,Xu,hl]
  show _++[(lo,n)]=_++[(lo,(rest.take n).length)]
  rw [ZO,Yt hn]
 ·rcases Zc.mp hR with hR | hR
  ·exact h.ok R hR
  ·rw [Zn.mp hR]
   exact ⟨by rw [ZO];lia,hp⟩
theorem sq {α β:Type} (f:α->β) (g:α->α) (hg:∀ x,f (g x)=f x):∀ (l:List α) (i:Nat),(l.modify i g).map f=l.map f
 | [],i=>by simp
 | x :: l,0=>by simp [hg]
 | x :: l,i+1=>by simp [sq f g hg l i]
theorem RI.mod {a₀:Array Keyed} {st:SortSt} {runs:List (List Keyed)} {rest:List Keyed} (h:RI κ r a₀ st runs rest) (i pw:Nat):RI κ r a₀ (setPending st ((pendingOf st).modify i fun x=>(x.1,x.2.1,pw))) runs rest :=
 ⟨h.kind,h.fail,h.arr,by
  show ((pendingOf st).modify i fun x=>(x.1,x.2.1,pw)).toList.map _=_
  rw [Array.toList_modify,sq (fun p:Nat×Nat×Nat=>(p.1,p.2.1)) (fun x=>(x.1,x.2.1,pw)) (fun x=>rfl),h.pend],h.ok,h.perm⟩
theorem Sg.pw {xs:Array Keyed} {lo n:Nat} (h:Sg r xs lo (lo+n)) (hs:lo+n<=xs.size):((xs.toList.drop lo).take n).Pairwise (le r):=by
 rw [Y3]
 intro i j hi hj hij
 rw [ZO,ZK] at hi hj
 rw [Xk,Xk,Xj,Xj]
 have:=h (lo+i) (lo+j) (by exact ZL _ _) (by lia) (by lia)
 rw [xN (by lia),xN (by lia)] at this
 simpa using this
theorem RI.size {a₀:Array Keyed} {st:SortSt} {runs:List (List Keyed)} {rest:List Keyed} (h:RI κ r a₀ st runs rest):runs.flatten.length+rest.length=a₀.size:=by
 have e:=congrArg List.length h.arr
 rw [Zu,YZ,h.perm.size_eq] at e
 exact e.symm
theorem Bd {runs:List (List Keyed)} (h:∀ R∈runs,0 < R.length/\R.Pairwise (le r)):runs.length<=runs.flatten.length:=by
 induction runs with
 | nil=>exact Zp _
 | cons R Rs ih =>
  have h1:=(h R (Zw ..)).1
  have h2:=ih fun x hx=>h x (Zx _ hx)
  simp only [Zj,Ze,Zu]
  lia
theorem B7 {c:Prop} [Decidable c] {a b n:Nat} (h1:a+1 < n) (h2:b+1 < n):(if c then a else b)+1 < n:=by
 split
 ·exact h1
 ·exact h2
theorem uq {α:Type} {a b d:Nat->Prop} {c:Nat->Prop} [∀ n,Decidable (c n)] {x R:Nat->StateT SortSt Sem α} {Q:α->SortSt->Prop} {P:Nat->SortSt->Prop} {st:SortSt} (D:∀ n st1,P n st1->wpS (model prog w) A E s (R n) Q st1) (h2:∀ m,a m->b m->d m->¬ c m->P m st)
  (h1:∀ m,a m->b m->d m->c m->(∀ n st1,P n st1->wpS (model prog w) A E s (R n) Q st1)->wpS (model prog w) A E s (x m) Q st):∀ m,a m->b m->d m->wpS (model prog w) A E s (if c m then x m else R m) Q st :=
 fun m p q z=>aG (fun y=>h1 m p q z y D) fun y=>D m st (h2 m p q z y)
theorem zO (C:Cmp prog w A E s κ G r) {a₀:Array Keyed} {st:SortSt} {Q:Unit->SortSt->Prop} (hk:kindOf st=κ) (g:∀ x∈a₀,G x) (ha:arrOf st=a₀) (hp:pendingOf st=#[]) (hf:failedOf st=none)
  (h:∀ st',(arrOf st').Perm a₀->failedOf st'=none->(arrOf st').toList.Pairwise (le r)->Q () st'):wpS (model prog w) A E s sortRuns' Q st:=by
 have R0:RI κ r a₀ st [] a₀.toList:=⟨hk,hf,by rw [ha];rfl,by rw [hp];rfl,fun R hR=>by simp at hR,by rw [ha]⟩
 unfold sortRuns'
 change wpS (model prog w) A E s (_ >>= _) Q st
 dsimp only
 refine Za (WH ?_)
 have esz:((sortPriv% PySem.Builtin.SortState.a) st).size=a₀.size:=by rw [← ha]
 rw [esz]
 refine Za (Y8 (Yk
  (I:=fun x c st'=>c.1=none/\∃ runs rest,RI κ r a₀ st' runs rest/\runs.flatten.length=c.2/\x<=c.2)
  (Q:=fun c st'=>c.1=none/\∃ runs,RI κ r a₀ st' runs []) ?step ?fin ?init) ?post)
 case init=>exact ⟨rfl,_,_,R0,rfl,Zp _⟩
 case fin =>
  refine all2 fun c1 lo=>?_
  rintro st' ⟨q1,runs,rest,R,hl,hx⟩
  dsimp only at *
  have:=R.size
  have e:rest=[]:=Wz (by lia)
  subst e
  exact ⟨q1,runs,R⟩
 case step =>
  intro x
  refine all2 fun c1 lo=>?_
  rintro st' _ hx ⟨q1,runs,rest,R,hl,hxl⟩
  dsimp only at *
  have hsz:=R.size
  refine aG (fun e=>?_) fun e=>?_
  ·have e:rest=[]:=Wz (by lia)
   subst e
   exact Zk ⟨rfl,runs,R⟩
  have asz:(arrOf st').size=a₀.size:=R.perm.size_eq
  refine Za (CN C R.kind (R.good g) (by lia) (by rw [asz];lia) fun m st2 L2 m1 m2 S2=>?_)
  dsimp only
  have I2:RI κ r a₀ st2 runs ((arrOf st2).toList.drop runs.flatten.length):=R.loc (by rw [hl];exact L2)
  have asz2:(arrOf st2).size=a₀.size:=I2.perm.size_eq
  revert m
  refine uq (P:=fun nn st3=>∃ rest3,RI κ r a₀ st3 runs rest3/\rest3.length=a₀.size - lo/\0 < nn/\nn<=rest3.length/\(rest3.take nn).Pairwise (le r)) ?D ?two ?one
  case one =>
   intro m m1 m2 S2 e2 Dk
   refine Za (g7 ?_)
   refine Za (C5 C I2.kind (I2.good g) m1 (by omega) (by lia) S2 fun st3 L3 S3=>?_)
   refine aG (fun e=>absurd e (by decide)) fun _=>?_
   have I3':RI κ r a₀ st3 runs ((arrOf st3).toList.drop runs.flatten.length):=I2.loc (by rw [hl];exact L3)
   have asz3:(arrOf st3).size=a₀.size:=I3'.perm.size_eq
   obtain ⟨rest3,er3⟩:∃ l,l=(arrOf st3).toList.drop runs.flatten.length:=⟨_,rfl⟩
   have I3:RI κ r a₀ st3 runs rest3:=by rw [er3];exact I3'
   have hl3:=hl
   have h3l:rest3.length=a₀.size - lo:=by rw [er3,ZK,YZ,asz3,hl]
   obtain ⟨n3,en3⟩:∃ n,n=min (a₀.size - lo) ((sortPriv% PySem.Builtin.minRun) a₀.size a₀.size 0):=⟨_,rfl⟩
   rw [← en3] at S3 ⊢
   have h30:0 < n3:=by lia
   have h3n:n3<=rest3.length:=by omega
   have h3p:(rest3.take n3).Pairwise (le r):=by rw [er3,hl];exact S3.pw (by lia)
   exact Dk n3 st3 ⟨rest3,I3,h3l,h30,h3n,h3p⟩
  case two =>
   intro m m1 m2 S2 e2
   obtain ⟨rest3,er3⟩:∃ l,l=(arrOf st2).toList.drop runs.flatten.length:=⟨_,rfl⟩
   have I3:RI κ r a₀ st2 runs rest3:=by rw [er3];exact I2
   have hl3:=hl
   have h3l:rest3.length=a₀.size - lo:=by rw [er3,ZK,YZ,asz2,hl]
   have h30:0 < m:=by exact Vz m1
   have h3n:m<=rest3.length:=by lia
   have h3p:(rest3.take m).Pairwise (le r):=by rw [er3,hl];exact S2.pw (by lia)
   exact ⟨rest3,I3,h3l,h30,h3n,h3p⟩
  case D =>
   rintro nn st3 ⟨rest3,I3,h3l,h30,h3n,h3p⟩
   have hl3:=hl
   refine Za (WH ?_)
   cases hb:(pendingOf st3).back? with
   | none =>
    dsimp only
    refine Za (Wu ?_)
    refine Zk ⟨rfl,_,_,I3.push hl3 h30 h3n h3p,?_,by (try dsimp only);lia⟩
    rw [Z5,Zu,WN,ZO]
    (try dsimp only)
    lia
   | some v =>
    obtain ⟨s1,n1,pw1⟩:=v
    dsimp only
    refine Za (Y8 (Yk
     (I:=fun x c st'=>c.1=none/\∃ runs',RI κ r a₀ st' runs' rest3/\runs'.flatten.length=lo)
     (Q:=fun c st'=>c.1=none/\∃ runs',RI κ r a₀ st' runs' rest3/\runs'.flatten.length=lo) ?stepM ?finM ?initM) ?postM)
    case initM=>exact ⟨rfl,_,I3,hl3⟩
    case finM=>exact fun c st' h=>h
    case stepM =>
     intro x
     refine all2 fun c1 c2=>?_
     rintro st' _ hx ⟨q1,runs',R,hR⟩
     refine Za (WH ?_)
     split
     ·rename_i a b c hh
      refine aG (fun _=>?_) fun _=>?_
      ·exact Zk ⟨rfl,runs',R,hR⟩
      ·have hp1:(pendingOf st').size > 1:=by
        by_cases z:(pendingOf st').size > 1
        ·exact z
        ·rw [Zq z] at hh;cases hh
       have hp2:=R.psize
       refine Za (R.merge C g (show (pendingOf st').size - 2+1 < runs'.length by omega) fun st4 runs4 R4 l4 f4=>?_)
       refine aG (fun e=>absurd e (by decide)) fun _=>?_
       exact Zk ⟨rfl,runs4,R4,by rw [f4,hR]⟩
     ·exact Zk ⟨rfl,runs',R,hR⟩
    case postM =>
     refine all2 fun c1 c2=>?_
     rintro st' ⟨q1,runs',R,hR⟩
     dsimp only at *
     subst q1
     dsimp only
     refine Za (Wu ?_)
     refine Za (Wu ?_)
     refine Zk ⟨rfl,_,_,(R.mod _ _).push hR h30 h3n h3p,?_,by (try dsimp only);lia⟩
     rw [Z5,Zu,WN,ZO]
     (try dsimp only)
     lia
 case post =>
  refine all2 fun c1 lo=>?_
  rintro st' ⟨q1,runs,R⟩
  dsimp only at *
  subst q1
  dsimp only
  have rl:=Bd R.ok
  have hsz:=R.size
  simp only [YU,Nat.add_zero] at hsz
  refine Za (Y8 (Yk
   (I:=fun x c st'=>c.1=none/\∃ runs,RI κ r a₀ st' runs []/\(runs.length<=1\/runs.length+x<=a₀.size))
   (Q:=fun c st'=>c.1=none/\∃ runs,RI κ r a₀ st' runs []/\runs.length<=1) ?step2 ?fin2 ?init2) ?post2)
  case init2=>exact ⟨rfl,runs,R,.inr (by lia)⟩
  case fin2 =>
   refine all2 fun c1 c2=>?_
   rintro st' ⟨q1,runs,R,hr⟩
   exact ⟨q1,runs,R,by lia⟩
  case step2 =>
   intro x
   refine all2 fun c1 c2=>?_
   rintro st' _ hx ⟨q1,runs,R,hr⟩
   have hp2:=R.psize
   refine Za (WH ?_)
   refine aG (fun e=>?_) fun e=>?_
   ·exact Zk ⟨rfl,runs,R,by rw [← hp2];exact e⟩
   ·have e':1 < runs.length:=by rw [← hp2];exact Vp e
    refine Za (R.merge C g ?_ fun st4 runs4 R4 l4 f4=>?_)
    ·exact B7 (show (pendingOf st').size - 2 - 1+1 < _ by omega) (show (pendingOf st').size - 2+1 < _ by lia)
    ·refine aG (fun e=>absurd e (by decide)) fun _=>?_
     exact Zk ⟨rfl,runs4,R4,by lia⟩
  case post2 =>
   refine all2 fun c1 c2=>?_
   rintro st' ⟨q1,runs,R,hr⟩
   dsimp only at *
   subst q1
   refine Zk (h st' R.perm R.fail ?_)
   rw [R.arr,ZD]
   match runs,hr,R.ok with
   | [],_,_=>exact List.Pairwise.nil
   | [X],_,ok =>
    rw [WN]
    exact (ok X (Zw ..)).2
   | X :: Y :: t,hr,_=>simp at hr
end TS
end
section
open PySem PyProof.Rows
namespace TS
variable {prog:Program} {w:World} {A:Around} {E:Z8} {s:Shared} {G:Keyed->Prop} {r:Keyed->Keyed->Bool}
noncomputable def ie (h:Heap) (a:Addr) (vs:X1):Heap:=((h.update a (Obj.mapSeq fun _=>#[])).push (seqObj "tuple" vs.toArray 0)).push (seqObj "list" #[] 0)
theorem wg {h:Heap} {a:Addr} {vs:X1} {o:Obj} (ha:a < h.objs.size) (g:(h.update a (Obj.mapSeq fun _=>#[])).get? a=some o):(ie h a vs).get? a=some o:=by
 have k1:a ≠ (h.update a (Obj.mapSeq fun _=>#[])).objs.size:=by rw [XJ];exact ZR ha
 have k2:a ≠ ((h.update a (Obj.mapSeq fun _=>#[])).push (seqObj "tuple" vs.toArray 0)).objs.size:=by rw [WW,XJ];exact ZR (Wc ha)
 exact (Wy _ _ _ k2).trans ((Wy _ _ _ k1).trans g)
theorem nl {b n:Nat} (h:b < n) (k:Nat):b ≠ n+k:=ZR (Z1 h (ZL _ _))
end TS
end
section
namespace L2
open PySem PySem.Spec PyProof.Rows TS
end L2
end
section
namespace VS
theorem ly {n k:Nat} (h:k < n):ixP n (k:Int)=some k:=by
 unfold ixP
 rw [Zr (by lia),Zr (by lia),YM]
mutual
theorem lP:∀ (n:Nat) (t:T),eqD n t=true->eqT t t=true
 | n,.non,_=>by simp
 | n,.bl _,_=>by simp
 | n,.int _,_=>by simp
 | n,.str _,_=>by simp
 | n+1,.tup l,h=>by
  simp only [eqD,Z9] at h
  simp only [eqT]
  exact kG n l h
 | n+1,.lst l,h=>by
  simp only [eqD,Z9] at h
  simp only [eqT]
  exact kG n l h
 | 0,.tup _,h=>by simp at h
 | 0,.lst _,h=>by simp at h
 | _,.scr _,h=>by simp at h
 | _,.dct _ _,h=>by simp at h
 | _,.obj _ _,h=>by simp at h
theorem kG:∀ (n:Nat) (l:Vg),(∀ t∈l,eqD n t=true)->m7 l l=true
 | _,[],_=>rfl
 | n,t :: r,h=>by
  simp only [m7,Yq]
  exact ⟨lP n t (h t Zw),kG n r fun u hu=>h u (Zx _ hu)⟩
end
theorem vz {m n:Md} {t:T} (h:eqD 60 t=true):oEq (m,t) (n,t)=some (.fr,.bl true):=by
 show (if eqD 60 t/\eqD 60 t then some (Md.fr,T.bl (eqT t t)) else none)=_
 rw [Zr ⟨h,h⟩,lP 60 t h]
theorem lV {m n:Md} {t:T} (h:eqD 60 t=true):oNe (m,t) (n,t)=some (.fr,.bl false):=by
 show (if eqD 60 t/\eqD 60 t then some (Md.fr,T.bl (!eqT t t)) else none)=_
 rw [Zr ⟨h,h⟩,lP 60 t h]
 rfl
theorem vN {α:Type} (l:List α) (k:Nat):cut l none (some (k:Int))=l.take k:=by
 have h:¬ ((k:Int) < 0):=by lia
 by_cases h2:k<=l.length
 ·simp [cut,clip,h,Yt h2]
 ·rw [ZA (by lia)]
  simp [cut,clip,h,X3 (YB h2)]
theorem gq {a:Ex} {η:Env} {m:Md} {l:Vg} (e:a η=some (m,.lst l)):eT a η=some (m,l):=by
 simp [eT,e]
theorem jU {tg:Tg} {it:Its} {body:Sx} {η:Env} {m:Md} {l:Vg} (e:it η=some (m,l)) (h:okF m=true):dN tg it body η=forL tg body l η:=by
 unfold dN
 rw [e]
 exact Zr h
theorem aN {g:Fn} {as:Exs} {η:Env} {xs:Vi} {t:T} (h:as η=some xs) (h2:g (trees xs)=some (.fr,t)):aM g as η=some (.fr,t):=by
 simp only [aM,h,Zm,h2]
theorem aJ {i:Nat} {e:Ex} {η:Env} {m:Md} {t:T} (h:e η=some (m,t)) (hm:m ≠ .bo) (hi:i < η.length):aQ i e η=some (.nx (η.set i (some (.pu t)))):=by
 simp only [aQ,h,Zm]
 cases m with
 | bo=>exact absurd rfl hm
 | _=>simp [hi]
theorem ot {i:Nat} {e:Ex} {η:Env} {t:T} (h:e η=some (.fr,t)) (hm:BA t=true) (hi:i < η.length):gZ i e η=some (.nx (η.set i (some (.ow t)))):=by
 simp only [gZ,h,Zm,cellOf,hm,if_true,Zr hi]
theorem gh {a b:Sx} {η η':Env} (h:a η=some (.nx η')):au a b η=b η':=by simp only [au,h,Zm]
theorem pJ {a b:Sx} {η η':Env} {v:Val} (h:a η=some (.rt v η')):au a b η=some (.rt v η'):=by simp only [au,h,Zm]
theorem yf {np nn:Nat} {body:Sx} {ts:Vg} {v:Val} (η:Env) {η':Env} (hl:ts.length=np) (he:ts.map (fun t=>some (Cell.pu t))++List.replicate (nn - np) none=η) (h:body η=some (.rt v η')):fn np nn body ts=some v:=by
 unfold fn
 rw [Zr hl,he,h]
 rfl
end VS
end
section
namespace VS
open PySem PySem.Spec PyProof.Rows L2
theorem yI (s:Tx):(sx s).cps.toList=s:=rfl
noncomputable def txB (s:Tx):Bool:=decide (s.length<=ip) && s.all (fun c=>decide (c < 1114112))
theorem Dz {s:Tx} (h:txB s=true):jq s:=by
 unfold txB at h
 simp at h
 exact h
section
variable {G:Gx} {X:Cx} {e:Expr} {cs:Exs} {p pos:Pos}
theorem rY {H:Hp}:∀ {ss:List Tx},(∀ s∈ss,jq s)->RpL G H (ss.map fun s=>V.str (sx s)) (ss.map T.str) (ss.map fun _=>[])
 | [],_=>.nil
 | s :: ss,h=>.cons (.str s (h s (Zw ..))) (rY fun x hx=>h x (Zx _ hx))
theorem pY {α β:Type}:∀ (l:List α),(l.map fun _=>([]:List β)).flatten=[]
 | []=>rfl
 | _ :: l=>by simp
theorem keys_str:∀ {ks:List Key} {ss:List Tx},strs? (ks.map aR)=some ss->ks=(ss.map sx).map Sum.inr
 | [],_,e=>by cases e;rfl
 | .inl i :: ks,_,e=>by cases e
 | .inr x :: ks,ss,e=>by
  simp only [Zt,aR,strs?] at e
  obtain ⟨ss',e1,e2⟩:=Zl.mp e
  subst e2
  rw [keys_str e1]
  simp [sx]
theorem uj:bootBuiltins ("sorted" : Str)=some (.builtin "sorted"):=by decide +kernel
end
end VS
end
section
namespace VS
open PySem PySem.Builtin.Str PySem.StrLaws
end VS
end
section
namespace VS
open PySem PySem.Spec PyProof.Rows L2
end VS
end
section
namespace ST
open PySem PySem.Spec PyProof.Rows
variable {prog:Program} {w:World} {A:Around} {E:Z8} {s:Shared}
end ST
end
section
namespace ST
open PySem PySem.Spec PyProof.Rows
variable {prog:Program} {w:World} {A:Around} {E:Z8} {s:Shared}
theorem DI {Q:PySem.Fin->Shared->Prop} {E':Z8} (hh:A.handled=none) (h:∀ (h':Heap) (x:Addr),(∀ b o,s.heap.get? b=some o->h'.get? b=some o)->(∃ o,h'.get? x=some o/\o.cls=.type "StopIteration")->E' (.ref x) { s with heap:=h' }) :
  wpAny (model prog w) A (newExc (.type "StopIteration") [] >>= fun e=>raiseNew e) Q E' s:=by
 simp only [newExc,newTuple]
 refine Zy (Zy (X8 (Zy (m:=firstArgMember _ _) (wpAny_of_eq (a:=Value.none) (by first | rfl | (simp only [firstArgMember];rfl)) (X8 ?_ (by size_fits)))) (by size_fits)))
 simp only [raiseNew]
 refine Zy (wpAny_handled ?_)
 rw [hh]
 exact Zy (Zs (wpAny_throw (h _ _ (fun b o e=>Zi _ (Zi _ e)) ⟨_,ZU _ rfl,rfl⟩)))
end ST
end
section
namespace ST
open PySem PySem.Spec PyProof.Rows
variable {prog:Program} {w:World} {A:Around} {E:Z8} {s:Shared}
end ST
end
section
namespace L2
open PySem PySem.Spec PyProof.Rows TS
end L2
namespace VS
open PySem PySem.Spec PyProof.Rows L2
section
variable {G:Gx}
theorem sC {Fs:Yg} {i j:Nat} {F F':Xb} (nd:Fs.flatten.Nodup) (hi:Fs[i]?=some F) (hj:Fs[j]?=some F') (n:i ≠ j) {a:Addr} (ha:a∈F):a ∉ F':=by
 intro hb
 induction Fs generalizing i j with
 | nil=>simp at hi
 | cons G Gs ih =>
  rw [Ze,ZF] at nd
  cases i with
  | zero =>
   simp at hi;subst hi
   cases j with
   | zero=>exact n rfl
   | succ j=>exact nd.2.2 a ha a (gn (by simpa using hj) hb) rfl
  | succ i =>
   cases j with
   | zero =>
    simp at hj;subst hj
    exact nd.2.2 a hb a (gn (by simpa using hi) ha) rfl
   | succ j=>exact ih nd.2.1 (by simpa using hi) (by simpa using hj) (by lia)
theorem iB {Fs:Yg} {j:Nat} {F':Xb} {a:Addr} (h:a∈(Fs.set j F').flatten):a∈F'\/∃ i F,i ≠ j/\Fs[i]?=some F/\a∈F:=by
 obtain ⟨i,F,h1,h2⟩:=gv h
 by_cases e:i=j
 ·subst e
  rw [List.getElem?_set_self' ] at h1
  cases q:Fs[i]? with
  | none=>rw [q] at h1;cases h1
  | some _=>rw [q] at h1;cases h1;exact .inl h2
 ·rw [Xf (YG e)] at h1
  exact .inr ⟨i,F,e,h1,h2⟩
theorem i7:∀ {Fs:Yg} {j:Nat} {F':Xb},Fs.flatten.Nodup->F'.Nodup->(∀ i F,i ≠ j->Fs[i]?=some F->∀ a∈F,a ∉ F')->(Fs.set j F').flatten.Nodup
 | [],_,_,h,_,_=>by simpa using h
 | G :: Gs,0,F',h,h',d=>by
  rw [Ze,ZF] at h
  rw [List.set_cons_zero,Ze,ZF]
  refine ⟨h',h.2.1,fun a ha b hb e=>?_⟩
  subst e
  obtain ⟨i,F,h1,h2⟩:=gv hb
  exact d (i+1) F (by lia) (by simpa using h1) a h2 ha
 | G :: Gs,j+1,F',h,h',d=>by
  rw [Ze,ZF] at h
  rw [List.set_cons_succ,Ze,ZF]
  refine ⟨h.1,i7 h.2.1 h' fun i F n hi=>d (i+1) F (by lia) (by simpa using hi),fun a ha b hb e=>?_⟩
  subst e
  rcases iB hb with z | ⟨i,F,n,h1,h2⟩
  ·exact d 0 G (by lia) rfl a ha z
  ·exact h.2.2 a ha a (gn h1 h2) rfl
theorem RpL.each {H H2:Hp}:∀ {vs:List V} {ts:Vg} {Fs:Yg},RpL G H vs ts Fs->(∀ (i:Nat) v t F,vs[i]?=some v->ts[i]?=some t->Fs[i]?=some F->Rp G H v t F->Rp G H2 v t F)->RpL G H2 vs ts Fs
 | _,_,_,.nil,_=>.nil
 | _,_,_,.cons r q,k=>.cons (k 0 _ _ _ rfl rfl rfl r) (RpL.each q fun i v t F a b c d=>k (i+1) v t F (by simpa using a) (by simpa using b) (by simpa using c) d)
theorem RpL.setAt {H H2:Hp}:∀ {vs:List V} {ts:Vg} {Fs:Yg} {j:Nat} {u:V} {x':T} {F':Xb},RpL G H vs ts Fs->vs[j]?=some u->Rp G H2 u x' F'->(∀ (i:Nat) v t F,i ≠ j->vs[i]?=some v->ts[i]?=some t->Fs[i]?=some F->Rp G H v t F->Rp G H2 v t F)->RpL G H2 vs (ts.set j x') (Fs.set j F')
 | _,_,_,_,_,_,_,.nil,h,_,_=>by simp at h
 | _,_,_,0,_,_,_,.cons r q,h,r',k=>by
  simp at h;subst h
  exact .cons r' (RpL.each q fun i v t F a b c d=>k (i+1) v t F (by lia) (by simpa using a) (by simpa using b) (by simpa using c) d)
 | _,_,_,j+1,_,_,_,.cons r q,h,r',k=>.cons (k 0 _ _ _ (by lia) rfl rfl rfl r) (RpL.setAt q (by simpa using h) r' fun i v t F n a b c d=>k (i+1) v t F (by lia) (by simpa using a) (by simpa using b) (by simpa using c) d)
theorem og {H H2:Hp} {a:Addr} {o:HO} {vs:List V} {ts:Vg} {Fs:Yg} {j:Nat} {u:V} {x':T} {Fj Fj':Xb} (ha:H a=some o) (ra:RpL G H vs ts Fs) (nd:(a :: Fs.flatten).Nodup) (hu:vs[j]?=some u) (hF:Fs[j]?=some Fj)
  (g:Chg G H u Fj x' H2 Fj'):H2 a=some o/\RpL G H2 vs (ts.set j x') (Fs.set j Fj')/\(a :: (Fs.set j Fj').flatten).Nodup/\(∀ b∈a :: (Fs.set j Fj').flatten,b∈a :: Fs.flatten\/H b=none)/\∀ b o,b ∉ a :: Fs.flatten->H b=some o->H2 b=some o:=by
 rw [ZW] at nd
 have subF:∀ b∈Fj,b∈Fs.flatten:=fun b hb=>gn hF hb
 have dis:∀ i F,i ≠ j->Fs[i]?=some F->∀ b∈F,b ∉ Fj':=fun i F n hi b hb hb'=>by
  rcases g.sub b hb' with z | z
  ·exact sC nd.2 hi hF n hb z
  ·exact Mut.ne_none (ra.dom b (gn hi hb)) z
 refine ⟨g.keep a o (fun z=>nd.1 (subF a z)) ha,ra.setAt hu g.rp (fun i v t F n h1 h2 h3 r=>r.keep g.kept fun b hb o' ho=>g.keep b o' (sC nd.2 h3 hF n hb) ho),?_,fun b hb=>?_,fun b o' hb ho=>g.keep b o' (fun z=>hb (Zx _ (subF b z))) ho⟩
 ·rw [ZW]
  refine ⟨fun h=>?_,i7 nd.2 g.nd dis⟩
  rcases iB h with z | ⟨i,F,n,h1,h2⟩
  ·rcases g.sub a z with z | z
   ·exact nd.1 (subF a z)
   ·rw [ha] at z;cases z
  ·exact nd.1 (gn h1 h2)
 ·rcases Zo.mp hb with rfl | hb
  ·exact .inl Zw
  ·rcases iB hb with z | ⟨i,F,n,h1,h2⟩
   ·rcases g.sub b z with z | z
    ·exact .inl (Zx _ (subF b z))
    ·exact .inr z
   ·exact .inl (Zx _ (gn h1 h2))
theorem oM {α β:Type}:∀ (as:List α) (bs:List β) (i:Nat) (a:α) (y:β),as[i]?=some a->(as.zip bs).set i (a,y)=as.zip (bs.set i y)
 | [],_,_,_,_,h=>by simp at h
 | a :: as,[],i,_,_,_=>by cases i <;> simp
 | a :: as,b :: bs,0,_,y,h=>by simp at h;subst h;rfl
 | a :: as,b :: bs,i+1,_,y,h=>by
  have:=oM as bs i _ y (by simpa using h)
  simp [this]
theorem pR {α β:Type} (p:α->Bool):∀ {as:List α} {bs:List β} {i:Nat},as.length=bs.length->(as.zip bs).findIdx? (fun q=>p q.1)=some i->∃ a b,as[i]?=some a/\bs[i]?=some b/\p a=true/\(as.zip bs).find? (fun q=>p q.1)=some (a,b)
 | [],[],_,_,h=>by simp at h
 | a :: as,b :: bs,i,hl,h=>by
  rw [ZI,Yc] at h
  by_cases hp:p a=true
  ·rw [Zr hp] at h
   cases h
   exact ⟨a,b,rfl,rfl,hp,by simp [hp]⟩
  ·rw [Zq hp] at h
   obtain ⟨j,hj,rfl⟩:=Zl.mp h
   obtain ⟨a',b',h1,h2,h3,h4⟩:=pR p (by simpa using hl) hj
   exact ⟨a',b',by simpa using h1,by simpa using h2,h3,by simp [hp,h4]⟩
theorem jQ (k k':Key):eqT (aR k') (aR k)=true ↔ k'=k:=by
 cases k with
 | inl i=>cases k' <;> simp [aR]
 | inr x =>
  obtain ⟨⟨x⟩⟩:=x
  cases k' with
  | inl j=>simp [aR]
  | inr y=>obtain ⟨⟨y⟩⟩:=y;simp [aR]
theorem sL {k:Key} {u:V}:∀ {ns:List Key} {ts:Vg} {vs:List V} {i:Nat},ns.length=ts.length->ns.length=vs.length->((ns.map aR).zip ts).findIdx? (fun q=>eqT q.1 (aR k))=some i->vs[i]?=some u->cH (ns.zip vs) k=some u
 | [],_,_,_,_,_,h,_=>by simp at h
 | n :: ns,t :: ts,v :: vs,i,h1,h2,h,hu=>by
  rw [Zt,ZI,Yc] at h
  by_cases hp:eqT (aR n) (aR k)=true
  ·rw [Zr hp] at h
   cases h
   simp at hu;subst hu
   exact cp ((jQ k n).mp hp)
  ·rw [Zq hp] at h
   obtain ⟨j,hj,rfl⟩:=Zl.mp h
   have hn:n ≠ k:=fun z=>hp ((jQ k n).mpr z)
   have:cH ((n :: ns).zip (v :: vs)) k=cH (ns.zip vs) k:=by simp [cH,hn]
   rw [this]
   exact sL (by simpa using h1) (by simpa using h2) hj (by simpa using hu)
 | _ :: _,[],_,_,h,_,_,_=>by simp at h
 | _ :: _,_ :: _,[],_,_,h,_,_=>by simp at h
end
section
variable {G:Gx}
variable {X:Cx} {e:Expr} {es:List Expr} {i:Nat} {way:List Stp} {pos pos' p1 apos cpos:Pos} {c:Ex} {cs:Exs} {b:Expr} {k:Nat}
@[simp] noncomputable def Gm (i:Nat) (way:List Stp) (f:T->Vi->Option (T×Val)) (as:Exs) (η:VS.Env):Option (Val×VS.Env):=match η[i]? with
 | some (some (.ow t))=>(keys way η).bind fun ks=>(as η).bind fun xs=>(pm (fun x=>f x xs) ks t).map fun z=>(z.2,η.set i (some (.ow z.1)))
 | _=>none
noncomputable def BZ (G:Gx):Prop:=∀ c k k':Nat,(G.ct c).2 k=(G.ct c).2 k'->k=k'
end
section
variable {G:Gx} {X:Cx} {e o:Expr} {es:List Expr} {i:Nat} {way:List Stp} {pos pos' p1 apos cpos:Pos} {c:Ex} {cs:Exs} {b:Expr} {k:Nat} {ce ck:Ex}
theorem sE {H:Hp} {kk:Key} {xv:V} {t:T} (rv:Rp G H xv t []):∀ {ks:List Key} {vs:List V} {ts:Vg} {Fs:Yg},ks.length=vs.length->RpL G H vs ts Fs →
  ∃ vs' ts' Fs',(ks.zip vs).map (fun kv=>if kv.1=kk then (kv.1,xv) else kv)=ks.zip vs'/\ks.length=vs'.length/\((ks.map aR).zip ts).map (fun p=>if eqT p.1 (aR kk) then (p.1,t) else p)=(ks.map aR).zip ts'/\RpL G H vs' ts' Fs'/\Fs'.flatten.Sublist Fs.flatten
 | [],[],_,_,_,.nil=>⟨[],[],[],rfl,rfl,rfl,.nil,WZ _⟩
 | k :: ks,v :: vs,_,_,hl,.cons (t:=t0) (F:=F) (ts:=ts) (Fs:=Fs) r q=>by
  obtain ⟨vs',ts',Fs',h1,h2,h3,h4,h5⟩:=sE rv (by simpa using hl) q
  by_cases hk:k=kk
  ·have e:eqT (aR k) (aR kk)=true:=(jQ kk k).mpr hk
   refine ⟨xv :: vs',t :: ts',[] :: Fs',?_,by simp [h2],?_,.cons rv h4,?_⟩
   ·rw [ZI,Zt,h1,ZI];simp [hk]
   ·rw [Zt,ZI,Zt,h3,ZI];simp [e]
   ·rw [Ze,Ze]
    exact h5.trans (List.sublist_append_right _ _)
  ·have e:¬ eqT (aR k) (aR kk)=true:=fun z=>hk ((jQ kk k).mp z)
   refine ⟨v :: vs',t0 :: ts',F :: Fs',?_,by simp [h2],?_,.cons r h4,?_⟩
   ·rw [ZI,Zt,h1,ZI];simp [hk]
   ·rw [Zt,ZI,Zt,h3,ZI];simp [e]
   ·rw [Ze,Ze]
    exact List.Sublist.append (WZ _) h5
theorem pW {kk:Key}:∀ {ks:List Key} {vs:List V} {ts:Vg},ks.length=vs.length->ks.length=ts.length->((ks.zip vs).any fun kv=>decide (kv.1=kk))=(((ks.map aR).zip ts).any fun p=>eqT p.1 (aR kk))
 | [],_,_,_,_=>by simp
 | k :: ks,v :: vs,t :: ts,h1,h2=>by
  rw [Zt,ZI,ZI,Y9,Y9,pW (by simpa using h1) (by simpa using h2)]
  have:decide (k=kk)=eqT (aR k) (aR kk):=by rw [Bool.eq_iff_iff,decide_eq_true_eq];exact (jQ kk k).symm
  rw [this]
 | _ :: _,[],_,h,_=>by simp at h
 | _ :: _,_ :: _,[],_,h=>by simp at h
theorem oU {H:Hp} {kk:Key} {xv:V} {t:T} (rv:Rp G H xv t []) {ks:List Key} {vs:List V} {ts:Vg} {Fs:Yg} (hl:ks.length=vs.length) (ra:RpL G H vs ts Fs) :
  ∃ (ks':List Key) (vs':List V) (ts':Vg) (Fs':Yg),putK (ks.zip vs) kk xv=ks'.zip vs'/\ks'.length=vs'.length/\dput ((ks.map aR).zip ts) (aR kk) t=(ks'.map aR).zip ts'/\RpL G H vs' ts' Fs'/\Fs'.flatten.Sublist Fs.flatten:=by
 have an:=pW (kk:=kk) hl (hl.trans ra.len.1)
 unfold putK dput
 rw [an]
 by_cases h:(((ks.map aR).zip ts).any fun p=>eqT p.1 (aR kk))=true
 ·rw [Zr h,Zr h]
  obtain ⟨vs',ts',Fs',h1,h2,h3,h4,h5⟩:=sE (kk:=kk) rv hl ra
  exact ⟨ks,vs',ts',Fs',h1,h2,h3,h4,h5⟩
 ·rw [Zq h,Zq h]
  refine ⟨ks++[kk],vs++[xv],ts++[t],Fs++[[]],?_,by simp [hl],?_,ra.append (.cons rv .nil),by simp⟩
  ·rw [XO hl];rfl
  ·rw [Yv,XO (by rw [Zv];exact hl.trans ra.len.1)];rfl
noncomputable def EX:Bl:=fun o i v H Q=>Bu o i v H Q\/∃ a H4,o=.ref a/\xu H a i v H4/\Q H4
theorem D4 (hu:X.A.units+1 < cLine):Di X EX:=by
 intro pins s σ H o i v ov iv u Q I ro ri rv h
 rcases h with h | ⟨a,H4,rfl,g,q⟩
 ·exact set_list pins s σ H o i v ov iv u Q I ro ri rv h
 ·cases ro
  exact vb hu I g ri rv fun s4 I4=>⟨H4,I4,q⟩
end
theorem Dd {K:Y1} {H:Hp} {a:Addr} {ns:Vl} (hO:yk H) (hS:SqL K H a (ns.map V.int)):kS K H a ns:=by
 rcases hS with h | h
 ·rcases h with h | h
  ·rcases hO a with z | ⟨o,xs,z⟩
   ·rw [z] at h;cases h
   ·rw [z] at h;cases h
  ·exact .inl h
 ·exact .inr h
theorem Dv {G:Gx} {g:Fn} {H:Hp} {a:Addr} {ns:Vl} {E:XK} (hg:g [.scr ns]=some (.fr,.bl true)) (hO:yk H) (hS:SqL G.K H a (ns.map V.int)):spF G g [.ref a] H (fun v _=>v=.bl true) E :=
 ⟨[.scr ns],[[]],.fr,.bl true,.cons (.scr (Dd hO hS)) .nil,hg,fun v H' F _ r _=>r.bl_inv⟩
noncomputable def gx0 (K:Y1):Gx:=⟨K,fun _=>(0,fun k=>⟨#[k]⟩)⟩
theorem xZ {l:PySem.W.OpenLaw} {q:Program} {loose:List Str} {XP:(Xv)->Heap->Prop} {d:DefRec} {K:Params->Y1} {g:Fn} {x:Str} {k:Nat} (hn:l.most=some 63) (hdf:d.params.defaults=[]) (hr:Room k callerA)
  (hg:∀ ns:Vl,g [.scr ns]=some (.fr,.bl true))
  (F:∀ (w:World) (mg:Xv) (fa:Addr) (h:Heap),(K w.params).In h->h.Ns mainGlobals mg->mg d.name=some (.ref fa) →
   ∃ fd:FuncData,(∀ (s:Shared) (u:Value),BindsTo s fd ⟨[u],[]⟩ [(x,u)])/\∀ base:Heap,(K w.params).In base->base.Ns mainGlobals mg->FnOk l.prog w (K w.params) mg base CX0 k fa fd [x] (spF (gx0 (K w.params)) g)) :
  PySem.W.WalkO q loose XP (fun w h=>(K w.params).In h) l.row.toRowW d [] (fun f vs=>PySem.call f vs) :=
 L2.Al (n:=63) (k:=k) (x:=x) (CX:=fun _=>CX0) (sp:=fun w=>spF (gx0 (K w.params)) g) hn (by decide) hdf hr (fun _ _ h=>h) F (fun w H a ns _ hO hS=>Dv (G:=gx0 (K w.params)) (hg ns) hO hS) fun _ _ _ _ _ z=>z
end VS
end
section
namespace L2
open PySem PySem.Spec PyProof.Rows
section
variable {X:Cx}
theorem rD (hc:X.calm=true):fj X (.type "list") (fun xs H Q=>∃ x:Str,xs=[.str x]/\x.cps.size<=sizeLine/\∀ l,H l=none->Q (.ref l) (upd H l (.lst (x.cps.toList.map fun c=>V.str ⟨#[c]⟩)))):=by
 intro pins s σ H xs us Q I rx h
 obtain ⟨x,rfl,hz,q⟩:=h
 obtain ⟨u,rfl,t,rfl⟩:=vals1 rx
 refine call_list_str (I.ok.hd hc) x t (fun h' tk acc c kp g ha=>?_) hz
 have hv:aU (x.cps.toList.map fun c=>V.str ⟨#[c]⟩) acc.toList:=by
  have key:∀ (cs:Vm) (vs:X1),cs.length=vs.length->(∀ (i:Nat) (v:Value),vs[i]?=some v->∃ c u,cs[i]?=some c/\v=.str ⟨#[c]⟩ u)->aU (cs.map fun c=>V.str ⟨#[c]⟩) vs:=by
   intro cs
   induction cs with
   | nil =>
    intro vs hl _
    cases vs with
    | nil=>exact .nil
    | cons v vs=>simp at hl
   | cons c cs ih =>
    intro vs hl hg
    cases vs with
    | nil=>simp at hl
    | cons v vs =>
     obtain ⟨d,u,e1,e2⟩:=hg 0 v rfl
     cases e1
     exact .cons ⟨u,e2⟩ (ih vs (by simpa using hl) fun i w hw=>by simpa using hg (i+1) w (by simpa using hw))
  refine key _ _ (by rw [YZ,YZ,ha.1]) fun i v hi=>?_
  rw [Yx] at hi
  obtain ⟨d,u,e1,e2⟩:=ha.2 i v hi
  exact ⟨d,u,by rw [Yx];exact e1,e2⟩
 refine ⟨.ref s.heap.objs.size,_,I.laid kp (Zp _) (show br X.prog X.w _ h' _ (.lst (x.cps.toList.map fun c=>V.str ⟨#[c]⟩)) from ⟨by rw [Zv,YZ];exact hz,acc.toList,c,hv,g⟩),rfl,q _ (I.hok.fresh (Zp _))⟩
end
end L2
namespace VS
open PySem PySem.Spec PyProof.Rows L2
section
variable {G:Gx} {X:Cx} {a b c e tg:Expr} {es:List Expr} {ca cb cc ce ck:Ex} {cs:Exs} {pos p p1 p2 apos cpos pos':Pos} {k k' kr:Nat}
@[simp] noncomputable def gf:Vi->Vh
 | [(m,.lst l)]=>mkL m l
 | [(m,.tup l)]=>mkL m l
 | [(_,.str s)]=>mkL .fr (s.map fun c=>.str [c])
 | _=>none
theorem yH:iE G (fun xs H Q=>Bw G.K xs H Q\/∃ x:Str,xs=[.str x]/\x.cps.size<=sizeLine/\∀ l,H l=none->Q (.ref l) (upd H l (.lst (x.cps.toList.map fun c=>V.str ⟨#[c]⟩)))) gf:=by
 intro Φ η H0 H l vs Fs m t Q A e k
 unfold gf at e
 split at e
 ·exact .inl (tR Φ η H0 H _ vs Fs m t Q A e k)
 ·exact .inl (tR Φ η H0 H _ vs Fs m t Q A e k)
 ·rename_i mx x
  obtain ⟨v,F,rfl,rfl,rx⟩:=(show RpL G H vs [.str x] Fs from A.rp).one
  have ts:=rx.str_inv.2
  refine .inr ⟨sx x,by rw [rx.str_inv.1],?_,fun q hq=>?_⟩
  ·have:=ts.1
   simp only [sx,Zd]
   exact this
  ·have ec:(sx x).cps.toList.map (fun c=>V.str ⟨#[c]⟩)=(x.map fun c=>[c]).map fun s=>V.str (sx s):=by
    simp [sx]
   have et:(x.map fun c=>T.str [c])=(x.map fun c=>[c]).map T.str:=by simp
   rw [ec]
   rw [et] at e
   have r0:=rY (G:=G) (H:=H) (ss:=x.map fun c=>[c]) fun s hs=>by
    obtain ⟨c,hc,rfl⟩:=Yz.mp hs
    exact ⟨by show 1<=ip;decide,fun y hy=>by rw [Zn.mp hy];exact ts.2 c hc⟩
   refine jd A.same e r0 ?_ k q hq
   rw [pY]
   exact Fp.nil
 ·cases e
theorem yW (hm:X.mg "list" = none) (ha:PVs G X [e] cs) (hg:Gl X "list" := by rfl) (hK:X.K=G.K:=by rfl) (hc:X.calm=true:=by rfl) (he:starEach [e] X.env=(false,eval e X.env) :: starEach [] X.env:=by rfl):PV G X (.Call (.Name "list" p) [e] [] pos) (eN gf cs) :=
 kj (n8.or (rD hc)) (hK ▸ yH) hg hm zM ha (he:=he) (hpl:=rfl)
theorem zg (K:Y1):BZ (gx0 K):=fun c k k' h=>by
 have:(#[k]:Array Nat)=#[k']:=congrArg Str.cps h
 simpa using this
end
end VS
end
section
open PySem PyProof.Rows
namespace TS
noncomputable abbrev Ky:=Sum Int Str
noncomputable def ltK:Ky->Ky->Bool
 | .inl i,.inl j=>decide (i < j)
 | .inr x,.inr y=>decide (x.cps.toList < y.cps.toList)
 | _,_=>false
noncomputable def fq:List Ky->List Ky->Bool
 | [],[]=>false
 | [],_ :: _=>true
 | _ :: _,[]=>false
 | a :: as,b :: bs=>if a=b then fq as bs else ltK a b
noncomputable def kind (k:Ky):Bool:=k.isLeft
theorem zN {x y:Str} (h:x.cps.toList=y.cps.toList):x=y:=by
 cases x;cases y
 simp only [Str.mk.injEq]
 exact Array.toList_inj.mp h
theorem Bj (a:Ky):ltK a a=false:=by
 cases a with
 | inl i=>simp [ltK]
 | inr x=>simp [ltK,WG]
theorem qy {a b:Ky} (h:ltK a b=true):ltK b a=false:=by
 cases a <;> cases b <;> simp only [ltK,decide_eq_true_eq,decide_eq_false_iff_not,ZG] at h ⊢
 ·lia
 ·exact fun q=>WG _ (List.lt_trans h q)
theorem uW {a b c:Ky} (h:ltK a b=true) (h':ltK b c=true):ltK a c=true:=by
 cases a <;> cases b <;> cases c <;> simp only [ltK,decide_eq_true_eq,ZG] at h h' ⊢
 ·lia
 ·exact List.lt_trans h h'
theorem se {a b:Ky} (k:kind a=kind b) (h:ltK a b=false) (h':ltK b a=false):a=b:=by
 cases a <;> cases b <;> simp only [ltK,decide_eq_false_iff_not,kind,Sum.isLeft,W4,ZG] at h h' k ⊢
 ·congr 1;lia
 ·congr 1
  exact zN (List.le_antisymm (List.not_lt.mp h') (List.not_lt.mp h))
theorem ng:∀ {l m:List Ky},fq l m=true->fq m l=false
 | [],[],h=>by simp [fq] at h
 | [],_ :: _,_=>rfl
 | _ :: _,[],h=>by simp [fq] at h
 | a :: l,b :: m,h=>by
  unfold fq at h ⊢
  by_cases e:a=b
  ·rw [Zr e] at h
   rw [Zr e.symm]
   exact ng h
  ·rw [Zq e] at h
   rw [Zq (YG e)]
   exact qy h
theorem sQ:∀ {l m n:List Ky},l.map kind=m.map kind->m.map kind=n.map kind->fq m l=false->fq n m=false->fq n l=false
 | [],[],[],_,_,_,_=>rfl
 | [],[],_ :: _,_,h,_,_=>by simp at h
 | [],_ :: _,_,h,_,_,_=>by simp at h
 | _ :: _,[],_,h,_,_,_=>by simp at h
 | _ :: _,_ :: _,[],_,h,_,_=>by simp at h
 | a :: l,b :: m,c :: n,h1,h2,h3,h4=>by
  simp only [Zt,YT] at h1 h2
  unfold fq at h3 h4 ⊢
  by_cases e1:b=a
  ·subst e1
   rw [Zr rfl] at h3
   by_cases e2:c=b
   ·rw [Zr e2] at h4 ⊢
    exact sQ h1.2 h2.2 h3 h4
   ·rw [Zq e2] at h4 ⊢
    exact h4
  ·rw [Zq e1] at h3
   have hab:ltK a b=true:=by
    cases q:ltK a b with
    | true=>rfl
    | false=>exact absurd (se h1.1 q h3).symm e1
   by_cases e2:c=b
   ·subst e2
    rw [Zq e1]
    exact h3
   ·rw [Zq e2] at h4
    have hbc:ltK b c=true:=by
     cases q:ltK b c with
     | true=>rfl
     | false=>exact absurd (se h2.1 q h4).symm e2
    have hac:=uW hab hbc
    have hne:c ≠ a:=fun e=>by rw [e,Bj] at hac;cases hac
    rw [Zq hne]
    exact qy hac
variable {prog:Program} {w:World} {A:Around} {E:Z8} {s:Shared}
noncomputable def KyV:Ky->Value->Prop
 | .inl i,v=>∃ t,v=.int i t
 | .inr x,v=>∃ t,v=.str x t
inductive KysV:List Ky->X1->Prop where
 | nil:KysV [] []
 | cons {k:Ky} {v:Value} {ks:List Ky} {vs:X1}:KyV k v->KysV ks vs->KysV (k :: ks) (v :: vs)
theorem KyV.fn {k k':Ky} {v:Value} (h:KyV k v) (h':KyV k' v):k=k':=by
 cases k <;> cases k' <;> obtain ⟨t,rfl⟩:=h <;> obtain ⟨t',e⟩:=h' <;> cases e <;> rfl
theorem KysV.fn:∀ {ks ls:List Ky} {vs:X1},KysV ks vs->KysV ls vs->ks=ls
 | _,_,_,.nil,.nil=>rfl
 | _,_,_,.cons h q,.cons h' q'=>by rw [h.fn h',q.fn q']
noncomputable def jJ (h:Heap) (v:Value) (ks:List Ky):Prop:=∃ b o items n,v=.ref b/\h.get? b=some o/\o.cls=.type "tuple" ∧ o.data=.seq items n/\KysV ks items.toList
theorem jJ.fn {h:Heap} {v:Value} {ks ls:List Ky} (x:jJ h v ks) (y:jJ h v ls):ks=ls:=by
 obtain ⟨b,o,items,n,rfl,g,_,d,k⟩:=x
 obtain ⟨b',o',items',n',e,g',_,d',k'⟩:=y
 cases e
 rw [g] at g'
 cases g'
 rw [d] at d'
 cases d'
 exact k.fn k'
theorem E2 {k k':Ky} {v v':Value} {Q:Bool->Shared->Prop} (hk:kind k=kind k') (h:KyV k v) (h':KyV k' v') (q:Q (decide (k=k')) s):wpAny (model prog w) A (eqBool v v') Q E s:=by
 cases k <;> cases k' <;> simp only [kind,Sum.isLeft,W4,ZG] at hk <;> obtain ⟨t,rfl⟩:=h <;> obtain ⟨t',rfl⟩:=h'
 ·exact wpAny_eqBool_int (by have e:∀ i j:Int,(i == j)=decide (Sum.inl (β:=Str) i=.inl j):=fun i j=>by by_cases z:i=j <;> simp [z]
                             rw [e];exact q)
 ·exact wpAny_eqBool_str (by simpa using q)
theorem FB {k k':Ky} {v v':Value} {b:Bool} {Q:Bool->Shared->Prop} (hk:kind k=kind k') (h:KyV k v) (h':KyV k' v') (q:Q (ltK k k') s):wpAny (model prog w) A (oneLt' b v v') Q E s:=by
 cases k <;> cases k' <;> simp only [kind,Sum.isLeft,W4,ZG] at hk <;> obtain ⟨t,rfl⟩:=h <;> obtain ⟨t',rfl⟩:=h'
 ·cases b with
  | true=>exact oneLt_int q
  | false =>
   rw [oneLt'_eq,Zq Zh]
   exact Zy (PyProof.Rows.lt_int (Ye q):wpAny (model prog w) A (compareOp .Lt (.int _ t) (.int _ t')) _ E s)
 ·cases b with
  | true=>exact oneLt_str q
  | false =>
   rw [oneLt'_eq,Zq Zh]
   exact Zy (PySem.P.lt_str (Ye q):wpAny (model prog w) A (compareOp .Lt (.str _ t) (.str _ t')) _ E s)
theorem uO (a b:Ky) (l m:List Ky):fq (a :: l) (b :: m)=if a=b then fq l m else ltK a b:=rfl
theorem BX {f:Bool} {x y:Value} {ks ls:List Ky} {Q:Bool->Shared->Prop} (hx:jJ s.heap x ks) (hy:jJ s.heap y ls) (hs:ks.map kind=ls.map kind) (q:Q (fq ks ls) s):wpAny (model prog w) A (keyLt' (tuples' f) x y) Q E s:=by
 obtain ⟨b,o,items,n,rfl,g,_,d,k⟩:=hx
 obtain ⟨b',o',items',n',rfl,g',_,d',k'⟩:=hy
 refine (show wpAny (model prog w) A (Builtin.List.listItems (.ref b) >>= _) Q E s from ?_)
 refine Zy (listItems_at g d (Zy (listItems_at g' d' ?_)))
 have hsz:items.size=items'.size:=by
  have e1:∀ {ks:List Ky} {vs:X1},KysV ks vs->ks.length=vs.length:=fun h=>by induction h with | nil=>rfl | cons _ _ ih=>simp [ih]
  have h1:=e1 k
  have h2:=e1 k'
  have h3:=congrArg List.length hs
  simp at h1 h2 h3
  lia
 refine Zy (Xp _ (fun rest b s'=>b=(none,())/\s'=s/\∃ (ks' ls':List Ky) (vs us:X1) (i:Nat),rest=(vs.zip us).zipIdx i/\KysV ks' vs/\KysV ls' us/\ks'.map kind=ls'.map kind/\fq ks ls=fq ks' ls') _ ?turn ?fin _ _ ⟨rfl,rfl,ks,ls,_,_,0,rfl,k,k',hs,rfl⟩)
 case turn =>
  rintro x rest b s' ⟨rfl,rfl,ks',ls',vs,us,i,e,k1,k2,hs',hl⟩
  cases k1 with
  | nil=>simp at e
  | @cons a v ks1 vs1 ha k1 =>
   cases k2 with
   | nil=>simp at e
   | @cons b u ls1 us1 hb k2 =>
    simp only [ZI,Xa,YT] at e
    obtain ⟨rfl,rfl⟩:=e
    simp only [Zt,YT] at hs'
    refine Zy (E2 hs'.1 ha hb ?_)
    rw [uO] at hl
    by_cases hab:a=b
    ·rw [Zr hab] at hl
     rw [decide_eq_true hab,Zq (by simp)]
     exact Zs ⟨rfl,rfl,ks1,ls1,vs1,us1,i+1,rfl,k1,k2,hs'.2,hl⟩
    ·rw [Zq hab] at hl
     rw [ZP hab,Zr (by simp)]
     refine Zy (m:=oneLt' _ v u) (FB hs'.1 ha hb (Zs (Zs ?_)))
     rw [← hl]
     exact q
 case fin =>
  rintro b s' ⟨rfl,rfl,ks',ls',vs,us,i,e,k1,k2,hs',hl⟩
  have:fq ks ls=decide (items.size < items'.size):=by
   rw [hl,hsz]
   cases k1 with
   | nil =>
    cases k2 with
    | nil=>simp [fq]
    | cons _ _=>simp at hs'
   | cons _ _ =>
    cases k2 with
    | nil=>simp at hs'
    | cons _ _=>simp at e
  refine Zs ?_
  rw [← this]
  exact q
theorem oG {α β:Type} {f:α->Sem β} {P:β->Prop}:∀ {vs:List α} {Q:List β->Shared->Prop},(∀ v∈vs,∃ x,P x/\∀ (Q:β->Shared->Prop),Q x s->wpAny (model prog w) A (f v) Q E s)->(∀ xs:List β,xs.length=vs.length->(∀ x∈xs,P x)->Q xs s)->wpAny (model prog w) A (vs.mapM f) Q E s
 | [],Q,_,q=>by
  rw [List.mapM_nil]
  exact Zs (q [] rfl (by simp))
 | v :: vs,Q,h,q=>by
  rw [List.mapM_cons]
  obtain ⟨x,px,hx⟩:=h v Zw
  refine Zy (hx _ (Zy (oG (fun u hu=>h u (Zx _ hu)) fun xs hl hp=>Zs (q _ (by simp [hl]) fun y hy=>?_))))
  rcases Zo.mp hy with e | e
  ·rw [e];exact px
  ·exact hp y e
theorem wY {vs:X1} {k0:Bool} {sh:List Bool} {Q:SortKind->Shared->Prop} (h2:0 < vs.length) (hv:∀ v∈vs,∃ ks,jJ s.heap v ks/\ks.map kind=k0 :: sh) (q:Q (tuples' true) s):wpAny (model prog w) A (keyKind' vs.toArray) Q E s:=by
 have fst:∀ v∈vs,∃ x,(∀ (Q:Vt->Shared->Prop),Q (some x) s->wpAny (model prog w) A (firstOfTuple' v) Q E s)/\(∀ (Q:Z8),Q (.type (if k0 then "int" else "str")) s->wpAny (model prog w) A (typeOf x) Q E s):=fun v hm=>by
  obtain ⟨ks,⟨b,o,items,n,rfl,g,c,d,k⟩,hk⟩:=hv v hm
  cases k':items.toList with
  | nil =>
   rw [k'] at k
   cases k
   simp at hk
  | cons x xs =>
   rw [k'] at k
   cases k with
   | @cons a _ ks1 _ ha k1 =>
    simp only [Zt,YT] at hk
    have hx:items[0]?=some x:=by rw [← Yx,k'];rfl
    refine ⟨x,fun Q q=>?_,fun Q q=>?_⟩
    ·refine (show wpAny _ _ (typeOf (.ref b) >>= _) _ _ _ from Zy (WD (T := "tuple") ⟨o,g,c⟩ ?_))
     rw [Zq (by decide)]
     refine Zy (listItems_at g d (Zs ?_))
     rw [hx]
     exact q
    ·cases a with
     | inl i =>
      obtain ⟨t,rfl⟩:=ha
      have:k0=true:=hk.1.symm
      subst this
      exact WD (T := "int") rfl q
     | inr y =>
      obtain ⟨t,rfl⟩:=ha
      have:k0=false:=hk.1.symm
      subst this
      exact WD (T := "str") rfl q
 obtain ⟨tn,htn⟩:∃ tn:String,tn=(if k0 then "int" else "str"):=⟨_,rfl⟩
 have hne:(Value.type tn != Value.type "tuple")=true:=by subst htn;cases k0 <;> decide
 rw [← htn] at fst
 have mp:∀ {α β:Type} (f:α->Sem β) (l:List α) (Q:Array β->Shared->Prop),wpAny (model prog w) A (l.mapM f) (fun xs s'=>Q xs.toArray s') E s->wpAny (model prog w) A (l.toArray.mapM f) Q E s:=fun f l Q hm=>by
  rw [List.mapM_toArray]
  exact Zy (YY hm (fun _ _ z=>Zs z) fun _ _ e=>e)
 rw [keyKind'_eq]
 refine Zy (mp _ _ _ (oG (P:=fun o=>∃ x,o=some x/\∀ (Q:Z8),Q (.type tn) s->wpAny (model prog w) A (typeOf x) Q E s) (fun v hm=>by
  obtain ⟨x,h1,h3⟩:=fst v hm
  exact ⟨some x,⟨x,rfl,h3⟩,h1⟩) fun xs hl hp=>?_))
 rw [Zr (by
  rw [List.all_toArray,Z9]
  intro o ho
  obtain ⟨x,rfl,_⟩:=hp o ho
  rfl)]
 refine Zy (Xi (Zy ?_))
 rw [oneTypeOnly'_eq]
 have hf:(xs.toArray.filterMap id)=(xs.filterMap id).toArray:=by simp
 rw [hf]
 refine Zy (mp _ _ _ (oG (P:=fun ty=>ty=Value.type tn) (fun v hm=>by
  obtain ⟨o,ho,e⟩:=W2.mp hm
  obtain ⟨x,rfl,h3⟩:=hp o ho
  cases e
  exact ⟨_,rfl,h3⟩) fun ts hl2 ht=>?_))
 have hfl:(xs.filterMap id).length=xs.length:=by
  have:∀ l:List (Vt),(∀ o∈l,∃ x,o=some x)->(l.filterMap id).length=l.length:=fun l=>by
   induction l with
   | nil=>intro _;rfl
   | cons o l ih =>
    intro h
    obtain ⟨x,rfl⟩:=h o Zw
    simp [ih fun o ho=>h o (Zx _ ho)]
  exact this xs fun o ho=>let ⟨x,e,_⟩:=hp o ho;⟨x,e⟩
 cases ts with
 | nil=>simp at hl2;lia
 | cons t0 ts =>
  have e0:=ht t0 Zw
  subst e0
  have e1:(Value.type tn :: ts).toArray[0]?=some (Value.type tn):=rfl
  rw [e1]
  dsimp only
  rw [Zr (by
   rw [List.all_toArray,Z9]
   intro y hy
   rw [ht y hy]
   simp)]
  refine Zs (Zs ?_)
  simp only [Option.any_some,hne]
  exact q
noncomputable def GT (h:Heap) (sh:List Bool) (x:Keyed):Prop:=∃ ks,jJ h x.1 ks/\ks.map kind=sh
open Classical in
noncomputable def rT (h:Heap) (x y:Keyed):Bool:=decide (∃ ks ls,jJ h x.1 ks/\jJ h y.1 ls/\fq ks ls=true)
open Classical in
theorem mL {h:Heap} {x y:Keyed} {ks ls:List Ky} (hx:jJ h x.1 ks) (hy:jJ h y.1 ls):rT h x y=fq ks ls:=by
 unfold rT
 cases e:fq ks ls with
 | true=>exact decide_eq_true ⟨ks,ls,hx,hy,e⟩
 | false =>
  refine ZP fun ⟨ks',ls',hx',hy',e'⟩=>?_
  rw [hx'.fn hx,hy'.fn hy,e] at e'
  cases e'
theorem AM {sh:List Bool} {f:Bool} {h:Heap} (hk:∀ v ks,jJ h v ks->jJ s.heap v ks):Cmp prog w A E s (tuples' f) (GT h sh) (rT h):=by
 refine ⟨?_,?_,?_⟩
 ·rintro st x y Q hkd ⟨ks,hx,ex⟩ ⟨ls,hy,ey⟩ q
  rw [lt'_eq]
  refine Za (WH ?_)
  rw [hkd]
  rw [mL hx hy] at q
  exact Za (wpS_lift (wpAny_attempt (BX (hk _ _ hx) (hk _ _ hy) (ex.trans ey.symm) ⟨rfl,Zk q⟩)))
 ·rintro x y ⟨ks,hx,_⟩ ⟨ls,hy,_⟩ q
  rw [mL hx hy] at q
  rw [mL hy hx]
  exact ng q
 ·rintro x y z ⟨ks,hx,ex⟩ ⟨ls,hy,ey⟩ ⟨ms,hz,ez⟩ q1 q2
  rw [mL hy hx] at q1
  rw [mL hz hy] at q2
  rw [mL hz hx]
  exact sQ (ex.trans ey.symm) (ey.trans ez.symm) q1 q2
end TS
end
section
namespace ST
open PySem PySem.Spec PyProof.Rows
variable {prog:Program} {w:World} {A:Around} {E:Z8} {s:Shared}
noncomputable abbrev dO (es:Array DictEntry) (ep:Nat):Obj:={ cls:=.type "dict",data:=.dict es ep }
noncomputable abbrev kO (d:Addr) (i n ep:Nat):Obj:={ cls:=.type "dict_keyiterator",data:=.fields #[.ref d,.int i 0,.int n 0,.int ep 0] }
theorem xp {d:Addr} {es:Array DictEntry} {ep:Nat} {Q:Z8} (hd:(d == sysModules)=false) (hm:s.heap.get? d=some (dO es ep)) (q:Q (.ref s.heap.objs.size) { s with heap:=s.heap.push (kO d 0 es.size ep) }) :
  wpAny (model prog w) A (pyIter (.ref d)) Q E s:=by
 have ty:s.TypeIs (.ref d) "dict" := ⟨_,hm,rfl⟩
 refine wpAny_pyIter_slot ty F.slot_dict_iter (Xo F.slot_dict_iter ty F.entry_dict_iter (show wpAny _ _ (Builtin.«dict.__iter__» _) _ _ _ from ?_) (F.args_dict_iter_1 _))
 unfold Builtin.«dict.__iter__» Builtin.Dict.dictSlotNone Builtin.Dict.showsAll
 refine Zy (Zy (wpAny_notOrdered_dict ty (show wpAny _ _ (pure (Value.ref d)) _ _ s from Zs (Zy (m:=Builtin.Dict.addrOf (.ref d)) (Zs ?_)))))
 rw [Zq (by rw [hd];exact Zh)]
 exact Zy (Zs (Zy (wpAny_dictEntries hm rfl (Zy (wpAny_dictEpoch hm rfl (Zy (X8 (Zs ⟨_,rfl, "dict_keyiterator",_,⟨_,ZU _ rfl,rfl⟩,Xd.lookup,q⟩))))))))
theorem pF {I d:Addr} {i ep:Nat} {es:Array DictEntry} {Q:Vt->Shared->Prop} (hh:A.handled=none) (hI:s.heap.get? I=some (kO d i es.size ep)) (hm:s.heap.get? d=some (dO es ep))
  (h1:∀ e,es[i]?=some e->∀ h',Heap.SameBut I s.heap h'->h'.get? I=some (kO d (i+1) es.size ep)->Q (some e.key) { s with heap:=h' })
  (h2:es[i]?=none->∀ h',(∀ b o,b ≠ I->s.heap.get? b=some o->h'.get? b=some o)->Q none { s with heap:=h' }):wpAny (model prog w) A (pyNext (.ref I)) Q E s:=by
 have ty:s.TypeIs (.ref I) "dict_keyiterator" := ⟨_,hI,rfl⟩
 unfold pyNext
 refine Zy (wpAny_attempt (wpAny_callSpecial?_slot (name:=Str.ofString "__next__") ty Xd (Xo Xd ty F.entry_dict_keyiterator_next (YY
  (Q:=fun f s'=>∃ v,f=.done (.ret v)/\Q (some v) s') (E:=fun e s'=>∃ x,e=.ref x/\(∃ o,s'.heap.get? x=some o/\o.cls=.type "StopIteration")/\Q none s') ?_ (fun f s' ⟨v,e,q⟩=>⟨v,e,Zs q⟩) fun e s' ⟨x,e1,⟨o,g,c⟩,q⟩=>?_) (F.args_dict_keyiterator_next_1 _))))
 ·refine Zy (Zs (Zy (Zy (Zy (Wj ty (Zs (Zy (wpAny_fieldsOf hI rfl ?_))))))))
  have own:Builtin.Dict_items.ownsTuple "dict_keyiterator" = false:=rfl
  simp only [own,ZG,↓reduceIte]
  refine (show wpAny _ _ (if (Value.ref d == Value.none)=true then _ else _) _ _ s from ?_)
  rw [Zq (fun e:(Value.ref d == Value.none)=true=>Zh e)]
  refine Zy (Zs (Zy (wpAny_dictEntries hm rfl ?_)))
  rw [Zq (by simp)]
  refine Zy (Zs (Zy (wpAny_dictEpoch hm rfl ?_)))
  rw [Zq (by simp)]
  refine Zs ?_
  simp only [show ¬ ((i:Int) < 0) from by lia,↓reduceIte,YM]
  cases he:es[i]? with
  | some e =>
   dsimp only
   have g1:(s.heap.update I (Obj.mapFields (·.setIfInBounds 1 (rawInt ((i:Int)+1))))).get? I=some (kO d (i+1) es.size ep):=Wr _ hI rfl
   refine Zy (Zy (Wj ty (Zs (Zy (wpAny_isOneOf_keyiter ty ?_)))))
   refine (show wpAny _ _ (setField (.ref I) 1 (rawInt ((i:Int)+1)) >>= _) _ _ s from Zy (wpAny_setField hI rfl (by show 1 < 4;decide) (Zy (YS ?_))))
   refine Zy (wpAny_isOneOf_keyiter (s:={ s with heap:=s.heap.update I (Obj.mapFields (·.setIfInBounds 1 (rawInt ((i:Int)+1)))) }) ⟨_,g1,rfl⟩ ?_)
   refine (show wpAny _ _ (pure e.key) _ _ _ from Zs (Zs ⟨_,rfl,h1 e he _ (WY ..) g1⟩))
  | none =>
   dsimp only
   refine Zy (Zy (Wj ty (Zs ?_)))
   refine (show wpAny _ _ (setField (.ref I) 0 .none >>= _) _ _ s from Zy (wpAny_setField hI rfl (by show 0 < 4;decide) (DI hh fun h' x kp hx=>⟨x,rfl,hx,h2 he h' fun b o hb e=>kp b o ?_⟩)))
   rw [YI _ _ (YG hb)]
   exact e
 ·subst e1
  exact Zy (Wq (T := "StopIteration") (b:=true) ⟨o,g,c⟩ isSubtype_stop (Zs q))
end ST
end
section
namespace L2
open PySem PySem.Spec PyProof.Rows TS
section
variable {X:Cx}
theorem wb:∀ {ks:List Key} {vs:X1},aU (ks.map kV) vs->KysV ks vs
 | [],[],_=>.nil
 | k :: ks,v :: vs,h=>by
  cases h with
  | cons r q =>
   refine .cons ?_ (wb q)
   cases k with
   | inl i=>exact r
   | inr x=>exact r
theorem zF {P:Program} {w:World} {H:Hp} {h:Heap} {a:Addr} {ks:List Key} (ok:HOk P w H h) (e:H a=some (.tup (ks.map kV))):jJ h (.ref a) ks:=by
 obtain ⟨_,its,r,_,o,h1,h2,n,h3⟩:=(show br P w H h a (.tup (ks.map kV)) from ok a _ e)
 exact ⟨a,o,its.toArray,n,rfl,h1,h2,h3,wb r⟩
end
end L2
end
section
namespace VS
open PySem PySem.Spec PyProof.Rows L2 TS
section
variable {G:Gx} {X:Cx} {a b c e tg:Expr} {es:List Expr} {ca cb cc ce ck:Ex} {cs:Exs} {pos p p1 p2 apos cpos pos':Pos} {k k' kr:Nat}
noncomputable def Cg:T->Bool
 | .tup l=>l.all gP
 | _=>false
@[simp] noncomputable def FW (x y:Val):Vh:=match y.2 with
 | .dct 1 l=>if Cg x.2 then some (.fr,.bl (bS l x.2).isSome) else none
 | .lst l=>if Cg x.2 && l.all Cg then some (.fr,.bl (l.any fun z=>eqT z x.2)) else none
 | _=>none
@[simp] noncomputable def FD (x y:Val):Vh:=match FW x y with
 | some (_,.bl b)=>some (.fr,.bl (!b))
 | _=>none
end
end VS
namespace VS
open PySem PySem.Spec PyProof.Rows L2
theorem Ed {G:Gx} {X:Cx} {i:Int} {j:Nat} {pos p:Pos}:PV G X (.UnaryOp .USub (.Constant (.int i) j p) pos) (eC (.int (-i))) :=
 PE.weak (Fo BP wB) fun σ H Q hq=>by
  obtain ⟨Φ,η,m,t,s,e,k⟩:=hq
  cases (show some (Md.fr,T.int (-i))=some (m,t) from e)
  exact ⟨i,rfl,k _ H [] (aW.refl _) (.int _) Fp.nil⟩
end VS
end
section
namespace L2
open PySem PySem.Spec PyProof.Rows
section
variable {X:Cx}
noncomputable def yO:V->List V->Hp->VK->Prop:=fun x vs H Q=>∃ (a:Addr) (kvs:List (Key×V)) (k:Key) (y:V),x=.ref a/\vs=[kV k,y]/\H a=some (.dK kvs)/\kvs.length < sizeLine ∧
 (∀ v,cH kvs k=some v->Q v H)/\(cH kvs k=none->Q y (upd H a (.dK (putK kvs k y))))
theorem tV:MtR X "dict.setdefault" yO:=by
 intro pins s σ H x vs v us Q I rx rv h
 obtain ⟨a,kvs,k,y,rfl,rfl,e,hl,q1,q2⟩:=h
 cases rx
 obtain ⟨u,u2,rfl,ru,ru2⟩:=rv.two
 obtain ⟨z,hd,ws,rel,dd⟩:=sS I.hok e
 have hz:ws.length<=sizeLine:=by rw [← rel.length];exact z
 have hval:=rel.val k
 refine call_meetsIn Xn dd.typeIs PySem.F.entry_dict_setdefault (Vs _ _ _) (kt_meets_setdefault (aX X.prog X.w) a (kT ru) hd u2) ⟨ws,dd,hz,fun v hv=>?_,fun hn h' dd' hs=>?_⟩
 ·rw [hv] at hval
  cases hx:cH kvs k with
  | none=>rw [hx] at hval;cases hval
  | some w =>
   rw [hx] at hval
   exact ⟨w,H,I.tok _,hval,q1 w hx⟩
 ·rw [hn] at hval
  have hx:cH kvs k=none:=by
   cases hx:cH kvs k with
   | none=>rfl
   | some w=>rw [hx] at hval;cases hval
  have hl2:(putK kvs k y).length<=sizeLine:=by have:=ft kvs k y;lia
  have he:∃ q,h'.get? a=some q:=let ⟨q,_,_,hq,_⟩:=dd';⟨q,hq⟩
  exact ⟨y,_,jh I (by rw [e];exact True.intro) hs he (oA hl2 hd (rel.put k ru2) dd'),ru2,q2 hx⟩
end
end L2
namespace VS
open PySem PySem.Spec PyProof.Rows L2
section
variable {G:Gx} {X:Cx} {a b c e o tg:Expr} {es:List Expr} {ca cb cc ce ck cv:Ex} {cs:Exs} {pos p p1 p2 apos cpos pos' ap1 cp1 lp:Pos} {k k' kr i:Nat}
noncomputable def cT (l:List (T×T)) (k:T):List (T×T):=if (bS l k).isSome then l else l++[(k,.lst [])]
noncomputable def jl (i:Nat) (k:Ex) (v:Exs) (η:VS.Env):Option Out:=match η[i]? with
 | some (some (.ow (.dct 0 l)))=>(k η).bind fun kv=>if gP kv.2/\l.length < ip then
   (v (η.set i (some (.ow (.dct 0 (cT l kv.2)))))).bind fun vv=>(pm (fun x=>aZ x vv) [.at kv.2] (.dct 0 (cT l kv.2))).map fun z=>.nx (η.set i (some (.ow z.1))) else none
 | _=>none
theorem Chg.none {H H':Hp} {v:V} {F:Xb} {t:T} (sm:aW H H') (r:Rp G H v t F) (nd:F.Nodup):Chg G H v F t H' F :=
 ⟨Kept.of sm,fun b o _ h=>sm b o h,fun b h z=>h (sm.free z),r.same sm,nd,fun a ha=>.inl ha⟩
theorem C3 {H:Hp} {f:T->Option (T×Val)} {kk:Key} {a:Addr} {L:List (T×T)} {t':T} {F:Xb} {y:Val} {kvs:List (Key×V)} {w:V} (r:Rp G H (.ref a) (.dct 0 L) F) (nd:F.Nodup) (e:pm f [.at (aR kk)] (.dct 0 L)=some (t',y)) (h3:H a=some (.dK kvs)) (hw:cH kvs kk=some w) :
  ∃ x F1 x',Rp G H w x F1/\F1.Nodup/\f x=some (x',y)/\∀ H2 F1',Chg G H w F1 x' H2 F1'->∃ F',Chg G H (.ref a) F t' H2 F':=by
 have e:((L.findIdx? fun p=>eqT p.1 (aR kk)).bind fun i=>(L[i]?).bind fun p=>(pm f [] p.2).map fun z=>(T.dct 0 (L.set i (p.1,z.1)),z.2))=some (t',y):=by
  cases kk <;> exact e
 obtain ⟨i,h1,e⟩:=Zz.mp e
 obtain ⟨p,h2,e⟩:=Zz.mp e
 obtain ⟨⟨z,y'⟩,e1,e2⟩:=Zl.mp e
 cases e2
 obtain ⟨a',ns,vs,ts,Fs,ea,rfl,ha,hl,rfl,ra⟩:=jc r
 cases ea
 rw [h3] at ha
 cases ha
 have lts:(ns.map aR).length=ts.length:=by rw [Zv];exact hl.trans ra.len.1
 obtain ⟨k0,x0,g1,g2,g3,g4⟩:=pR (fun n=>eqT n (aR kk)) lts h1
 have ep:p=(k0,x0):=by
  have:((ns.map aR).zip ts)[i]?=some (k0,x0):=by rw [Wd];exact ⟨g1,g2⟩
  rw [this] at h2;exact (ZE h2).symm
 subst ep
 obtain ⟨u,Fi,u1,u2,u3⟩:=ra.get i g2
 have ew:cH (ns.zip vs) kk=some u:=sL (by simpa using lts) hl h1 u1
 rw [hw] at ew
 cases ew
 refine ⟨x0,Fi,z,u3,((ZW.mp nd).2).sublist (fS u2),e1,fun H2 F1' g=>?_⟩
 obtain ⟨s1,s2,s3,s4,s5⟩:=og h3 ra nd u1 u2 g
 refine ⟨_,g.kept,s5,g.dom,?_,s3,s4⟩
 rw [oM (ns.map aR) ts i k0 z g1]
 exact .dct s1 hl s2
theorem xX (J:BZ G) (i:Nat) {x:Str} (hk:PV G X b ck) (hv:PVs G X [e] cs) (hK:X.K=G.K) (hN:X.N[i]?=some x) (hvis:Vis X.env.scope x) (hd:(x == ("__debug__" : Str))=false) (hcd:(x == ("__classdict__" : Str))=false)
  (hb1:attributeBase (.Name x p1) "setdefault" X.env (eval (.Name x p1) X.env)=eval (.Name x p1) X.env)
  (hf1:((backTo cp1 (starEach [b,.List [] lp] X.env)).all (fun x=>!x.1) && (backToKw cp1 (keywordEach [] X.env)).all (fun x=>x.1.isSome)
   && decide ([b,Expr.List [] lp].length+([]:List Keyword).length+(if ([]:List Keyword).isEmpty then 0 else 1) < 30))=true)
  (hl1:(ap1.endLine == cp1.line)=true) (hs1:starEach [b,.List [] lp] X.env=(false,eval b X.env) :: starEach [.List [] lp] X.env) (hs1':starEach [.List [] lp] X.env=(false,eval (.List [] lp) X.env) :: starEach [] X.env) (hp1:(backTo cp1 (starEach [.List [] lp] X.env)).any (·.1)=false)
  (hb2:attributeBase (.Call (.Attribute (.Name x p1) "setdefault" ap1) [b,.List [] lp] [] cp1) "append" X.env (eval (.Call (.Attribute (.Name x p1) "setdefault" ap1) [b,.List [] lp] [] cp1) X.env)=eval (.Call (.Attribute (.Name x p1) "setdefault" ap1) [b,.List [] lp] [] cp1) X.env)
  (hf2:((backTo cpos (starEach [e] X.env)).all (fun x=>!x.1) && (backToKw cpos (keywordEach [] X.env)).all (fun x=>x.1.isSome)
   && decide ([e].length+([]:List Keyword).length+(if ([]:List Keyword).isEmpty then 0 else 1) < 30))=true)
  (hl2:(apos.endLine == cpos.line)=true) (hs2:starEach [e] X.env=(false,eval e X.env) :: starEach [] X.env) (hp2:(backTo cpos (starEach [] X.env)).any (·.1)=false)
  (hsw:swapsWith (.Call (.Attribute (.Call (.Attribute (.Name x p1) "setdefault" ap1) [b,.List [] lp] [] cp1) "append" apos) [e] [] cpos) none pos.line X.env=pure false) :
  PSV G X (.Expr (.Call (.Attribute (.Call (.Attribute (.Name x p1) "setdefault" ap1) [b,.List [] lp] [] cp1) "append" apos) [e] [] cpos) pos) (jl i ck cs) :=
 PS.weak (j3 (p7 XH XR XS gO
  (p7 PySem.F.plainAttrs_dict Xn PySem.F.type_dict_setdefault tV (fW hN hvis hd hcd) (fO hk (fO (oB il) il hs1') hs1) hb1 hf1 hl1 hs1 hp1) hv hb2 hf2 hl2 hs2 hp2) hsw) fun D σ H hq=>by
  obtain ⟨Φ,η,out,s,e,k⟩:=hq
  refine L2.fh fun P_ k_=>?_
  unfold jl at e
  split at e
  ·rename_i l hl
   obtain ⟨⟨mk,tk⟩,ekk,e⟩:=Zz.mp e
   split at e
   ·rename_i hc
    obtain ⟨c1,c2⟩:=hc
    obtain ⟨lv,ev,e⟩:=Zz.mp e
    obtain ⟨⟨t',y'⟩,e5,e6⟩:=Zl.mp e
    cases e6
    obtain ⟨v,g1,g2⟩:=s.rp _ _ hl
    have nd0:=s.nd i _ hl
    obtain ⟨a,ns,vs,ts,Fs,rfl,eΦ,ha,hln,el,ra⟩:=jc g2
    subst el
    rw [eΦ] at nd0
    refine k_ ?_
    refine ⟨.ref a,g1,by rw [hK];exact .inr (.inr (.inl ⟨rfl,.inl ⟨_,ha⟩⟩)),?_⟩
    refine ⟨Φ,η,mk,tk,s,ekk,fun kv H1 Fk sm1 rk fk=>⟨ZS _,fun q hq=>?_⟩⟩
    refine L2.fh fun P_ k_=>?_
    obtain ⟨kk,rfl,etk⟩:=fX rk c1
    dsimp only at etk ekk e5 ev c1
    subst etk
    refine k_ ?_
    have fin:∀ (H3:Hp) (F3:Xb) (kvs3:List (Key×V)) (w:V),Chg G H (.ref a) (Φ i) (.dct 0 (cT ((ns.map aR).zip ts) (aR kk))) H3 F3->H3 a=some (.dK kvs3)->cH kvs3 kk=some w →
      tyV X.K "list" w H3/\tEs G cs σ H3 (fun vs2 H4=>lq w vs2 H4 (fun _ H5=>D.nx σ H5)):=fun H3 F3 kvs3 w g h3 hw=>by
     refine L2.fh fun P_ k_=>?_
     obtain ⟨z1,z2⟩:=s.mut hl g1 g
     have hset:(η.set i (some (.ow (.dct 0 (cT ((ns.map aR).zip ts) (aR kk))))))[i]?=some (some (.ow (.dct 0 (cT ((ns.map aR).zip ts) (aR kk))))):=by
      have hi:i < η.length:=(ZX.mp hl).1
      rw [Xs hi]
     obtain ⟨x',F1,x3,w2,w3,w4,w5⟩:=C3 g.rp g.nd e5 h3 hw
     refine k_ ?_
     refine ⟨by rw [hK];exact gF w2 w4,jt Φ i F3,_,lv,z1,ev,fun vs2 H4 Fs2 q1 q2 q3=>?_⟩
     refine jg (jt Φ i F3) _ H3 H4 w x' x3 F1 lv vs2 Fs2 y' _ w2 w3 ⟨q1,q2,q3⟩ w4 fun u H5 F' g5=>?_
     obtain ⟨F2,g6⟩:=w5 H5 F' g5
     have g6':Chg G H3 (.ref a) (jt Φ i F3 i) t' H5 F2:=by rw [gI];exact g6
     obtain ⟨y1,y2⟩:=z1.mut hset g1 g6'
     rw [List.set_set] at y1 y2
     exact k _ σ H5 y1 (z2.trans y2)
    have sm2:aW H1 (upd H1 q (.lst [])):=cJ hq
    have sm:aW H (upd H1 q (.lst [])):=sm1.trans sm2
    have ha2:upd H1 q (.lst []) a=some (.dK (ns.zip vs)):=sm a _ ha
    have ln:(ns.zip vs).length < sizeLine:=by
     have:((ns.map aR).zip ts).length < 16777216:=c2
     rw [Ya,Zv] at this
     rw [Ya]
     have:=ra.len.1
     have:(sizeLine:Nat)=16777216:=rfl
     lia
    have dg:=lj (G:=G) (k:=kk) hln ra
    refine ⟨a,ns.zip vs,kk,.ref q,rfl,rfl,ha2,ln,fun w hw=>?_,fun hn=>?_⟩
    ·refine fin _ (a :: Fs.flatten) (ns.zip vs) w ?_ ha2 hw
     have es:cT ((ns.map aR).zip ts) (aR kk)=(ns.map aR).zip ts:=by
      unfold cT
      rcases dg with ⟨h1,h2⟩ | ⟨_,_,t2,_,h1,_⟩
      ·rw [h2] at hw;cases hw
      ·rw [h1];rfl
     rw [es,eΦ]
     exact Chg.none sm (by rw [eΦ] at g2;exact g2) nd0
    ·have es:cT ((ns.map aR).zip ts) (aR kk)=((ns++[kk]).map aR).zip (ts++[.lst []]):=by
      unfold cT
      rcases dg with ⟨h1,h2⟩ | ⟨_,_,t2,_,h1,h2,_⟩
      ·rw [h1,Zq (by simp),Yv,XO (by rw [Zv];exact hln.trans ra.len.1)]
       rfl
      ·rw [h2] at hn;cases hn
     have ep:putK (ns.zip vs) kk (.ref q)=(ns++[kk]).zip (vs++[.ref q]):=by
      unfold putK
      rw [iN,hn,Zq (by simp),XO hln]
      rfl
     have qa:q ≠ a:=fun z=>by
      have:H1 a=some (.dK (ns.zip vs)):=sm1 a _ ha
      rw [← z,hq] at this
      cases this
     have qH:H q=none:=sm1.free hq
     have m2:Mut (upd H1 q (.lst []) a):=by rw [ha2];exact True.intro
     have nd:=ZW.mp nd0
     have qF:q ∉ Fs.flatten:=fun z=>Mut.ne_none (ra.dom q z) qH
     have h3q:upd (upd H1 q (.lst [])) a (.dK (putK (ns.zip vs) kk (.ref q))) q=some (.lst []):=by rw [aF qa,aK]
     have rq:Rp G (upd (upd H1 q (.lst [])) a (.dK (putK (ns.zip vs) kk (.ref q)))) (.ref q) (.lst []) (q :: ([]:Yg).flatten):=.lst h3q .nil
     refine fin _ (a :: (Fs++[[q]]).flatten) (putK (ns.zip vs) kk (.ref q)) (.ref q) ?_ aK (by rw [xD,Zr rfl])
     rw [es,eΦ]
     refine Chg.upd sm Zw m2 (.dct (by rw [aK,ep]) (by simp [hln]) (((ra.same sm).off m2 nd.1).append (.cons rq .nil))) ?_ ?_
     ·rw [Z5]
      refine ZW.mpr ⟨fun z=>?_,ZF.mpr ⟨nd.2,by simp,fun x hx y hy z=>?_⟩⟩
      ·rcases Zc.mp z with z | z
       ·exact nd.1 z
       ·have h:a=q:=by simpa using z
        exact qa h.symm
      ·subst z
       exact qF (by simpa [show x=q by simpa using hy] using hx)
     ·intro y hy
      rcases Zo.mp hy with rfl | hy
      ·exact .inl Zw
      ·rw [Z5] at hy
       rcases Zc.mp hy with hy | hy
       ·exact .inl (Zx _ hy)
       ·rw [show y=q by simpa using hy]
        exact .inr qH
   ·cases e
  ·cases e
end
end VS
end
section
namespace L2
open PySem PySem.Spec PyProof.Rows
theorem Ff {X:Cx} {pins:Yo} {σ:St} {H:Hp} {s:Shared} {p:Addr} {kvs:List (bx×Addr×V)} (I:Inv X pins σ H s) (e:H p=some (DN p kvs)):s.TypeIs (.ref p) "dict" ∧ ∀ a,Value.ref p=.ref a->∃ ob,s.heap.get? a=some ob/\ob.dict=none:=by
 obtain ⟨⟨_,_,_,_,o,_,_,g,ex,_⟩,_⟩:=(show br X.prog X.w H s.heap p (DN p kvs) from I.hok p _ e)
 refine ⟨⟨o,g,ex.1⟩,fun a e2=>?_⟩
 cases e2
 exact ⟨o,g,ex.2.1⟩
noncomputable def tyN (x:V) (H:Hp):Prop:=∃ p kvs,x=.ref p/\H p=some (DN p kvs)
noncomputable def FX (r:V->List V->Hp->VK->Prop) (to:TE) (t:TA):TE:=fun σ H Q=>to σ H fun x H1=>tyN x H1/\t σ H1 fun xs H2=>r x xs H2 Q
section
variable {X:Cx} {o e:Expr} {es:List Expr} {to:TE} {t:TA} {name:Str} {apos cpos:Pos} {id:String} {r:V->List V->Hp->VK->Prop}
theorem BV (slot:Slot "dict" name id) (hty:typeOf (.builtin id)=pure (.type "method_descriptor")) (hm:MtR X id r) (ho:PE X o to) (ha:PA X (e :: es) t)
  (hbase:attributeBase o name X.env (eval o X.env)=eval o X.env)
  (hfew:((backTo cpos (starEach (e :: es) X.env)).all (fun x=>!x.1) && (backToKw cpos (keywordEach [] X.env)).all (fun x=>x.1.isSome)
   && decide ((e :: es).length+([]:List Keyword).length+(if ([]:List Keyword).isEmpty then 0 else 1) < 30))=true)
  (hline:(apos.endLine == cpos.line)=true) (hs:starEach (e :: es) X.env=(false,eval e X.env) :: starEach es X.env) (hplain:(backTo cpos (starEach es X.env)).any (·.1)=false) :
  PE X (.Call (.Attribute o name apos) (e :: es) [] cpos) (FX r to t):=by
 intro pins s σ H Q I h
 refine wpAny_Call_method_late hbase hfew hline rfl (thn (ho pins s σ H _ I h) fun v s1 ⟨x,H1,I1,r1,⟨p,kvs,ex,hp⟩,q1⟩=>?_)
 subst ex
 obtain rfl:=(show v=Value.ref p from r1)
 obtain ⟨h1,h2⟩:=Ff I1 hp
 have hA:=ha cpos pins s1 σ H1 _ I1 q1
 refine ⟨"dict",id,PySem.F.plainAttrs_dict,slot,hty,h1,h2,?_⟩
 rw [hs] at hA ⊢
 exact Calls.callWith_builtin (by show (false || (backTo cpos (starEach es X.env)).any (·.1))=false;rw [hplain];rfl) (Calls.evalArgs_plain (thn hA fun us s2 ⟨vs,H2,I2,r2,q2⟩=>hm pins s2 σ H2 (.ref p) vs _ us Q I2 rfl r2 q2))
end
end L2
namespace VS
open PySem PySem.Spec PyProof.Rows L2
noncomputable def nkI:T->Option Int
 | .int i=>some i
 | _=>none
noncomputable def nk1:T->Option (Vl)
 | .tup l=>l.mapM nkI
 | _=>none
noncomputable def zL:T->Option bx
 | .tup l=>l.mapM nk1
 | _=>none
theorem yU {t:T} {i:Int} (h:nkI t=some i):t=.int i:=by cases t <;> simp [nkI] at h;subst h;rfl
theorem mR {α β:Type} {f:α->Option β} {g:β->α} (h:∀ a b,f a=some b->a=g b):∀ {l:List α} {m:List β},l.mapM f=some m->l=m.map g
 | [],m,e=>by simp at e;subst e;rfl
 | a :: l,m,e=>by
  simp only [List.mapM_cons,Option.pure_def,Option.bind_eq_bind] at e
  obtain ⟨b,hb,e⟩:=Zz.mp e
  obtain ⟨bs,hbs,e⟩:=Zz.mp e
  cases e
  rw [Zt,← h a b hb,← mR h hbs]
theorem yN {t:T} {k:Vl} (h:nk1 t=some k):t=.tup (k.map T.int):=by
 cases t with
 | tup l=>exact congrArg T.tup (mR (fun a b=>yU) h)
 | _=>simp [nk1] at h
theorem v9 {t:T} {k:bx} (h:zL t=some k):t=nkT k:=by
 cases t with
 | tup l=>exact congrArg T.tup (mR (fun a b=>yN) h)
 | _=>simp [zL] at h
section
variable {G:Gx} {X:Cx} {a b c e o tg:Expr} {es:List Expr} {ca cb cc ce ck cv:Ex} {cs:Exs} {pos p p1 p2 apos cpos pos' ap1 cp1 lp:Pos} {k k' kr i:Nat}
theorem RpL.ints {H:Hp}:∀ {k:Vl} {vs:List V} {Fs:Yg},RpL G H vs (k.map T.int) Fs->vs=k.map V.int
 | [],_,_,r=>by rw [YW] at r;cases r;rfl
 | i :: k,_,_,r=>by
  rw [Zt] at r
  cases r with
  | cons h t=>rw [Zt,← RpL.ints t,h.int_inv]
theorem Rp.tup_inv' {H:Hp} {v:V} {ts:Vg} {F:Xb} (r:Rp G H v (.tup ts) F):∃ b vs Fs,v=.ref b/\H b=some (.tup vs)/\RpL G H vs ts Fs:=by
 cases r with
 | tup h q=>exact ⟨_,_,_,rfl,h,q⟩
theorem Dx {H:Hp} {v:V} {k:bx} {F:Xb} (r:Rp G H v (nkT k) F):∃ b,v=.ref b/\NAt H k b:=by
 obtain ⟨b,vs,Fs,rfl,h,q⟩:=Rp.tup_inv' r
 have all:∀ {k:bx} {vs:List V} {Fs:Yg},RpL G H vs (k.map fun x=>T.tup (x.map T.int)) Fs->∃ cs:Xb,vs=cs.map V.ref/\Paired (fun (x:Vl) (c:Addr)=>H c=some (.tup (x.map V.int))) k cs:=by
  intro k
  induction k with
  | nil=>intro vs Fs q;rw [YW] at q;cases q;exact ⟨[],rfl,.nil⟩
  | cons x k ih =>
   intro vs Fs q
   rw [Zt] at q
   cases q with
   | cons h t =>
    obtain ⟨c,us,Gs,rfl,hc,qc⟩:=Rp.tup_inv' h
    obtain ⟨cs,e,pr⟩:=ih t
    rw [RpL.ints qc] at hc
    exact ⟨c :: cs,by rw [e];rfl,.cons hc pr⟩
 obtain ⟨cs,e,pr⟩:=all q
 exact ⟨b,rfl,cs,by rw [h,e],pr⟩
theorem ny:∀ (x y:Vl),m7 (x.map T.int) (y.map T.int)=decide (x=y)
 | [],[]=>rfl
 | [],_ :: _=>rfl
 | _ :: _,[]=>rfl
 | i :: x,j :: y=>by
  rw [Zt,Zt,m7,ny x y]
  simp only [eqT,YT,Bool.decide_and]
  rfl
theorem lM:∀ (x y:bx),eqT (nkT x) (nkT y)=decide (x=y):=by
 intro x y
 unfold nkT
 rw [eqT]
 induction x generalizing y with
 | nil=>cases y <;> simp
 | cons i x ih =>
  cases y with
  | nil=>simp
  | cons j y =>
   rw [Zt,Zt,m7,ih y,eqT,ny]
   simp only [YT,Bool.decide_and]
noncomputable abbrev kvN (ks:List (bx×Addr)) (vs:List V):List (bx×Addr×V):=(ks.zip vs).map fun p=>(p.1.1,p.1.2,p.2)
theorem lW {H:Hp} {k:bx}:∀ {ks:List (bx×Addr)} {vs:List V} {ts:Vg} {Fs:Yg},ks.length=vs.length->RpL G H vs ts Fs →
  (((ks.map fun p=>nkT p.1).zip ts).findIdx? (fun q=>eqT q.1 (nkT k))=none/\atN (kvN ks vs) k=none) ∨
  ∃ (j:Nat) (v:V) (t:T) (F:Xb),((ks.map fun p=>nkT p.1).zip ts).findIdx? (fun q=>eqT q.1 (nkT k))=some j/\(ks.map fun p=>nkT p.1)[j]?=some (nkT k)/\ts[j]?=some t/\atN (kvN ks vs) k=some v/\vs[j]?=some v/\Fs[j]?=some F/\Rp G H v t F
 | [],[],_,_,_,.nil=>.inl ⟨rfl,rfl⟩
 | k' :: ks,v :: vs,_,_,hl,.cons (t:=t) (F:=F) (ts:=ts) (Fs:=Fs) r q=>by
  by_cases hk:k'.1=k
  ·refine .inr ⟨0,v,t,F,?_,by simp [hk],rfl,by simp [atN,kvN,hk],rfl,rfl,r⟩
   rw [Zt,ZI,Yc,Zr (by rw [lM];exact decide_eq_true hk)]
  ·have e1:((((k' :: ks).map fun p=>nkT p.1).zip (t :: ts)).findIdx? fun q=>eqT q.1 (nkT k))=((((ks.map fun p=>nkT p.1).zip ts)).findIdx? fun q=>eqT q.1 (nkT k)).map (·+1):=by
    rw [Zt,ZI,Yc,Zq (by rw [lM];simp [hk])]
   have e2:atN (kvN (k' :: ks) (v :: vs)) k=atN (kvN ks vs) k:=by simp [atN,kvN,hk]
   rcases lW (k:=k) (by simpa using hl) q with ⟨h1,h2⟩ | ⟨j,v',t',F',h1,h2,h3,h4,h5,h6,h7⟩
   ·exact .inl ⟨by rw [e1,h1];rfl,by rw [e2];exact h2⟩
   ·exact .inr ⟨j+1,v',t',F',by rw [e1,h1];rfl,by simpa using h2,by simpa using h3,by rw [e2];exact h4,by simpa using h5,by simpa using h6,h7⟩
theorem qQ {H:Hp} {v:V} {l:List (T×T)} {F:Xb} (r:Rp G H v (.dct 2 l) F):∃ (a:Addr) (ks:List (bx×Addr)) (vs:List V) (ts:Vg) (Fs:Yg),v=.ref a/\F=a :: Fs.flatten/\H a=some (DN a (kvN ks vs))/\ks.length=vs.length/\(∀ p∈ks,NAt H p.1 p.2)/\l=(ks.map fun p=>nkT p.1).zip ts/\RpL G H vs ts Fs:=by
 cases r with
 | dctN h hl n q=>exact ⟨_,_,_,_,_,rfl,rfl,h,hl,n,rfl,q⟩
theorem lD {H:Hp} {ks:List (bx×Addr)} {vs:List V} (h:∀ p∈ks,NAt H p.1 p.2):∀ p∈kvN ks vs,NAt H p.1 p.2.1:=fun p hp=>by
 obtain ⟨q,hq,rfl⟩:=Yz.mp hp
 exact h q.1 (WK (a:=q.1) (b:=q.2) hq).1
noncomputable def bP (l:List (T×T)) (k:T):List (T×T):=if (l.findIdx? fun p=>eqT p.1 k).isSome then l else l++[(k,.lst [])]
noncomputable def qO (f:T->Option (T×Val)) (l:List (T×T)) (k:T):Option (List (T×T)):=(l.findIdx? fun p=>eqT p.1 k).bind fun j=>(l[j]?).bind fun p=>(f p.2).map fun z=>l.set j (p.1,z.1)
noncomputable def gW (i:Nat) (k:Ex) (v:Exs) (η:VS.Env):Option Out:=match η[i]? with
 | some (some (.ow (.dct 2 l)))=>(k η).bind fun kv=>if (zL kv.2).isSome/\l.length < ip then
   (v (η.set i (some (.ow (.dct 2 (bP l kv.2)))))).bind fun vv=>(qO (fun x=>aZ x vv) (bP l kv.2) kv.2).map fun z=>.nx (η.set i (some (.ow (.dct 2 z)))) else none
 | _=>none
theorem ve (i:Nat) {x:Str} (hr:Room kr X.A) (hk:PV G X b ck) (hv:PVs G X [e] cs) (hK:X.K=G.K) (hN:X.N[i]?=some x) (hvis:Vis X.env.scope x) (hd:(x == ("__debug__" : Str))=false) (hcd:(x == ("__classdict__" : Str))=false)
  (hb1:attributeBase (.Name x p1) "setdefault" X.env (eval (.Name x p1) X.env)=eval (.Name x p1) X.env)
  (hf1:((backTo cp1 (starEach [b,.List [] lp] X.env)).all (fun x=>!x.1) && (backToKw cp1 (keywordEach [] X.env)).all (fun x=>x.1.isSome)
   && decide ([b,Expr.List [] lp].length+([]:List Keyword).length+(if ([]:List Keyword).isEmpty then 0 else 1) < 30))=true)
  (hl1:(ap1.endLine == cp1.line)=true) (hs1:starEach [b,.List [] lp] X.env=(false,eval b X.env) :: starEach [.List [] lp] X.env) (hs1':starEach [.List [] lp] X.env=(false,eval (.List [] lp) X.env) :: starEach [] X.env) (hp1:(backTo cp1 (starEach [.List [] lp] X.env)).any (·.1)=false)
  (hb2:attributeBase (.Call (.Attribute (.Name x p1) "setdefault" ap1) [b,.List [] lp] [] cp1) "append" X.env (eval (.Call (.Attribute (.Name x p1) "setdefault" ap1) [b,.List [] lp] [] cp1) X.env)=eval (.Call (.Attribute (.Name x p1) "setdefault" ap1) [b,.List [] lp] [] cp1) X.env)
  (hf2:((backTo cpos (starEach [e] X.env)).all (fun x=>!x.1) && (backToKw cpos (keywordEach [] X.env)).all (fun x=>x.1.isSome)
   && decide ([e].length+([]:List Keyword).length+(if ([]:List Keyword).isEmpty then 0 else 1) < 30))=true)
  (hl2:(apos.endLine == cpos.line)=true) (hs2:starEach [e] X.env=(false,eval e X.env) :: starEach [] X.env) (hp2:(backTo cpos (starEach [] X.env)).any (·.1)=false)
  (hsw:swapsWith (.Call (.Attribute (.Call (.Attribute (.Name x p1) "setdefault" ap1) [b,.List [] lp] [] cp1) "append" apos) [e] [] cpos) none pos.line X.env=pure false) :
  PSV G X (.Expr (.Call (.Attribute (.Call (.Attribute (.Name x p1) "setdefault" ap1) [b,.List [] lp] [] cp1) "append" apos) [e] [] cpos) pos) (gW i ck cs) :=
 PS.weak (j3 (p7 XH XR XS gO
  (BV Xn PySem.F.type_dict_setdefault (rV (by have:=hr.un;lia)) (fW hN hvis hd hcd) (fO hk (fO (oB il) il hs1') hs1) hb1 hf1 hl1 hs1 hp1) hv hb2 hf2 hl2 hs2 hp2) hsw) fun D σ H hq=>by
  obtain ⟨Φ,η,out,s,e,k⟩:=hq
  refine L2.fh fun P_ k_=>?_
  unfold gW at e
  split at e
  ·rename_i l hl
   obtain ⟨⟨mk,tk⟩,ekk,e⟩:=Zz.mp e
   split at e
   ·rename_i hc
    obtain ⟨c1,c2⟩:=hc
    obtain ⟨lv,ev,e⟩:=Zz.mp e
    obtain ⟨t',e5,e6⟩:=Zl.mp e
    cases e6
    obtain ⟨kk,ek1⟩:=WX.mp c1
    dsimp only at ek1
    have etk:=v9 ek1
    subst etk
    obtain ⟨v,g1,g2⟩:=s.rp _ _ hl
    have nd0:=s.nd i _ hl
    obtain ⟨a,ns,vs,ts,Fs,rfl,eΦ,ha,hln,hat,el,ra⟩:=qQ g2
    subst el
    rw [eΦ] at nd0
    refine k_ ?_
    refine ⟨.ref a,g1,⟨a,_,rfl,ha⟩,?_⟩
    refine ⟨Φ,η,mk,nkT kk,s,ekk,fun kv H1 Fk sm1 rk fk=>⟨ZS _,fun q hq=>?_⟩⟩
    obtain ⟨kb,rfl,hkb⟩:=Dx rk
    dsimp only at ekk e5 ev c1
    have fin:∀ (H3:Hp) (ns3:List (bx×Addr)) (vs3:List V) (ts3:Vg) (Fs3:Yg) (w:V),bP ((ns.map fun p=>nkT p.1).zip ts) (nkT kk)=(ns3.map fun p=>nkT p.1).zip ts3->Chg G H (.ref a) (Φ i) (.dct 2 (bP ((ns.map fun p=>nkT p.1).zip ts) (nkT kk))) H3 (a :: Fs3.flatten) →
      H3 a=some (DN a (kvN ns3 vs3))->ns3.length=vs3.length->(∀ p∈ns3,NAt H3 p.1 p.2)->RpL G H3 vs3 ts3 Fs3->atN (kvN ns3 vs3) kk=some w →
      tyV X.K "list" w H3/\tEs G cs σ H3 (fun vs2 H4=>lq w vs2 H4 (fun _ H5=>D.nx σ H5)):=fun H3 ns3 vs3 ts3 Fs3 w es g h3 hl3 hn3 ra3 hw=>by
     refine L2.fh fun P_ k_=>?_
     obtain ⟨z1,z2⟩:=s.mut hl g1 g
     have hset:(η.set i (some (.ow (.dct 2 (bP ((ns.map fun p=>nkT p.1).zip ts) (nkT kk))))))[i]?=some (some (.ow (.dct 2 (bP ((ns.map fun p=>nkT p.1).zip ts) (nkT kk))))):=by
      have hi:i < η.length:=(ZX.mp hl).1
      rw [Xs hi]
     rcases lW (G:=G) (k:=kk) hl3 ra3 with ⟨_,h2⟩ | ⟨j,w',x',F1,h1,h2,h4,h5,h6,h7,h8⟩
     ·rw [h2] at hw;cases hw
     rw [h5] at hw
     obtain rfl:=ZE hw
     rw [es] at e5
     unfold qO at e5
     rw [h1,Zm,show ((ns3.map fun p=>nkT p.1).zip ts3)[j]?=some (nkT kk,x') from by rw [Wd];exact ⟨h2,h4⟩,Zm] at e5
     obtain ⟨⟨x3,y'⟩,w4,e7⟩:=Zl.mp e5
     have nd3:F1.Nodup:=((ZW.mp g.nd).2).sublist (fS h7)
     refine k_ ?_
     refine ⟨by rw [hK];exact gF h8 w4,jt Φ i (a :: Fs3.flatten),_,lv,z1,ev,fun vs2 H4 Fs2 q1 q2 q3=>?_⟩
     refine jg (jt Φ i (a :: Fs3.flatten)) _ H3 H4 w' x' x3 F1 lv vs2 Fs2 y' _ h8 nd3 ⟨q1,q2,q3⟩ w4 fun u H5 F' g5=>?_
     obtain ⟨s1,s2,s3,s4,s5⟩:=og h3 ra3 g.nd h6 h7 g5
     have g6:Chg G H3 (.ref a) (jt Φ i (a :: Fs3.flatten) i) (.dct 2 t') H5 (a :: (Fs3.set j F').flatten):=by
      rw [gI]
      refine ⟨g5.kept,s5,g5.dom,?_,s3,s4⟩
      rw [← e7,oM _ ts3 j _ x3 h2]
      exact .dctN s1 hl3 (fun p hp=>(hn3 p hp).mono g5.kept.tup) s2
     obtain ⟨y1,y2⟩:=z1.mut hset g1 g6
     rw [List.set_set] at y1 y2
     exact k _ σ H5 y1 (z2.trans y2)
    have sm2:aW H1 (upd H1 q (.lst [])):=cJ hq
    have sm:aW H (upd H1 q (.lst [])):=sm1.trans sm2
    have ha2:upd H1 q (.lst []) a=some (DN a (kvN ns vs)):=sm a _ ha
    have hat2:∀ p∈ns,NAt (upd H1 q (.lst [])) p.1 p.2:=fun p hp=>(hat p hp).mono fun b xs z=>sm b _ z
    have hkb2:NAt (upd H1 q (.lst [])) kk kb:=hkb.mono fun b xs z=>sm2 b _ z
    have ln:(kvN ns vs).length < sizeLine:=by
     have:((ns.map fun p=>nkT p.1).zip ts).length < 16777216:=c2
     rw [Ya,Zv] at this
     rw [Zv,Ya]
     have:=ra.len.1
     have:(sizeLine:Nat)=16777216:=rfl
     lia
    have dg:=lW (G:=G) (k:=kk) hln ra
    refine ⟨a,kb,kvN ns vs,kk,.ref q,rfl,rfl,ha2,lD hat2,hkb2,ln,fun w hw=>?_,fun hn=>?_⟩
    ·have es:bP ((ns.map fun p=>nkT p.1).zip ts) (nkT kk)=(ns.map fun p=>nkT p.1).zip ts:=by
      unfold bP
      rcases dg with ⟨h1,h2⟩ | ⟨_,_,t2,_,h1,_⟩
      ·rw [h2] at hw;cases hw
      ·rw [h1];rfl
     refine fin _ ns vs ts Fs w es ?_ ha2 hln hat2 (ra.same sm) hw
     rw [es,eΦ]
     exact Chg.none sm (by rw [eΦ] at g2;exact g2) nd0
    ·have es:bP ((ns.map fun p=>nkT p.1).zip ts) (nkT kk)=((ns++[(kk,kb)]).map fun p=>nkT p.1).zip (ts++[.lst []]):=by
      unfold bP
      rcases dg with ⟨h1,h2⟩ | ⟨_,_,t2,_,h1,_,_,h2,_⟩
      ·rw [h1,Zq (by simp),Yv,XO (by rw [Zv];exact hln.trans ra.len.1)]
       rfl
      ·rw [h2] at hn;cases hn
     have ep:kvN ns vs++[(kk,kb,.ref q)]=kvN (ns++[(kk,kb)]) (vs++[.ref q]):=by
      unfold kvN
      rw [XO hln,Yv]
      rfl
     have qa:q ≠ a:=fun z=>by
      have:H1 a=some (DN a (kvN ns vs)):=sm1 a _ ha
      rw [← z,hq] at this
      cases this
     have qH:H q=none:=sm1.free hq
     have m2:Mut (upd H1 q (.lst []) a):=by rw [ha2];exact True.intro
     have nd:=ZW.mp nd0
     have qF:q ∉ Fs.flatten:=fun z=>Mut.ne_none (ra.dom q z) qH
     rw [ep]
     have h3q:upd (upd H1 q (.lst [])) a (DN a (kvN (ns++[(kk,kb)]) (vs++[.ref q]))) q=some (.lst []):=by rw [aF qa,aK]
     have rq:Rp G (upd (upd H1 q (.lst [])) a (DN a (kvN (ns++[(kk,kb)]) (vs++[.ref q])))) (.ref q) (.lst []) (q :: ([]:Yg).flatten):=.lst h3q .nil
     have kp:Kept (upd H1 q (.lst [])) (upd (upd H1 q (.lst [])) a (DN a (kvN (ns++[(kk,kb)]) (vs++[.ref q])))):=Kept.upd (.inl m2)
     have ln2:(ns++[(kk,kb)]).length=(vs++[V.ref q]).length:=by simp [hln]
     have hat3:∀ p∈ns++[(kk,kb)],NAt (upd (upd H1 q (.lst [])) a (DN a (kvN (ns++[(kk,kb)]) (vs++[.ref q])))) p.1 p.2:=fun p hp=>by
      rcases Zc.mp hp with hp | hp
      ·exact (hat2 p hp).mono kp.tup
      ·rw [Zn.mp hp];exact hkb2.mono kp.tup
     have ra3:=((ra.same sm).off (o:=DN a (kvN (ns++[(kk,kb)]) (vs++[.ref q]))) m2 nd.1).append (.cons rq .nil)
     refine fin _ (ns++[(kk,kb)]) (vs++[.ref q]) (ts++[.lst []]) (Fs++[[q]]) (.ref q) es ?_ aK ln2 hat3 ra3 ?_
     ·rw [es,eΦ]
      refine Chg.upd sm Zw m2 (.dctN aK ln2 hat3 ra3) ?_ ?_
      ·rw [Z5]
       refine ZW.mpr ⟨fun z=>?_,ZF.mpr ⟨nd.2,by simp,fun x hx y hy z=>?_⟩⟩
       ·rcases Zc.mp z with z | z
        ·exact nd.1 z
        ·have h:a=q:=by simpa using z
         exact qa h.symm
       ·subst z
        exact qF (by simpa [show x=q by simpa using hy] using hx)
      ·intro y hy
       rcases Zo.mp hy with rfl | hy
       ·exact .inl Zw
       ·rw [Z5] at hy
        rcases Zc.mp hy with hy | hy
        ·exact .inl (Zx _ hy)
        ·rw [show y=q by simpa using hy]
         exact .inr qH
     ·rw [← ep]
      unfold atN at hn ⊢
      rw [List.find?_append,Option.map_eq_none_iff.mp hn]
      simp
   ·cases e
  ·cases e
end
end VS
end
section
namespace L2
open PySem PySem.Spec PyProof.Rows
section
variable {X:Cx} {tg:Expr} {pos:Pos}
noncomputable def CJ:TE:=fun _ H Q=>∀ p,H p=none->Q (.ref p) (upd H p (DN p []))
theorem wZ:PE X (.Dict [] [] pos) CJ:=fun pins s σ H Q I h =>
 wpAny_Dict_empty ⟨.ref s.heap.objs.size,_,I.laid (a:=s.heap.objs.size) (o:=DN s.heap.objs.size []) (t':=s.toks) (fun _ _ q=>Zi _ q) (Zp _)
  (ye (xs:=[]) (ZS _) (beq_eq_false_iff_ne.mpr (YG (ZR I.big))) .nil (Heap.DictOfH.new s.heap)),rfl,h _ (I.hok.fresh (Zp _))⟩
theorem oJ {pins:Yo} {σ:St} {H:Hp} {s:Shared} {d:Addr} {kvs:List (bx×Addr×V)} {o:Obj} (I:Inv X pins σ H s) (e:H d=some (DN d kvs)) (g:s.heap.get? d=some o):Inv X pins σ (upd H d (.frz o (DN d kvs))) s :=
 jh (t':=s.toks) I (by rw [e];exact True.intro) ⟨rfl,fun _ _=>rfl⟩ ⟨o,g⟩ ⟨g,I.hok d _ e⟩
noncomputable def Itn (d:Addr) (o:Obj) (kvs:List (bx×Addr×V)):It :=
 ⟨fun i H=>H d=some (.frz o (DN d kvs))/\i < kvs.length,fun i H x H'=>H'=H/\∃ p,kvs[i]?=some p/\x=.ref p.2.1,fun i H=>H d=some (.frz o (DN d kvs))/\kvs.length<=i⟩
theorem KN.get {l:List (bx×Addr×V)} {m:List (bx×Addr×Value)} (r:KN l m) {i:Nat} {q:bx×Addr×Value} (h:m[i]?=some q):∃ p,l[i]?=some p/\p.1=q.1/\p.2.1=q.2.1:=by
 induction r generalizing i with
 | nil=>simp at h
 | @cons p' q' ps qs hq t ih =>
  cases i with
  | zero=>simp at h;subst h;exact ⟨p',rfl,hq.1,hq.2.1⟩
  | succ i=>simpa using ih (by simpa using h)
theorem KN.keys {l:List (bx×Addr×V)} {m:List (bx×Addr×Value)} (r:KN l m):l.map (·.1)=m.map (·.1):=by
 induction r with
 | nil=>rfl
 | cons hq _ ih=>rw [Zt,Zt,hq.1,ih]
theorem BD {P:Program} {w:World} {K:Y1} (d it:Addr) {kvs:List (bx×Addr×V)} {es:Array DictEntry} {ep:Nat} {xs:List (bx×Addr×Value)} (rel:KN kvs xs) (he:es.toList=xs.map DQ) :
  Turn P w K tg (Itn d (ST.dO es ep) kvs) [it] it (fun i h=>h.get? it=some (ST.kO d i es.size ep)) where
 mem:=by simp
 obj:=fun i h st b hb=>by
  rw [Zn.mp hb]
  exact ⟨_,st,fun v z=>by cases z⟩
 keep:=fun i h h' st k=>k it (by simp) _ st
 item:=by
  intro X hP hw hK hc i pins s σ H E I hf st hg
  subst hP hw hK
  obtain ⟨f0,f1,f2,f3,f4,f5⟩:=hf it (by simp)
  refine ST.pF (I.ok.hd hc) st (show s.heap.get? d=some (ST.dO es ep) from (I.hok d _ hg.1).1) (fun e hi h' sb g=>?_) fun hn=>?_
  ·have I1:Inv X pins σ H { s with heap:=h' }:=I.turned (t':=s.toks) (fun b o hb e=>(sb.2 b hb).trans e) f0 f1 f3 f4 f5
   rw [← Yx,he,ZC] at hi
   obtain ⟨q,hq,rfl⟩:=Zl.mp hi
   obtain ⟨p,hp,_,hb⟩:=rel.get hq
   exact ⟨_,rfl,qb (s:={ s with heap:=h' }) g rfl rfl rfl ⟨.ref p.2.1,H,I1,by rw [hb];rfl,⟨rfl,p,hp,rfl⟩,g,fun b hb=>(hf b hb).1⟩⟩
  ·exfalso
   rw [← Yx,he,YK,Zv,← rel.length] at hn
   exact absurd hg.2 (by exact Vq hn)
 done:=by
  intro X hP hw hK hc i pins s σ H E I hf st hg
  subst hP hw hK
  obtain ⟨f0,f1,f2,f3,f4,f5⟩:=hf it (by simp)
  refine ST.pF (I.ok.hd hc) st (show s.heap.get? d=some (ST.dO es ep) from (I.hok d _ hg.1).1) (fun e hi h' sb g=>?_) fun hn h' kp=>⟨rfl,I.turned (t':=s.toks) (fun b o hb e=>kp b o hb e) f0 f1 f3 f4 f5⟩
  exfalso
  rw [← Yx,he,ZC] at hi
  obtain ⟨q,hq,rfl⟩:=Zl.mp hi
  have:=(ZX.mp hq).1
  have h2:=hg.2
  rw [rel.length] at h2
  lia
 self:=fun _ _ _ _ _ st hQ=>wpAny_pyIter_slot ⟨_,st,rfl⟩ F.slot_dict_keyiterator_iter (Xo F.slot_dict_keyiterator_iter ⟨_,st,rfl⟩ F.entry_dict_keyiterator_iter (show wpAny _ _ (ret (.ref it)) _ _ _ from Zs ⟨_,rfl, "dict_keyiterator",_,⟨_,st,rfl⟩,Xd.lookup,hQ⟩) (F.args_dict_keyiterator_iter_1 _))
noncomputable def iDn (tl:TE):TI:=fun σ H R=>tl σ H fun x H1=>∃ d kvs,x=.ref d/\H1 d=some (DN d kvs)/\∀ o,kvs.length<=sizeLine->(kvs.map (·.1)).Nodup->R (Itn d o kvs) (upd H1 d (.frz o (DN d kvs)))
theorem ym {o:Obj} {es:Array DictEntry} {ep:Nat} (h:o.ExactDict) (e:o.data=.dict es ep):o=ST.dO es ep:=by
 obtain ⟨c,d,dt,sl⟩:=o
 obtain ⟨h1,h2,h3⟩:=h
 simp only at h1 h2 h3 e
 subst h1 h2 h3 e
 rfl
theorem Ft {l:Expr} {tl:TE} (hl:PE X l tl):PI X tg l (iDn tl):=by
 intro pins s σ H R I h
 refine thn (hl pins s σ H _ I h) fun v s1 ⟨x,H1,I1,r1,q1⟩=>?_
 obtain ⟨d,kvs,ex,e,q⟩:=q1
 subst ex
 cases r1
 obtain ⟨⟨z,y,xs,rel,o,es,ep,g,ex,hd,he,hn⟩,_⟩:=(show br X.prog X.w H1 s1.heap d (DN d kvs) from I1.hok d _ e)
 have eo:=ym ex hd
 subst eo
 refine ST.xp y g ?_
 refine ⟨s1.heap.objs.size,[s1.heap.objs.size],_,_,_,rfl,(oJ I1 e g).kept (t':=s1.toks) fun b o e=>Zi _ e,BD d _ rel he,ZU _ rfl,fun b hb=>?_,q _ z (by rw [rel.keys];exact hn)⟩
 have eb:b=s1.heap.objs.size:=by simpa using hb
 subst eb
 exact (oJ I1 e g).fpOk (Zp _) ((oJ I1 e g).hok.fresh (Zp _))
noncomputable def Gc:R2:=fun x y H Q=>∃ d o kvs k b v,x=.ref d/\y=.ref b/\H d=some (.frz o (DN d kvs))/\(∀ p∈kvs,NAt H p.1 p.2.1)/\NAt H k b/\atN kvs k=some v/\Q v H
theorem Gj (hu:X.A.units+2 < cLine):IxR X Gc:=by
 intro value slice pins s σ H x y v u Q I rx ry h hs
 obtain ⟨d,o,kvs,k,b,w,rfl,rfl,e,hks,hk,hw,q⟩:=h
 cases rx
 obtain rfl:=(show u=Value.ref b from ry)
 obtain ⟨g,ok⟩:=(show br X.prog X.w H s.heap d (.frz o (DN d kvs)) from I.hok d _ e)
 obtain ⟨⟨z,y,xs,rel,o',es,ep,h1,h2,h3,h4,h5⟩,_⟩:=(show br X.prog X.w H s.heap d (DN d kvs) from ok)
 have all:∀ {l:List (bx×Addr×V)} {m:List (bx×Addr×Value)},KN l m->(∀ p∈l,NAt H p.1 p.2.1)->∀ x∈m,NK.IsN (intKind X.prog X.w) s.heap x.1 x.2.1:=by
  intro l m q
  induction q with
  | nil=>intro _ x hx;exact nomatch hx
  | @cons p q ps qs hq t ih =>
   intro hl x hx
   rcases Zo.mp hx with e | hx
   ·subst e
    rw [← hq.1,← hq.2.1]
    exact (hl p Zw).is I.hok
   ·exact ih (fun p hp=>hl p (Zx _ hp)) x hx
 have dd:s.heap.DictOfH (NK.nest (intKind X.prog X.w)) d xs:=⟨o',es,ep,h1,h2,h3,h4,fun x hx=>all rel hks x hx,h5⟩
 have hT:=dd.typeIs
 have hat:=rel.at k
 rw [hw] at hat
 obtain ⟨pv,hp,rp⟩:∃ pv,atKey xs k=some pv/\RelV w pv.2:=by
  cases hz:atKey xs k with
  | none=>rw [hz] at hat;exact False.elim hat
  | some pv=>rw [hz] at hat;exact ⟨pv,rfl,hat⟩
 unfold subscriptTail
 refine Zy ?_
 rw [getitemInPython_of_ne hT.not_modules]
 refine Zy (Xh hT PySem.F.slot_dict_getitem.lookup ?_)
 have fin:wpAny (model X.prog X.w) X.A (subscripted slice false (.ref d) (.ref b)) (fun r s₃=>wpAny (model X.prog X.w) X.A (letTemporaryGo value (.ref d) r >>= fun _=>pure r) (EP X pins σ Q) X.xe s₃) X.xe s:=by
  rw [hs]
  exact wpAny_operating (wpAny_getItem_heap (knd:=NK.nest (intKind X.prog X.w)) (by show X.A.units+1+1 < cLine;omega) (hk.is I.hok) dd hp (Zy (wpAny_letTemporaryGo (Zs ⟨w,H,I.tok _,rp,q⟩))))
 first
  | exact Zs (Zy fin)
  | exact Zy (Zs (Zy fin))
  | exact Zy fin
theorem BY {kvs:List (bx×Addr×V)}:∀ {i:Nat} {p:bx×Addr×V},(kvs.map (·.1)).Nodup->kvs[i]?=some p->atN kvs p.1=some p.2.2:=by
 induction kvs with
 | nil=>intro i p _ h;simp at h
 | cons x l ih =>
  intro i p hn h
  rw [Zt,ZW] at hn
  cases i with
  | zero=>simp at h;subst h;simp [atN]
  | succ i =>
   have h':l[i]?=some p:=by simpa using h
   have ne:x.1 ≠ p.1:=fun e=>hn.1 (by rw [e];exact Yz.mpr ⟨p,YR h',rfl⟩)
   have:=ih hn.2 h'
   unfold atN at this ⊢
   rw [Yu,ZP ne]
   exact this
end
end L2
namespace VS
open PySem PySem.Spec PyProof.Rows L2
section
variable {G:Gx} {X:Cx} {pos p p1 p2 p3 p4 spos:Pos} {kr i:Nat} {sc:Scope}
theorem AK:PV G X (.Dict [] [] pos) (lE 2 []):=PE.weak wZ fun σ H Q hq=>by
 obtain ⟨Φ,η,m,t,s,e,k⟩:=hq
 cases (show some (Md.fr,T.dct 2 [])=some (m,t) from e)
 intro q hq
 have:Rp G (upd H q (DN q [])) (.ref q) (.dct 2 ((([]:List (bx×Addr)).map fun p=>nkT p.1).zip [])) (q :: ([]:Yg).flatten):=.dctN (vs:=[]) aK rfl (fun p hp=>by simp at hp) .nil
 exact k _ _ [q] (cJ hq) this ⟨by simp,fun b hb=>by rw [Zn.mp hb];exact hq⟩
noncomputable def kf (i:Nat) (η:VS.Env):Option Out:=match η[i]? with
 | some (some (.ow (.dct 2 l)))=>some (.rt (.fr,.lst (l.map (·.2))) (η.set i none))
 | _=>none
theorem uV (i:Nat) (N:List Str) {x y:Str} (hr:Room kr X.A) (hcalm:X.calm=true) (hN:X.N[i]?=some x) (hv:Vis X.env.scope x) (hd:(x == ("__debug__" : Str))=false) (hcd:(x == ("__classdict__" : Str))=false)
  (hin:∀ cl C s H fp,PG (ba X N sc cl C s H fp) (.Name y p3) (tQ 0)/\PE (ba X N sc cl C s H fp) (.Name x p1) (uQ (i+1))/\PE (ba X N sc cl C s H fp) (.Name y p2) (uQ 0)/\(ba X N sc cl C s H fp).A.units=X.A.units)
  (hix:fM (.Name y p2)) (hsc:jV X.env sc=true) (hnm:iT sc (N.drop 1) X.N=true) (hNl:1<=N.length) (hs:∀ z,foldedSetIterable (.Name x p4) X.env z=pure z) :
  PSV G X (.Return (some (.ListComp (.Subscript (.Name x p1) (.Name y p2) p) [⟨.Name y p3,.Name x p4,[],0⟩] sc pos)) spos) (kf i) :=
 PS.weak (rJ (n6 (k:=1) hcalm (Ft (fW hN hv hd hcd)) hsc hnm hNl (fun cl C s H fp=>⟨(hin cl C s H fp).1,md,tU (Gj (by have:=hr.un;rw [(hin cl C s H fp).2.2.2];lia)) (hin cl C s H fp).2.1 (hin cl C s H fp).2.2.1 hix⟩) hs)) fun D σ H hq=>by
  obtain ⟨Φ,η,out,s,e,k⟩:=hq
  refine L2.fh fun P_ k_=>?_
  unfold kf at e
  split at e
  ·rename_i l hl
   cases e
   obtain ⟨v,g1,g2⟩:=s.rp _ _ hl
   have nd0:=s.nd i _ hl
   obtain ⟨a,ns,vs,ts,Fs,rfl,eΦ,ha,hln,hat,el,ra⟩:=qQ g2
   subst el
   rw [eΦ] at nd0
   have nd:=ZW.mp nd0
   refine k_ ?_
   refine ⟨.ref a,g1,a,kvN ns vs,rfl,ha,fun o hz hnd Dn hD=>?_⟩
   have mu:Mut (H a):=by rw [ha];exact True.intro
   have aD:Dn ≠ a:=fun z=>by rw [z,aK] at hD;cases hD
   have HD:H Dn=none:=by rw [aF aD] at hD;exact hD
   have kp:∀ ys,Kept H (upd (upd H a (.frz o (DN a (kvN ns vs)))) Dn (.lst ys)):=fun ys=>(Kept.upd (.inl mu)).trans (Kept.upd (.inr hD))
   refine ⟨fun j m σ' H'=>m+j=(kvN ns vs).length/\(∃ c,σ'=c :: σ)/\H'=upd (upd H a (.frz o (DN a (kvN ns vs)))) Dn (.lst (((kvN ns vs).take j).map (·.2.2))),⟨(kvN ns vs).length,rfl,⟨none,rfl⟩,rfl⟩,?_⟩
   rintro j m σ' H' ⟨hm,⟨c,rfl⟩,rfl⟩
   have hfz:∀ ys,upd (upd H a (.frz o (DN a (kvN ns vs)))) Dn (.lst ys) a=some (.frz o (DN a (kvN ns vs))):=fun ys=>by rw [aF (YG aD),aK]
   by_cases hj:j < (kvN ns vs).length
   ·refine .inr ⟨⟨hfz _,hj⟩,?_⟩
    rintro x' H2 ⟨rfl,q,hq,rfl⟩
    refine ⟨.ref a,?_,.ref q.2.1,?_,a,o,kvN ns vs,q.1,q.2.1,q.2.2,rfl,rfl,hfz _,fun r hr=>(lD hat r hr).mono (kp _).tup,(lD hat q (YR hq)).mono (kp _).tup,BY hnd hq,?_⟩
    ·show (σ:L2.St)[i]?=_
     exact g1
    ·rfl
    ·refine ⟨_,aK,?_,m - 1,by omega,by lia,⟨_,rfl⟩,?_⟩
     ·rw [Zv,ZO];lia
     ·rw [Ad,List.take_add_one,hq,Yv]
      rfl
   ·have ej:(kvN ns vs).take j=kvN ns vs:=ZA (by exact Xz hj)
    refine .inl ⟨⟨hfz _,by exact Xz hj⟩,?_⟩
    rw [ej]
    have ev:(kvN ns vs).map (·.2.2)=vs:=by
     unfold kvN
     rw [YV]
     exact Vn (WO hln.symm)
    have et:((ns.map fun p=>nkT p.1).zip ts).map (·.2)=ts:=Vn (by rw [Zv,hln,ra.len.1];exact Zp _)
    rw [ev]
    have nF:∀ b∈Fs.flatten,b ≠ a/\b ≠ Dn:=fun b hb=>⟨fun z=>nd.1 (z ▸ hb),fun z=>Mut.ne_none (ra.dom b hb) (z ▸ HD)⟩
    have Da:∀ b,H b ≠ none->b ≠ Dn:=fun b h z=>h (z ▸ HD)
    have ai:b6 Φ η a:=⟨i,_,hl,by rw [eΦ];exact Zw⟩
    have sub:∀ b,b6 Φ (η.set i none) b->b6 Φ η b/\b ≠ a:=fun b ⟨j,t,h1,h2⟩=>⟨⟨j,t,(cj h1).2,h2⟩,fun z=>by
     subst z
     exact s.sep i j _ _ hl (cj h1).2 (cj h1).1.symm b (by rw [eΦ];exact Zw) h2⟩
    have subp:∀ b,dJ Φ (η.set i none) b->dJ Φ η b/\b ≠ a:=fun b ⟨j,t,h1,h2⟩=>⟨⟨j,t,(cj h1).2,h2⟩,fun z=>by
     subst z
     exact s.sep i j _ _ hl (cj h1).2 (cj h1).1.symm b (by rw [eΦ];exact Zw) h2⟩
    have dmo:∀ b,b6 Φ η b->H b ≠ none:=fun b hq=>by
     obtain ⟨j,t,h1,h2⟩:=hq
     obtain ⟨v',_,r'⟩:=s.rp _ _ h1
     exact Mut.ne_none (r'.dom b h2)
    have dmp:∀ b,dJ Φ η b->H b ≠ none:=fun b hq=>by
     obtain ⟨j,t,h1,h2⟩:=hq
     obtain ⟨v',_,r'⟩:=s.rp _ _ h1
     exact Mut.ne_none (r'.dom b h2)
    rw [et] at k
    refine k (.ref Dn) _ (Dn :: Fs.flatten) Φ σ (SR.off (SR.off (s.drop i) (.inl mu) (fun z=>(subp a z).2 rfl) fun z=>(sub a z).2 rfl) (.inr hD) (fun z=>dmp _ (subp _ z).1 HD) fun z=>dmo _ (sub _ z).1 HD) ⟨fun b ob h n=>⟨?_,fun z=>n (sub b z).1⟩,fun b h=>?_,fun b z=>.inl (sub b z).1,fun b z=>.inl (subp b z).1,kp _⟩ (.lst aK (ra.keep (kp _) fun b hb ob h=>?_)) ⟨ZW.mpr ⟨fun z=>(nF Dn z).2 rfl,nd.2⟩,fun b hb=>?_⟩
    ·have h1:b ≠ a:=fun z=>n (z ▸ ai)
     have h2:b ≠ Dn:=Da b (by rw [h];simp)
     rw [aF h2,aF h1]
     exact h
    ·rw [aF (Da b h)]
     by_cases z:b=a
     ·rw [z,aK];simp
     ·rw [aF z];exact h
    ·rw [aF (nF b hb).2,aF (nF b hb).1]
     exact h
    ·rcases Zo.mp hb with rfl | hb
     ·exact .inl HD
     ·exact .inr ⟨i,_,hl,by rw [eΦ];exact Zx _ hb⟩
  ·cases e
end
section
variable {G:Gx} {X:Cx} {pos:Pos}
theorem zE {x:Str} {t:Tx} {j:Nat} {q q':Pos} (h:x=sx t) (hl:jq t):PV G X (.Dict [some (.Constant (.str x) j q)] [.List [] q'] pos) (lE 0 [(eC (.str t),fC aw)]) :=
 PE.weak (zj (v7 wF (oB il) yY) rfl rfl (by simp) (by show 1<=15;decide)) fun σ H Q hq=>by
  obtain ⟨Φ,η,m,r,s,e,k⟩:=hq
  subst h
  cases (show some (Md.fr,T.dct 0 [(.str t,.lst [])])=some (m,r) from e)
  intro p hp
  refine ⟨ZS _,fun b hb=>?_⟩
  have bp:b ≠ p:=fun z=>by rw [z,aK] at hb;cases hb
  have Hb:H b=none:=by rw [aF bp] at hb;exact hb
  refine ⟨by rw [aF (YG bp),aK],[(Sum.inr (sx t),.ref b)],rfl,(by show 1<=15;decide),?_⟩
  have hk:aR (Sum.inr (sx t))=.str t:=rfl
  have sm:aW H (upd (upd (upd H p (.dK [])) b (.lst [])) p (.dK (kQ [] [(Sum.inr (sx t),.ref b)]))):=fun c o hc=>by
   rw [aF (bN hc hp),aF (bN hc Hb),aF (bN hc hp)]
   exact hc
  have:Rp G (upd (upd (upd H p (.dK [])) b (.lst [])) p (.dK [(Sum.inr (sx t),.ref b)])) (.ref p) (.dct 0 ((([Sum.inr (sx t)]:List Key).map aR).zip [.lst []])) (p :: ([[b]]:Yg).flatten) :=
   .dct (ks:=[Sum.inr (sx t)]) (vs:=[V.ref b]) aK rfl (.cons (F:=b :: ([]:Yg).flatten) (.lst (by rw [aF bp,aK]) .nil) .nil)
  simp only [Zt,YW,hk,ZI,List.zip_nil_right] at this
  exact k _ _ _ sm this ⟨by simp [YG bp],fun c hc=>by
   rcases Zo.mp hc with rfl | hc
   ·exact hp
   ·simp at hc;rw [hc];exact Hb⟩
end
end VS
end
section
open PySem PyProof.Rows
namespace TS
variable {prog:Program} {w:World} {A:Around} {E:Z8} {s:Shared} {G:Keyed->Prop} {r:Keyed->Keyed->Bool}
noncomputable def iR (h:Heap) (a:Addr) (vs:X1):Addr:=((h.update a (Obj.mapSeq fun _=>#[])).push (seqObj "tuple" vs.toArray 0)).objs.size
theorem qK (h:Heap) (a:Addr) (vs:X1):iR h a vs=h.objs.size+1:=by unfold iR;rw [WW,XJ]
structure KeyPre (prog:Program) (w:World) (A:Around) (E:Z8) (P:PySem.Fin->Shared->Prop) (f:Value) (a K:Addr) (oa:Option Obj) (vs:X1) (J:X1->Shared->Prop):Prop where
 keys:∀ ks s',J ks s'->∃ e,s'.heap.get? K=some (seqObj "list" ks.toArray e)
 self:∀ ks s',J ks s'->s'.heap.get? a=oa
 step:∀ ks x s',vs[ks.length]?=some x->J ks s'->wpAny (model prog w) A (call f [x]) (fun k s2=>(∃ e,s2.heap.get? K=some (seqObj "list" ks.toArray e))/\J (ks++[k]) { s2 with heap:=s2.heap.update K (Obj.mapSeq fun xs=>xs.push k) }) (fun _ _=>False) s'
 fin:∀ ks s',J ks s'->ks.length=vs.length->∃ kd G r,Cmp prog w A E s' kd G r/\(∀ p∈ks.zip vs,G p)/\(2<=vs.length->∀ Q:SortKind->Shared->Prop,Q kd s'->wpAny (model prog w) A (keyKind' ks.toArray) Q E s') ∧
  ∀ out:List Keyed,out.Perm (ks.zip vs)->out.Pairwise (le r)->P (.done (.ret .none)) { s' with heap:=(s'.heap.update K (Obj.mapSeq fun _=>#[])).update a (Obj.mapSeq fun _=>(out.map (·.2)).toArray) }
theorem u4 {a:Addr} {f:Value} {vs:X1} {n:Nat} {P:PySem.Fin->Shared->Prop} {J:X1->Shared->Prop} (hf:(f != Value.none)=true) (ho:s.heap.get? a=some (seqObj "list" vs.toArray n)) (hlen:vs.length<=sizeLine)
  (j0:J [] { s with heap:=ie s.heap a vs }) (p:KeyPre prog w A E P f a (iR s.heap a vs) ((ie s.heap a vs).get? a) vs J) :
  wpAny (model prog w) A (Builtin.«list.sort» ⟨[.ref a],[(("key" : Str),f)]⟩) P E s:=by
 obtain ⟨ep,at1⟩:∃ k,(s.heap.update a (Obj.mapSeq fun _=>#[])).get? a=some (seqObj "list" #[] k):=⟨_,get?_update_seq ho _⟩
 have at2:=wg (vs:=vs) (ZZ ho) at1
 have ne:a ≠ iR s.heap a vs:=by rw [qK];exact ZR (Wc (ZZ ho))
 unfold Builtin.«list.sort»
 refine (show wpAny (model prog w) A (Builtin.List.listItems (.ref a) >>= _) P E s from ?_)
 refine Zy (listItems_at ho rfl (Zy (WU ho rfl (Zy (seqEpoch_at at1 rfl (Zy (wpAny_newTuple (Zy (wpAny_newList (YS ?_))))))))))
 refine (show wpAny (model prog w) A (if (f != Value.none)=true then _ else _) P E { s with heap:=ie s.heap a vs } from ?_)
 rw [Zr hf]
 refine Zy (Xi (Zy ?_))
 rw [← We]
 refine Xp _ (fun rest _ s'=>∃ ks,J ks s'/\rest=vs.drop ks.length/\ks.length<=vs.length) _ ?turn ?fin _ _ ⟨[],j0,by simp,by simp⟩
 case turn =>
  rintro x rest r s' ⟨ks,jk,e,hl⟩
  have hlt:ks.length < vs.length:=by
   have:=congrArg List.length e
   rw [Zj,ZK] at this
   omega
  have e2:x :: rest=vs[ks.length] :: vs.drop (ks.length+1):=by rw [e];exact Y4 hlt
  injection e2 with ex er
  have hx:vs[ks.length]?=some x:=by rw [Zb hlt,ex]
  refine Zy (wpAny_attempt (YY (p.step ks x s' hx jk) (fun k s2 ⟨⟨e2,he⟩,j2⟩=>?_) fun _ _ z=>z.elim))
  have sz:ks.toArray.size<=sizeLine:=by rw [Zd];exact ZV hl hlen
  exact (show wpAny (model prog w) A (Builtin.List.listUpdate (.ref (iR s.heap a vs)) (fun xs=>xs.push k) >>= _) _ _ _ from Zy (WU he rfl (Zs ⟨ks++[k],j2,by rw [er];simp,by simp;exact W7 hlt⟩) (hsz:=sz) (hsz2:=by rw [Array.size_push];exact YC sz)))
 case fin =>
  rintro r s' ⟨ks,jk,e,hl⟩
  have hln:ks.length=vs.length:=by
   have:=congrArg List.length e
   rw [YU,ZK] at this
   lia
  obtain ⟨eK,hK⟩:=p.keys ks s' jk
  have hS:=p.self ks s' jk
  rw [at2] at hS
  obtain ⟨kd,G,r,hC,hG,hkk,hP⟩:=p.fin ks s' jk hln
  have fin:∀ st':SortSt,(arrOf st').Perm (ks.zip vs).toArray->failedOf st'=none->(arrOf st').toList.Pairwise (le r)->P (.done (.ret .none)) { s' with heap:=(s'.heap.update (iR s.heap a vs) (Obj.mapSeq fun _=>#[])).update a (Obj.mapSeq fun _=>(arrOf st').map (·.2)) }:=fun st' p1 _ p3=>by
   have:=hP (arrOf st').toList (by simpa using Xc.mp p1) p3
   rwa [← Array.toList_map,Array.toArray_toList] at this
  have hS2:(s'.heap.update (iR s.heap a vs) (Obj.mapSeq fun _=>#[])).get? a=some (seqObj "list" #[] ep):=by rw [YI _ _ (YG ne)];exact hS
  refine (show wpAny (model prog w) A (if (f != Value.none)=true then _ else _) P E s' from ?_)
  rw [Zr hf]
  refine (show wpAny (model prog w) A (Builtin.List.listItems (.ref (iR s.heap a vs)) >>= _) P E s' from Zy (listItems_at hK rfl ?_))
  have room:∀ st':SortSt,(arrOf st').Perm (ks.zip vs).toArray->((arrOf st').map (·.2)).size<=sizeLine+1:=fun st' p1=>by
   rw [Array.size_map,p1.size_eq,Zd,Ya]
   lia
  have szK:ks.toArray.size<=sizeLine:=by rw [Zd];exact ZV hl hlen
  have ez:ks.toArray.zip vs.toArray=(ks.zip vs).toArray:=by simp
  by_cases two:2<=vs.length
  ·have no:¬ (vs.toArray.size < 2):=by rw [Zd];exact Vq two
   refine (show wpAny (model prog w) A (if vs.toArray.size < 2 then _ else _) P E s' from ?_)
   rw [Zq no]
   refine Zy (hkk two _ ?_)
   refine (show wpAny (model prog w) A (StateT.run (if vs.toArray.size < 2 then pure () else sortRuns') (SortSt.mk' kd (ks.toArray.zip vs.toArray) #[] 7 none) >>= _) P E s' from ?_)
   rw [Zq no]
   refine Zy (YY (zO hC (a₀:=(ks.zip vs).toArray) (st:=SortSt.mk' kd (ks.toArray.zip vs.toArray) #[] 7 none)
    (Q:=fun _ st'=>(arrOf st').Perm (ks.zip vs).toArray/\failedOf st'=none/\(arrOf st').toList.Pairwise (le r)) rfl (fun x hx=>hG x (by simpa using hx)) ez rfl rfl fun st' a1 a2 a3=>⟨a1,a2,a3⟩) ?_ fun _ _ e=>e)
   rintro ⟨⟨⟩,st'⟩ s2 ⟨rfl,p1,p2,p3⟩
   refine (show wpAny (model prog w) A (if (f != Value.none)=true then _ else _) P E s2 from ?_)
   rw [Zr hf]
   refine (show wpAny (model prog w) A (Builtin.List.listUpdate (.ref (iR s.heap a vs)) (fun _=>#[]) >>= _) P E s2 from Zy (WU hK rfl (Zy (WL (Zy (seqEpoch_at hS2 rfl (Zy (WU hS2 rfl ?_ (hsz2:=room st' p1))))))) (hsz:=szK)))
   have q2:=p2
   unfold failedOf at q2
   rw [q2]
   simp only [bne_self_eq_false,ZG,↓reduceIte]
   exact Zs (fin st' p1 p2 p3)
  ·have yes:vs.toArray.size < 2:=by rw [Zd];exact Vp two
   have p1:(arrOf (SortSt.mk' general' (ks.toArray.zip vs.toArray) #[] 7 none)).Perm (ks.zip vs).toArray:=by
    show (ks.toArray.zip vs.toArray).Perm _
    rw [ez]
   have p3:(arrOf (SortSt.mk' general' (ks.toArray.zip vs.toArray) #[] 7 none)).toList.Pairwise (le r):=by
    show (ks.toArray.zip vs.toArray).toList.Pairwise (le r)
    rw [ez]
    match vs,ks,two with
    | [],_,_=>simp
    | [_],[],_=>simp
    | [_],_ :: _,_=>simp
    | _ :: _ :: _,_,q=>simp at q
   refine (show wpAny (model prog w) A (if vs.toArray.size < 2 then _ else _) P E s' from ?_)
   rw [Zr yes]
   refine Zy (Zs ?_)
   refine (show wpAny (model prog w) A (StateT.run (if vs.toArray.size < 2 then pure () else sortRuns') (SortSt.mk' general' (ks.toArray.zip vs.toArray) #[] 7 none) >>= _) P E s' from ?_)
   rw [Zr yes,StateT.run_pure]
   refine Zy (Zs ?_)
   refine (show wpAny (model prog w) A (if (f != Value.none)=true then _ else _) P E s' from ?_)
   rw [Zr hf]
   refine (show wpAny (model prog w) A (Builtin.List.listUpdate (.ref (iR s.heap a vs)) (fun _=>#[]) >>= _) P E s' from Zy (WU hK rfl (Zy (WL (Zy (seqEpoch_at hS2 rfl (Zy (WU hS2 rfl ?_ (hsz2:=room _ p1))))))) (hsz:=szK)))
   have b0:(ep != ep)=false:=bne_self_eq_false _
   refine (show wpAny (model prog w) A (if (ep != ep)=true then _ else ret Value.none) P E _ from ?_)
   rw [Zq (by rw [b0];simp)]
   exact Zs (fin _ p1 rfl p3)
end TS
end
section
open PySem PyProof.Rows
namespace TS
variable {prog:Program} {w:World} {A:Around} {E:Z8} {s:Shared}
theorem oz (a f:Value):argsOk "sorted" ⟨[a],[(("key" : Str),f)]⟩:=by unfold argsOk;kernel_rfl
theorem rZ (a f:Value):argsOk "list.sort" ⟨[a],[(("key" : Str),f)]⟩:=by unfold argsOk;kernel_rfl
noncomputable def h9 (h:Heap) (vs:X1):Heap:=ie (h.push (seqObj "list" vs.toArray 0)) h.objs.size vs
theorem pj {h:Heap} {vs:X1} {b:Addr} {o:Obj} (e:h.get? b=some o):(h9 h vs).get? b=some o:=by
 have hb:=ZZ e
 unfold h9 ie
 rw [Wy _ _ _ (by rw [WW,XJ,WW];exact nl hb 2),Wy _ _ _ (by rw [XJ,WW];exact nl hb 1),Xq _ _ _ _ (ZR hb),Wy _ _ _ (ZR hb)]
 exact e
theorem ou (h:Heap) (vs:X1):∃ e,(h9 h vs).get? h.objs.size=some (seqObj "list" #[] e):=by
 have hoL:(h.push (seqObj "list" vs.toArray 0)).get? h.objs.size=some (seqObj "list" vs.toArray 0):=ZU _ rfl
 obtain ⟨k,at1⟩:∃ k,((h.push (seqObj "list" vs.toArray 0)).update h.objs.size (Obj.mapSeq fun _=>#[])).get? h.objs.size=some (seqObj "list" #[] k):=⟨_,get?_update_seq hoL _⟩
 exact ⟨k,wg (vs:=vs) (ZZ hoL) at1⟩
theorem om (h:Heap) (vs:X1):(h9 h vs).get? (h.objs.size+2)=some (seqObj "list" #[] 0):=by
 unfold h9 ie
 have e:(((h.push (seqObj "list" vs.toArray 0)).update h.objs.size (Obj.mapSeq fun _=>#[])).push (seqObj "tuple" vs.toArray 0)).objs.size=h.objs.size+2:=by rw [WW,XJ,WW]
 rw [← e]
 exact ZU _ rfl
theorem pP {x f:Value} {Q:Z8} (hf:(f != Value.none)=true)
  (hcol:∀ (A':Around) (E':Z8),A'.handled=A.handled->wpAny (model prog w) A' (collect x) (fun vs s1=>vs.length<=sizeLine/\∃ J,J [] { s1 with heap:=h9 s1.heap vs } ∧
   KeyPre prog w A.in1.in1 E (fun fin s'=>fin=.done (.ret .none)/\Q (.ref s1.heap.objs.size) s') f s1.heap.objs.size (s1.heap.objs.size+2) ((h9 s1.heap vs).get? s1.heap.objs.size) vs J) E' s) :
  wpAny (model prog w) A (call (.builtin "sorted") [x] [(("key" : Str),f)]) Q E s:=by
 refine call_function_entry_kw kind_sorted plain_sorted entry_sorted (oz _ _) (show wpAny _ _ (Builtin.«sorted» _) _ _ _ from ?_)
 unfold Builtin.«sorted»
 refine Zy (m:=checkCount "sorted" 1 1 _) (Zs (Zy (YY (hcol A.in1 (fun _ _=>False) rfl) ?_ fun _ _ e=>e.elim)))
 rintro vs s1 ⟨hlen,J,j0,kp⟩
 refine Zy (wpAny_newList ?_ (by exact hlen))
 have hoL:(s1.heap.push (seqObj "list" vs.toArray 0)).get? s1.heap.objs.size=some (seqObj "list" vs.toArray 0):=ZU _ rfl
 have eK:iR (s1.heap.push (seqObj "list" vs.toArray 0)) s1.heap.objs.size vs=s1.heap.objs.size+2:=by rw [qK,WW]
 refine (show wpAny _ _ _ _ _ { s1 with heap:=s1.heap.push (seqObj "list" vs.toArray 0) } from ?_)
 have main:=u4 (J:=J) (s:={ s1 with heap:=s1.heap.push (seqObj "list" vs.toArray 0) }) hf hoL hlen j0 (P:=fun fin s'=>fin=.done (.ret .none)/\Q (.ref s1.heap.objs.size) s') (by rw [eK];exact kp)
 exact Zy (YS (wpAny_call_entry_kw slot_list_sort ⟨_,hoL,rfl⟩ entry_list_sort (YY main (fun fin s' h=>⟨_,h.1,Zs ⟨_,rfl,h.2⟩⟩) fun _ _ e=>e) (rZ _ _)))
end TS
end
section
namespace L2
open PySem PySem.Spec PyProof.Rows TS
section
variable {X:Cx} {pins:Yo} {σ:St} {H:Hp} {s:Shared} {h':Heap}
theorem Inv.adopt {a:Addr} {o:HO} {t':Nat} (I:Inv X pins σ H s) (f:jB X pins H a) (k:∀ b u,b ≠ a->s.heap.get? b=some u->h'.get? b=some u) (he:∃ u,h'.get? a=some u) (new:br X.prog X.w (upd H a o) h' a o) :
  Inv X pins σ (upd H a o) { s with heap:=h',toks:=t' }:=by
 obtain ⟨f0,f1,f2,f3,f4,f5⟩:=f
 have ne:∀ b u,H b=some u->b ≠ a:=fun b u e z=>by rw [z,f0] at e;cases e
 refine I.step (g':=s.gens) (d':=s.drawn) (ch:=[a]) (fun b hb=>?_) (fun b o _ _ hc e _=>k b o (fun z=>hc (by simp [z])) e) (fun b o _ _ hc e _=>⟨o.slots,k b o (fun z=>hc (by simp [z])) e⟩) (fun b _ hc _ n=>?_)
  (fun b o hc e=>⟨o,k b o (fun z=>hc (by simp [z])) e⟩) (fun b xs e=>?_) (fun b o u e=>?_) (fun b ps e=>⟨#[],?_⟩) (fun m hm=>?_) (fun b u e=>?_) I.bare
 ·rw [Zn.mp hb]
  exact ⟨f3,f1,f4,f5⟩
 ·rw [aF (fun z=>hc (by simp [z]))];exact n
 ·rw [aF (ne b _ e)];exact e
 ·rw [aF (ne b _ e)];exact e
 ·rw [aF (ne b _ e),e];simp
 ·obtain ⟨o,es,ep,ho,r⟩:=hm
  exact ⟨o,es,ep,k _ o (YG f1) ho,r⟩
 ·by_cases hb:b=a
  ·subst hb
   rw [aK] at e
   cases e
   exact new
  ·rw [aF hb] at e
   refine (I.hok b u e).stay (fun c v hc q=>k c v ?_ q) (fun c q=>by rw [aF (ne c _ q)];exact q) fun c xs q=>by rw [aF (ne c _ q)];exact q
   rcases hc with z | z
   ·rw [z];exact hb
   ·exact ne c _ z
theorem B3 {k:Nat} {f:Addr} {fd:FuncData} {ps:List Str} {sp:Sp} {A':Around} {E:XK} {Q:VK} {us:X1} {vs:List V} (F:FnOk X.prog X.w X.K X.mg X.base CX0 k f fd ps sp) (hr:Room k A') (hfr:A'.frames=X.A.frames) (hb:Binds X.K fd ps [])
  (I:Inv X pins σ H s) (r:aU vs us) (h:sp vs H Q E):wpAny (model X.prog X.w) A' (call (.ref f) us) (fun u s'=>∃ v H',Inv X pins σ H' s'/\RelV v u/\Q v H'/\∀ b o,jB X pins H b->s.heap.get? b=some o->s'.heap.get? b=some o/\jB X pins H' b) (fun _ _=>False) s:=by
 have hl:us.length=ps.length:=by rw [← r.length];exact F.len _ _ _ _ h
 have e0:Env0 X.prog X.w X.K X.mg X.base A' X.stack s H:=⟨hfr.trans I.env0.frames,I.env0.mod,I.env0.bs,I.env0.bsz,I.env0.funs,I.env0.frf,I.env0.hok,I.env0.bare⟩
 have hb':=hb s us I.kIn (by rw [ZD];exact hl)
 rw [ZD] at hb'
 refine wpAny_call (codeAny_mono (F.run A' X.stack s H ⟨us,[]⟩ us vs Q E hr e0 hb' r h) fun r s' hq=>?_)
 cases r with
 | error e=>exact hq.elim
 | ok fl =>
  cases fl with
  | ret u =>
   obtain ⟨v,H',os,bare,un,hok,r,q⟩:=hq
   obtain ⟨v2,H2,I2,r2,rfl,rfl,q2⟩:=I.after (Q:=fun v1 H1=>v1=v/\H1=H'/\Q v1 H1) ⟨v,H',os,bare,un,hok,r,rfl,rfl,q⟩
   refine ⟨v2,H2,I2,r2,q2,fun b o fb e=>?_⟩
   have nf:b ∉ frs X.stack:=fun z=>(Zo.mp (I.stkSub b z)).elim fb.2.1 fb.2.2.1
   exact ⟨un.keep b o e fb.1 nf (by simp),un.free b o e fb.1 (by simp),fb.2⟩
  | next=>exact False.elim hq
  | brk=>exact False.elim hq
  | cont=>exact False.elim hq
noncomputable def kL (x:Str):List Key:=[.inl (x.cps.toList.length:Int),.inr x]
noncomputable def txV:Value->Str
 | .str x _=>x
 | _=>⟨#[]⟩
noncomputable def JK (X:Cx) (pins:Yo) (σ:St) (H:Hp) (ss:List Str) (n0 e0:Nat) (ks:X1) (s':Shared):Prop:=∃ H1,Inv X pins σ H1 s'/\aW H H1/\jB X pins H1 n0/\jB X pins H1 (n0+2)/\(∃ e,s'.heap.get? (n0+2)=some (seqObj "list" ks.toArray e))/\s'.heap.get? n0=some (seqObj "list" #[] e0) ∧
  ∀ (i:Nat) (u:Value),ks[i]?=some u->∃ (b:Addr) (x:Str),u=Value.ref b/\ss[i]?=some x/\H1 b=some (.tup ((kL x).map kV))
theorem kX {k:Nat} {f p:Addr} {fd:FuncData} {ps:List Str} {sp:Sp} {E:XK} {Q:VK} {ss:List Str} {ws:List V} (hc:X.calm=true) (F:FnOk X.prog X.w X.K X.mg X.base CX0 k f fd ps sp) (hr:Room (k+2) X.A) (hb:Binds X.K fd ps [])
  (I:Inv X pins σ H s) (hl:ss.length=ws.length) (hq:H p=some (.dK ((ss.map Sum.inr).zip ws)))
  (hsp:∀ x∈ss,∀ H1,aW H H1->∀ Q1:VK,(∀ b H2,aW H1 H2->H2 b=some (.tup ((kL x).map kV))->Q1 (.ref b) H2)->sp [.str x] H1 Q1 E)
  (q:∀ (l:Addr) (H1:Hp) (ys:List Str),aW H H1->H1 l=none->ys.Perm ss->ys.Pairwise (fun a b=>fq (kL b) (kL a)=false)->Q (.ref l) (upd H1 l (.lst (ys.map V.str)))) :
  wpAny (model X.prog X.w) X.A (call (.builtin "sorted") [.ref p] [(("key" : Str),.ref f)]) (EP X pins σ Q) X.xe s:=by
 obtain ⟨hz,hS,kvs,rel,dd⟩:=sS I.hok hq
 obtain ⟨ep,dd⟩:=dd.dictAt
 rw [Ya,Zv] at hz
 have hkl:kvs.length=ss.length:=by
  have:=rel.length
  rw [Ya,Zv] at this
  lia
 have hky:∀ i:Nat,(kvs[i]?).map (fun x=>x.1)=(ss[i]?).map (Sum.inr:Str->Key):=fun i=>by
  have h1:((kvs.map (·.1)))[i]?=(ss.map (Sum.inr:Str->Key))[i]?:=by
   rw [← rel.keys,List.map_fst_zip (by rw [Zv];exact WO hl)]
  rw [ZC,ZC] at h1
  exact h1
 refine pP rfl fun A' E' hA=>PySem.W.kdu_collect (PySem.W.kdl_dict hS) (hA.trans (I.ok.hd hc)) dd (by lia) fun h1 tk acc kp hacc=>?_
 have I1:Inv X pins σ H { s with heap:=h1,toks:=tk }:=I.kept kp
 have hal:acc.toList.length=ss.length:=by rw [YZ,hacc.1,hkl]
 have each:∀ i v,acc.toList[i]?=some v->∃ x t,v=Value.str x t/\ss[i]?=some x:=fun i v hv=>by
  rw [Yx] at hv
  obtain ⟨k,x,e1,e2⟩:=hacc.2 i v hv
  have e3:=hky i
  rw [e1] at e3
  cases e4:ss[i]? with
  | none=>rw [e4] at e3;cases e3
  | some y =>
   rw [e4] at e3
   have e5:k=Sum.inr y:=ZE e3
   subst e5
   obtain ⟨t,rfl⟩:=Value.isStrOf_shape (show Value.isStrOf y v=true from e2)
   exact ⟨y,t,rfl,e4⟩
 have hvs:acc.toList.map txV=ss:=by
  apply Vw
  intro i
  rw [ZC]
  cases e:acc.toList[i]? with
  | some v =>
   obtain ⟨x,t,rfl,e2⟩:=each i v e
   rw [e2];rfl
  | none =>
   rw [YK] at e
   rw [Xm (by lia)];rfl
 generalize hvv:acc.toList=vs at *
 obtain ⟨e0,hL0⟩:=ou h1 vs
 have LK:h1.objs.size ≠ h1.objs.size+2:=by lia
 refine ⟨by lia,JK X pins σ H ss h1.objs.size e0,?_,?_⟩
 ·exact ⟨H,I1.kept (t':=tk) fun b o e=>pj e,aW.refl _,I1.fpOk (Zp _) (I1.hok.fresh (Zp _)),I1.fpOk (ZL _ 2) (I1.hok.fresh (ZL _ 2)),⟨0,om h1 vs⟩,hL0,fun i u e=>by simp at e⟩
 ·refine ⟨fun ks s' ⟨H1,_,_,_,_,e,_⟩=>e,fun ks s' ⟨H1,_,_,_,_,_,e,_⟩=>e.trans hL0.symm,?_,?_⟩
  ·rintro ks x s' hx ⟨H1,I2,sm,fL,fK,⟨eK,hK⟩,hL,hks⟩
   obtain ⟨y,t,rfl,hy⟩:=each _ _ hx
   refine YY (B3 (A':=X.A.in1.in1) F (Room.in1 (Room.in1 hr)) rfl hb I2 (vs:=[.str y]) (.cons ⟨t,rfl⟩ .nil) (hsp y (YR hy) H1 sm (fun v H2=>∃ b,v=.ref b/\aW H1 H2/\H2 b=some (.tup ((kL y).map kV))) fun b H2 s2 h2=>⟨b,rfl,s2,h2⟩)) ?_ fun _ _ e=>e
   rintro u s2 ⟨v,H2,I3,ru,⟨b,rfl,sm2,hb2⟩,kp2⟩
   obtain rfl:=(show u=Value.ref b from ru)
   obtain ⟨kK,fK2⟩:=kp2 _ _ fK hK
   obtain ⟨kL',fL2⟩:=kp2 _ _ fL hL
   have hK3:∃ e,(s2.heap.update (h1.objs.size+2) (Obj.mapSeq fun xs=>xs.push (Value.ref b))).get? (h1.objs.size+2)=some (seqObj "list" (ks++[Value.ref b]).toArray e):=by
    have:=get?_update_seq kK fun xs=>xs.push (Value.ref b)
    rw [this,show ks.toArray.push (Value.ref b)=(ks++[Value.ref b]).toArray by simp]
    exact ⟨_,rfl⟩
   refine ⟨⟨eK,kK⟩,H2,I3.turned (it:=h1.objs.size+2) (t':=s2.toks) (fun c o hc e=>by rw [Xq _ _ _ _ hc];exact e) fK2.1 fK2.2.1 fK2.2.2.2.1 fK2.2.2.2.2.1 fK2.2.2.2.2.2,sm.trans sm2,fL2,fK2,hK3,?_,fun i u hu=>?_⟩
   ·rw [Xq _ _ _ _ LK];exact kL'
   ·by_cases hi:i < ks.length
    ·rw [Ym hi] at hu
     obtain ⟨c,x,e1,e2,e3⟩:=hks i u hu
     exact ⟨c,x,e1,e2,sm2 _ _ e3⟩
    ·rw [Yw (by exact Xz hi)] at hu
     have hi0:i=ks.length:=by
      by_cases z:i - ks.length=0
      ·lia
      ·rw [Xm (by simp;lia)] at hu;cases hu
     subst hi0
     simp at hu
     exact ⟨b,y,hu.symm,hy,hb2⟩
  ·rintro ks s' ⟨H1,I2,sm,fL,fK,⟨eK,hK⟩,hL,hks⟩ hln
   have kz:∀ z∈ks.zip vs,∃ b x t,z=(Value.ref b,Value.str x t)/\H1 b=some (.tup ((kL x).map kV)):=fun z hz=>by
    obtain ⟨i,hi,e⟩:=Ys hz
    have e':(ks.zip vs)[i]?=some z:=by rw [Zb hi,e]
    obtain ⟨z1,z2⟩:=z
    rw [Wd] at e'
    obtain ⟨b,x,rfl,e2,e3⟩:=hks i z1 e'.1
    obtain ⟨x2,t,rfl,e4⟩:=each i z2 e'.2
    rw [e2] at e4
    cases e4
    exact ⟨b,x,t,rfl,e3⟩
   have tk1:∀ {b:Addr} {x:Str},H1 b=some (.tup ((kL x).map kV))->jJ s'.heap (.ref b) (kL x):=fun e=>zF I2.hok e
   refine ⟨tuples' true,GT s'.heap [true,false],rT s'.heap,AM fun v ks t=>t,fun z hz=>?_,fun two Q1 q1=>?_,fun out o1 o2=>⟨rfl,?_⟩⟩
   ·obtain ⟨b,x,t,rfl,e⟩:=kz z hz
    exact ⟨_,tk1 e,rfl⟩
   ·refine wY (k0:=true) (sh:=[false]) (by lia) (fun v hv=>?_) q1
    obtain ⟨i,hi,e⟩:=Ys hv
    obtain ⟨b,x,rfl,_,e3⟩:=hks i v (by rw [Zb hi,e])
    exact ⟨_,tk1 e3,rfl⟩
   ·have I3:=I2.turned (it:=h1.objs.size+2) (t':=s'.toks) (h':=s'.heap.update (h1.objs.size+2) (Obj.mapSeq fun _=>#[])) (fun c o hc e=>by rw [Xq _ _ _ _ hc];exact e) fK.1 fK.2.1 fK.2.2.2.1 fK.2.2.2.2.1 fK.2.2.2.2.2
    have hL2:(s'.heap.update (h1.objs.size+2) (Obj.mapSeq fun _=>#[])).get? h1.objs.size=some (seqObj "list" #[] e0):=by rw [Xq _ _ _ _ LK];exact hL
    have hL3:=get?_update_seq hL2 fun _=>(out.map (·.2)).toArray
    have ho:∀ z∈out,∃ b x t,z=(Value.ref b,Value.str x t)/\H1 b=some (.tup ((kL x).map kV)):=fun z hz=>kz z (o1.mem_iff.mp hz)
    have olen:out.length=ss.length:=by
     rw [o1.length_eq,Ya]
     lia
    have vals:∀ {out:List Keyed},(∀ z∈out,∃ b x t,z=(Value.ref b,Value.str x t)/\H1 b=some (.tup ((kL x).map kV)))->aU ((out.map fun z=>txV z.2).map V.str) (out.map (·.2)):=by
     intro out
     induction out with
     | nil=>intro _;exact .nil
     | cons z out ih =>
      intro h
      obtain ⟨b,x,t,rfl,_⟩:=h z Zw
      exact .cons ⟨t,rfl⟩ (ih fun z hz=>h z (Zx _ hz))
    refine ⟨.ref h1.objs.size,_,I3.adopt (o:=.lst ((out.map fun z=>txV z.2).map V.str)) (t':=s'.toks) fL (fun c o hc e=>by rw [Xq _ _ _ _ hc];exact e) ⟨_,hL3⟩ (show br X.prog X.w _ _ _ (.lst _) from ⟨by rw [Zv,Zv,olen];lia,out.map (·.2),_,vals ho,hL3⟩),rfl,q _ H1 _ sm fL.1 ?_ ?_⟩
    ·have:=o1.map fun z=>txV z.2
     have e2:(ks.zip vs).map (fun z=>txV z.2)=ss:=by
      rw [← hvs]
      have:(ks.zip vs).map (fun z=>txV z.2)=((ks.zip vs).map Prod.snd).map txV:=by rw [YV];rfl
      rw [this,Vn (by lia)]
     rw [e2] at this
     exact this
    ·rw [Wb]
     refine List.Pairwise.imp_of_mem (fun {a b} ha hb h=>?_) o2
     obtain ⟨c,x,t,rfl,e⟩:=ho a ha
     obtain ⟨c2,x2,t2,rfl,e2⟩:=ho b hb
     unfold le at h
     rw [mL (tk1 e2) (tk1 e)] at h
     exact h
end
end L2
end
section
namespace VS
open PySem PySem.Spec PyProof.Rows L2 TS
noncomputable def lL (a b:Tx):Prop:=a.length < b.length\/a.length=b.length/\a < b
noncomputable def ltL (a b:Tx):Bool:=decide (a.length < b.length) || (decide (a.length=b.length) && ltx a b)
theorem sH (a b:Tx):ltL a b=true ↔ lL a b:=by
 unfold ltL lL
 rw [mE]
 simp
theorem u9 (a:Tx):¬ lL a a:=fun h=>by
 rcases h with h | ⟨_,h⟩
 ·exact YH _ h
 ·exact WG _ h
theorem qI {a b c:Tx} (h:lL a b) (h':lL b c):lL a c:=by
 rcases h with h | ⟨e,h⟩ <;> rcases h' with h' | ⟨e',h'⟩
 ·exact .inl (by exact Wo h h')
 ·exact .inl (by lia)
 ·exact .inl (by lia)
 ·exact .inr ⟨by exact Eq.trans e e',List.lt_trans h h'⟩
theorem vA (a b:Tx):lL a b\/a=b\/lL b a:=by
 rcases Nat.lt_trichotomy a.length b.length with h | h | h
 ·exact .inl (.inl h)
 ·by_cases h1:a < b
  ·exact .inl (.inr ⟨h,h1⟩)
  ·by_cases h2:b < a
   ·exact .inr (.inr (.inr ⟨h.symm,h2⟩))
   ·exact .inr (.inl (List.le_antisymm (List.not_lt.mp h2) (List.not_lt.mp h1)))
 ·exact .inr (.inr (.inl h))
noncomputable def rL (x:Tx):List Tx->List Tx
 | []=>[x]
 | y :: r=>if ltL y x then y :: rL x r else x :: y :: r
noncomputable def cG (l:List Tx):List Tx:=l.foldr rL []
theorem kP (x:Tx):∀ l:List Tx,(rL x l).Perm (x :: l)
 | []=>XD _
 | y :: r=>by
  unfold rL
  split
  ·exact ((kP x r).cons y).trans (List.Perm.swap _ _ _)
  ·exact XD _
theorem dP:∀ l:List Tx,(cG l).Perm l
 | []=>XD _
 | x :: l=>(kP x _).trans ((dP l).cons x)
theorem sR (x:Tx):∀ {l:List Tx},l.Pairwise (fun a b=>¬ lL b a)->(rL x l).Pairwise (fun a b=>¬ lL b a)
 | [],_=>by simp [rL]
 | y :: r,h=>by
  unfold rL
  obtain ⟨h1,h2⟩:=Xt.mp h
  split
  ·rename_i c
   have c':=(sH y x).mp c
   refine Xt.mpr ⟨fun z hz=>?_,sR x h2⟩
   rcases Zo.mp ((kP x r).mem_iff.mp hz) with rfl | hz
   ·exact fun w=>u9 _ (qI c' w)
   ·exact h1 z hz
  ·rename_i c
   have c':¬ lL y x:=fun z=>c ((sH y x).mpr z)
   refine Xt.mpr ⟨fun z hz=>?_,h⟩
   rcases Zo.mp hz with rfl | hz
   ·exact c'
   ·intro w
    rcases vA y x with z1 | z1 | z1
    ·exact c' z1
    ·subst z1;exact h1 z hz w
    ·exact h1 z hz (qI w z1)
theorem j9:∀ l:List Tx,(cG l).Pairwise (fun a b=>¬ lL b a)
 | []=>List.Pairwise.nil
 | x :: l=>sR x (j9 l)
theorem jz {l l':List Tx} (h:l'.Perm l) (hp:l'.Pairwise (fun a b=>¬ lL b a)):l'=cG l :=
 List.Perm.eq_of_pairwise (le:=fun a b=>¬ lL b a) (fun a b _ _ h1 h2=>(vA a b).elim (fun z=>absurd z h2) fun z=>z.elim id fun z=>absurd z h1) hp (j9 l) (h.trans (dP l).symm)
theorem zm (a b:Str):fq (kL a) (kL b)=true ↔ lL a.cps.toList b.cps.toList:=by
 unfold kL lL
 rw [fq]
 by_cases h:((a.cps.toList.length:Int))=(b.cps.toList.length:Int)
 ·rw [Zr (by rw [h]),fq]
  have h':a.cps.toList.length=b.cps.toList.length:=by lia
  by_cases e:a=b
  ·subst e
   simp [fq,WG]
  ·rw [Zq (by simpa using e),ltK]
   simp [h']
 ·rw [Zq (fun z=>h (by injection z)),ltK,decide_eq_true_eq]
  constructor
  ·intro h2
   exact .inl (by omega)
  ·rintro (h2 | ⟨h2,_⟩)
   ·omega
   ·lia
noncomputable def jH:Vi->Vh
 | [(_,.dct 0 l)]=>(strs? (l.map (·.1))).bind fun ss=>if ss.all txB then some (.fr,.lst ((cG ss).map .str)) else none
 | _=>none
section
variable {G:Gx} {X:Cx} {e:Expr} {cs:Exs} {p p2 kp pos:Pos} {k:Nat} {f:Addr} {fd:FuncData} {ps:List Str} {cg:Fn} {x:Str}
theorem uX {ss:List Tx} {ys:List Str} (h:ys.Perm (ss.map sx)) (hp:ys.Pairwise (fun a b=>fq (kL b) (kL a)=false)):ys=(cG ss).map sx:=by
 have e:ys=(ys.map fun x=>x.cps.toList).map sx:=by
  rw [YV]
  conv=>lhs;rw [← List.map_id ys]
  apply WC
  intro x hx
  obtain ⟨s,_,rfl⟩:=Yz.mp (h.mem_iff.mp hx)
  show sx s=sx (sx s).cps.toList
  rw [yI]
 have e2:(ys.map fun x=>x.cps.toList)=cG ss:=by
  refine jz ?_ ?_
  ·have:=h.map fun x:Str=>x.cps.toList
   rw [YV] at this
   have e3:((fun x:Str=>x.cps.toList) ∘ sx)=id:=by
    funext s
    exact yI s
   rw [e3,List.map_id] at this
   exact this
  ·rw [Wb]
   exact hp.imp fun {a b} h z=>by
    rw [(zm b a).mpr z] at h
    cases h
 rw [e,e2]
theorem Aq (F:FnOk X.prog X.w X.K X.mg X.base CX0 k f fd ps (spF G cg)) (hcg:∀ t:Tx,jq t->cg [.str t]=some (.fr,.tup [.int t.length,.str t])) (hr:Room (k+2) X.A) (hgx:Gl X x) (hmx:X.mg x=some (.ref f)) (hb:Binds X.K fd ps [])
  (hm:X.mg "sorted" = none) (ha:PVs G X [e] cs) (hg:Gl X "sorted") (hc:X.calm=true) (hdx:(x == ("__debug__" : Str))=false)
  (he:backTo pos (starEach [e] X.env)=(false,eval e X.env) :: backTo pos (starEach [] X.env)) (hpl:(backTo pos (starEach [e] X.env)).any (·.1)=false) :
  PV G X (.Call (.Name "sorted" p) [e] [⟨some "key",.Name x p2,kp⟩] pos) (eN jH cs):=by
 intro pins s σ H Q I h
 refine L2.fh fun P_ k_=>?_
 obtain ⟨Φ,η,m,t,sr,e0,kk⟩:=h
 unfold eN at e0
 obtain ⟨l,el,e0⟩:=Zz.mp e0
 refine k_ ?_
 refine XA (jE I hg hm uj ?_ (by decide) rfl)
 refine PyProof.Rows.callWith_kw (thn (ha pos pins s σ H (fun vs H1=>∃ Fs,Args G Φ η H H1 l vs Fs) I ⟨Φ,η,l,sr,el,fun vs H1 Fs q1 q2 q3=>⟨Fs,q1,q2,q3⟩⟩) fun us s1 ⟨vs,H1,I1,r1,Fs,A⟩=>?_) he hpl rfl rfl
 refine thn ((sU (nm:=some "key") (kpos:=kp) (zD (v:=.ref f) (pos:=p2) hgx hmx rfl hdx) vP) pos pins s1 σ H1 (fun zs H2=>zs=[.ref f]/\H2=H1) I1 ⟨rfl,rfl⟩) fun ws s2 ⟨zs,H2,I2,rz,ez,eH⟩=>?_
 subst ez eH
 obtain ⟨u,rfl,ru⟩:=rz.one
 obtain rfl:=(show u=Value.ref f from ru)
 refine (show wpAny (model X.prog X.w) X.A (call (.builtin "sorted") us [(("key" : Str),Value.ref f)]) (EP X pins σ Q) X.xe s2 from ?_)
 refine L2.fh fun P_ k_=>?_
 unfold jH at e0
 split at e0
 ·rename_i mx y hh
  obtain ⟨ss,e1,e2⟩:=Zz.mp e0
  split at e2
  ·rename_i hbt
   cases e2
   obtain ⟨v,F',rfl,rfl,rx⟩:=(show RpL G H2 vs [.dct 0 y] Fs from A.rp).one
   obtain ⟨a,ks,ys,ts,Gs,rfl,rfl,hha,hl,rfl,ra⟩:=jc rx
   obtain ⟨u,rfl,ru⟩:=r1.one
   obtain rfl:=(show u=Value.ref a from ru)
   have hl2:ks.length=ts.length:=by rw [hl,ra.len.1]
   have e3:((ks.map aR).zip ts).map (·.1)=ks.map aR:=List.map_fst_zip (by rw [Zv];exact WO hl2)
   rw [e3] at e1
   have e4:=keys_str e1
   have tok:∀ s∈ss,jq s:=fun s hs=>Dz (Z9.mp hbt s hs)
   refine k_ ?_
   refine kX (ss:=ss.map sx) (ws:=ys) (E:=E0) hc F hr hb I2 (by rw [← hl,e4];simp) (by rw [← e4];exact hha) (fun x hx H3 sm Q1 q1=>?_) fun l H3 zs sm hl3 pz pw=>?_
   ·obtain ⟨s,hs,rfl⟩:=Yz.mp hx
    refine ⟨[.str s],[[]],.fr,_,.cons (.str s (tok s hs)) .nil,hcg s (tok s hs),fun v H4 F4 sm4 r4 _=>?_⟩
    cases r4 with
    | tup h4 q4 =>
     cases q4 with
     | cons c1 q4 =>
      cases q4 with
      | cons c2 q4 =>
       cases q4
       cases c1
       cases c2
       refine q1 _ _ sm4 ?_
       rw [h4]
       simp [kL,kV,sx]
   ·rw [uX pz pw]
    have r0:RpL G (upd H3 l (.lst (((cG ss).map sx).map V.str))) ((cG ss).map fun s=>V.str (sx s)) ((cG ss).map T.str) ((cG ss).map fun _=>[]):=rY fun s hs=>tok s ((dP ss).mem_iff.mp hs)
    have r:Rp G (upd H3 l (.lst (((cG ss).map sx).map V.str))) (.ref l) (.lst ((cG ss).map T.str)) (l :: ((cG ss).map fun _=>[]).flatten):=.lst (by rw [aK,YV];rfl) r0
    rw [pY] at r
    exact kk _ _ _ ((A.same.trans sm).trans (cJ hl3)) r (Fp.new ((A.same.trans sm).free hl3) (by simp) Fp.nil)
  ·cases e2
 ·cases e0
end
end VS
end
section
namespace L2
open PySem PySem.Spec PyProof.Rows
end L2
namespace VS
open PySem PySem.Spec PyProof.Rows L2
section
variable {G:Gx} {X:Cx} {e b:Expr} {cs:Exs} {cb:Ex} {pos p p1 p2 kp apos cpos:Pos} {k k' kr:Nat} {x:Str} {ps:List Str} {g:Fn}
theorem ud {gk:Fn} (F:FnAt X.prog X.w X.K X.mg X.base k x ps G gk) (hk:k+2<=k') (hcg:∀ t:Tx,jq t->gk [.str t]=some (.fr,.tup [.int t.length,.str t])) (hr:Room k' X.A) (hm:X.mg "sorted" = none) (ha:PVs G X [e] cs) (hgx:Gl X x) (hg:Gl X "sorted") (hc:X.calm=true) (hdx:(x == ("__debug__" : Str))=false)
  (he:backTo pos (starEach [e] X.env)=(false,eval e X.env) :: backTo pos (starEach [] X.env)) (hpl:(backTo pos (starEach [e] X.env)).any (·.1)=false) :
  PV G X (.Call (.Name "sorted" p) [e] [⟨some "key",.Name x p2,kp⟩] pos) (eN jH cs):=by
 obtain ⟨f,fd,h1,h2,h3,h4⟩:=F.ex
 exact Aq h1 hcg (hr.mono hk) hgx h2 h4 hm ha hg hc hdx he hpl
theorem mQ {a b c:Expr} {ca cb cc:Ex} (ha:PV G X a ca) (hb:PV G X b cb) (hc:PV G X c cc) (hm:lastMarks [.LtE,.Lt] [b,c]=false):PVT G X (.Compare a [.LtE,.Lt] [b,c] pos) (ij oLe oLt ca cb cc) :=
 PT.weak (wj C9 wo ha hb hc hm) fun σ H Q h=>pH h (fun η m r e=>by
  unfold ij at e
  obtain ⟨x,ea,e⟩:=Zz.mp e
  obtain ⟨y,eb,e⟩:=Zz.mp e
  obtain ⟨⟨mz,z⟩,ez,e⟩:=Zz.mp e
  cases z with
  | bl q =>
   cases q with
   | false=>cases e;exact ⟨_,rfl⟩
   | true =>
    obtain ⟨z2,ec,e⟩:=Zz.mp (show (cc η).bind (fun z=>oLt y z)=some (m,r) from e)
    exact mD y z2 m r e
  | _=>cases e) fun Q h=>xM Eo Bn h
theorem C1 {ce:Ex} (h:PV G X e ce) (hsw:swapsWith e none pos.line X.env=pure false):PSV G X (.Expr e pos) (sX (xP ce)) :=
 PS.weak (j3 h hsw) fun D σ H hq=>by
  obtain ⟨Φ,η,out,s,e,k⟩:=hq
  unfold sX xP at e
  obtain ⟨⟨v,η'⟩,e1,e2⟩:=Zl.mp e
  obtain ⟨⟨m,t⟩,e3,e4⟩:=Zl.mp e1
  cases e4
  cases e2
  exact ⟨Φ,η,m,t,s,e3,fun v H' F e1 r1 f1=>k Φ σ H' (s.same e1) (Frm.same e1)⟩
@[simp] noncomputable def nU (i:Nat) (c:Ex) (as:Exs) (η:VS.Env):Option (Val×VS.Env):=match η[i]? with
 | some (some (.ow (.lst l)))=>(c η).bind fun kv=>(int? kv.2).bind fun n=>(ixP l.length n).bind fun j=>(l[j]?).bind fun x=>(as η).bind fun xs=>(aZ x xs).map fun z=>(z.2,η.set i (some (.ow (.lst (l.set j z.1)))))
 | _=>none
theorem BQ (i:Nat) (hN:X.N[i]?=some x) (hv:Vis X.env.scope x) (hd:(x == ("__debug__" : Str))=false) (hcd:(x == ("__classdict__" : Str))=false) (hb:PV G X b cb) (hix:fM b) (ha:PVs G X [e] cs) (hK:X.K=G.K)
  (hbase:attributeBase (.Subscript (.Name x p1) b p2) "append" X.env (eval (.Subscript (.Name x p1) b p2) X.env)=eval (.Subscript (.Name x p1) b p2) X.env)
  (hfew:((backTo cpos (starEach [e] X.env)).all (fun x=>!x.1) && (backToKw cpos (keywordEach [] X.env)).all (fun x=>x.1.isSome)
   && decide ([e].length+([]:List Keyword).length+(if ([]:List Keyword).isEmpty then 0 else 1) < 30))=true)
  (hline:(apos.endLine == cpos.line)=true) (hs:starEach [e] X.env=(false,eval e X.env) :: starEach [] X.env) (hplain:(backTo cpos (starEach [] X.env)).any (·.1)=false)
  (hsw:swapsWith (.Call (.Attribute (.Subscript (.Name x p1) b p2) "append" apos) [e] [] cpos) none pos.line X.env=pure false) :
  PSV G X (.Expr (.Call (.Attribute (.Subscript (.Name x p1) b p2) "append" apos) [e] [] cpos) pos) (sX (nU i cb cs)) :=
 PS.weak (j3 (p7 XH XR XS gO (tU tf (fW hN hv hd hcd) hb hix) ha hbase hfew hline hs hplain) hsw) fun D σ H hq=>by
  obtain ⟨Φ,η,out,s,e,k⟩:=hq
  unfold sX nU at e
  obtain ⟨⟨y',η'⟩,e1,e2⟩:=Zl.mp e
  split at e1
  ·rename_i l0 ht
   obtain ⟨⟨mk,tk⟩,ekk,e3⟩:=Zz.mp e1
   obtain ⟨n,en,e3⟩:=Zz.mp e3
   obtain ⟨j,h1,e3⟩:=Zz.mp e3
   obtain ⟨x0,h2,e3⟩:=Zz.mp e3
   obtain ⟨l,el,e3⟩:=Zz.mp e3
   obtain ⟨⟨x3,y3⟩,w4,e6⟩:=Zl.mp e3
   cases e6
   cases e2
   cases tk with
   | int n0 =>
    cases (show some n0=some n from en)
    obtain ⟨v,g1,g2⟩:=s.rp _ _ ht
    have nd:=s.nd i _ ht
    obtain ⟨a,vs,Fs,rfl,eF,ha0,ra⟩:=g2.lst_inv
    obtain ⟨u,Fj,u1,u2,u3⟩:=ra.get j h2
    rw [eF] at nd
    have ndj:Fj.Nodup:=((ZW.mp nd).2).sublist (fS u2)
    refine ⟨.ref a,g1,Φ,η,mk,_,s,ekk,fun y H1 F1 sm1 r1 f1=>?_⟩
    refine ⟨a,vs,_,u,rfl,r1.int_inv,SqL.of (sm1 a _ ha0),mf (by rw [ra.len.1];exact h1) u1,by rw [hK];exact gF (u3.same sm1) w4,Φ,η,l,s.same sm1,el,fun vs2 H4 Fs2 q1 q2 q3=>?_⟩
    refine jg Φ η H H4 u x0 x3 Fj l vs2 Fs2 y3 _ u3 ndj ⟨sm1.trans q1,q2,⟨fun n v' F' a1 a2=>(q3.each n v' F' a1 a2).back sm1,q3.nd⟩⟩ w4 fun u' H5 F' g=>?_
    obtain ⟨s1,s2,s3,s4,s5⟩:=og ha0 ra nd u1 u2 g
    have g6:Chg G H (.ref a) (Φ i) (.lst (l0.set j x3)) H5 (a :: (Fs.set j F').flatten):=by
     rw [eF]
     exact ⟨g.kept,s5,g.dom,.lst s1 s2,s3,s4⟩
    obtain ⟨z1,z2⟩:=s.mut ht g1 g6
    exact k _ σ H5 z1 z2
   | _=>cases en
  ·cases e1
end
section
variable {G:Gx} {X:Cx} {a b e:Expr} {ca ck ce:Ex} {pos pos' p1:Pos} {kr:Nat}
theorem AV {j pos'} (ha:PV G X a ca):PVT G X (.Compare a [.IsNot] [.Constant .none j pos'] pos) (jO ca) :=
 PT.weak (CS (Ac ha)) fun σ H Q h=>DS h (fun η m r e=>by
  unfold jO at e
  obtain ⟨x,_,e⟩:=Zz.mp e
  cases e
  exact ⟨_,rfl⟩) fun Q hq=>by
   obtain ⟨Φ,η,m,r,s,e,q⟩:=hq
   unfold jO at e
   obtain ⟨⟨n,x⟩,ea,e⟩:=Zz.mp e
   cases e
   refine ⟨Φ,η,n,x,s,ea,fun v H' F e1 r1 f1=>?_⟩
   show Q (.bl (!decide (v=.non))) H'
   rw [Bb r1]
   exact q _ H' _ e1 (.bl _) Fp.nil
noncomputable def nZ (i:Nat) (k e:Ex) (η:VS.Env):Option Out:=(e η).bind fun v=>match η[i]? with
 | some (some (.ow (.dct 0 l)))=>(k η).bind fun kv=>if gP kv.2/\imm v.2/\l.length < ip then some (.nx (η.set i (some (.ow (.dct 0 (dput l kv.2 v.2)))))) else none
 | _=>none
theorem BF (i:Nat) {x:Str} (hr:Room kr X.A) (hk:PV G X b ck) (he:PV G X e ce) (hN:X.N[i]?=some x) (hv:Vis X.env.scope x) (hd:(x == ("__debug__" : Str))=false) (hcd:(x == ("__classdict__" : Str))=false)
  (ha:∀ v,assign (.Subscript (.Name x p1) b pos') X.env v=(do
   let ov ← holding [v] (eval (.Name x p1) X.env)
   let iv ← holding [v,ov] (eval b X.env)
   standAt pos'
   holding [v,ov,iv] (setItem ov iv v)
   release [v,ov,iv] [])) (hs:swapsWithSole [.Subscript (.Name x p1) b pos'] e pos.line X.env=pure false) (hw:swappedStores [.Subscript (.Name x p1) b pos'] e X.env=pure none)
  (h1:(assignEach [.Subscript (.Name x p1) b pos'] X.env).map (·.2)=[assign (.Subscript (.Name x p1) b pos') X.env]):PSV G X (.Assign [.Subscript (.Name x p1) b pos'] e pos) (nZ i ck ce) :=
 PS.weak (DE he (Dh (fW hN hv hd hcd) hk (D4 (sO hr)) ha) hs hw h1) fun D σ H hq=>by
  obtain ⟨Φ,η,out,s,e,k⟩:=hq
  unfold nZ at e
  obtain ⟨⟨mv,tv⟩,ev,e⟩:=Zz.mp e
  split at e
  ·rename_i l ht
   obtain ⟨⟨mk,tk⟩,ekk,e⟩:=Zz.mp e
   split at e
   ·rename_i hc
    obtain ⟨c1,c2,c3⟩:=hc
    cases e
    obtain ⟨w,g1,w2⟩:=s.rp _ _ ht
    have w3:=s.nd i _ ht
    refine ⟨Φ,η,mv,tv,s,ev,fun xv H1 Fv sm1 rv fv=>⟨w,g1,Φ,η,mk,tk,s.same sm1,ekk,fun kv H3 Fk sm3 rk fk=>?_⟩⟩
    have sm:aW H H3:=sm1.trans sm3
    have rv3:Rp G H3 xv tv Fv:=rv.same sm3
    have eF:=rv3.imm c2
    subst eF
    obtain ⟨a,ns,vs,ts,Fs,rfl,eF1,ha',hl,rfl,ra⟩:=jc w2
    rw [eF1] at w3
    obtain ⟨kk,rfl,ekk'⟩:=fX rk c1
    subst ekk'
    have ha3:H3 a=some (.dK (ns.zip vs)):=sm a _ ha'
    have m3:Mut (H3 a):=by rw [ha3];exact True.intro
    have nd:=ZW.mp w3
    obtain ⟨ks',vs',ts',Fs',q1,q2,q3,q4,q5⟩:=oU (kk:=kk) rv3 hl (ra.same sm)
    have ln:(ns.zip vs).length < sizeLine:=by
     have:((ns.map aR).zip ts).length < 16777216:=c3
     rw [Ya,Zv] at this
     rw [Ya]
     have:=ra.len.1
     have:(sizeLine:Nat)=16777216:=rfl
     lia
    refine .inr ⟨a,_,rfl,xu.k ha3 ln,?_⟩
    have g:Chg G H (.ref a) (Φ i) (.dct 0 (dput ((ns.map aR).zip ts) (aR kk) tv)) (upd H3 a (.dK (putK (ns.zip vs) kk xv))) (a :: Fs'.flatten):=by
     rw [eF1,q1,q3]
     refine Chg.upd sm Zw m3 (.dct aK q2 (q4.off m3 fun z=>nd.1 (q5.subset z))) ?_ ?_
     ·exact ZW.mpr ⟨fun z=>nd.1 (q5.subset z),nd.2.sublist q5⟩
     ·intro bb hb
      rcases Zo.mp hb with rfl | hb
      ·exact .inl Zw
      ·exact .inl (Zx _ (q5.subset hb))
    obtain ⟨z1,z2⟩:=s.mut ht g1 g
    exact k _ σ _ z1 z2
   ·cases e
  ·cases e
end
end VS
end
section
namespace DP
open PySem PySem.Spec PyProof.Rows
variable {prog:Program} {w:World} {A:Around} {E:Z8}
theorem zc:typeLookup (.type "tuple") "keys" = pure none:=by rw [typeLookup_type,builtinLookup_eq_fast];kernel_rfl
theorem AD {h:Heap} {g:Array GenState} {d:Drawn} {tk:Nat} {os} {a:Addr} {xs:Array Value} {k:Nat} {sl:Array (Vt)} {u:Tok} {Q:Z8} (hx:h.get? a=some { cls:=.type "tuple",dict:=none,data:=.seq xs k,slots:=sl }) (hA:A.handled=none)
  (hE:∀ h' tk' e,Heap.NewExcOf h h' e "AttributeError" → E (.ref e) ⟨h',g,d,tk',os⟩):wpAny (model prog w) A (getAttrBy (.ref a) (.str "keys" u) false) Q E ⟨h,g,d,tk,os⟩:=by
 have hT:∀ tk',(⟨h,g,d,tk',os⟩:Shared).TypeIs (.ref a) "tuple" := fun _=>⟨_,hx,rfl⟩
 have f1:=sub_AttributeError
 have f3:=WM.lookup
 have f4:=WM.bind (.ref a)
 have f5:=am_tuple_getattr_none
 unfold getAttrBy
 repeat (any_goals (first | assumption | exact hT _ | ((with_reducible show wpAny _ _ (call (Value.builtin "tuple.__getattribute__") _ _) _ _ _);refine call_meets WM (hT _) am_entry_tuple_getattribute (F.args_tuple_getattribute_2 _ _) (meets_getattribute_miss_tuple a xs k sl "keys" _ zc (by decide +kernel)) ⟨hx,hA,fun h' tk' e hx'=>?_⟩) | wp_step))
 obtain ⟨t',u',he⟩:=hx'.there
 show wpAny _ _ (getattributeRaised _ _ _ _ _ _ _) _ _ _
 unfold getattributeRaised
 repeat (any_goals (first | assumption | wp_step))
 exact hE _ _ _ hx'.of
end DP
end
section
namespace DP
open PySem PySem.Spec PyProof.Rows L2
variable {prog:Program} {w:World} {A:Around} {E:Z8}
theorem uF {h:Heap} {g:Array GenState} {d:Drawn} {tk:Nat} {os} {a:Addr} {xs:Array Value} {k:Nat} {sl:Array (Vt)} {Q:Vt->Shared->Prop} (hx:h.get? a=some { cls:=.type "tuple",dict:=none,data:=.seq xs k,slots:=sl }) (hA:A.handled=none)
  (hQ:∀ h' tk' e,Heap.NewExcOf h h' e "AttributeError" → Q none ⟨h',g,d,tk',os⟩):wpAny (model prog w) A (getAttr? (.ref a) "keys") Q E ⟨h,g,d,tk,os⟩:=by
 have f1:=sub_AttributeError
 unfold getAttr? getAttrBy?
 repeat (any_goals (first | assumption | (with_reducible refine AD hx (by assumption) fun h' tk' e hx'=>?_) | wp_step))
 obtain ⟨⟨oc,od,odt,osl⟩,vs,ge,ce,_,_⟩:=hx'.there
 dsimp only at ce
 subst ce
 repeat (any_goals (first | assumption | wp_step))
 exact hQ _ _ _ hx'
theorem lQ:entryFor table "dict.update.loop" = some Builtin.«dict.update.loop» := entryFor_of_tree (by kernel_rfl)
theorem hV:plainId "dict.update.loop" = true:=by decide +kernel
section
variable {R:Result->Shared->Prop} {I:Addr} {fp wr:Xb} {G:Array GenState->Array GenState->Prop} {n:Nat} {P:Nat->Value->Prop} {St:Nat->Shared->Prop}
theorem loop (W:WalksS prog w A.in1 I fp wr G n P St) (d:Addr) (hdf:d ∉ fp) (h0:Heap) (kv:Nat->Key×Value)
  (hP:∀ i v,P i v->∃ p m sl kx,v=.ref p/\h0.get? p=some { cls:=.type "tuple",dict:=none,data:=.seq #[kx,(kv i).2] m,slots:=sl }/\(aX prog w).is (kv i).1 kx=true/\p ∉ d :: wr) (hb:n<=sizeLine) :
  ∀ (k i:Nat) (s:Shared),n - i=k->i<=n->St i s->(∀ b o,b ∉ d :: wr->h0.get? b=some o->s.heap.get? b=some o)->s.heap.DictOf (aX prog w) d (merged [] ((List.range i).map kv)) →
   (∀ s',Moved (d :: wr) G s s'->s'.heap.DictOf (aX prog w) d (merged [] ((List.range n).map kv))->R (.ok (.ret .none)) s') →
   codeAny (model prog w) A (.builtin "dict.update.loop" ⟨[.ref d,.ref I,rawInt i,.none],[]⟩) R s:=by
 have hSw:d ∉ wr:=fun h=>hdf (W.sub _ h)
 have hsub:∀ b∈wr,b∈d :: wr:=fun b hb=>Zx _ hb
 intro k
 induction k with
 | zero =>
  intro i s hk hi hst hh hS hR
  have hin:i=n:=by lia
  subst hin
  refine XC lQ ?_
  rw [Xw hV _]
  show wpAny _ A.in1 (pyNext (.ref I) >>= _) _ _ s
  refine Zy (W.done s _ _ hst fun s' hm=>?_)
  show wpAny _ A.in1 (Builtin.Dict.addKeywords d [] >>= fun _=>ret Value.none) _ _ s'
  refine Zy (Zs ?_)
  exact Zs (hR s' (hm.mono hsub) (by
   obtain ⟨o,es,ep,ho,rest⟩:=hS
   exact ⟨o,es,ep,hm.heap d _ hSw ho,rest⟩))
 | succ k ih =>
  intro i s hk hi hst hh hS hR
  have hlt:i < n:=by omega
  refine XC lQ ?_
  rw [Xw hV _]
  show wpAny _ A.in1 (pyNext (.ref I) >>= _) _ _ s
  refine Zy (W.item i s _ _ hlt hst fun v s' hPv hst' hm=>?_)
  obtain ⟨p,m,sl,kx,rfl,hp,hkx,hpn⟩:=hP i v hPv
  have hp':s'.heap.get? p=some { cls:=.type "tuple",dict:=none,data:=.seq #[kx,(kv i).2] m,slots:=sl }:=hm.heap p _ (fun z=>hpn (hsub p z)) (hh p _ hpn hp)
  have hS':s'.heap.DictOf (aX prog w) d (merged [] ((List.range i).map kv)):=by
   obtain ⟨o,es,ep,ho,rest⟩:=hS
   exact ⟨o,es,ep,hm.heap d _ hSw ho,rest⟩
  show wpAny _ A.in1 (holding [Value.ref p] _ >>= _) _ _ s'
  refine Zy (YS ?_)
  have ty:s'.TypeIs (.ref p) "tuple" := ⟨_,hp',rfl⟩
  refine Zy (thn (Q:=fun r s2=>r=[kx,(kv i).2]/\s2=s') ?pair fun r s2 hr=>?rest)
  case pair =>
   refine X7 ?_
   unfold Builtin.Dict.pairItems
   repeat (any_goals (first | assumption | wp_step))
   exact ⟨rfl,rfl⟩
  case rest =>
   obtain ⟨rfl,rfl⟩:=hr
   dsimp only
   refine YS ?_
   refine wpAny_dictSet_pairs hkx hS' (fun h' dd sb=>?_) (by have:=merged_length_le (K:=Key) [] ((List.range i).map kv);simp at this;lia)
   have e1:((i:Int)+1)=((i+1:Nat):Int):=by lia
   rw [e1]
   have dd':h'.DictOf (aX prog w) d (merged [] ((List.range (i+1)).map kv)):=by
    rw [List.range_succ,Yv,show merged ([]:List (Key×Value)) ((List.range i).map kv++[i].map kv)=stored (merged [] ((List.range i).map kv)) (kv i).1 (kv i).2 by unfold merged;rw [List.foldl_append];rfl]
    exact dd
   refine Zs ⟨Wm hV _,ih (i+1) _ (by omega) hlt (W.frame _ s2 _ _ hst' (Nat.le_succ _) fun b hb o e=>?_) (fun b o hb e=>?_) dd' fun s'' hm'' hS''=>?_⟩
   ·rw [sb.2 b (fun h:b=d=>hdf (by rw [← h];exact hb))];exact e
   ·rw [sb.2 b (fun h:b=d=>hb (by rw [h];exact Zw))]
    exact hm.heap b _ (fun z=>hb (hsub b z)) (hh b o hb e)
   ·refine hR s'' (Moved.trans W.gtrans ((hm.mono hsub).then_heap (Nat.le_succ _) fun b o hb e=>?_) hm'') hS''
    rw [sb.2 b (fun h:b=d=>hb (by rw [h];exact Zw))];exact e
end
end DP
end
section
namespace DP
open PySem PySem.Spec PyProof.Rows L2
variable {prog:Program} {w:World} {A:Around} {E:Z8} {s:Shared}
theorem lN:mroOf (.type "dict")=pure [.type "dict",.type "object"]:=by rw [mroOf_type];kernel_rfl
theorem kZ:typeLookup (.type "dict") "__new__" = pure (some (.builtin "dict.__new__")):=by rw [typeLookup_type,builtinLookup_eq_fast];kernel_rfl
theorem pO:TypeCalled "dict" "dict.__new__" "dict.__init__" :=
 ⟨by decide +kernel,by decide +kernel,⟨_,_,lN⟩,madeBy_type lN kZ (by decide +kernel),by decide +kernel,by rw [isSubtype_type];kernel_rfl,F.slot_dict_init⟩
theorem lg (a:Value):checkTypeCall "dict" ⟨[a],[]⟩=pure ():=by kernel_rfl
theorem mI (a:Value):checkBuiltinCall "dict.__new__" ⟨[.type "dict",a],[]⟩=pure ():=by kernel_rfl
theorem lS:entryFor table "dict.__new__" = some Builtin.«dict.__new__» := entryFor_of_tree (by kernel_rfl)
theorem iZ:plainId "dict.__new__" = true:=by decide +kernel
theorem mZ:isSubtype (.type "dict") (.type "dict")=pure true:=by rw [isSubtype_type];kernel_rfl
theorem mV (a:Value) {Q₁:Z8} (h:Q₁ (.ref s.heap.objs.size) { s with heap:=s.heap.push { cls:=.type "dict",data:=.dict #[] } }) :
  codeAny (model prog w) A (.call (.builtin "dict.__new__") ⟨[.type "dict",a],[]⟩) (wants Q₁ E) s:=by
 refine codeAny_of_tree (Zy (m:=checkBuiltinCall "dict.__new__" ⟨[.type "dict",a],[]⟩) (wpAny_of_eq (mI a) (Zs ⟨Wm iZ _,XC lS ?_⟩)))
 rw [Xw iZ]
 have own:=mZ
 have mro:=lN
 cases s
 unfold Builtin.«dict.__new__»
 wp_walk
 exact h
theorem u5 {a:Addr} {its:Array Value} {m0:Nat} {sl0:Array (Vt)} {kv:Nat->Key×Value} {Q:Z8} (hh:A.handled=none) (ht:s.heap.get? a=some { cls:=.type "tuple",dict:=none,data:=.seq its m0,slots:=sl0 }) (hz:its.size<=sizeLine)
  (hp:∀ (i:Nat) (v:Value),its[i]?=some v->∃ p m sl kx,v=.ref p/\s.heap.get? p=some { cls:=.type "tuple",dict:=none,data:=.seq #[kx,(kv i).2] m,slots:=sl }/\(aX prog w).is (kv i).1 kx=true)
  (h:∀ (h':Heap) (tk:Nat),h'.DictOf (aX prog w) s.heap.objs.size (merged [] ((List.range its.size).map kv))->(∀ b o,s.heap.get? b=some o->h'.get? b=some o)->Q (.ref s.heap.objs.size) { s with heap:=h',toks:=tk }) :
  wpAny (model prog w) A (call (.type "dict") [.ref a]) Q E s:=by
 refine callType_codes (Q₁:=fun obj s₁=>obj=.ref s.heap.objs.size/\s₁={ s with heap:=s.heap.push { cls:=.type "dict",data:=.dict #[] } }) pO (lg _) F.entry_dict_init (mV _ ⟨rfl,rfl⟩) fun obj s₁ hq=>?_
 obtain ⟨rfl,rfl⟩:=hq
 have ty:Shared.TypeIs { s with heap:=s.heap.push { cls:=.type "dict",data:=.dict #[] } } (.ref s.heap.objs.size) "dict" := ⟨_,ZU _ rfl,rfl⟩
 refine ⟨ty,F.args_dict_init_2 _ _,?_⟩
 obtain ⟨hp0,g,d,tk,os⟩:=s
 have at1:=Zi { cls:=.type "dict",data:=.dict #[] } ht
 unfold Builtin.«dict.__init__» Builtin.Dict.updateCommon Builtin.Dict.updateFrom
 generalize eP:pyIter=itr
 generalize eG:getAttr?=ga
 repeat (any_goals (first | assumption | wp_step))
 subst eG
 dsimp only at *
 refine uF at1 (by simp [hh]) fun h1 tk1 e ne=>?_
 simp only [Option.isNone_none,if_true]
 refine Zy (Xi ?_)
 subst eP
 have at2:=ne.keeps _ _ at1
 have dat:=ne.keeps hp0.objs.size { cls:=.type "dict",data:=.dict #[] } (ZU _ rfl)
 have dlt:=ZZ dat
 have lt0:∀ {b:Addr} {o:Obj},hp0.get? b=some o->b < hp0.objs.size:=fun e=>ZZ e
 have kp1:∀ b o,hp0.get? b=some o->h1.get? b=some o:=fun b o e=>ne.keeps _ _ (Zi _ e)
 have tup:h1.IsTuple a its:=⟨_,at2,rfl,m0,rfl⟩
 refine Zy (wpAny_pyIter_tuple tup (Zs ⟨Wm hV _,?_⟩))
 have alt:=lt0 ht
 have D0:(h1.push { cls:=.type "tuple_iterator",data:=.fields #[.ref a,.int 0 0] }).DictOf (aX prog w) hp0.objs.size (merged [] ((List.range 0).map kv)):=by
  obtain ⟨o,es,ep,ho,rest⟩:=(Heap.DictOf.new (knd:=aX prog w) hp0)
  exact ⟨o,es,ep,Zi _ (ne.keeps _ _ ho),rest⟩
 refine loop (A:=A.in1) ((Walks.tuple (by simp [hh]) h1.objs.size a (ZR (Wo alt dlt)) its).toS) hp0.objs.size (by simp only [Zo,XZ,or_false,not_or];exact ⟨ZR dlt,W9 alt⟩) hp0 kv (fun i v hv=>?_) hz its.size 0 _ (by lia) (ZS _) ?_ (fun b o hb e=>Zi _ (kp1 b o e)) D0 fun s' mv dd=>?_
 ·obtain ⟨p,m,sl,kx,rfl,g1,g2⟩:=hp i v hv
  have:=lt0 g1
  exact ⟨p,m,sl,kx,rfl,g1,g2,by simp only [Zo,XZ,or_false,not_or];exact ⟨ZR this,ZR (Wo this dlt)⟩⟩
 ·exact ⟨⟨_,ZU _ rfl,rfl,rfl⟩,tup.push _⟩
 ·obtain ⟨h',g',d',tk',os'⟩:=s'
  have e1:g'=g:=mv.gens
  have e2:d'=d:=mv.drawn
  have e3:os'=os:=mv.os
  subst e1 e2 e3
  refine ⟨rfl,h h' tk' dd fun b o e=>mv.heap b o (fun hin=>?_) (Zi _ (kp1 b o e))⟩
  have:=lt0 e
  simp only [Zo,XZ,or_false] at hin
  rcases hin with q | q
  ·exact ZR this q
  ·exact ZR (Wo this dlt) q
end DP
end
section
namespace L2
open PySem PySem.Spec PyProof.Rows
section
variable {X:Cx}
noncomputable abbrev DPr:=Addr×Key×V
theorem yR {pins:Yo} {σ:St} {H:Hp} {s:Shared} (I:Inv X pins σ H s) {q:DPr} (h:H q.1=some (.tup [kV q.2.1,q.2.2])):∃ vx m sl kx,RelV q.2.2 vx/\s.heap.get? q.1=some { cls:=.type "tuple",dict:=none,data:=.seq #[kx,vx] m,slots:=sl }/\(aX X.prog X.w).is q.2.1 kx=true:=by
 obtain ⟨_,its,rv,nd,⟨oc,od,odt,osl⟩,g,gc,n,gd⟩:=(show br X.prog X.w H s.heap q.1 (.tup [kV q.2.1,q.2.2]) from I.hok _ _ h)
 have hd:=nd _ g
 dsimp only at gc gd hd
 subst gc gd hd
 obtain ⟨kx,vx,rfl,r1,r2⟩:=vals2 rv
 exact ⟨vx,n,osl,kx,r2,g,kT r1⟩
theorem o6 {pins:Yo} {σ:St} {H:Hp} {s:Shared} (I:Inv X pins σ H s):∀ (ps:List DPr),(∀ q∈ps,H q.1=some (.tup [kV q.2.1,q.2.2])) →
  ∃ kvs:List (Key×Value),Paired (fun (q:DPr) (kv:Key×Value)=>q.2.1=kv.1/\RelV q.2.2 kv.2/\∃ m sl kx,s.heap.get? q.1=some { cls:=.type "tuple",dict:=none,data:=.seq #[kx,kv.2] m,slots:=sl }/\(aX X.prog X.w).is kv.1 kx=true) ps kvs
 | [],_=>⟨[],.nil⟩
 | q :: ps,h=>by
  obtain ⟨vx,m,sl,kx,r,g,k⟩:=yR I (h q Zw)
  obtain ⟨kvs,p⟩:=o6 I ps fun x hx=>h x (Zx _ hx)
  exact ⟨(q.2.1,vx) :: kvs,.cons ⟨rfl,r,m,sl,kx,g,k⟩ p⟩
theorem nr {R:DPr->Key×Value->Prop} (hR:∀ q kv,R q kv->q.2.1=kv.1/\RelV q.2.2 kv.2):∀ {ps:List DPr} {kvs:List (Key×Value)},Paired R ps kvs->∀ {a:List (Key×V)} {b:List (Key×Value)},KV a b->KV (ps.foldl (fun acc q=>putK acc q.2.1 q.2.2) a) (merged b kvs)
 | _,_,.nil,_,_,r=>r
 | _,_,.cons (a:=q) (b:=kv) h t,a,b,r=>by
  obtain ⟨e1,e2⟩:=hR _ _ h
  have:=nr hR t (r.put kv.1 e2)
  simp only [XM,merged]
  rw [e1]
  exact this
theorem qx:∀ (ps:List DPr) (a:List (Key×V)),(ps.foldl (fun acc q=>putK acc q.2.1 q.2.2) a).length<=a.length+ps.length
 | [],a=>Zp _
 | q :: ps,a=>by
  have h1:=qx ps (putK a q.2.1 q.2.2)
  have h2:=ft a q.2.1 q.2.2
  simp only [XM,Zj]
  lia
theorem Paired.at_ {α β:Type} {R:α->β->Prop}:∀ {l:List α} {m:List β},Paired R l m->∀ (i:Nat) {a:α},l[i]?=some a->∃ b,m[i]?=some b/\R a b
 | _,_,.nil,i,a,h=>by simp at h
 | _,_,.cons r t,0,a,h=>by simp at h;subst h;exact ⟨_,rfl,r⟩
 | _,_,.cons r t,i+1,a,h=>by simpa using Paired.at_ t i (by simpa using h)
theorem rH (hc:X.calm=true):fj X (.type "dict") (fun xs H Q=>∃ (p:Addr) (ps:List DPr),xs=[.ref p]/\H p=some (.tup (ps.map fun q=>V.ref q.1))/\(∀ q∈ps,H q.1=some (.tup [kV q.2.1,q.2.2])) ∧
  ∀ l,H l=none->Q (.ref l) (upd H l (.dK (ps.foldl (fun acc q=>putK acc q.2.1 q.2.2) [])))):=by
 intro pins s σ H xs us Q I rx h
 obtain ⟨p,ps,rfl,hp,hq,q⟩:=h
 obtain ⟨u,rfl,ru⟩:=rx.one
 cases ru
 obtain ⟨hz,its,rv,nd,⟨oc,od,odt,osl⟩,g,gc,n,gd⟩:=(show br X.prog X.w H s.heap p (.tup (ps.map fun q=>V.ref q.1)) from I.hok _ _ hp)
 have hd:=nd _ g
 dsimp only at gc gd hd
 subst gc gd hd
 obtain ⟨kvs,pr⟩:=o6 I ps hq
 have l1:its.length=ps.length:=by have:=rv.length;simpa using this.symm
 have l2:kvs.length=ps.length:=pr.length.symm
 rw [Zv] at hz
 have hkv:(List.range its.toArray.size).map (fun i=>(kvs[i]?).getD (.inl 0,.none))=kvs:=by
  apply Vw
  intro i
  rw [ZC]
  by_cases hi:i < kvs.length
  ·rw [List.getElem?_range (by simp;lia),Zb hi]
   simp [hi]
  ·rw [Xm (by simp;lia),Xm (by exact Xz hi)]
   rfl
 refine DP.u5 (kv:=fun i=>(kvs[i]?).getD (.inl 0,.none)) (I.ok.hd hc) g (by simp;lia) (fun i v hv=>?_) fun h' tk dd kp=>?_
 ·rw [X0] at hv
  have hi:i < ps.length:=by have:=(ZX.mp hv).1;lia
  obtain ⟨w,e1,e2⟩:=Paired.at_ rv i (a:=V.ref ps[i].1) (by rw [ZC,Zb hi];rfl)
  rw [hv] at e1
  cases e1
  obtain ⟨kv,e3,e4,_,m,sl,kx,g1,g2⟩:=Paired.at_ pr i (Zb hi)
  rw [e3]
  exact ⟨ps[i].1,m,sl,kx,e2,g1,g2⟩
 ·rw [hkv] at dd
  have rel:=nr (fun _ _ h=>⟨h.1,h.2.1⟩) pr (.nil:KV [] [])
  have ln:=qx ps []
  exact ⟨.ref s.heap.objs.size,_,I.laid (t':=tk) kp (Zp _) (oA (by simp at ln;exact ZV ln hz) (beq_eq_false_iff_ne.mpr (YG (ZR I.big))) rel dd),rfl,q _ (I.hok.fresh (Zp _))⟩
end
end L2
end
section
namespace VS
open PySem PySem.Spec PyProof.Rows L2
noncomputable def oH:Vg->Option (List (T×T))
 | []=>some []
 | .tup [k,v] :: r=>if gP k/\imm v then (oH r).map ((k,v) :: ·) else none
 | _=>none
noncomputable def jG:Vi->Vh
 | [(_,.tup l)]=>(oH l).map fun ps=>(.fr,.dct 0 (ps.foldl (fun d q=>dput d q.1 q.2) []))
 | _=>none
section
variable {G:Gx} {X:Cx} {e:Expr} {cs:Exs} {p pos:Pos}
theorem zP {t:T} {l:Vg} {ps:List (T×T)} (h:oH (t :: l)=some ps):∃ k v qs,t=.tup [k,v]/\gP k=true/\imm v=true/\oH l=some qs/\ps=(k,v) :: qs:=by
 unfold oH at h
 split at h
 ·rename_i hh
  cases hh
 ·rename_i k v r hh
  cases hh
  split at h
  ·rename_i c
   obtain ⟨qs,e1,e2⟩:=Zl.mp h
   exact ⟨k,v,qs,rfl,c.1,c.2,e1,e2.symm⟩
  ·cases h
 ·cases h
theorem ph {H:Hp}:∀ {ts:Vg} {ws:List V} {Gs:Yg} {qs:List (T×T)},RpL G H ws ts Gs->oH ts=some qs →
  ∃ ps:List DPr,ws=ps.map (fun q=>V.ref q.1)/\(∀ q∈ps,H q.1=some (.tup [kV q.2.1,q.2.2]))/\Paired (fun (q:DPr) (x:T×T)=>x.1=aR q.2.1/\Rp G H q.2.2 x.2 []) ps qs
 | [],_,_,qs,r,h=>by
  cases r
  cases (show some ([]:List (T×T))=some qs from h)
  exact ⟨[],rfl,fun q hq=>by simp at hq,.nil⟩
 | t :: ts,_,_,qs,r,h=>by
  obtain ⟨k,v,qs',rfl,hk,hv,h2,rfl⟩:=zP h
  cases r with
  | cons r1 r2 =>
   obtain ⟨ps,e1,e2,e3⟩:=ph r2 h2
   obtain ⟨b,vs,Fs,rfl,hb,q⟩:=Rp.tup_inv' r1
   cases q with
   | cons rk q =>
    cases q with
    | cons rv q =>
     cases q
     obtain ⟨kk,rfl,ek⟩:=fX rk hk
     have ei:=rv.imm hv
     subst ei
     refine ⟨(b,kk,_) :: ps,by rw [e1];rfl,fun x hx=>?_,.cons ⟨ek,rv⟩ e3⟩
     rcases Zo.mp hx with rfl | hx
     ·exact hb
     ·exact e2 x hx
theorem qP {H:Hp}:∀ {ps:List DPr} {qs:List (T×T)},Paired (fun (q:DPr) (x:T×T)=>x.1=aR q.2.1/\Rp G H q.2.2 x.2 []) ps qs->∀ {ns:List Key} {vs:List V} {ts:Vg} {Fs:Yg},ns.length=vs.length->RpL G H vs ts Fs->Fs.flatten=[] →
  ∃ (ns':List Key) (vs':List V) (ts':Vg) (Fs':Yg),ps.foldl (fun acc q=>putK acc q.2.1 q.2.2) (ns.zip vs)=ns'.zip vs'/\qs.foldl (fun d q=>dput d q.1 q.2) ((ns.map aR).zip ts)=(ns'.map aR).zip ts'/\ns'.length=vs'.length/\RpL G H vs' ts' Fs'/\Fs'.flatten=[]
 | _,_,.nil,ns,vs,ts,Fs,hl,r,hF=>⟨ns,vs,ts,Fs,rfl,rfl,hl,r,hF⟩
 | _,_,.cons (a:=q) (b:=x) h t,ns,vs,ts,Fs,hl,r,hF=>by
  obtain ⟨ks',vs',ts',Fs',q1,q2,q3,q4,q5⟩:=oU (kk:=q.2.1) h.2 hl r
  rw [hF] at q5
  have hF':Fs'.flatten=[]:=List.sublist_nil.mp q5
  obtain ⟨n2,v2,t2,F2,a1,a2,a3,a4,a5⟩:=qP t q2 q4 hF'
  refine ⟨n2,v2,t2,F2,?_,?_,a3,a4,a5⟩
  ·rw [XM,q1];exact a1
  ·rw [XM,h.1,q3];exact a2
theorem yt:iE G (fun xs H Q=>∃ (p:Addr) (ps:List DPr),xs=[.ref p]/\H p=some (.tup (ps.map fun q=>V.ref q.1))/\(∀ q∈ps,H q.1=some (.tup [kV q.2.1,q.2.2])) ∧
  ∀ l,H l=none->Q (.ref l) (upd H l (.dK (ps.foldl (fun acc q=>putK acc q.2.1 q.2.2) [])))) jG:=by
 intro Φ η H0 H l vs Fs m t Q A e k
 unfold jG at e
 split at e
 ·rename_i mx ts
  obtain ⟨qs,e1,e2⟩:=Zl.mp e
  cases e2
  obtain ⟨v,F,rfl,rfl,r⟩:=(show RpL G H vs [.tup ts] Fs from A.rp).one
  obtain ⟨b,ws,Gs,rfl,hb,q⟩:=Rp.tup_inv' r
  obtain ⟨ps,rfl,hps,pr⟩:=ph q e1
  refine ⟨b,ps,rfl,hb,hps,fun l hl=>?_⟩
  obtain ⟨ns,us,ts',Fs',a1,a2,a3,a4,a5⟩:=qP pr (ns:=[]) (vs:=[]) (ts:=[]) (Fs:=[]) rfl .nil rfl
  have a1':ps.foldl (fun acc q=>putK acc q.2.1 q.2.2) []=ns.zip us:=a1
  have a2':qs.foldl (fun d q=>dput d q.1 q.2) []=(ns.map aR).zip ts':=a2
  rw [a1']
  have sm:aW H (upd H l (.dK (ns.zip us))):=cJ hl
  refine k _ _ (l :: Fs'.flatten) sm (by rw [a2'];exact .dct aK a3 (a4.same sm)) ?_
  rw [a5]
  exact Fp.new (A.same.free hl) (by simp) Fp.nil
 ·cases e
theorem Ae:bootBuiltins ("dict" : Str)=some (.type "dict"):=by decide +kernel
theorem AE (hm:X.mg "dict" = none) (ha:PVs G X [e] cs) (hg:Gl X "dict" := by rfl) (hc:X.calm=true:=by rfl) (he:starEach [e] X.env=(false,eval e X.env) :: starEach [] X.env:=by rfl):PV G X (.Call (.Name "dict" p) [e] [] pos) (eN jG cs) :=
 kj (rH hc) yt hg hm Ae ha (he:=he) (hpl:=rfl)
@[simp] noncomputable def Gk:Vi->Vh
 | [(_,.int i)]=>some (.fr,.int i)
 | [(_,.bl b)]=>some (.fr,.int (if b then 1 else 0))
 | _=>none
end
end VS
end
section
namespace L2
open PySem PySem.Spec PyProof.Rows
end L2
namespace VS
open PySem PySem.Spec PyProof.Rows L2
noncomputable def sca:T->Bool
 | .non=>true
 | .bl _=>true
 | .int _=>true
 | .str _=>true
 | _=>false
theorem AJ {G:Gx} {H H':Hp} {v:V} {t:T} {F:Xb} (h:sca t=true) (r:Rp G H v t F):F=[]/\Rp G H' v t []:=by
 cases r with
 | non=>exact ⟨rfl,.non⟩
 | bl b=>exact ⟨rfl,.bl b⟩
 | int i=>exact ⟨rfl,.int i⟩
 | str s ok=>exact ⟨rfl,.str s ok⟩
 | _=>cases h
end VS
end
section
namespace L2
open PySem PySem.Spec PyProof.Rows
noncomputable def pick {α:Type} (l:List α) (is:Vm):List α:=is.filterMap (l[·]?)
noncomputable def i8 {α:Type} (l:List α) (lo hi st:Option Int):List α:=pick l (sliceRange (sliceBounds lo hi st l.length).1 (sliceBounds lo hi st l.length).2.1 (sliceBounds lo hi st l.length).2.2)
theorem yC {α β:Type} (f:α->β) (l:List α) (is:Vm):pick (l.map f) is=(pick l is).map f:=by
 unfold pick
 rw [List.map_filterMap]
 congr 1
 funext i
 rw [ZC]
theorem qE {α β:Type} (f:α->β) (l:List α) (lo hi st:Option Int):i8 (l.map f) lo hi st=(i8 l lo hi st).map f:=by
 unfold i8
 rw [Zv,yC]
theorem xF {α:Type} (l:List α) (lo hi st:Option Int):(i8 l lo hi st).length<=l.length:=by
 have h:=slicePick_size_le (l.map fun _=>Value.none).toArray lo hi st
 have e:(slicePick (l.map fun _=>Value.none).toArray lo hi st).size=(i8 (l.map fun _=>Value.none) lo hi st).length:=by
  unfold slicePick i8 pick
  simp only [Zd,X0]
 rw [e,qE,Zv,Zd,Zv] at h
 exact h
theorem uf {xs:List V} {us:X1} (r:aU xs us) (is:Vm):aU (pick xs is) (pick us is):=by
 induction is with
 | nil=>exact .nil
 | cons i is ih =>
  unfold pick at ih ⊢
  rw [Yj,Yj]
  cases hx:xs[i]? with
  | none =>
   have:us[i]?=none:=by
    rw [YK] at hx ⊢
    rw [← r.length]
    exact hx
   rw [this]
   exact ih
  | some x =>
   obtain ⟨u,hu,ru⟩:=r.get hx
   rw [hu]
   exact .cons ru ih
section
variable {X:Cx} {e st:Expr} {lo hi:Option Expr} {te:TE} {tl th ts:TO} {pos p2:Pos}
noncomputable def Ei (X:Cx) (r:V->Option Int->Option Int->Option Int->Hp->VK->Prop):Prop :=
 ∀ (pins:Yo) (s:Shared) (σ:St) (H:Hp) (x:V) (v vl vu vs:Value) (lo hi st:Option Int) (sl:Addr) (Q:VK),Inv X pins σ H s->RelV x v->s.heap.IsSliceOf sl vl vu vs->IsPart vl lo->IsPart vu hi->IsPart vs st->r x lo hi st H Q →
  ∃ T id,typeLookup (.type T) "__getitem__" = pure (some (.builtin id))/\s.TypeIs v T/\wpAny (model X.prog X.w) X.A (getItem v (.ref sl)) (EP X pins σ Q) X.xe s
noncomputable def FO (r:V->Option Int->Option Int->Option Int->Hp->VK->Prop) (te:TE) (tl th ts:TO):TE:=fun σ H Q=>te σ H fun x H1=>tl σ H1 fun l H2=>th σ H2 fun u H3=>ts σ H3 fun c H4=>r x l u c H4 Q
theorem ug {r:V->Option Int->Option Int->Option Int->Hp->VK->Prop} (hr:Ei X r) (he:PE X e te) (hl:PO X lo tl) (hu:PO X hi th) (hs:PO X (some st) ts):PE X (.Subscript e (.Slice lo hi (some st) p2) pos) (FO r te tl th ts):=by
 intro pins s σ H Q I h
 refine Subscript_ (thn (he pins s σ H _ I h) fun v s1 ⟨x,H1,I1,r1,q1⟩=>?_)
 refine wpAny_Slice (thn (hl pins s1 σ H1 _ I1 q1) fun vl s2 ⟨l,H2,I2,pl,q2⟩=>thn (hu pins s2 σ H2 _ I2 q2) fun vu s3 ⟨u,H3,I3,pu,q3⟩=>thn (hs pins s3 σ H3 _ I3 q3) fun vs s4 ⟨c,H4,I4,ps,q4⟩=>?_)
 have I5:Inv X pins σ H4 { s4 with heap:=s4.heap.push { cls:=.type "slice",data:=.fields #[vl,vu,vs] } }:=I4.kept (t':=s4.toks) fun b ob q=>Zi _ q
 obtain ⟨T,id,hT,ht,hg⟩:=hr pins { s4 with heap:=s4.heap.push { cls:=.type "slice",data:=.fields #[vl,vu,vs] } } σ H4 x v vl vu vs l u c s4.heap.objs.size Q I5 r1 (Heap.IsSliceOf.new ..) pl pu ps q4
 show wpAny (model X.prog X.w) X.A (subscriptTail e (.Slice lo hi (some st) p2) v (.ref s4.heap.objs.size)) (EP X pins σ Q) X.xe { s4 with heap:=s4.heap.push { cls:=.type "slice",data:=.fields #[vl,vu,vs] } }
 exact tail_any (ops:=[v,.ref s4.heap.objs.size]) ht hT hg (by with_unfolding_all rfl)
noncomputable def DL (K:Y1):V->Option Int->Option Int->Option Int->Hp->VK->Prop:=fun x lo hi st H Q=>∃ a xs,x=.ref a/\SqL K H a xs/\st ≠ some 0/\∀ p,H p=none->Q (.ref p) (upd H p (.lst (i8 xs lo hi st)))
theorem wq:Ei X (DL X.K):=by
 intro pins s σ H x v vl vu vs lo hi st sl Q I rx hs pl pu ps h
 obtain ⟨a,xs,rfl,hx,h0,q⟩:=h
 cases rx
 obtain ⟨its,r,ht,hz⟩:=I.list hx
 have hlen:=r.length
 refine ⟨"list",_,slot_list_getitem.lookup,ht.isList.typeIs,?_⟩
 refine wpAny_getItem_list_slice ht.isList hs pl pu ps h0 ?_ (by rw [Zd] <;> lia)
 have e:slicePick its.toArray lo hi st=(i8 its lo hi st).toArray:=by
  unfold slicePick i8 pick
  simp only [Zd,X0]
 rw [e]
 refine ⟨.ref s.heap.objs.size,_,I.laid (t':=s.toks) (o:=.lst (i8 xs lo hi st)) (fun b ob q=>Zi _ q) (Zp _) ?_,rfl,q _ (I.hok.fresh (Zp _))⟩
 refine ⟨ZV (xF xs lo hi st) hz,_,0,?_,ZU _ rfl⟩
 unfold i8
 rw [← hlen]
 exact uf r _
end
end L2
namespace VS
open PySem PySem.Spec PyProof.Rows L2
section
variable {G:Gx} {X:Cx} {a:Expr} {ca:Ex} {pos:Pos}
noncomputable def sl3 (x:Val) (l h c:Option Int):Vh:=match x with
 | (_,.lst ts)=>if ts.all sca/\c ≠ some 0 then some (.fr,.lst (i8 ts l h c)) else none
 | _=>none
noncomputable def t4 (a:Ex) (lo hi st:Option Ex) (η:VS.Env):Vh:=(a η).bind fun x=>(nj lo η).bind fun l=>(nj hi η).bind fun h=>(nj st η).bind fun c=>sl3 x l h c
theorem Ba {H H':Hp} {vs:List V} {ts:Vg} {Fs:Yg} (r:RpL G H vs ts Fs) (hs:ts.all sca=true) (is:Vm):RpL G H' (pick vs is) (pick ts is) (List.replicate (pick ts is).length []):=by
 induction is with
 | nil=>exact .nil
 | cons i is ih =>
  unfold pick at ih ⊢
  rw [Yj,Yj]
  cases hx:ts[i]? with
  | none =>
   have:vs[i]?=none:=by
    rw [YK] at hx ⊢
    rw [r.len.1]
    exact hx
   rw [this]
   exact ih
  | some t =>
   obtain ⟨v,F,hv,_,rv⟩:=r.get i hx
   rw [hv]
   exact .cons (AJ (Z9.mp hs t (YR hx)) rv).2 ih
theorem yB {st:Expr} {lo hi:Option Expr} {cl ch cs:Option Ex} {p2:Pos} (ha:PV G X a ca) (hl:PVO G X lo cl) (hh:PVO G X hi ch) (hst:PVO G X (some st) cs) (hK:X.K=G.K:=by rfl):PV G X (.Subscript a (.Slice lo hi (some st) p2) pos) (t4 ca cl ch cs) :=
 PE.weak (ug wq ha hl hh hst) fun σ H Q hq=>by
  obtain ⟨Φ,η,m,t,s,e,k⟩:=hq
  unfold t4 at e
  obtain ⟨⟨mx,x⟩,ea,w1⟩:=Zz.mp e
  obtain ⟨l,el,w2⟩:=Zz.mp w1
  obtain ⟨h,eh,w3⟩:=Zz.mp w2
  obtain ⟨c,ec,w4⟩:=Zz.mp w3
  clear e w1 w2 w3
  refine ⟨Φ,η,mx,x,s,ea,fun v H1 F e1 r1 f1=>⟨Φ,η,l,s.same e1,el,fun H2 e2=>⟨Φ,η,h,(s.same e1).same e2,eh,fun H3 e3=>⟨Φ,η,c,((s.same e1).same e2).same e3,ec,fun H4 e4=>?_⟩⟩⟩⟩
  have e04:aW H H4:=((e1.trans e2).trans e3).trans e4
  have r4:=((r1.same e2).same e3).same e4
  unfold sl3 at w4
  split at w4
  ·rename_i m' ts q
   cases q
   split at w4
   ·rename_i hc
    cases w4
    obtain ⟨a',vs,Fs,rfl,rfl,ha',ra⟩:=r4.lst_inv
    refine ⟨a',vs,rfl,by rw [hK];exact SqL.of ha',hc.2,fun p hp=>?_⟩
    have fl:(List.replicate (i8 ts l h c).length ([]:Xb)).flatten=[]:=by simp
    refine k (.ref p) _ (p :: (List.replicate (i8 ts l h c).length ([]:Xb)).flatten) (e04.trans (cJ hp)) (.lst aK ?_) ⟨?_,fun b hb=>?_⟩
    ·have el:vs.length=ts.length:=ra.len.1
     unfold i8
     rw [el]
     exact Ba ra hc.1 _
    ·rw [fl]
     exact ZW.mpr ⟨(fun z=>nomatch z),Wg⟩
    ·rw [fl] at hb
     rw [Zn.mp hb]
     exact e04.free hp
   ·cases w4
  ·cases w4
end
end VS
end
section
namespace L2
open PySem PySem.Spec PyProof.Rows
end L2
namespace VS
open PySem PySem.Spec PyProof.Rows L2
end VS
end
section
namespace ST
open PySem PySem.Spec PyProof.Rows
variable {prog:Program} {w:World} {A:Around} {E:Z8} {s:Shared}
end ST
namespace L2
open PySem PySem.Spec PyProof.Rows TS
end L2
namespace VS
open PySem PySem.Spec PyProof.Rows L2
end VS
end
section
namespace L2
theorem Ga {α:Type} {n:Nat} {us:List α} (hl:us.length=n+1):∃ a t,us=a :: t/\t.length=n:=by
 obtain ⟨a,t,e⟩:=List.exists_cons_of_length_eq_add_one hl
 subst e
 exact ⟨a,t,rfl,Nat.succ.inj hl⟩
theorem mF {α:Type} {us:List α} (hl:us.length=1):∃ a,us=[a]:=List.length_eq_one_iff.mp hl
theorem kM {α:Type} {us:List α} (hl:us.length=2):∃ a b,us=[a,b]:=by
 obtain ⟨a,t,rfl,ht⟩:=Ga hl
 obtain ⟨b,rfl⟩:=mF ht
 exact ⟨a,b,rfl⟩
end L2
end
section
namespace ST
open PySem PySem.Spec PyProof.Rows
variable {prog:Program} {w:World} {A:Around} {E:Z8} {s:Shared}
noncomputable def jA:Vl->Vl->Bool
 | [],[]=>false
 | [],_ :: _=>true
 | _ :: _,[]=>false
 | a :: as,b :: bs=>if a=b then jA as bs else decide (a < b)
theorem zb {x y:Vl} {a b:Addr} {P:PySem.Fin->Shared->Prop} (hx:IsTupleKey (intKind prog w) s.heap x a) (hy:IsTupleKey (intKind prog w) s.heap y b) (h:P (.done (.ret (.bool (jA x y)))) s) :
  wpAny (model prog w) A (Builtin.«tuple.__lt__» ⟨[.ref a,.ref b],[]⟩) P E s:=by
 have hTb:=hy.typeIs
 obtain ⟨oa,xs,na,hoa,_,hda,hia⟩:=hx
 obtain ⟨ob,ys,nb,hob,_,hdb,hib⟩:=hy
 refine (show wpAny _ _ (isInstance (.ref b) (.type "tuple") >>= _) _ _ s from ?_)
 refine Zy (Wq hTb Wt ?_)
 simp only [YD,ZG,if_false]
 refine Zy (XB hoa hda ?_)
 refine Zy (XB hob hdb ?_)
 refine Zy ?_
 refine Xp _
  (fun rest r s'=>r.1=none/\s'=s/\∃ x' y' xs' ys',rest=List.zip xs' ys'/\ItemsAre (intKind prog w) x' xs'/\ItemsAre (intKind prog w) y' ys'/\jA x' y'=jA x y/\decide (xs'.length < ys'.length)=decide (xs.size < ys.size))
  _ ?_ ?_ _ _ ⟨rfl,rfl,x,y,xs.toList,ys.toList,rfl,hia,hib,rfl,by simp⟩
 ·rintro ⟨u,v⟩ rest r s' ⟨hr,rfl,x',y',xs',ys',hz,hx',hy',hdec,hlen⟩
  cases hx' with
  | nil=>simp at hz
  | @cons k1 u' x'' xs'' h1 hx'' =>
   cases hy' with
   | nil=>simp at hz
   | @cons k2 v' y'' ys'' h2 hy'' =>
    simp only [ZI,YT,Prod.mk.injEq] at hz
    obtain ⟨⟨rfl,rfl⟩,rfl⟩:=hz
    refine Zy ((intKind prog w).eqBool (a:=k1) (b:=k2) h1 h2 ?_)
    by_cases hk:k1=k2
    ·subst hk
     rw [decide_eq_true rfl]
     simp only [YD,ZG,if_false]
     refine Zs ⟨rfl,rfl,x'',y'',xs'',ys'',rfl,hx'',hy'',?_,by simpa using hlen⟩
     rw [← hdec,jA,Zr rfl]
    ·rw [ZP hk]
     simp only [Bool.not_false,if_true]
     have hf:jA x y=decide (k1 < k2):=by rw [← hdec,jA,Zq hk]
     rw [hf] at h
     obtain ⟨t1,rfl⟩:=Value.isInt_shape (show Value.isInt k1 u=true from h1)
     obtain ⟨t2,rfl⟩:=Value.isInt_shape (show Value.isInt k2 v=true from h2)
     refine Zy (Xi (Zy (richCompare_gives (op:=.Lt) (typeIs_int _ _ t1) (typeIs_int _ _ t2) F.slot_int_lt F.entry_int_lt (F.args_int_lt_2 _ _) (gives_int_lt _ _ t1 t2) (fun x=>nomatch x) ?_)))
     exact Zy (Zs (Zs (Zs h)))
 ·rintro ⟨r1,r2⟩ s' ⟨hr,rfl,x',y',xs',ys',hz,hx',hy',hdec,hlen⟩
  simp only at hr
  subst hr
  refine Zs ?_
  have hfin:decide (xs.size < ys.size)=jA x y:=by
   rw [← hdec,← hlen]
   cases hx' with
   | nil =>
    cases hy' with
    | nil=>rfl
    | cons _ _=>simp [jA]
   | cons _ _ =>
    cases hy' with
    | nil=>simp [jA]
    | cons _ _=>simp at hz
  refine (show P (.done (.ret (.bool (decide (xs.size < ys.size))))) s' from ?_)
  rw [hfin]
  exact h
theorem Es {x y:Vl} {a b:Addr} {Q:Z8} (hu:A.units < cLine) (hx:IsTupleKey (intKind prog w) s.heap x a) (hy:IsTupleKey (intKind prog w) s.heap y b) (h:Q (.bool (jA x y)) s) :
  wpAny (model prog w) A (richCompare .Lt (.ref a) (.ref b)) Q E s :=
 wpAny_richCompare_same_room (op:=.Lt) hx.typeIs hy.typeIs F.slot_tuple_lt (Xo F.slot_tuple_lt hx.typeIs F.entry_tuple_lt (zb hx hy ⟨_,rfl,(fun e=>nomatch e),h⟩) (F.args_tuple_lt_2 _ _)) hu
section
variable {R:Result->Shared->Prop} {I S:Addr} {fp wr:Xb} {n:Nat} {P:Nat->Value->Prop} {St:Nat->Heap->Prop} {K:Heap->Prop} {v0:Value} {kw:List (Str×Value)}
theorem vW (W:Walks prog w A.in1 I fp wr n P St) (hSf:S ∉ fp) (hK:∀ h h',K h->(∀ b o,b ∉ wr->b ≠ S->h.get? b=some o->h'.get? b=some o)->K h')
  (hcmp:∀ (j:Nat) (v:Value) (s:Shared) (Q:Z8) (E:Z8),P (j+1) v->K s.heap->Q (.bool false) s->wpAny (model prog w) A.in1 (richCompare .Lt v v0) Q E s) :
  ∀ (k j:Nat) (s:Shared) (c:Nat),n - (j+1)=k->j+1<=n->St (j+1) s.heap->K s.heap →
  s.heap.get? S=some { cls:=.type "list",dict:=none,data:=.seq #[v0,v0] c,slots:=#[] } →
  (∀ h' tk,(∀ b o,b ∉ wr->b ≠ S->s.heap.get? b=some o->h'.get? b=some o)->R (.ok (.ret v0)) { s with heap:=h',toks:=tk }) →
  codeAny (model prog w) A (.builtin "min.loop" ⟨[.ref I,.none,.ref S],kw⟩) R s:=by
 have hSw:S ∉ wr:=fun h=>hSf (W.sub _ h)
 have hname:(toString "min" ++ toString ".loop" : String) = "min.loop" := by decide
 intro k
 induction k with
 | zero =>
  intro j s c hk hj hst hKs hS hR
  have hin:j+1=n:=by lia
  refine XC F.entry_min_loop ?_
  rw [Xw XI _]
  refine (show wpAny _ A.in1 (seqItems? (.ref S) >>= _) _ _ s from Zy (XT hS rfl ?_))
  refine (show wpAny _ A.in1 (tryCatch (pyNext (.ref I)) _ >>= _) _ _ s from Zy (X7 (W.done s _ _ (hin ▸ hst) fun h' tk hk'=>?_)))
  have hS':=hk' S _ hSw hS
  refine (show wpAny _ A.in1 (updateSeq S (fun _=>#[]) >>= _) _ _ _ from Zy ?_)
  refine wpAny_updateSeq hS' rfl (Zy (WL (Zs ?_)))
  exact hR _ tk fun b o hbw hbS e=>(YI _ _ (YG hbS)).trans (hk' b o hbw e)
 | succ k ih =>
  intro j s c hk hj hst hKs hS hR
  have hlt:j+1 < n:=by omega
  refine XC F.entry_min_loop ?_
  rw [Xw XI _]
  refine (show wpAny _ A.in1 (seqItems? (.ref S) >>= _) _ _ s from Zy (XT hS rfl ?_))
  refine (show wpAny _ A.in1 (tryCatch (pyNext (.ref I)) _ >>= _) _ _ s from Zy (X7 (W.item (j+1) s _ _ hlt hst fun v h' tk hP hst' hk'=>?_)))
  have hS':=hk' S _ hSw hS
  have hK':=hK _ _ hKs fun b o hb _ e=>hk' b o hb e
  refine (show wpAny _ A.in1 (tryCatch (holding [v,v] (richCompare .Lt v v0 >>= _)) _ >>= _) _ _ _ from ?_)
  refine Zy (X7 (YS (Zy (hcmp j v _ _ _ hP hK' ?_))))
  refine Zy (YS (Ye ?_))
  refine Zy (WL (Zs ?_))
  simp only [ZG,if_false]
  refine Zy (WL ?_)
  rw [hname]
  refine Zs ⟨Wm XI _,ih (j+1) _ c (by omega) hlt hst' hK' hS' fun h'' tk'' hk''=>?_⟩
  exact hR h'' tk'' fun b o hbw hbS e=>hk'' b o hbw hbS (hk' b o hbw e)
end
theorem uN (a d:Value):argsOk "min" ⟨[a],[(("default" : Str),d)]⟩:=by unfold argsOk;kernel_rfl
theorem um {x:Value} {Q:Z8}
  (h:wpAny (model prog w) A.in1 (pyIter x) (fun it s₂=>∃ I fp wr n P St,it=.ref I/\Walks prog w A.in1 I fp wr n P St/\St 0 s₂.heap/\(∀ b∈fp,b < s₂.heap.objs.size) ∧
   ((n=0/\∀ h' tk,(∀ b o,b ∉ wr->s₂.heap.get? b=some o->h'.get? b=some o)->Q .none { s₂ with heap:=h',toks:=tk }) ∨
    (0 < n/\∀ v0,P 0 v0->(∀ (j:Nat) (v:Value) (s:Shared) (Q:Z8) (E:Z8),P (j+1) v->(∀ b o,b ∉ wr->s₂.heap.get? b=some o->s.heap.get? b=some o)->Q (.bool false) s->wpAny (model prog w) A.in1 (richCompare .Lt v v0) Q E s) ∧
     ∀ h' tk,(∀ b o,b ∉ wr->s₂.heap.get? b=some o->h'.get? b=some o)->Q v0 { s₂ with heap:=h',toks:=tk }))) E s) :
  wpAny (model prog w) A (call (.builtin "min") [x] [(("default" : Str),.none)]) Q E s:=by
 have hname:(toString "min" ++ toString ".loop" : String) = "min.loop" := by decide
 refine wpAny_call (codeAny_call_builtin F.plain_min F.entry_min ?_)
 have ha:=uN x .none
 have hc:wpAny (model prog w) A.in1 (Builtin.«min» ⟨[x],[(("default" : Str),.none)]⟩) (fun fin s'=>match fin with
   | .done f=>(match (Except.ok f:Result) with | .ok (.ret v)=>Q v s' | .ok _=>False | .error e=>E e s')
   | .again c'=>c'.quiet=true/\codeAny (model prog w) A c' (fun r s'=>match r with | .ok (.ret v)=>Q v s' | .ok _=>False | .error e=>E e s') s') E s:=by
  refine (show wpAny _ A.in1 (Builtin.Builtins.bindParams "min" ["key", "default"] 0 ⟨[],[(("default" : Str),.none)]⟩ >>= _) _ _ s from ?_)
  refine Zy (wpAny_of_eq (show Builtin.Builtins.bindParams "min" ["key", "default"] 0 ⟨[],[(("default" : Str),.none)]⟩=pure [none,some .none] from by kernel_rfl) ?_)
  refine Zy (Zs ?_)
  refine Zy (YY h (fun it s₂ h₂=>?_) fun _ _ e=>e)
  obtain ⟨I,fp,wr,n,P,St,rfl,W,hst,hfp,hQ⟩:=h₂
  refine Zy (X8 ?_)
  have hSf:s₂.heap.objs.size ∉ fp:=fun hm=>YH _ (hfp _ hm)
  have hSw:s₂.heap.objs.size ∉ wr:=fun h=>hSf (W.sub _ h)
  have hS:(s₂.heap.push { cls:=.type "list",data:=.seq #[] }).get? s₂.heap.objs.size=some { cls:=.type "list",dict:=none,data:=.seq #[] 0,slots:=#[] }:=ZU _ rfl
  have hst':=W.frame 0 s₂.heap (s₂.heap.push { cls:=.type "list",data:=.seq #[] }) hst fun b _ o e=>Zi _ e
  rw [hname]
  refine Zs ⟨Wm XI _,XC F.entry_min_loop ?_⟩
  rw [Xw XI _]
  refine (show wpAny _ A.in1 (seqItems? (.ref s₂.heap.objs.size) >>= _) _ _ _ from Zy (XT hS rfl ?_))
  rcases hQ with ⟨rfl,hQ⟩ | ⟨hn,hQ⟩
  ·refine (show wpAny _ A.in1 (tryCatch (pyNext (.ref I)) _ >>= _) _ _ _ from Zy (X7 (W.done { s₂ with heap:=s₂.heap.push { cls:=.type "list",data:=.seq #[] } } _ _ hst' fun h' tk hk'=>?_)))
   exact Zy (Xi (Zs (hQ h' tk fun b o hbw e=>hk' b o hbw (Zi _ e))))
  ·refine (show wpAny _ A.in1 (tryCatch (pyNext (.ref I)) _ >>= _) _ _ _ from Zy (X7 (W.item 0 { s₂ with heap:=s₂.heap.push { cls:=.type "list",data:=.seq #[] } } _ _ hn hst' fun v h' tk hP hst1 hk'=>?_)))
   have hS':=hk' _ _ hSw hS
   obtain ⟨hcmp,hQ⟩:=hQ v hP
   refine (show wpAny _ A.in1 (updateSeq s₂.heap.objs.size (fun _=>#[v,v]) >>= _) _ _ _ from Zy ?_)
   refine wpAny_updateSeq hS' rfl ?_
   rw [hname]
   have kp:∀ b o,b ∉ wr->s₂.heap.get? b=some o->(h'.update s₂.heap.objs.size (Obj.mapSeq fun _=>#[v,v])).get? b=some o:=fun b o hbw e =>
    (YI _ _ (YG (ZR (ZZ e)))).trans (hk' b o hbw (Zi _ e))
   refine Zs ⟨Wm XI _,vW (K:=fun h=>∀ b o,b ∉ wr->s₂.heap.get? b=some o->h.get? b=some o) (v0:=v) W hSf (fun h1 h2 k1 k2 b o hb e=>k2 b o hb (ZR (ZZ e)) (k1 b o hb e)) hcmp _ 0 _ _ rfl hn (W.frame _ _ _ hst1 fun b hbf o e=>?_) kp (Wr _ hS' rfl) fun h'' tk'' hk''=>?_⟩
   ·exact (YI _ _ (fun h:s₂.heap.objs.size=b=>hSf (by rw [h];exact hbf))).trans e
   ·exact hQ h'' tk'' fun b o hbw e=>hk'' b o hbw (ZR (ZZ e)) (kp b o hbw e)
 simp only [checkBuiltinCall,F.kind_min]
 cases hsig:Manifest.signature? "min" with
 | none=>exact Zs hc
 | some sig =>
  simp only [argsOk,hsig] at ha
  have h2:Bind.checkArgs "min" sig ⟨[x],[(("default" : Str),.none)]⟩=pure ():=ha
  refine (show wpAny _ A.in1 (Bind.checkArgs "min" sig ⟨[x],[(("default" : Str),.none)]⟩) _ _ s from ?_)
  rw [h2]
  exact Zs hc
end ST
namespace VS
noncomputable def pr2:T->Option (Int×Int)
 | .tup [.int a,.int b]=>some (a,b)
 | _=>none
noncomputable def lR:Vg->Option (List (Int×Int))
 | []=>some []
 | t :: r=>(pr2 t).bind fun p=>(lR r).map (p :: ·)
noncomputable def vR (p q:Int×Int):Bool:=if p.1=q.1 then decide (p.2 < q.2) else decide (p.1 < q.1)
noncomputable def qM:Vi->Vh
 | [(_,.lst l)]=>(lR l).bind fun
  | []=>some (.fr,.non)
  | p :: r=>if r.all (fun q=>!vR q p) then some (.fr,.tup [.int p.1,.int p.2]) else none
 | _=>none
end VS
namespace VS
open PySem PySem.Spec PyProof.Rows L2
section
variable {G:Gx} {X:Cx} {e:Expr} {cs:Exs} {p pos p2 kp:Pos} {kr:Nat} {jj:Nat}
theorem AA {t:T} {p:Int×Int} (h:pr2 t=some p):t=.tup [.int p.1,.int p.2]:=by
 unfold pr2 at h
 split at h
 ·cases h
  rfl
 ·cases h
theorem ze {H:Hp} {v:V} {a b:Int} {F:Xb} (r:Rp G H v (.tup [.int a,.int b]) F):∃ c,v=.ref c/\H c=some (.tup [.int a,.int b]):=by
 obtain ⟨c,us,Gs,rfl,_,hc,rl⟩:=r.tup_inv
 cases rl with
 | cons x1 rl =>
  cases rl with
  | cons x2 rl =>
   cases rl
   rw [x1.int_inv,x2.int_inv] at hc
   exact ⟨c,rfl,hc⟩
theorem Dm {H:Hp} (ts:Vg):∀ {ps:List (Int×Int)} {vs:List V} {Fs:Yg},lR ts=some ps->RpL G H vs ts Fs->∃ as:Xb,vs=as.map V.ref/\Paired (fun (a:Addr) (q:Int×Int)=>H a=some (.tup [.int q.1,.int q.2])) as ps:=by
 induction ts with
 | nil =>
  intro ps vs Fs h r
  cases h
  cases r
  exact ⟨[],rfl,.nil⟩
 | cons t ts ih =>
  intro ps vs Fs h r
  obtain ⟨p,h0,h2⟩:=Zz.mp (show (pr2 t).bind (fun p=>(lR ts).map (p :: ·))=some ps from h)
  obtain ⟨qs,h1,rfl⟩:=Zl.mp h2
  cases r with
  | cons r1 r2 =>
   obtain ⟨as,rfl,q⟩:=ih h1 r2
   rw [AA h0] at r1
   obtain ⟨c,rfl,hc⟩:=ze r1
   exact ⟨c :: as,rfl,.cons hc q⟩
theorem uz {α β:Type} {F:α->β->Prop} {l:List α} {m:List β} (r:Paired F l m):∀ (i:Nat) (a:α),l[i]?=some a->∃ b,m[i]?=some b/\F a b:=by
 induction r with
 | nil=>intro i a h;simp at h
 | @cons x y xs ys h t ih =>
  intro i a e
  cases i with
  | zero=>simp at e;subst e;exact ⟨y,rfl,h⟩
  | succ i=>simpa using ih i a (by simpa using e)
theorem Gh (q p:Int×Int):ST.jA [q.1,q.2] [p.1,p.2]=vR q p:=by
 unfold vR ST.jA ST.jA ST.jA
 by_cases h:q.1=p.1
 ·rw [Zr h,Zr h]
  by_cases g:q.2=p.2
  ·rw [Zr g,ZP (by lia)]
  ·rw [Zq g]
 ·rw [Zq h,Zq h]
theorem CF (hr:Room kr X.A) (hm:X.mg "min" = none) (ha:PVs G X [e] cs) (hg:Gl X "min") (hc:X.calm=true) (hK:X.K=G.K)
  (he:backTo pos (starEach [e] X.env)=(false,eval e X.env) :: backTo pos (starEach [] X.env)) (hpl:(backTo pos (starEach [e] X.env)).any (·.1)=false) :
  PV G X (.Call (.Name "min" p) [e] [⟨some "default",.Constant .none jj p2,kp⟩] pos) (eN qM cs):=by
 intro pins s σ H Q I h
 refine L2.fh fun P_ k_=>?_
 obtain ⟨Φ,η,m,t,sr,e0,kk⟩:=h
 unfold eN at e0
 obtain ⟨l,el,e0⟩:=Zz.mp e0
 refine k_ ?_
 refine XA (jE I hg hm wu ?_ (by decide) rfl)
 refine PyProof.Rows.callWith_kw (thn (ha pos pins s σ H (fun vs H1=>∃ Fs,Args G Φ η H H1 l vs Fs) I ⟨Φ,η,l,sr,el,fun vs H1 Fs q1 q2 q3=>⟨Fs,q1,q2,q3⟩⟩) fun us s1 ⟨vs,H1,I1,r1,Fs,A⟩=>?_) he hpl rfl rfl
 refine thn ((sU (nm:=some "default") (kpos:=kp) (yi (j:=jj) (pos:=p2)) vP) pos pins s1 σ H1 (fun zs H2=>zs=[.non]/\H2=H1) I1 ⟨rfl,rfl⟩) fun ws s2 ⟨zs,H2,I2,rz,ez,eH⟩=>?_
 subst ez eH
 obtain ⟨u,rfl,ru⟩:=rz.one
 obtain rfl:=(show u=Value.none from ru)
 refine (show wpAny (model X.prog X.w) X.A (call (.builtin "min") us [(("default" : Str),Value.none)]) (EP X pins σ Q) X.xe s2 from ?_)
 refine L2.fh fun P_ k_=>?_
 unfold qM at e0
 split at e0
 ·rename_i mx y ap
  obtain ⟨ps,e1,e2⟩:=Zz.mp e0
  obtain ⟨v,F',rfl,rfl,rx⟩:=(show RpL G H2 vs [.lst y] Fs from A.rp).one
  obtain ⟨a',ys,Gs,rfl,rfl,ha',ra⟩:=rx.lst_inv
  obtain ⟨u,rfl,ru⟩:=r1.one
  obtain rfl:=(show u=Value.ref a' from ru)
  obtain ⟨as,rfl,qs⟩:=Dm _ e1 ra
  have hq:SqL X.K H2 a' (as.map V.ref):=by rw [hK];exact SqL.of ha'
  obtain ⟨its,rv,pl,hz⟩:=I2.list hq
  have hl:a' < s2.heap.objs.size:=by obtain ⟨_,e,_⟩:=pl.isList;exact ZZ e
  have hlen:its.length=as.length:=by have:=rv.length;rw [Zv] at this;exact this.symm
  have hpl':ps.length=as.length:=(Wl qs).symm
  have at_:∀ (i:Nat) (v:Value),its.toArray[i]?=some v->∃ a q,v=.ref a/\ps[i]?=some q/\H2 a=some (.tup [.int q.1,.int q.2]):=fun i v hi=>by
   rw [X0] at hi
   have hi':=(ZX.mp hi).1
   have ia:i < as.length:=by lia
   obtain ⟨u,hu,ru⟩:=rv.get (i:=i) (x:=V.ref as[i]) (by rw [ZC,Zb ia];rfl)
   rw [hu] at hi
   cases hi
   obtain ⟨q,hq1,hq2⟩:=uz qs i as[i] (Zb ia)
   exact ⟨as[i],q,ru,hq1,hq2⟩
  have key:∀ {h:Heap} {a:Addr} {q:Int×Int},H2 a=some (.tup [.int q.1,.int q.2])->(∀ b o,b ∉ [s2.heap.objs.size]->(s2.heap.push { cls:=.type "list_iterator",data:=.fields #[.ref a',.int 0 0] }).get? b=some o->h.get? b=some o)->IsTupleKey (intKind X.prog X.w) h [q.1,q.2] a:=fun {h a q} ea kp=>by
   obtain ⟨_,its2,v2,_,o2,g1,g2,n2,g3⟩:=(show br X.prog X.w H2 s2.heap a (.tup [.int q.1,.int q.2]) from I2.hok a _ ea)
   refine ⟨o2,its2.toArray,n2,kp a o2 (fun z=>?_) (Zi _ g1),g2,g3,?_⟩
   ·rw [Zn.mp z] at g1
    exact absurd (ZZ g1) (YH _)
   ·have:=items_int (P:=X.prog) (w:=X.w) (ks:=[q.1,q.2]) v2
    simpa using this
  have hu:X.A.in1.units < cLine:=by have:=hr.un;show X.A.units+1 < cLine;lia
  refine k_ ?_
  refine ST.um (wpAny_pyIter_list pl.isList ⟨s2.heap.objs.size,[s2.heap.objs.size,a'],[s2.heap.objs.size],its.toArray.size,_,_,rfl,Walks.list (A:=X.A.in1) (I2.ok.hd hc) _ a' (ZR hl) its.toArray,
   ⟨⟨_,ZU _ rfl,rfl,rfl⟩,pl.isList.push _⟩,fun b hb=>?_,?_⟩)
  ·rw [Heap.size_push]
   rcases Zo.mp hb with rfl | hb
   ·exact WT _
   ·rw [Zn.mp hb];exact Wc hl
  ·cases ps with
   | nil =>
    cases e2
    refine .inl ⟨by rw [Zd,hlen,← hpl'];rfl,fun h' tk hk=>⟨.non,H2,I2.kept (sT hk),rfl,kk _ _ _ A.same .non Fp.nil⟩⟩
   | cons q0 ps =>
    dsimp only at e2
    split at e2
    ·rename_i hall
     cases e2
     refine .inr ⟨by rw [Zd,hlen,← hpl',Zj];exact Nat.succ_pos _,fun v0 hv0=>?_⟩
     obtain ⟨a0,r0,rfl,h0,ht0⟩:=at_ 0 v0 hv0
     cases h0
     refine ⟨fun j v s' Q' E' hv kp hQ'=>?_,fun h' tk hk=>⟨.ref a0,H2,I2.kept (sT hk),rfl,?_⟩⟩
     ·obtain ⟨aj,rj,rfl,hj,htj⟩:=at_ (j+1) v hv
      refine ST.Es hu (key htj kp) (key ht0 kp) ?_
      have hmem:rj∈ps:=YR (by simpa using hj)
      have:=Z9.mp hall rj hmem
      rw [Gh]
      cases hlt:vR rj q0 with
      | false=>exact hQ'
      | true=>rw [hlt] at this;cases this
     ·exact kk _ _ _ A.same (.tup ht0 (.cons (.int _) (.cons (.int _) .nil))) Fp.nil
    ·cases e2
 ·cases e0
end
structure Q (p:Prop):Prop where h:p
section
variable {G:Gx} {X:Cx} {a b c e tg iter elt:Expr} {es rest:List Expr} {ca cb cc ce:Ex} {cs:Exs} {pos pos' spos p p1 p2 apos cpos tpos:Pos} {k k' n i:Nat} {x:Str} {st:Stmt} {sts:List Stmt} {c1 c2:Sx} {sc:Scope} {N:List Str} {ci:Its} {g:Tg} {elts:List Expr} {ps:List Str}
theorem ae {i j pos}:Q (PV G X (.Constant (.int i) j pos) (eC (.int i))):=⟨DD⟩
theorem gG {i j pos}:Q (PV G X (.Constant (.bool i) j pos) (eC (.bl i))):=⟨EI⟩
theorem mM {j pos}:Q (PV G X (.Constant .none j pos) (eC .non)):=⟨Dp⟩
theorem iQ {x:Str} {t:Tx} {j pos} (h:x=sx t) (hl:jq t):Q (PV G X (.Constant (.str x) j pos) (eC (.str t))):=⟨CC h hl⟩
theorem aa (i:Nat) {x:Str} {pos:Pos} (hN:X.N[i]?=some x) (hv:Vis X.env.scope x) (hd:(x == ("__debug__" : Str))=false) (hcd:(x == ("__classdict__" : Str))=false):Q (PV G X (.Name x pos) (ah i)):=⟨Ce i hN hv hd hcd⟩
theorem af  : Q (PVs G X [] aw):=⟨yQ⟩
theorem ab (ha:Q (PV G X e ca)) (hr:Q (PVs G X es cs)) (hs:starEach (e :: es) X.env=(false,eval e X.env) :: starEach es X.env):Q (PVs G X (e :: es) (ag ca cs)):=⟨xh ha.h hr.h hs⟩
theorem bO (h:Q (PVs G X es cs)):Q (PV G X (.List es pos) (fC cs)):=⟨Dr h.h⟩
theorem iS {x1} (h:Q (PVs G X es cs)):Q (PV G X (.Tuple es x1 pos) (mP cs)):=⟨BM h.h⟩
theorem dU (h:Q (PV G X a ca)) (hK:X.K=G.K) (he:∀ whole,isTrue a X.env whole=(do let v ← whole;standAt a.pos;holding [v] (truthy v))):Q (PVT G X a ca):=⟨yZ h.h hK he⟩
theorem dv (h:Q (PVW G X e ca)):Q (PVT G X e ca):=⟨PVW.pvt h.h⟩
theorem fY (ha:Q (PVT G X a ca)):Q (PVW G X (.BoolOp .And [a] pos) ca):=⟨vE ha.h⟩
theorem ji (ha:Q (PVT G X a ca)):Q (PVW G X (.BoolOp .Or [a] pos) ca):=⟨zU ha.h⟩
theorem fP (ha:Q (PVT G X a ca)) (hb:Q (PVW G X (.BoolOp .And (b :: rest) pos) cb)):Q (PVW G X (.BoolOp .And (a :: b :: rest) pos) (iw ca cb)):=⟨A7 ha.h hb.h⟩
theorem ka (ha:Q (PVT G X a ca)) (hb:Q (PVW G X (.BoolOp .Or (b :: rest) pos) cb)):Q (PVW G X (.BoolOp .Or (a :: b :: rest) pos) (eOr ca cb)):=⟨C4 ha.h hb.h⟩
theorem eU (ha:Q (PVT G X a ca)):Q (PVT G X (.UnaryOp .Not a pos) (gy ca)):=⟨zo ha.h⟩
theorem qD (ha:Q (PV G X a ca)):Q (PV G X (.UnaryOp .Not a pos) (gy ca)):=⟨B0 ha.h⟩
theorem mS {op} (h:Q (PV G X a ca)):Q (PV G X (.BoolOp op [a] pos) ca):=⟨Dw h.h⟩
theorem jX (ha:Q (PV G X a ca)) (hb:Q (PV G X (.BoolOp .And (b :: rest) pos) cb)):Q (PV G X (.BoolOp .And (a :: b :: rest) pos) (iw ca cb)):=⟨Cv ha.h hb.h⟩
theorem Ax (hc:Q (PVT G X c cc)) (ha:Q (PV G X a ca)) (hb:Q (PV G X b cb)):Q (PV G X (.IfExp c a b pos) (eIf cc ca cb)):=⟨El hc.h ha.h hb.h⟩
theorem eX  : Q (PVO G X none none):=⟨vJ⟩
theorem cC (h:Q (PV G X a ca)):Q (PVO G X (some a) (some ca)):=⟨wx h.h⟩
theorem eL {lo hi:Option Expr} {cl ch:Option Ex} {p2:Pos} (ha:Q (PV G X a ca)) (hl:Q (PVO G X lo cl)) (hh:Q (PVO G X hi ch)) (hK:X.K=G.K):Q (PV G X (.Subscript a (.Slice lo hi none p2) pos) (eSl ca cl ch)):=⟨yb ha.h hl.h hh.h hK⟩
theorem bu  : Q (fI G X [] gS):=⟨zd⟩
theorem ak (h1:Q (PSV G X st c1)) (h2:Q (fI G X sts c2)):Q (fI G X (st :: sts) (au c1 c2)):=⟨xa h1.h h2.h⟩
theorem ao (h1:Q (PSV G X st c1)):Q (fI G X [st] c1):=⟨AU h1.h⟩
theorem bE {t:Expr} {ct:Ex} {a b:List Stmt} (hc:Q (PVT G X t ct)) (ha:Q (fI G X a c1)) (hb:Q (fI G X b c2)):Q (PSV G X (.If t a b pos) (sIf ct c1 c2)):=⟨Cc hc.h ha.h hb.h⟩
theorem aP (he:Q (PV G X e ce)):Q (PSV G X (.Return (some e) pos) (dy ce)):=⟨zi he.h⟩
theorem cY (i:Nat) {x:Str} {p:Pos} (hN:X.N[i]?=some x) (hv:Vis X.env.scope x) (hd:(x == ("__debug__" : Str))=false) (hcd:(x == ("__classdict__" : Str))=false):Q (PSV G X (.Return (some (.Name x p)) pos) (gQ i)):=⟨yD i hN hv hd hcd⟩
theorem b5 {i:Nat} {x:Str} {pos':Pos} (he:Q (PV G X e ce)) (hN:X.N.Nodup) (hi:X.N[i]?=some x) (hx:Loc X.env.scope x) (hs:swapsWith e (some (.Name x pos')) pos.line X.env=pure false) (hf:X.fn x=true\/X.env.scope.names.lookup x=some .local):Q (PSV G X (.Assign [.Name x pos'] e pos) (gZ i ce)):=⟨zT he.h hN hi hx hs hf⟩
theorem av {i:Nat} {x:Str} {pos':Pos} (he:Q (PV G X e ce)) (hN:X.N.Nodup) (hi:X.N[i]?=some x) (hx:Loc X.env.scope x) (hs:swapsWith e (some (.Name x pos')) pos.line X.env=pure false) (hf:X.fn x=true\/X.env.scope.names.lookup x=some .local):Q (PSV G X (.Assign [.Name x pos'] e pos) (aQ i ce)):=⟨ya he.h hN hi hx hs hf⟩
theorem kF {c:Sx} (i:Nat) (h:Q (fI G X sts c)):Q (fI G X sts (au (uM i) c)):=⟨yL i h.h⟩
theorem bT (ha:Q (PV G X a ca)) (hg:Gl X "range") (hm:X.mg "range" = none) (hs:starEach [a] X.env=(false,eval a X.env) :: starEach [] X.env) (hs':starEach [a] X.env=[(false,eval a X.env)]):Q (PVI G X tg (.Call (.Name "range" p) [a] [] pos) (cy ca)):=⟨rC ha.h hg hm hs hs'⟩
theorem aC (i:Nat) {x:Str} (hN:X.N.Nodup) (hi:X.N[i]?=some x) (hx:Loc X.env.scope x) (hf:X.fn x=true\/X.env.scope.names.lookup x=some .local):Q (PVG G X (.Name x pos) (aY i)):=⟨vH i hN hi hx hf⟩
theorem ic  : Q (pE G X [] []):=⟨xy⟩
theorem cx {g:Tg} {gs:List Tg} (h1:Q (PVG G X e g)) (h2:Q (pE G X es gs)) (hs:(assignEach (e :: es) X.env).map (·.2)=assign e X.env :: (assignEach es X.env).map (·.2)):Q (pE G X (e :: es) (g :: gs)):=⟨ue h1.h h2.h hs⟩
theorem jm {gs:List Tg} {k:Nat} (hc:X.calm=true) (h:Q (pE G X es gs)) (hn:(assignEach es X.env).length=gs.length) (hst:(assignEach es X.env).findIdx? (·.1)=none) (hK:X.K=G.K):Q (PVG G X (.Tuple es k pos) (j4 gs)):=⟨zR hc h.h hn hst hK⟩
theorem bj {iter:Expr} {body:List Stmt} {ci:Its} {g:Tg} {cb:Sx} (hp:PassesOwn (model X.prog X.w) X.A X.env X.xe) (hc:X.calm=true) (hi:Q (PVI G X tg iter ci)) (hg:Q (PVG G X tg g)) (hb:Q (fI G X body cb)) (hs:∀ x,foldedSetIterable iter X.env x=pure x):Q (PSV G X (.For tg iter body [] pos) (dN g ci cb)):=⟨zh hp hc hi.h hg.h hb.h hs⟩
theorem kE (k:Nat) (N:List Str) (hcalm:X.calm=true) (hi:Q (PVI G X tg iter ci)) (hin:qU k g) (hg:∀ cl C s H fp,Q (PVG G (ba X N sc cl C s H fp) tg g)) (he:∀ cl C s H fp,Q (PV G (ba X N sc cl C s H fp) elt ce)) (hsc:jV X.env sc=true) (hnm:iT sc (N.drop k) X.N=true) (hNl:k<=N.length) (hs:∀ x,foldedSetIterable iter X.env x=pure x):Q (PV G X (.ListComp elt [⟨tg,iter,[],0⟩] sc pos) (dE k g ci none ce)):=⟨Au k N hcalm hi.h hin (fun cl C s H fp=>(hg cl C s H fp).h) (fun cl C s H fp=>(he cl C s H fp).h) hsc hnm hNl hs⟩
theorem kR (k:Nat) (N:List Str) (hcalm:X.calm=true) (hi:Q (PVI G X tg iter ci)) (hin:qU k g) (hg:∀ cl C s H fp,Q (PVG G (ba X N sc cl C s H fp) tg g)) (hc:∀ cl C s H fp,Q (PVT G (ba X N sc cl C s H fp) c cc)) (he:∀ cl C s H fp,Q (PV G (ba X N sc cl C s H fp) elt ce)) (hsc:jV X.env sc=true) (hnm:iT sc (N.drop k) X.N=true) (hNl:k<=N.length) (hs:∀ x,foldedSetIterable iter X.env x=pure x):Q (PV G X (.ListComp elt [⟨tg,iter,[c],0⟩] sc pos) (dE k g ci (some cc) ce)):=⟨uY k N hcalm hi.h hin (fun cl C s H fp=>(hg cl C s H fp).h) (fun cl C s H fp=>(hc cl C s H fp).h) (fun cl C s H fp=>(he cl C s H fp).h) hsc hnm hNl hs⟩
theorem jI (k:Nat) (N:List Str) {cS:Sx} (hS:∀ D σ H,tS G cS D σ H->tE G (dE k g ci none ce) σ H fun v H1=>D.nx (σ.set i (some v)) H1) (hcalm:X.calm=true) (hi:Q (PVI G X tg iter ci)) (hin:qU k g) (hg:∀ cl C s H fp,Q (PVG G (ba X N sc cl C s H fp) tg g)) (he:∀ cl C s H fp,Q (PV G (ba X N sc cl C s H fp) elt ce)) (hN:X.N.Nodup) (hiN:X.N[i]?=some x) (hx:Loc X.env.scope x) (hsc:jV X.env sc=true) (hnm:iT sc (N.drop k) X.N=true) (hNl:k<=N.length) (hsw:swapsWith (.ListComp elt [⟨tg,iter,[],0⟩] sc pos) (some (.Name x pos')) spos.line X.env=pure true) (hf:X.fn x=true\/X.env.scope.names.lookup x=some .local) (hs:∀ x,foldedSetIterable iter X.env x=pure x):Q (PSV G X (.Assign [.Name x pos'] (.ListComp elt [⟨tg,iter,[],0⟩] sc pos) spos) cS):=⟨xY k N hS hcalm hi.h hin (fun cl C s H fp=>(hg cl C s H fp).h) (fun cl C s H fp=>(he cl C s H fp).h) hN hiN hx hsc hnm hNl hsw hf hs⟩
theorem ik (ha:Q (PV G X a ca)) (hg:Gl X "enumerate") (hm:X.mg "enumerate" = none) (hs:starEach [a] X.env=(false,eval a X.env) :: starEach [] X.env) (hs':starEach [a] X.env=[(false,eval a X.env)]):Q (PVI G X (.Tuple elts n tpos) (.Call (.Name "enumerate" p) [a] [] pos) (iX ca)):=⟨wX ha.h hg hm hs hs'⟩
theorem bz (ha:Q (PV G X a ca)) (hb:Q (PV G X b cb)):Q (PV G X (.BinOp a .Add b pos) (e2 cm ca cb)):=⟨w_add ha.h hb.h⟩
theorem lB (ha:Q (PV G X a ca)) (hb:Q (PV G X b cb)):Q (PV G X (.BinOp a .Sub b pos) (e2 qL ca cb)):=⟨w_sub ha.h hb.h⟩
theorem ff (ha:Q (PV G X a ca)) (hb:Q (PV G X b cb)):Q (PV G X (.BinOp a .Mult b pos) (e2 fz ca cb)):=⟨w_mul ha.h hb.h⟩
theorem ef (ha:Q (PV G X a ca)) (hb:Q (PV G X b cb)):Q (PV G X (.BinOp a .FloorDiv b pos) (e2 fU ca cb)):=⟨BJ ha.h hb.h⟩
theorem bg (ha:Q (PV G X a ca)) (hb:Q (PV G X b cb)):Q (PV G X (.BinOp a .Mod b pos) (e2 oMod ca cb)):=⟨w_mod ha.h hb.h⟩
theorem AX (ha:Q (PV G X a ca)) (hb:Q (PV G X b cb)):Q (PVT G X (.Compare a [.Lt] [b] pos) (e2 oLt ca cb)):=⟨Fe ha.h hb.h⟩
theorem BR (hr:Room k X.A) (ha:Q (PV G X a ca)) (hb:Q (PV G X b cb)):Q (PV G X (.Compare a [.Eq] [b] pos) (e2 oEq ca cb)):=⟨w_eq hr ha.h hb.h⟩
theorem lC (hr:Room k X.A) (ha:Q (PV G X a ca)) (hb:Q (PV G X b cb)):Q (PVT G X (.Compare a [.Eq] [b] pos) (e2 oEq ca cb)):=⟨EY hr ha.h hb.h⟩
theorem lA (hr:Room k X.A) (ha:Q (PV G X a ca)) (hb:Q (PV G X b cb)):Q (PVT G X (.Compare a [.NotEq] [b] pos) (e2 oNe ca cb)):=⟨DM hr ha.h hb.h⟩
theorem aT (ha:Q (PV G X a ca)) (hb:Q (PV G X b cb)) (hs:fM b) (hK:X.K=G.K):Q (PV G X (.Subscript a b pos) (e2 bh ca cb)):=⟨DW ha.h hb.h hs hK⟩
theorem bU (hm:X.mg "len" = none) (ha:Q (PVs G X [e] cs)) (hg:Gl X "len") (hK:X.K=G.K) (he:starEach [e] X.env=(false,eval e X.env) :: starEach [] X.env):Q (PV G X (.Call (.Name "len" p) [e] [] pos) (eN d5 cs)):=⟨E3 hm ha.h hg hK he⟩
theorem qh (hm:X.mg "min" = none) (ha:Q (PVs G X [a,b] cs)) (hc:X.calm=true) (hg:Gl X "min") (he:starEach [a,b] X.env=(false,eval a X.env) :: starEach [b] X.env) (hpl:(backTo pos (starEach [b] X.env)).any (·.1)=false):Q (PV G X (.Call (.Name "min" p) [a,b] [] pos) (eN nN cs)):=⟨BK hm ha.h hc hg he hpl⟩
theorem i5 (t:Ty) (hm:X.mg "isinstance" = none) (hm2:X.mg (tyN t)=none) (ha:Q (PV G X a ca)) (hg:Gl X "isinstance") (hg2:Gl X (tyN t)) (hK:X.K=G.K) (hs:starEach [a,.Name (tyN t) p2] X.env=(false,eval a X.env) :: starEach [.Name (tyN t) p2] X.env):Q (PV G X (.Call (.Name "isinstance" p1) [a,.Name (tyN t) p2] [] pos) (eIs t ca)):=⟨w_is t hm hm2 ha.h hg hg2 hK hs⟩
theorem cF (i:Nat) {x:Str} (ha:Q (PVs G X [e] cs)) (hK:X.K=G.K) (hN:X.N[i]?=some x) (hv:Vis X.env.scope x) (hd:(x == ("__debug__" : Str))=false) (hcd:(x == ("__classdict__" : Str))=false) (hfew:((backTo cpos (starEach [e] X.env)).all (fun x=>!x.1) && (backToKw cpos (keywordEach [] X.env)).all (fun x=>x.1.isSome)
   && decide ([e].length+([]:List Keyword).length+(if ([]:List Keyword).isEmpty then 0 else 1) < 30))=true) (hline:(apos.endLine == cpos.line)=true) (hs:starEach [e] X.env=(false,eval e X.env) :: starEach [] X.env):Q (PSV G X (.Expr (.Call (.Attribute (.Name x p1) "append" apos) [e] [] cpos) pos) (sX (j6 i [] aZ cs))):=⟨wV i ha.h hK hN hv hd hcd hfew hline hs⟩
theorem aE {g:Fn} (F:FnAt X.prog X.w X.K X.mg X.base k x ps G g) (hr:Room k' X.A) (ha:Q (PVs G X (e :: es) cs)) (hk:k<=k') (hg:Gl X x) (hdb:(x == ("__debug__" : Str))=false) (he:starEach (e :: es) X.env=(false,eval e X.env) :: starEach es X.env) (hpl:(backTo pos (starEach es X.env)).any (·.1)=false):Q (PV G X (.Call (.Name x p) (e :: es) [] pos) (aM g cs)):=⟨CA F hr ha.h hk hg hdb he hpl⟩
theorem bG (ha:Q (PV G X a ca)) (hK:X.K=G.K):Q (PVI G X tg a (eT ca)):=⟨AO ha.h hK⟩
theorem nu (hm:X.mg "tuple" = none) (ha:Q (PVs G X [e] cs)) (hg:Gl X "tuple") (hK:X.K=G.K) (he:starEach [e] X.env=(false,eval e X.env) :: starEach [] X.env):Q (PV G X (.Call (.Name "tuple" p) [e] [] pos) (eN gE cs)):=⟨zV hm ha.h hg hK he⟩
theorem je (ha:Q (PV G X a ca)) (hb:Q (PV G X b cb)):Q (PVT G X (.Compare a [.Gt] [b] pos) (e2 oGt ca cb)):=⟨EO ha.h hb.h⟩
theorem sD (ha:Q (PV G X a ca)) (hb:Q (PV G X b cb)):Q (PVT G X (.Compare a [.GtE] [b] pos) (e2 oGe ca cb)):=⟨Eh ha.h hb.h⟩
theorem w6 (ha:Q (PV G X a ca)) (hb:Q (PV G X b cb)):Q (PV G X (.BinOp a .Mult b pos) (e2 lY ca cb)):=⟨CO ha.h hb.h⟩
theorem xU  : Q (PV G X (.Dict [] [] pos) (lE 0 [])):=⟨Do⟩
theorem pL {body:List Stmt} {cb:Sx} (hp:PassesOwn (model X.prog X.w) X.A X.env X.xe) (hc:Q (PVT G X c cc)) (hb:Q (fI G X body cb)):Q (PSV G X (.While c body [] pos) (qZ cc cb)):=⟨tW hp hc.h hb.h⟩
theorem vh {st:Stmt}:Q (PSV G X st sNo):=⟨BH⟩
theorem ki (hr:Room k X.A) (ha:Q (PV G X a ca)) (hb:Q (PV G X b cb)) (hs:fM b) (hK:X.K=G.K):Q (PV G X (.Subscript a b pos) (e2 oIx ca cb)):=⟨FM hr ha.h hb.h hs hK⟩
theorem AY (hr:Room k X.A) (ha:Q (PV G X a ca)) (hb:Q (PV G X b cb)) (hm:behindInMarks .In b=false) (hK:X.K=G.K):Q (PVT G X (.Compare a [.In] [b] pos) (e2 lH ca cb)):=⟨Fq hr ha.h hb.h hm hK⟩
theorem vU (hr:Room k X.A) (ha:Q (PV G X a ca)) (hb:Q (PV G X b cb)) (hm:behindInMarks .NotIn b=false) (hK:X.K=G.K):Q (PVT G X (.Compare a [.NotIn] [b] pos) (e2 fJ ca cb)):=⟨CM hr ha.h hb.h hm hK⟩
theorem nR (hm:X.mg "list" = none) (ha:Q (PVs G X [e] cs)) (hg:Gl X "list") (hK:X.K=G.K) (hc:X.calm=true) (he:starEach [e] X.env=(false,eval e X.env) :: starEach [] X.env):Q (PV G X (.Call (.Name "list" p) [e] [] pos) (eN gf cs)):=⟨yW hm ha.h hg hK hc he⟩
theorem n9 {G:Gx} {X:Cx} {i:Int} {j:Nat} {pos p:Pos}:Q (PV G X (.UnaryOp .USub (.Constant (.int i) j p) pos) (eC (.int (-i)))):=⟨Ed⟩
theorem rA (J:BZ G) (i:Nat) {x:Str} (hk:Q (PV G X b ck)) (hv:Q (PVs G X [e] cs)) (hK:X.K=G.K) (hN:X.N[i]?=some x) (hvis:Vis X.env.scope x) (hd:(x == ("__debug__" : Str))=false) (hcd:(x == ("__classdict__" : Str))=false) (hb1:attributeBase (.Name x p1) "setdefault" X.env (eval (.Name x p1) X.env)=eval (.Name x p1) X.env) (hf1:((backTo cp1 (starEach [b,.List [] lp] X.env)).all (fun x=>!x.1) && (backToKw cp1 (keywordEach [] X.env)).all (fun x=>x.1.isSome)
   && decide ([b,Expr.List [] lp].length+([]:List Keyword).length+(if ([]:List Keyword).isEmpty then 0 else 1) < 30))=true) (hl1:(ap1.endLine == cp1.line)=true) (hs1:starEach [b,.List [] lp] X.env=(false,eval b X.env) :: starEach [.List [] lp] X.env) (hs1':starEach [.List [] lp] X.env=(false,eval (.List [] lp) X.env) :: starEach [] X.env) (hp1:(backTo cp1 (starEach [.List [] lp] X.env)).any (·.1)=false) (hb2:attributeBase (.Call (.Attribute (.Name x p1) "setdefault" ap1) [b,.List [] lp] [] cp1) "append" X.env (eval (.Call (.Attribute (.Name x p1) "setdefault" ap1) [b,.List [] lp] [] cp1) X.env)=eval (.Call (.Attribute (.Name x p1) "setdefault" ap1) [b,.List [] lp] [] cp1) X.env) (hf2:((backTo cpos (starEach [e] X.env)).all (fun x=>!x.1) && (backToKw cpos (keywordEach [] X.env)).all (fun x=>x.1.isSome)
   && decide ([e].length+([]:List Keyword).length+(if ([]:List Keyword).isEmpty then 0 else 1) < 30))=true) (hl2:(apos.endLine == cpos.line)=true) (hs2:starEach [e] X.env=(false,eval e X.env) :: starEach [] X.env) (hp2:(backTo cpos (starEach [] X.env)).any (·.1)=false) (hsw:swapsWith (.Call (.Attribute (.Call (.Attribute (.Name x p1) "setdefault" ap1) [b,.List [] lp] [] cp1) "append" apos) [e] [] cpos) none pos.line X.env=pure false):Q (PSV G X (.Expr (.Call (.Attribute (.Call (.Attribute (.Name x p1) "setdefault" ap1) [b,.List [] lp] [] cp1) "append" apos) [e] [] cpos) pos) (jl i ck cs)):=⟨xX J i hk.h hv.h hK hN hvis hd hcd hb1 hf1 hl1 hs1 hs1' hp1 hb2 hf2 hl2 hs2 hp2 hsw⟩
theorem pq (i:Nat) {x:Str} (hr:Room kr X.A) (hk:Q (PV G X b ck)) (hv:Q (PVs G X [e] cs)) (hK:X.K=G.K) (hN:X.N[i]?=some x) (hvis:Vis X.env.scope x) (hd:(x == ("__debug__" : Str))=false) (hcd:(x == ("__classdict__" : Str))=false) (hb1:attributeBase (.Name x p1) "setdefault" X.env (eval (.Name x p1) X.env)=eval (.Name x p1) X.env) (hf1:((backTo cp1 (starEach [b,.List [] lp] X.env)).all (fun x=>!x.1) && (backToKw cp1 (keywordEach [] X.env)).all (fun x=>x.1.isSome)
   && decide ([b,Expr.List [] lp].length+([]:List Keyword).length+(if ([]:List Keyword).isEmpty then 0 else 1) < 30))=true) (hl1:(ap1.endLine == cp1.line)=true) (hs1:starEach [b,.List [] lp] X.env=(false,eval b X.env) :: starEach [.List [] lp] X.env) (hs1':starEach [.List [] lp] X.env=(false,eval (.List [] lp) X.env) :: starEach [] X.env) (hp1:(backTo cp1 (starEach [.List [] lp] X.env)).any (·.1)=false) (hb2:attributeBase (.Call (.Attribute (.Name x p1) "setdefault" ap1) [b,.List [] lp] [] cp1) "append" X.env (eval (.Call (.Attribute (.Name x p1) "setdefault" ap1) [b,.List [] lp] [] cp1) X.env)=eval (.Call (.Attribute (.Name x p1) "setdefault" ap1) [b,.List [] lp] [] cp1) X.env) (hf2:((backTo cpos (starEach [e] X.env)).all (fun x=>!x.1) && (backToKw cpos (keywordEach [] X.env)).all (fun x=>x.1.isSome)
   && decide ([e].length+([]:List Keyword).length+(if ([]:List Keyword).isEmpty then 0 else 1) < 30))=true) (hl2:(apos.endLine == cpos.line)=true) (hs2:starEach [e] X.env=(false,eval e X.env) :: starEach [] X.env) (hp2:(backTo cpos (starEach [] X.env)).any (·.1)=false) (hsw:swapsWith (.Call (.Attribute (.Call (.Attribute (.Name x p1) "setdefault" ap1) [b,.List [] lp] [] cp1) "append" apos) [e] [] cpos) none pos.line X.env=pure false):Q (PSV G X (.Expr (.Call (.Attribute (.Call (.Attribute (.Name x p1) "setdefault" ap1) [b,.List [] lp] [] cp1) "append" apos) [e] [] cpos) pos) (gW i ck cs)):=⟨ve i hr hk.h hv.h hK hN hvis hd hcd hb1 hf1 hl1 hs1 hs1' hp1 hb2 hf2 hl2 hs2 hp2 hsw⟩
theorem vf  : Q (PV G X (.Dict [] [] pos) (lE 2 [])):=⟨AK⟩
theorem qT (i:Nat) (N:List Str) {x y:Str} (hr:Room kr X.A) (hcalm:X.calm=true) (hN:X.N[i]?=some x) (hv:Vis X.env.scope x) (hd:(x == ("__debug__" : Str))=false) (hcd:(x == ("__classdict__" : Str))=false) (hin:∀ cl C s H fp,PG (ba X N sc cl C s H fp) (.Name y p3) (tQ 0)/\PE (ba X N sc cl C s H fp) (.Name x p1) (uQ (i+1))/\PE (ba X N sc cl C s H fp) (.Name y p2) (uQ 0)/\(ba X N sc cl C s H fp).A.units=X.A.units) (hix:fM (.Name y p2)) (hsc:jV X.env sc=true) (hnm:iT sc (N.drop 1) X.N=true) (hNl:1<=N.length) (hs:∀ z,foldedSetIterable (.Name x p4) X.env z=pure z):Q (PSV G X (.Return (some (.ListComp (.Subscript (.Name x p1) (.Name y p2) p) [⟨.Name y p3,.Name x p4,[],0⟩] sc pos)) spos) (kf i)):=⟨uV i N hr hcalm hN hv hd hcd hin hix hsc hnm hNl hs⟩
theorem uc {x:Str} {t:Tx} {j:Nat} {q q':Pos} (h:x=sx t) (hl:jq t):Q (PV G X (.Dict [some (.Constant (.str x) j q)] [.List [] q'] pos) (lE 0 [(eC (.str t),fC aw)])):=⟨zE h hl⟩
theorem qo {gk:Fn} (F:FnAt X.prog X.w X.K X.mg X.base k x ps G gk) (hk:k+2<=k') (hcg:∀ t:Tx,jq t->gk [.str t]=some (.fr,.tup [.int t.length,.str t])) (hr:Room k' X.A) (hm:X.mg "sorted" = none) (ha:Q (PVs G X [e] cs)) (hgx:Gl X x) (hg:Gl X "sorted") (hc:X.calm=true) (hdx:(x == ("__debug__" : Str))=false) (he:backTo pos (starEach [e] X.env)=(false,eval e X.env) :: backTo pos (starEach [] X.env)) (hpl:(backTo pos (starEach [e] X.env)).any (·.1)=false):Q (PV G X (.Call (.Name "sorted" p) [e] [⟨some "key",.Name x p2,kp⟩] pos) (eN jH cs)):=⟨ud F hk hcg hr hm ha.h hgx hg hc hdx he hpl⟩
theorem kI {a b c:Expr} {ca cb cc:Ex} (ha:Q (PV G X a ca)) (hb:Q (PV G X b cb)) (hc:Q (PV G X c cc)) (hm:lastMarks [.LtE,.Lt] [b,c]=false):Q (PVT G X (.Compare a [.LtE,.Lt] [b,c] pos) (ij oLe oLt ca cb cc)):=⟨mQ ha.h hb.h hc.h hm⟩
theorem v8 {ce:Ex} (h:Q (PV G X e ce)) (hsw:swapsWith e none pos.line X.env=pure false):Q (PSV G X (.Expr e pos) (sX (xP ce))):=⟨C1 h.h hsw⟩
theorem xf (i:Nat) (hN:X.N[i]?=some x) (hv:Vis X.env.scope x) (hd:(x == ("__debug__" : Str))=false) (hcd:(x == ("__classdict__" : Str))=false) (hb:Q (PV G X b cb)) (hix:fM b) (ha:Q (PVs G X [e] cs)) (hK:X.K=G.K) (hbase:attributeBase (.Subscript (.Name x p1) b p2) "append" X.env (eval (.Subscript (.Name x p1) b p2) X.env)=eval (.Subscript (.Name x p1) b p2) X.env) (hfew:((backTo cpos (starEach [e] X.env)).all (fun x=>!x.1) && (backToKw cpos (keywordEach [] X.env)).all (fun x=>x.1.isSome)
   && decide ([e].length+([]:List Keyword).length+(if ([]:List Keyword).isEmpty then 0 else 1) < 30))=true) (hline:(apos.endLine == cpos.line)=true) (hs:starEach [e] X.env=(false,eval e X.env) :: starEach [] X.env) (hplain:(backTo cpos (starEach [] X.env)).any (·.1)=false) (hsw:swapsWith (.Call (.Attribute (.Subscript (.Name x p1) b p2) "append" apos) [e] [] cpos) none pos.line X.env=pure false):Q (PSV G X (.Expr (.Call (.Attribute (.Subscript (.Name x p1) b p2) "append" apos) [e] [] cpos) pos) (sX (nU i cb cs))):=⟨BQ i hN hv hd hcd hb.h hix ha.h hK hbase hfew hline hs hplain hsw⟩
theorem km {j pos'} (ha:Q (PV G X a ca)):Q (PVT G X (.Compare a [.IsNot] [.Constant .none j pos'] pos) (jO ca)):=⟨AV ha.h⟩
theorem yn (i:Nat) {x:Str} (hr:Room kr X.A) (hk:Q (PV G X b ck)) (he:Q (PV G X e ce)) (hN:X.N[i]?=some x) (hv:Vis X.env.scope x) (hd:(x == ("__debug__" : Str))=false) (hcd:(x == ("__classdict__" : Str))=false) (ha:∀ v,assign (.Subscript (.Name x p1) b pos') X.env v=(do
   let ov ← holding [v] (eval (.Name x p1) X.env)
   let iv ← holding [v,ov] (eval b X.env)
   standAt pos'
   holding [v,ov,iv] (setItem ov iv v)
   release [v,ov,iv] [])) (hs:swapsWithSole [.Subscript (.Name x p1) b pos'] e pos.line X.env=pure false) (hw:swappedStores [.Subscript (.Name x p1) b pos'] e X.env=pure none) (h1:(assignEach [.Subscript (.Name x p1) b pos'] X.env).map (·.2)=[assign (.Subscript (.Name x p1) b pos') X.env]):Q (PSV G X (.Assign [.Subscript (.Name x p1) b pos'] e pos) (nZ i ck ce)):=⟨BF i hr hk.h he.h hN hv hd hcd ha hs hw h1⟩
theorem uu (hm:X.mg "dict" = none) (ha:Q (PVs G X [e] cs)) (hg:Gl X "dict") (hc:X.calm=true) (he:starEach [e] X.env=(false,eval e X.env) :: starEach [] X.env):Q (PV G X (.Call (.Name "dict" p) [e] [] pos) (eN jG cs)):=⟨AE hm ha.h hg hc he⟩
theorem rE {st:Expr} {lo hi:Option Expr} {cl ch cs:Option Ex} {p2:Pos} (ha:Q (PV G X a ca)) (hl:Q (PVO G X lo cl)) (hh:Q (PVO G X hi ch)) (hst:Q (PVO G X (some st) cs)) (hK:X.K=G.K):Q (PV G X (.Subscript a (.Slice lo hi (some st) p2) pos) (t4 ca cl ch cs)):=⟨yB ha.h hl.h hh.h hst.h hK⟩
theorem vS (hr:Room kr X.A) (hm:X.mg "min" = none) (ha:Q (PVs G X [e] cs)) (hg:Gl X "min") (hc:X.calm=true) (hK:X.K=G.K) (he:backTo pos (starEach [e] X.env)=(false,eval e X.env) :: backTo pos (starEach [] X.env)) (hpl:(backTo pos (starEach [e] X.env)).any (·.1)=false):Q (PV G X (.Call (.Name "min" p) [e] [⟨some "default",.Constant .none jj p2,kp⟩] pos) (eN qM cs)):=⟨CF hr hm ha.h hg hc hK he hpl⟩
end
section
variable {G:Gx} {P:Program} {w:World} {K:Y1} {mg:Xv} {base:Heap}
theorem cV {x:Str} {st:Stmt} {f:Addr} {fd:FuncData} {N ps:List Str} {k np nn:Nat} {c:Sx} (F:Fun K x x st f fd) (hm:mg x=some (.ref f)) (S:FnScope N ps (aq st)) (hp:ps.length=np) (hn:N.length=nn)
  (hbd:∀ (kV doc pm:Value) (an:Option Addr) (cdv ct:Value) (us:X1),us.length=ps.length->bindArgs (PySem.W.fnOf x x (aS st) (aO st) (aq st) .none kV doc pm an cdv ct) ⟨us,[]⟩=pure (ps.zip us))
  (hb:∀ (cdv:Value) (A:Around) (outer:List PySem.Env) (s:Shared) (H:Hp) (E:XK),Room k (A.deeper (envOfC x (aq st) s.heap.objs.size f cdv))->Q (fI G (mT CX0 P w K mg base N x (aq st) f cdv A outer s H E).nox (aO st) c)) :
  FnAt P w K mg base (k+1) x ps G (fn np nn c):=Fm F hm S hp hn hbd fun cdv A outer s H E hr=>(hb cdv A outer s H E hr).h
theorem FV {x qual:Str} {st:Stmt} {f:Addr} {fd:FuncData} {N ps:List Str} {k np nn:Nat} {c:Sx} (F:Fun K x qual st f fd) (S:FnScope N ps (aq st)) (hp:ps.length=np) (hn:N.length=nn)
  (hb:∀ (cdv:Value) (A:Around) (outer:List PySem.Env) (s:Shared) (H:Hp) (E:XK),Room k (A.deeper (envOfC qual (aq st) s.heap.objs.size f cdv))->Q (fI G (mT CX0 P w K mg base N qual (aq st) f cdv A outer s H E).nox (aO st) c)) :
  FnOk P w K mg base CX0 (k+1) f fd ps (spF G (fn np nn c)):=fnV F S hp hn fun cdv A outer s H E hr=>(hb cdv A outer s H E hr).h
end
end VS
end
section
namespace T22
open VS
noncomputable def g9:Fn:=fn 1 1
  (dy (iw (eIs .int (ah 0)) (gy (eIs .bool (ah 0)))))
noncomputable def cq:Sx :=
  (au (aQ 4 (eN jG (ag (e2 bh (e2 bh (ah 0) (e2 bh (ah 2) (eC (.int (-1))))) (eC (.int 3))) aw)))
  (au (sIf (e2 fJ (ah 3) (ah 4)) (gQ 2) gS)
  (sX (j6 2 [] aZ (ag (e2 oIx (ah 4) (ah 3)) aw)))))
noncomputable def jD:Fn:=fn 2 5
  (au (gZ 2 (fC (ag (eC (.int 0)) aw)))
  (au (dN (aY 3) (eT (ah 1)) cq)
  (gQ 2)))
noncomputable def bV:Fn:=fn 2 2
  (sIf (eOr (gy (aM g9 (ag (ah 1) aw))) (gy (ij oLe oLt (eC (.int 0)) (ah 1) (eN d5 (ag (ah 0) aw))))) sNo gS)
noncomputable def fZ:Sx :=
  (au (sX (j6 2 [] aZ (ag (ah 1) aw)))
  (aQ 1 (e2 bh (e2 bh (ah 0) (ah 1)) (eC (.int 2)))))
noncomputable def ja:Fn:=fn 2 3
  (au (sX (xP (aM bV (ag (ah 0) (ag (ah 1) aw)))))
  (au (gZ 2 (fC aw))
  (au (qZ (jO (ah 1)) fZ)
  (gQ 2))))
noncomputable def eB:Sx :=
  (sX (nU 2 (ah 7) (ag (mP (ag (ah 3) (ag (ah 5) aw))) aw)))
noncomputable def eD:Sx :=
  (dN (aY 7) (eT (aM ja (ag (ah 1) (ag (ah 6) aw)))) eB)
noncomputable def d6:Sx :=
  (dN (j4 [(aY 5),(aY 6)]) (iX (aM jD (ag (ah 1) (ag (ah 4) aw)))) eD)
noncomputable def bw:Fn:=fn 2 8
  (au (gZ 2 (dE 1 (aY 0) (eT (ah 1)) none (fC aw)))
  (au (dN (j4 [(aY 3),(aY 4)]) (iX (ah 0)) d6)
  (gQ 2)))
noncomputable def iJ:Fn:=fn 2 2
  (dy (dE 1 (aY 0) (eT (aM bw (ag (ah 0) (ag (ah 1) aw)))) none (eN d5 (ag (ah 0) aw))))
noncomputable def iP:Fn:=fn 2 2
  (dy (dE 1 (aY 0) (eT (aM bw (ag (ah 0) (ag (ah 1) aw)))) none (eIf (e2 oGt (eN d5 (ag (ah 0) aw)) (eC (.int 0))) (e2 bh (ah 0) (eC (.int 0))) (eC .non))))
noncomputable def eJ:Fn:=fn 2 2
  (au (sIf (e2 oLt (ah 1) (eN d5 (ag (ah 0) aw))) (dy (e2 bh (ah 0) (ah 1))) gS)
  (dy (eC (.int 0))))
noncomputable def aA:Fn:=fn 2 4
  (au (aQ 2 (eC (.int 7)))
  (au (sIf (e2 oGt (eN d5 (ag (ah 0) aw)) (eC (.int 0))) (aQ 2 (e2 bh (ah 0) (e2 oMod (ah 1) (eN d5 (ag (ah 0) aw))))) gS)
  (au (aQ 3 (e2 oMod (e2 fz (e2 cm (e2 cm (e2 oMod (ah 2) (eC (.int 2147483629))) (e2 fz (eC (.int 40503)) (ah 1))) (eC (.int 1))) (eC (.int 48271))) (eC (.int 2147483647))))
  (au (aQ 3 (e2 oMod (e2 fz (ah 3) (ah 3)) (eC (.int 2147483629))))
  (au (aQ 3 (e2 oMod (e2 fz (e2 cm (ah 3) (ah 1)) (eC (.int 69621))) (eC (.int 2147483587))))
  (dy (e2 fU (e2 oMod (e2 fz (ah 3) (ah 3)) (eC (.int 2147483563))) (eC (.int 3)))))))))
noncomputable def bL:Fn:=fn 1 3
  (au (aQ 1 (e2 oMod (ah 0) (eC (.int 26))))
  (au (aQ 2 (e2 bh (fC (ag (eC (.int 1)) (ag (eC (.int 3)) (ag (eC (.int 5)) (ag (eC (.int 7)) (ag (eC (.int 9)) aw)))))) (e2 oMod (e2 fU (ah 0) (eC (.int 26))) (eC (.int 5)))))
  (dy (dE 1 (aY 0) (cy (eC (.int 26))) none (e2 bh (eC (.str [97,98,99,100,101,102,103,104,105,106,107,108,109,110,111,112,113,114,115,116,117,118,119,120,121,122])) (e2 oMod (e2 cm (ah 2) (e2 fz (ah 3) (ah 0))) (eC (.int 26))))))))
noncomputable def dM:Sx :=
  (au (aQ 8 (e2 cm (ah 8) (e2 bh (ah 1) (e2 oMod (ah 0) (ah 2)))))
  (aQ 0 (e2 fU (ah 0) (ah 2))))
noncomputable def cA:Sx :=
  (au (aQ 7 (eN nN (ag (ah 4) (ag (e2 oMod (ah 0) (eC (.int 25))) aw))))
  (au (aQ 0 (e2 fU (ah 0) (eC (.int 25))))
  (au (aQ 4 (e2 qL (ah 4) (ah 7)))
  (au (aQ 8 (eC (.str [])))
  (au (dN (aY 9) (cy (ah 7)) dM)
  (sX (j6 5 [] aZ (ag (ah 8) aw))))))))
noncomputable def cK:Fn:=fn 1 10
  (au (aQ 1 (aM bL (ag (ah 0) aw)))
  (au (aQ 2 (e2 bh (fC (ag (eC (.int 1)) (ag (eC (.int 2)) (ag (eC (.int 3)) (ag (eC (.int 4)) (ag (eC (.int 2)) (ag (eC (.int 3)) (ag (eC (.int 4)) (ag (eC (.int 26)) aw))))))))) (e2 oMod (e2 fU (ah 0) (eC (.int 130))) (eC (.int 8)))))
  (au (aQ 3 (e2 oMod (e2 fU (ah 0) (eC (.int 1040))) (eC (.int 5))))
  (au (aQ 0 (e2 fU (ah 0) (eC (.int 5200))))
  (au (aQ 4 (eC (.int 24)))
  (au (gZ 5 (fC aw))
  (au (dN (aY 6) (cy (ah 3)) cA)
  (gQ 5))))))))
noncomputable def cB:Sx :=
  (au (aQ 11 (aM aA (ag (ah 0) (ag (e2 cm (e2 cm (e2 fz (eC (.int 20)) (ah 6)) (eC (.int 6))) (ah 10)) aw))))
  (sIf (iw (e2 oGe (eN d5 (ag (ah 9) aw)) (ah 8)) (e2 oGt (e2 oMod (ah 11) (eC (.int 4))) (eC (.int 0)))) (aQ 9 (e2 cm (ah 9) (e2 bh (ah 9) (e2 qL (eN d5 (ag (ah 9) aw)) (ah 8))))) (aQ 9 (e2 cm (ah 9) (e2 bh (ah 2) (e2 oMod (e2 fU (ah 11) (eC (.int 4))) (ah 3)))))))
noncomputable def cD:Sx :=
  (au (aQ 7 (eN nN (ag (ah 4) (ag (e2 oMod (aM aA (ag (ah 0) (ag (e2 cm (e2 fz (eC (.int 20)) (ah 6)) (eC (.int 4))) aw))) (e2 cm (ah 1) (eC (.int 1)))) aw))))
  (au (aQ 4 (e2 qL (ah 4) (ah 7)))
  (au (aQ 8 (e2 cm (eC (.int 1)) (e2 oMod (aM aA (ag (ah 0) (ag (e2 cm (e2 fz (eC (.int 20)) (ah 6)) (eC (.int 5))) aw))) (eC (.int 5)))))
  (au (aQ 9 (eC (.str [])))
  (au (dN (aY 10) (cy (ah 7)) cB)
  (au (sX (j6 5 [] aZ (ag (ah 9) aw)))
  (sIf (iw (e2 oGt (ah 7) (eC (.int 2))) (iw (e2 oEq (e2 oMod (aM aA (ag (ah 0) (ag (e2 cm (e2 fz (eC (.int 20)) (ah 6)) (eC (.int 5))) aw))) (eC (.int 3))) (eC (.int 0))) (e2 oGe (ah 4) (eC (.int 2))))) (au (sX (j6 5 [] aZ (ag (eSl (ah 9) (some (eC (.int 1))) (some (eC (.int 3)))) aw)))
  (aQ 4 (e2 qL (ah 4) (eC (.int 2))))) gS)))))))
noncomputable def cL:Fn:=fn 2 12
  (au (aQ 2 (aM bL (ag (aM aA (ag (ah 0) (ag (eC (.int 1)) aw))) aw)))
  (au (aQ 3 (e2 bh (fC (ag (eC (.int 1)) (ag (eC (.int 2)) (ag (eC (.int 3)) (ag (eC (.int 4)) (ag (eC (.int 2)) (ag (eC (.int 3)) (ag (eC (.int 9)) (ag (eC (.int 26)) aw))))))))) (e2 oMod (aM aA (ag (ah 0) (ag (eC (.int 2)) aw))) (eC (.int 8)))))
  (au (aQ 4 (ah 1))
  (au (gZ 5 (fC aw))
  (au (dN (aY 6) (cy (e2 oMod (aM aA (ag (ah 0) (ag (eC (.int 3)) aw))) (eC (.int 6)))) cD)
  (au (uM 5)
  (dy (eSl (ah 5) none (some (eC (.int 8)))))))))))
noncomputable def dQ:Fn:=fn 1 4
  (au (aQ 1 (aM bL (ag (aM aA (ag (ah 0) (ag (eC (.int 1)) aw))) aw)))
  (au (aQ 2 (e2 lY (e2 bh (ah 1) (eC (.int 0))) (e2 cm (eC (.int 100)) (e2 oMod (aM aA (ag (ah 0) (ag (eC (.int 2)) aw))) (eC (.int 21))))))
  (au (sIf (e2 oEq (e2 oMod (aM aA (ag (ah 0) (ag (eC (.int 3)) aw))) (eC (.int 2))) (eC (.int 0))) (au (aQ 3 (e2 oMod (aM aA (ag (ah 0) (ag (eC (.int 4)) aw))) (eN d5 (ag (ah 2) aw))))
  (aQ 2 (e2 cm (e2 cm (eSl (ah 2) none (some (ah 3))) (e2 bh (ah 1) (eC (.int 1)))) (eSl (ah 2) (some (e2 cm (ah 3) (eC (.int 1)))) none)))) gS)
  (dy (fC (ag (ah 2) aw))))))
noncomputable def gr:Fn:=fn 2 2
  (au (sIf (e2 oEq (e2 oMod (aM eJ (ag (ah 0) (ag (eC (.int 0)) aw))) (eC (.int 2))) (eC (.int 0))) (dy (aM cK (ag (e2 fU (aM eJ (ag (ah 0) (ag (eC (.int 0)) aw))) (eC (.int 2))) aw))) gS)
  (au (sIf (iw (e2 oGt (ah 1) (eC (.int 30))) (e2 oEq (e2 oMod (aM aA (ag (ah 0) (ag (eC (.int 5)) aw))) (eC (.int 16))) (eC (.int 0)))) (dy (aM dQ (ag (ah 0) aw))) gS)
  (dy (aM cL (ag (ah 0) (ag (e2 bh (fC (ag (eC (.int 24)) (ag (eC (.int 24)) (ag (eC (.int 24)) (ag (ah 1) aw))))) (e2 oMod (aM aA (ag (ah 0) (ag (eC (.int 0)) aw))) (eC (.int 4)))) aw))))))
noncomputable def dG:Sx :=
  (jl 1 (eSl (ah 3) (some (ah 5)) (some (ah 4))) (ag (mP (ag (ah 2) (ag (ah 4) aw))) aw))
noncomputable def dH:Sx :=
  (dN (aY 5) (cy (e2 cm (ah 4) (eC (.int 1)))) dG)
noncomputable def cN:Sx :=
  (dN (aY 4) (cy (e2 cm (eN d5 (ag (ah 3) aw)) (eC (.int 1)))) dH)
noncomputable def cZ:Fn:=fn 1 6
  (au (gZ 1 (lE 0 [((eC (.str [])),(fC aw))]))
  (au (dN (j4 [(aY 2),(aY 3)]) (iX (ah 0)) cN)
  (gQ 1)))
noncomputable def eZ:Fn:=fn 1 1
  (dy (mP (ag (eN d5 (ag (ah 0) aw)) (ag (ah 0) aw))))
noncomputable def dI:Sx :=
  (gW 1 (eN gE (ag (e2 oIx (ah 0) (ah 2)) aw)) (ag (ah 2) aw))
noncomputable def dk:Fn:=fn 1 3
  (au (gZ 1 (lE 2 []))
  (au (dN (aY 2) (eT (eN jH (ag (ah 0) aw))) dI)
  (kf 1)))
noncomputable def di:Sx :=
  (nZ 1 (ah 4) (ah 2))
noncomputable def eY:Sx :=
  (dN (aY 4) (eT (ah 3)) di)
noncomputable def bY:Fn:=fn 1 5
  (au (gZ 1 (lE 0 []))
  (au (dN (j4 [(aY 2),(aY 3)]) (iX (ah 0)) eY)
  (gQ 1)))
noncomputable def i4:Sx :=
  (sIf (e2 lH (e2 cm (e2 bh (ah 3) (eC (.int 0))) (ah 5)) (ah 1)) (sX (j6 4 [] aZ (ag (mP (ag (ah 5) (ag (e2 oIx (ah 1) (e2 cm (e2 bh (ah 3) (eC (.int 0))) (ah 5))) aw))) aw))) gS)
noncomputable def eE:Sx :=
  (au (gZ 4 (fC aw))
  (au (dN (aY 5) (eT (eC (.str [97,98,99,100,101,102,103,104,105,106,107,108,109,110,111,112,113,114,115,116,117,118,119,120,121,122]))) i4)
  (au (uM 4)
  (au (aQ 6 (eC .non))
  (au (sIf (e2 oNe (e2 bh (ah 3) (eC (.int 0))) (eC (.str []))) (aQ 6 (e2 oIx (ah 1) (eSl (e2 bh (ah 3) (eC (.int 0))) (some (eC (.int 1))) none))) gS)
  (sX (j6 2 [] aZ (ag (mP (ag (eN d5 (ag (e2 bh (ah 3) (eC (.int 0))) aw)) (ag (eN d5 (ag (e2 bh (ah 3) (eC (.int (-1)))) aw)) (ag (ah 6) (ag (eN gE (ag (ah 4) aw)) aw))))) aw))))))))
noncomputable def d4:Fn:=fn 2 7
  (au (gZ 2 (fC aw))
  (au (dN (aY 3) (eT (ah 0)) eE)
  (gQ 2)))
noncomputable def gH:Fn:=fn 1 1
  (dy (iw (eIs .int (ah 0)) (gy (eIs .bool (ah 0)))))
noncomputable def eQ:Fn:=fn 2 2
  (au (sIf (eOr (gy (eIs .list (ah 0))) (e2 oNe (ah 0) (ah 1))) (dy (eC (.bl false))) gS)
  (dy (e2 oEq (eN d5 (ag (dE 1 (aY 0) (eT (ah 0)) (some (aM gH (ag (ah 0) aw))) (ah 0)) aw)) (eN d5 (ag (ah 1) aw)))))
noncomputable def fF:Sx :=
  (au (sIf (iw (jO (ah 2)) (gy (eIs .tuple (ah 2)))) (dy (eC (.bl false))) gS)
  (sIf (iw (jO (ah 2)) (e2 oGt (eN d5 (ag (dE 1 (aY 0) (eT (ah 2)) (some (eIs .bool (ah 0))) (ah 0)) aw)) (eC (.int 0)))) (dy (eC (.bl false))) gS))
noncomputable def du:Fn:=fn 2 3
  (au (sIf (eOr (gy (eIs .list (ah 0))) (e2 oNe (ah 0) (ah 1))) (dy (eC (.bl false))) gS)
  (au (dN (aY 2) (eT (ah 0)) fF)
  (dy (eC (.bl true)))))
noncomputable def fR:Sx :=
  (au (aQ 7 (fC (ag (eN gf (ag (ah 0) aw)) (ag (eN gf (ag (ah 3) aw)) aw))))
  (au (gZ 8 (aM iJ (ag (e2 bh (ah 7) (eC (.int 0))) (ag (e2 bh (ah 7) (eC (.int 1))) aw))))
  (au (gZ 9 (aM iP (ag (e2 bh (ah 7) (eC (.int 0))) (ag (e2 bh (ah 7) (eC (.int 1))) aw))))
  (au (sIf (eOr (gy (aM eQ (ag (ah 8) (ag (ah 4) aw)))) (gy (aM du (ag (ah 9) (ag (ah 5) aw))))) (dy (eC (.bl false))) gS)
  (au (sIf (e2 oNe (ah 7) (fC (ag (ah 0) (ag (ah 3) aw)))) (dy (eC (.bl false))) gS)
  (au (sX (j6 8 [] aZ (ag (eC (.int 0)) aw)))
  (au (uM 8)
  (sX (j6 9 [] aZ (ag (eC .non) aw))))))))))
noncomputable def bD:Fn:=fn 1 10
  (au (aQ 1 (aM cZ (ag (ah 0) aw)))
  (au (aQ 2 (aM dk (ag (ah 1) aw)))
  (au (aQ 3 (aM d4 (ag (ah 2) (ag (aM bY (ag (ah 2) aw)) aw))))
  (au (aQ 4 (dE 1 (aY 0) (eT (ah 2)) none (eN d5 (ag (e2 oIx (ah 2) (e2 bh (ah 0) (eC (.int 0)))) aw))))
  (au (aQ 5 (dE 1 (aY 0) (eT (ah 2)) none (eN qM (ag (e2 oIx (ah 2) (e2 bh (ah 0) (eC (.int 0)))) aw))))
  (au (dN (aY 6) (cy (eC (.int 2))) fR)
  (dy (eC (.bl true)))))))))
noncomputable def o8:Fn:=fn 1 2
  (au (aQ 1 (aM gr (ag (ah 0) (ag (eC (.int 60)) aw))))
  (dy (iw (aM bD (ag (ah 1) aw)) (iw (aM bD (ag (t4 (ah 1) none none (some (eC (.int (-1))))) aw)) (aM bD (ag (fC aw) aw))))))
theorem mh (t:Tx) (h:jq t):eZ [.str t]=some (.fr,.tup [.int t.length,.str t]):=by
 have h1:=h.1
 simp [eZ,fn,d5,EU,qG]
 rw [Zr (by decide)]
 rfl
theorem e2v {f:Val->Val->Vh} {a b:Ex} {η:Env} {x y z:Val} (h1:a η=some x) (h2:b η=some y) (h3:f x y=some z):e2 f a b η=some z:=by
 show (a η).bind _=_
 rw [h1,Zm,h2]
 exact h3
theorem xv {a:Ex} {r:Exs} {η:Env} {x:Val} {xs:Vi} (h1:a η=some x) (h2:r η=some xs):ag a r η=some (x :: xs):=by
 show (a η).bind _=_
 rw [h1,Zm,h2]
 rfl
theorem m8 {c:Ex} {a b:Sx} {η:Env} {m:Md} (h:c η=some (m,.bl true)):sIf c a b η=a η:=by
 show (c η).bind _=_
 rw [h]
 rfl
theorem jR {c:Ex} {a b:Sx} {η:Env} {m:Md} (h:c η=some (m,.bl false)):sIf c a b η=b η:=by
 show (c η).bind _=_
 rw [h]
 rfl
theorem lU {f:Vi->Vh} {as:Exs} {η:Env} {xs:Vi} {v:Val} (h:as η=some xs) (h2:f xs=some v):eN f as η=some v:=by
 show (as η).bind f=_
 rw [h,Zm,h2]
theorem ig {e:Ex} {η:Env} {t:T} (h:e η=some (.fr,t)):dy e η=some (.rt (.fr,t) η):=by
 show (e η).bind _=_
 rw [h]
 rfl
theorem oy {a b:Sx} {η η1:Env} {v:Val} (h:a η=some (.rt v η1)):au a b η=some (.rt v η1):=by
 show (a η).bind _=_
 rw [h]
 rfl
theorem BB {n:Nat} {i:Int} (h0:0<=i) (h1:i < n):ixP n i=some i.toNat:=by rw [ixP,Zr h0,Zr h1]
theorem sW {m n:Md} (l:Vl) (i:Int) (h0:0<=i) (h1:i < l.length):bh (m,.scr l) (n,.int i)=some (.fr,.int (l.getD i.toNat 0)):=by
 have b2:i.toNat < l.length:=by lia
 show (ixP l.length i).bind _=_
 rw [BB h0 h1,Zm,Z4,Zb b2]
 rfl
theorem CY (ns:Vl):∃ c,eJ [.scr ns,.int 0]=some (.fr,.int c):=by
 cases ns with
 | cons a r =>
  have h2:(0:Int) < ((a :: r).length:Int):=by rw [Zj];lia
  exact ⟨_,yf [some (.pu (.scr (a :: r))),some (.pu (.int 0))] rfl rfl (oy ((m8 (m:=.fr) (e2v (x:=(.fr,.int 0)) rfl (lU (xv rfl rfl) rfl) (congrArg (fun b=>some (Md.fr,T.bl b)) (decide_eq_true h2)))).trans (ig (e2v (x:=(.fr,.scr (a :: r))) rfl rfl (sW _ 0 (by decide) h2)))))⟩
 | nil=>exact ⟨0,rfl⟩
theorem dF (ns:Vl) (k:Int) (h0:0<=k) (h1:k < 1000):∃ n,aA [.scr ns,.int k]=some (.fr,.int n)/\0<=n/\n < 2147483648:=by
 obtain ⟨c,hc⟩:∃ c,(sIf (e2 oGt (eN d5 (ag (ah 0) aw)) (eC (.int 0))) (aQ 2 (e2 bh (ah 0) (e2 oMod (ah 1) (eN d5 (ag (ah 0) aw))))) gS) [some (.pu (.scr ns)),some (.pu (.int k)),some (.pu (.int 7)),none]=some (.nx [some (.pu (.scr ns)),some (.pu (.int k)),some (.pu (.int c)),none]):=by
  cases ns with
  | nil=>exact ⟨7,rfl⟩
  | cons a r =>
   have hp:(0:Int) < ((a :: r).length:Int):=by rw [Zj];lia
   exact ⟨_,(m8 (m:=.fr) (e2v (lU (xv rfl rfl) rfl) rfl (congrArg (fun b=>some (Md.fr,T.bl b)) (decide_eq_true hp)))).trans (aJ (m:=.fr) (e2v (x:=(.fr,.scr (a :: r))) rfl (e2v (x:=(.fr,.int k)) rfl (lU (xv rfl rfl) rfl) (bq hp)) (sW _ _ (Z0 k (Int.ne_of_gt hp)) (ZM k hp))) (by decide) (by decide:2 < 4))⟩
 have a0:=Z0 c (b:=2147483629) (by decide)
 have a1:=ZM c (b:=2147483629) (by decide)
 generalize hx1:c % 2147483629=x1 at a0 a1
 have b0:=Z0 ((x1+40503 * k+1) * 48271) (b:=2147483647) (by decide)
 have b1:=ZM ((x1+40503 * k+1) * 48271) (b:=2147483647) (by decide)
 generalize hx2:(x1+40503 * k+1) * 48271 % 2147483647=x2 at b0 b1
 have c0:=Z0 (x2 * x2) (b:=2147483629) (by decide)
 have c1:=ZM (x2 * x2) (b:=2147483629) (by decide)
 generalize hx3:x2 * x2 % 2147483629=x3 at c0 c1
 have d0:=Z0 ((x3+k) * 69621) (b:=2147483587) (by decide)
 have d1:=ZM ((x3+k) * 69621) (b:=2147483587) (by decide)
 generalize hx4:(x3+k) * 69621 % 2147483587=x4 at d0 d1
 have e0:=Z0 (x4 * x4) (b:=2147483563) (by decide)
 have e1:=ZM (x4 * x4) (b:=2147483563) (by decide)
 refine ⟨x4 * x4 % 2147483563 / 3,?_,by lia,by lia⟩
 have m1:∀ m n,fz (m,.int (x1+40503 * k+1)) (n,.int 48271)=some (.fr,.int ((x1+40503 * k+1) * 48271)):=fun m n=>kB (by lia)
 have m2:∀ m n,fz (m,.int x2) (n,.int x2)=some (.fr,.int (x2 * x2)):=fun m n=>kB (by lia)
 have m3:∀ m n,fz (m,.int (x3+k)) (n,.int 69621)=some (.fr,.int ((x3+k) * 69621)):=fun m n=>kB (by lia)
 have m4:∀ m n,fz (m,.int x4) (n,.int x4)=some (.fr,.int (x4 * x4)):=fun m n=>kB (by lia)
 have m0:∀ m n,fz (m,.int 40503) (n,.int k)=some (.fr,.int (40503 * k)):=fun m n=>kB (by decide)
 unfold aA
 refine yf [some (.pu (.scr ns)),some (.pu (.int k)),none,none] (η':=[some (.pu (.scr ns)),some (.pu (.int k)),some (.pu (.int c)),some (.pu (.int x4))]) rfl rfl ?_
 rw [gh (η':=[some (.pu (.scr ns)),some (.pu (.int k)),some (.pu (.int 7)),none]) rfl,gh hc]
 rw [gh (aJ (m:=.fr) (t:=.int x2) (e2v (e2v (e2v (e2v (e2v rfl rfl ((bq (by decide)).trans (by rw [hx1]))) (e2v rfl rfl (m0 _ _)) rfl) rfl rfl) rfl (m1 _ _)) rfl ((bq (by decide)).trans (by rw [hx2]))) (by decide) (by decide:3 < 4))]
 refine (show au _ _ [some (.pu (.scr ns)),some (.pu (.int k)),some (.pu (.int c)),some (.pu (.int x2))]=_ from ?_)
 rw [gh (aJ (m:=.fr) (t:=.int x3) (e2v (e2v rfl rfl (m2 _ _)) rfl ((bq (by decide)).trans (by rw [hx3]))) (by decide) (by decide:3 < 4))]
 refine (show au _ _ [some (.pu (.scr ns)),some (.pu (.int k)),some (.pu (.int c)),some (.pu (.int x3))]=_ from ?_)
 rw [gh (aJ (m:=.fr) (t:=.int x4) (e2v (e2v (e2v rfl rfl rfl) rfl (m3 _ _)) rfl ((bq (by decide)).trans (by rw [hx4]))) (by decide) (by decide:3 < 4))]
 refine (show dy _ [some (.pu (.scr ns)),some (.pu (.int k)),some (.pu (.int c)),some (.pu (.int x4))]=_ from ?_)
 refine ig ?_
 have r:=e2v (f:=fU) (η:=[some (.pu (.scr ns)),some (.pu (.int k)),some (.pu (.int c)),some (.pu (.int x4))]) (e2v (f:=oMod) (a:=e2 fz (ah 3) (ah 3)) (b:=eC (.int 2147483563)) (e2v rfl rfl (m4 _ _)) rfl (bq (by decide))) (show eC (.int 3) _=some (.fr,.int 3) from rfl) (gu (by decide))
 exact r
noncomputable abbrev abc:Tx:=[97,98,99,100,101,102,103,104,105,106,107,108,109,110,111,112,113,114,115,116,117,118,119,120,121,122]
theorem vp {m n:Md} (t:Tx) (i:Int) (h0:0<=i) (h1:i < t.length):bh (m,.str t) (n,.int i)=some (.fr,.str [t.getD i.toNat 0]):=by
 have b2:i.toNat < t.length:=by lia
 show (ixP t.length i).bind _=_
 rw [BB h0 h1,Zm,Z4,Zb b2]
 rfl
theorem Du (i:Nat) (h:i < 26):97<=abc.getD i 0/\abc.getD i 0<=122:=by
 have:∀ i,i < 26->97<=abc.getD i 0/\abc.getD i 0<=122:=by decide
 exact this i h
theorem oQ (c:Int):∃ sg:Vm,bL [.int c]=some (.fr,.lst (sg.map fun x=>T.str [x]))/\sg.length=26/\∀ x∈sg,97<=x/\x<=122:=by
 have a0:=Z0 (c / 26) (b:=5) (by decide)
 have a1:=ZM (c / 26) (b:=5) (by decide)
 have li:=mH (m:=.fr) (n:=.fr) T.int [1,3,5,7,9] (c / 26 % 5) 0 a0 (by simpa using a1) rfl
 simp only [Zt,YW] at li
 obtain ⟨st,hst,s0,s1⟩:∃ st:Int,List.getD [1,3,5,7,9] (c / 26 % 5).toNat 0=st/\0<=st/\st < 10:=by
  have pk:∀ i,i < 5->0<=(List.getD [1,3,5,7,9] i 0:Int)/\(List.getD [1,3,5,7,9] i 0:Int) < 10:=by decide
  have h:=pk (c / 26 % 5).toNat (by lia)
  exact ⟨_,rfl,h.1,h.2⟩
 rw [hst] at li
 have k0:=Z0 c (b:=26) (by decide)
 have k1:=ZM c (b:=26) (by decide)
 generalize hs:c % 26=s at k0 k1
 have comp:=fQ (k:=1) (tg:=aY 0) (it:=cy (eC (.int 26))) (elt:=e2 bh (eC (.str abc)) (e2 oMod (e2 cm (ah 2) (e2 fz (ah 3) (ah 0))) (eC (.int 26))))
  (η:=[some (.pu (.int c)),some (.pu (.int s)),some (.pu (.int st))]) (m:=.fr) (fun (j:Nat)=>T.int (j:Int)) (fun j:Nat=>T.str [abc.getD ((s+st * (j:Int)) % 26).toNat 0]) (List.range 26)
  (by rw [mm (m:=.fr) (j:=26) rfl (by lia),pb];rfl) rfl (by decide) (fun j hj=>⟨[some (.pu (.int j)),some (.pu (.int c)),some (.pu (.int s)),some (.pu (.int st))],rfl,by
   have e0:=Z0 (s+st * (j:Int)) (b:=26) (by decide)
   have e1:=ZM (s+st * (j:Int)) (b:=26) (by decide)
   have ix:=vp (m:=.fr) (n:=.fr) abc ((s+st * (j:Int)) % 26) e0 (by exact e1)
   have mu:∀ m n,fz (m,.int st) (n,.int (j:Int))=some (.fr,.int (st * (j:Int))):=fun m n=>kB (by lia)
   exact e2v (x:=(.fr,.str abc)) rfl (e2v (x:=(.fr,.int (s+st * (j:Int)))) (e2v (x:=(.fr,.int s)) rfl (e2v (x:=(.fr,.int st)) rfl rfl (mu _ _)) rfl) rfl (bq (by decide))) ix⟩)
 refine ⟨(List.range 26).map fun j:Nat=>abc.getD ((s+st * (j:Int)) % 26).toNat 0,?_,by simp,fun x hx=>?_⟩
 ·unfold bL
  refine yf [some (.pu (.int c)),none,none] (η':=[some (.pu (.int c)),some (.pu (.int s)),some (.pu (.int st))]) rfl rfl ?_
  rw [gh (η':=[some (.pu (.int c)),some (.pu (.int s)),none]) (aJ (m:=.fr) (e2v (x:=(.fr,.int c)) rfl rfl ((bq (by decide)).trans (by rw [hs]))) (by decide) (by decide:1 < 3)),
   gh (η':=[some (.pu (.int c)),some (.pu (.int s)),some (.pu (.int st))]) (aJ (m:=.fr) (e2v rfl (e2v (e2v (x:=(.fr,.int c)) rfl rfl (gu (by decide))) rfl (bq (by decide))) li) (by decide) (by decide:2 < 3))]
  refine (ig comp).trans ?_
  rw [YV]
  rfl
 ·obtain ⟨j,_,rfl⟩:=Yz.mp hx
  have e0:=Z0 (s+st * (j:Int)) (b:=26) (by decide)
  have e1:=ZM (s+st * (j:Int)) (b:=26) (by decide)
  exact Du _ (by lia)
noncomputable def Az (t:Vm):Prop:=∀ x∈t,97<=x/\x<=122
theorem Az.app {s t:Vm} (a:Az s) (b:Az t):Az (s++t):=fun x hx=>(Zc.mp hx).elim (a x) (b x)
noncomputable abbrev sgT (sg:Vm):T:=.lst (sg.map fun x=>T.str [x])
theorem oj {m n:Md} (sg:Vm) (i:Int) (h0:0<=i) (h1:i < sg.length):bh (m,sgT sg) (n,.int i)=some (.fr,.str [sg.getD i.toNat 0]):=mH (fun x=>T.str [x]) sg i 0 h0 h1 rfl
theorem jL {sg:Vm} (h:Az sg) {i:Nat} (hi:i < sg.length):Az [sg.getD i 0]:=fun x hx=>by
 rw [Zn.mp hx,Z4,Zb hi]
 exact h _ (XY hi)
noncomputable abbrev ED (c:Int) (sg:Vm) (so many room:Int) (bk:Vg) (z6 z7 z8 z9:Vj):Env:=[some (.pu (.int c)),some (.pu (sgT sg)),some (.pu (.int so)),some (.pu (.int many)),some (.pu (.int room)),some (.ow (.lst bk)),z6,z7,z8,z9]
theorem ar {a b:Sx} {η η1:Env} (h:a η=some (.nx η1)):au a b η=b η1:=by simp [au,h]
theorem FU (sg:Vm) (hsg:Az sg) (so many room size:Int) (h0:0 < so) (h1:so<=sg.length) (h2:so < 1000) (bk:Vg) (k6:Vj) (ks:Vm):∀ (c:Int) (t:Tx) (z:Vj),t.length+ks.length<=1000->Az t →
  ∃ c' t' z',forL (aY 9) dM (ks.map fun (k:Nat)=>T.int (k:Int)) (ED c sg so many room bk k6 (some (.pu (.int size))) (some (.pu (.str t))) z)=some (.nx (ED c' sg so many room bk k6 (some (.pu (.int size))) (some (.pu (.str t'))) z'))/\t'.length=t.length+ks.length/\Az t':=by
 induction ks with
 | nil=>exact fun c t z _ ht=>⟨c,t,z,rfl,rfl,ht⟩
 | cons k ks ih =>
  intro c t z hl ht
  have e0:=Z0 c (b:=so) (by lia)
  have e1:=ZM c (b:=so) h0
  rw [Zj] at hl
  have ad:cm (.fr,.str t) (.fr,.str [sg.getD (c % so).toNat 0])=some (.fr,.str (t++[sg.getD (c % so).toNat 0])):=iM (show t.length+1<=16777216 by lia)
  obtain ⟨c',t',z',e,hl',ht'⟩:=ih (c / so) (t++[sg.getD (c % so).toNat 0]) (some (.pu (.int k))) (by rw [Zu,ZY];lia) (ht.app (jL hsg (by lia)))
  refine ⟨c',t',z',?_,by rw [hl',Zu,ZY,Zj];lia,ht'⟩
  rw [Zt,bH (η1:=ED c sg so many room bk k6 (some (.pu (.int size))) (some (.pu (.str t))) (some (.pu (.int k)))) (η2:=ED (c / so) sg so many room bk k6 (some (.pu (.int size))) (some (.pu (.str (t++[sg.getD (c % so).toNat 0])))) (some (.pu (.int k)))) rfl (by
   unfold dM
   rw [ar (η1:=ED c sg so many room bk k6 (some (.pu (.int size))) (some (.pu (.str (t++[sg.getD (c % so).toNat 0])))) (some (.pu (.int k)))) (aJ (m:=.fr) (e2v (x:=(.fr,.str t)) rfl (e2v (x:=(.pu,sgT sg)) rfl (e2v rfl rfl (bq h0)) (oj sg _ e0 (by lia))) ad) (by decide) (by decide:8 < 10))]
   exact aJ (m:=.fr) (e2v rfl rfl (gu (show 0 < so/\so < 1073741824 by lia))) (by decide) (by decide:0 < 10)),e]
structure Bk (most:Nat) (bk:List Tx):Prop where
 n:bk.flatten.length<=most
 az:∀ t∈bk,Az t
theorem Bk.snoc {m m':Nat} {bk:List Tx} {t:Tx} (B:Bk m bk) (h:m+t.length<=m') (ht:Az t):Bk m' (bk++[t]):=by
 refine ⟨?_,fun s hs=>?_⟩
 ·have:=B.n
  rw [Z5,Zu,show [t].flatten=t by simp]
  lia
 ·rcases Zc.mp hs with hs | hs
  ·exact B.az s hs
  ·rw [Zn.mp hs];exact ht
theorem nc {a:Ex} {η:Env} {m:Md} {n:Nat} (e:a η=some (m,.int (n:Int))) (h:n < 100000):cy a η=some (.fr,(List.range n).map fun (k:Nat)=>T.int (k:Int)):=by
 rw [mm e (by lia),pb]
 rfl
theorem fD {tg:Tg} {it:Its} {body:Sx} {η:Env} {l:Vg} (h:it η=some (.fr,l)):dN tg it body η=forL tg body l η:=by
 simp [dN,h]
theorem iq {i:Nat} {η:Env} {l:Vg} {t:T} {e:Ex} (h:η[i]?=some (some (.ow (.lst l)))) (he:e η=some (.fr,t)) (hl:l.length < 16777216):(sX (j6 i [] aZ (ag e aw))) η=some (.nx (η.set i (some (.ow (.lst (l++[t])))))):=by
 simp [h,he,eO hl]
theorem uk (sg:Vm) (hsg:Az sg) (so many:Int) (h0:0 < so) (h1:so<=sg.length) (h2:so < 1000) (k:Nat) (c:Int) (room:Nat) (bk:List Tx) (z7 z8 z9:Vj) (hr:room<=24) (B:Bk (24 - room) bk) (hl:bk.length < 1000) :
  ∃ (c1:Int) (sz:Nat) (t1:Tx) (z1:Vj),sz<=room/\Bk (24 - (room - sz)) (bk++[t1])/\cA (ED c sg so many room (bk.map T.str) (some (.pu (.int k))) z7 z8 z9)=some (.nx (ED c1 sg so many ((room - sz:Nat):Int) ((bk++[t1]).map T.str) (some (.pu (.int k))) (some (.pu (.int sz))) (some (.pu (.str t1))) z1)):=by
 have e0:=Z0 c (b:=25) (by decide)
 have e1:=ZM c (b:=25) (by decide)
 obtain ⟨sz,hsz,hsr,hs2⟩:∃ sz:Nat,(if c % 25 < (room:Int) then c % 25 else (room:Int))=(sz:Int)/\sz<=room/\sz<=24:=by
  by_cases h:c % 25 < (room:Int)
  ·exact ⟨(c % 25).toNat,by rw [Zr h];lia,by lia,by lia⟩
  ·exact ⟨room,by rw [Zq h],Zp _,hr⟩
 have er:((room:Int) - (sz:Int))=((room - sz:Nat):Int):=by lia
 generalize ht:(room - sz:Nat)=r1 at er
 obtain ⟨c1,t1,z1,ee,hl1,ht1⟩:=FU sg hsg so many (r1:Int) (sz:Int) h0 h1 h2 (bk.map T.str) (some (.pu (.int k))) (List.range sz) (c / 25) [] z9 (by rw [Z2,YU];lia) (fun x hx=>nomatch hx)
 rw [Z2,YU,Xu] at hl1
 refine ⟨c1,sz,t1,z1,hsr,B.snoc (by lia) ht1,?_⟩
 rw [ht]
 unfold cA
 rw [ar (η1:=ED c sg so many room (bk.map T.str) (some (.pu (.int k))) (some (.pu (.int sz))) z8 z9) (aJ (m:=.fr) (t:=.int sz) (by rw [← hsz];rfl) (by decide) (by decide:7 < 10))]
 rw [ar (η1:=ED (c / 25) sg so many room (bk.map T.str) (some (.pu (.int k))) (some (.pu (.int sz))) z8 z9) rfl]
 rw [ar (η1:=ED (c / 25) sg so many r1 (bk.map T.str) (some (.pu (.int k))) (some (.pu (.int sz))) z8 z9) (aJ (m:=.fr) (t:=.int r1) (by rw [← er];rfl) (by decide) (by decide:4 < 10))]
 rw [ar (η1:=ED (c / 25) sg so many r1 (bk.map T.str) (some (.pu (.int k))) (some (.pu (.int sz))) (some (.pu (.str []))) z9) rfl]
 rw [ar (η1:=ED c1 sg so many r1 (bk.map T.str) (some (.pu (.int k))) (some (.pu (.int sz))) (some (.pu (.str t1))) z1) (by rw [fD (nc (m:=.fr) (n:=sz) rfl (by lia))];exact ee)]
 rw [iq (l:=bk.map T.str) (t:=.str t1) rfl rfl (by rw [Zv];lia),Yv]
 rfl
theorem F7 (sg:Vm) (hsg:Az sg) (so many:Int) (h0:0 < so) (h1:so<=sg.length) (h2:so < 1000) (ks:Vm):∀ (c:Int) (room:Nat) (bk:List Tx) (z6 z7 z8 z9:Vj),room<=24->Bk (24 - room) bk->bk.length+ks.length<=1000 →
  ∃ c' r' bk' z6' z7' z8' z9',forL (aY 6) cA (ks.map fun (k:Nat)=>T.int (k:Int)) (ED c sg so many room (bk.map T.str) z6 z7 z8 z9)=some (.nx (ED c' sg so many r' (bk'.map T.str) z6' z7' z8' z9'))/\Bk 24 bk'/\bk'.length=bk.length+ks.length:=by
 induction ks with
 | nil=>exact fun c room bk z6 z7 z8 z9 hr B _=>⟨c,room,bk,z6,z7,z8,z9,rfl,⟨ZV B.n (YQ _ _),B.az⟩,rfl⟩
 | cons k ks ih =>
  intro c room bk z6 z7 z8 z9 hr B hl
  rw [Zj] at hl
  obtain ⟨c1,sz,t1,z1,hsr,B1,eb⟩:=uk sg hsg so many h0 h1 h2 k c room bk z7 z8 z9 hr B (by lia)
  obtain ⟨c',r',bk',z6',z7',z8',z9',e,B',hl'⟩:=ih c1 (room - sz) (bk++[t1]) (some (.pu (.int k))) (some (.pu (.int sz))) (some (.pu (.str t1))) z1 (ZV (YQ _ _) hr) B1 (by rw [Zu,ZY];lia)
  refine ⟨c',r',bk',z6',z7',z8',z9',?_,B',by rw [hl',Zu,ZY,Zj];lia⟩
  rw [Zt,bH rfl eb,e]
theorem dD {np nn:Nat} {b:Sx} {ts:Vg} {v:Val} {η:Env} (hl:ts.length=np) (h:b (ts.map (fun t=>some (.pu t))++List.replicate (nn - np) none)=some (.rt v η)):fn np nn b ts=some v:=by
 unfold fn
 rw [Zr hl]
 subst hl
 rw [h]
 rfl
theorem xC (c:Int):∃ bk:List Tx,cK [.int c]=some (.fr,.lst (bk.map T.str))/\Bk 24 bk/\bk.length<=4:=by
 obtain ⟨sg,hs,hl,haz⟩:=oQ c
 have a0:=Z0 (c / 130) (b:=8) (by decide)
 have a1:=ZM (c / 130) (b:=8) (by decide)
 have li:bh (.fr,.lst [.int 1,.int 2,.int 3,.int 4,.int 2,.int 3,.int 4,.int 26]) (.fr,.int (c / 130 % 8))=_:=mH T.int [1,2,3,4,2,3,4,26] (c / 130 % 8) 0 a0 a1 rfl
 obtain ⟨so,hso,s0,s1⟩:∃ so:Int,List.getD [1,2,3,4,2,3,4,26] (c / 130 % 8).toNat 0=so/\0 < so/\so<=26:=by
  have pk:∀ i,i < 8->0 < (List.getD [1,2,3,4,2,3,4,26] i 0:Int)/\(List.getD [1,2,3,4,2,3,4,26] i 0:Int)<=26:=by decide
  have h:=pk (c / 130 % 8).toNat (by lia)
  exact ⟨_,rfl,h.1,h.2⟩
 rw [hso] at li
 have b0:=Z0 (c / 1040) (b:=5) (by decide)
 have b1:=ZM (c / 1040) (b:=5) (by decide)
 obtain ⟨mn,hmn,m1⟩:∃ mn:Nat,c / 1040 % 5=(mn:Int)/\mn<=4:=⟨(c / 1040 % 5).toNat,by lia,by lia⟩
 obtain ⟨c',r',bk',z6',z7',z8',z9',e,B',hl'⟩:=F7 sg haz so mn s0 (by lia) (by lia) (List.range mn) (c / 5200) 24 [] none none none none (Zp _) ⟨ZS _,fun t ht=>nomatch ht⟩ (by rw [Z2,YU];lia)
 rw [Z2,YU,Xu] at hl'
 refine ⟨bk',?_,B',by lia⟩
 unfold cK
 refine dD rfl (η:=[some (.pu (.int c')),some (.pu (sgT sg)),some (.pu (.int so)),some (.pu (.int mn)),some (.pu (.int r')),none,z6',z7',z8',z9']) ?_
 refine (show au _ _ [some (.pu (.int c)),none,none,none,none,none,none,none,none,none]=_ from ?_)
 rw [ar (η1:=[some (.pu (.int c)),some (.pu (sgT sg)),none,none,none,none,none,none,none,none]) (aJ (aN (xs:=[(.fr,.int c)]) rfl hs) (by decide) (by decide:1 < 10))]
 rw [ar (η1:=[some (.pu (.int c)),some (.pu (sgT sg)),some (.pu (.int so)),none,none,none,none,none,none,none]) (aJ (m:=.fr) (e2v rfl (e2v (e2v rfl rfl (gu (j:=130) (by decide))) rfl (bq (j:=8) (by decide))) li) (by decide) (by decide:2 < 10))]
 rw [ar (η1:=[some (.pu (.int c)),some (.pu (sgT sg)),some (.pu (.int so)),some (.pu (.int mn)),none,none,none,none,none,none]) (aJ (m:=.fr) (e2v (e2v rfl rfl (gu (j:=1040) (by decide))) rfl (by rw [← hmn];exact bq (j:=5) (by decide))) (by decide) (by decide:3 < 10))]
 rw [ar (η1:=[some (.pu (.int (c / 5200))),some (.pu (sgT sg)),some (.pu (.int so)),some (.pu (.int mn)),none,none,none,none,none,none]) rfl]
 rw [ar (η1:=[some (.pu (.int (c / 5200))),some (.pu (sgT sg)),some (.pu (.int so)),some (.pu (.int mn)),some (.pu (.int ((24:Nat):Int))),none,none,none,none,none]) rfl]
 rw [ar (η1:=ED (c / 5200) sg so mn ((24:Nat):Int) (([]:List Tx).map T.str) none none none none) rfl]
 rw [ar (show dN _ _ _ _=_ from by
  rw [fD (nc (m:=.fr) (n:=mn) rfl (by lia))]
  exact e)]
 rfl
noncomputable abbrev EM (ns:Vl) (sg:Vm) (most so room:Int) (bk:Vg) (k:Nat) (z7 z8 z9 z10 z11:Vj):Env:=[some (.pu (.scr ns)),some (.pu (.int most)),some (.pu (sgT sg)),some (.pu (.int so)),some (.pu (.int room)),some (.ow (.lst bk)),some (.pu (.int k)),z7,z8,z9,z10,z11]
noncomputable abbrev cI (i:Int):Vj:=some (.pu (.int i))
noncomputable abbrev cS (t:Tx):Vj:=some (.pu (.str t))
theorem jP {a b:Ex} {η:Env} {x y:Bool} (h1:a η=some (.fr,.bl x)) (h2:b η=some (.fr,.bl y)):iw a b η=some (.fr,.bl (x && y)):=by
 unfold iw
 rw [h1,Zm]
 cases x with
 | true=>exact h2
 | false=>rfl
theorem ux (ns:Vl) (sg:Vm) (hsg:Az sg) (most so room size:Int) (h0:0 < so) (h1:so<=sg.length) (bk:Vg) (k back:Nat) (hk:k < 6) (hb:1<=back) (hb2:back<=5) (j:Nat) (hj:j < 200) (t:Tx) (ht:Az t) (hl:t.length<=1000) (z11:Vj) :
  ∃ x n,Az [x]/\cB (EM ns sg most so room bk k (cI size) (cI back) (cS t) (cI j) z11)=some (.nx (EM ns sg most so room bk k (cI size) (cI back) (cS (t++[x])) (cI j) (cI n))):=by
 obtain ⟨n,hn,n0,n1⟩:=dF ns (20 * (k:Int)+6+(j:Int)) (by lia) (by lia)
 have ad:∀ x:Nat,cm (.fr,.str t) (.fr,.str [x])=some (.fr,.str (t++[x])):=fun x=>iM (ZV (Nat.add_le_add_right hl 1) (by decide))
 have c1:e2 oGe (eN d5 (ag (ah 9) aw)) (ah 8) (EM ns sg most so room bk k (cI size) (cI back) (cS t) (cI j) (cI n))=some (.fr,.bl (decide ((back:Int)<=(t.length:Int)))):=rfl
 have c2:e2 oGt (e2 oMod (ah 11) (eC (.int 4))) (eC (.int 0)) (EM ns sg most so room bk k (cI size) (cI back) (cS t) (cI j) (cI n))=some (.fr,.bl (decide (0 < n % 4))):=e2v (e2v rfl rfl (bq (by decide))) rfl rfl
 have st:∀ {e:Ex} {x:Nat},e (EM ns sg most so room bk k (cI size) (cI back) (cS t) (cI j) (cI n))=some (.fr,.str [x])->aQ 9 (e2 cm (ah 9) e) (EM ns sg most so room bk k (cI size) (cI back) (cS t) (cI j) (cI n))=some (.nx (EM ns sg most so room bk k (cI size) (cI back) (cS (t++[x])) (cI j) (cI n))):=fun {e x} h =>
  aJ (m:=.fr) (e2v (x:=(.fr,.str t)) rfl h (ad x)) (by decide) (by decide:9 < 12)
 unfold cB
 rw [ar (η1:=EM ns sg most so room bk k (cI size) (cI back) (cS t) (cI j) (cI n)) (aJ (aN (xs:=[(.fr,.scr ns),(.fr,.int (20 * (k:Int)+6+(j:Int)))]) rfl hn) (by decide) (by decide:11 < 12))]
 by_cases p:(back:Int)<=(t.length:Int)/\0 < n % 4
 ·refine ⟨t.getD ((t.length:Int) - (back:Int)).toNat 0,n,jL ht (by lia),?_⟩
  rw [m8 (m:=.fr) (by rw [jP c1 c2,decide_eq_true p.1,decide_eq_true p.2];rfl)]
  exact st (e2v (x:=(.fr,.str t)) (y:=(.fr,.int ((t.length:Int) - (back:Int)))) rfl rfl (vp t _ (by lia) (by lia)))
 ·have e0:=Z0 (n / 4) (b:=so) (by lia)
  have e1:=ZM (n / 4) (b:=so) h0
  refine ⟨sg.getD (n / 4 % so).toNat 0,n,jL hsg (by lia),?_⟩
  rw [jR (m:=.fr) (by
   rw [jP c1 c2,← Bool.decide_and,ZP p])]
  exact st (e2v (x:=(.pu,sgT sg)) rfl (e2v (e2v rfl rfl (gu (by decide))) rfl (bq h0)) (oj sg _ e0 (by lia)))
theorem F0 (ns:Vl) (sg:Vm) (hsg:Az sg) (most so room size:Int) (h0:0 < so) (h1:so<=sg.length) (bk:Vg) (k back:Nat) (hk:k < 6) (hb:1<=back) (hb2:back<=5) (js:Vm):∀ (t:Tx) (z10 z11:Vj),(∀ j∈js,j < 200)->t.length+js.length<=1000->Az t →
  ∃ t' z10' z11',forL (aY 10) cB (js.map fun (j:Nat)=>T.int (j:Int)) (EM ns sg most so room bk k (cI size) (cI back) (cS t) z10 z11)=some (.nx (EM ns sg most so room bk k (cI size) (cI back) (cS t') z10' z11'))/\t'.length=t.length+js.length/\Az t':=by
 induction js with
 | nil=>exact fun t z10 z11 _ _ ht=>⟨t,z10,z11,rfl,rfl,ht⟩
 | cons j js ih =>
  intro t z10 z11 hj hl ht
  rw [Zj] at hl
  obtain ⟨x,n,hx,eb⟩:=ux ns sg hsg most so room size h0 h1 bk k back hk hb hb2 j (hj j Zw) t ht (by lia) z11
  obtain ⟨t',a,b,e,hl',ht'⟩:=ih (t++[x]) (cI j) (cI n) (fun i hi=>hj i (Zx _ hi)) (by rw [Zu,ZY];lia) (ht.app hx)
  refine ⟨t',a,b,?_,by rw [hl',Zu,ZY,Zj];lia,ht'⟩
  rw [Zt,bH rfl eb,e]
theorem tu (t:Tx) (i L:Nat) (h:i<=t.length):cut t (some (i:Int)) (some ((i:Int)+(L:Int)))=(t.drop i).take L:=by
 have h1:¬ ((i:Int) < 0):=by lia
 have h2:¬ ((i:Int)+(L:Int) < 0):=by lia
 simp only [cut,clip,Zq h1,Zq h2,YM]
 rw [show ((i:Int)+(L:Int)).toNat=i+L by lia,Yt h]
 by_cases q:i+L<=t.length
 ·rw [Yt q,show i+L - i=L by exact YF _ _]
 ·rw [X3 (by exact YB q),ZA (l:=t.drop i) (by simp),ZA (l:=t.drop i) (by simp;lia)]
theorem t6 (ns:Vl) (sg:Vm) (hsg:Az sg) (most so:Int) (hm0:0<=most) (hm1:most<=120) (h0:0 < so) (h1:so<=sg.length) (k:Nat) (hk:k < 6) (room:Nat) (hr:(room:Int)<=most) (bk:List Tx) (B:Bk (most.toNat - room) bk) (hl:bk.length<=100) (z7 z8 z9 z10 z11:Vj) :
  ∃ (room':Nat) (bk':List Tx) (y7 y8 y9 y10 y11:Vj),room'<=room/\Bk (most.toNat - room') bk'/\bk'.length<=bk.length+2/\cD (EM ns sg most so room (bk.map T.str) k z7 z8 z9 z10 z11)=some (.nx (EM ns sg most so room' (bk'.map T.str) k y7 y8 y9 y10 y11)):=by
 obtain ⟨n4,hn4,n40,n41⟩:=dF ns (20 * (k:Int)+4) (by lia) (by lia)
 obtain ⟨n5,hn5,n50,n51⟩:=dF ns (20 * (k:Int)+5) (by lia) (by lia)
 have e0:=Z0 n4 (b:=most+1) (by lia)
 have e1:=ZM n4 (b:=most+1) (by lia)
 have f0:=Z0 n5 (b:=5) (by decide)
 have f1:=ZM n5 (b:=5) (by decide)
 obtain ⟨sz,hsz,hsr⟩:∃ sz:Nat,(if n4 % (most+1) < (room:Int) then n4 % (most+1) else (room:Int))=(sz:Int)/\sz<=room:=by
  by_cases h:n4 % (most+1) < (room:Int)
  ·exact ⟨(n4 % (most+1)).toNat,by rw [Zr h];lia,by lia⟩
  ·exact ⟨room,by rw [Zq h],Zp _⟩
 have er:((room:Int) - (sz:Int))=((room - sz:Nat):Int):=by lia
 generalize ht:(room - sz:Nat)=r1 at er
 obtain ⟨bc,hbc,c0,c1⟩:∃ bc:Nat,1+n5 % 5=(bc:Int)/\1<=bc/\bc<=5:=⟨(1+n5 % 5).toNat,by lia,by lia,by lia⟩
 obtain ⟨t1,y10,y11,ee,hl1,ht1⟩:=F0 ns sg hsg most so (r1:Int) (sz:Int) h0 h1 (bk.map T.str) k bc hk c0 c1 (List.range sz) [] z10 z11 (fun j hj=>by have:=Z7.mp hj;lia) (by rw [Z2,YU];lia) (fun x hx=>nomatch hx)
 rw [Z2,YU,Xu] at hl1
 have B1:Bk (most.toNat - r1) (bk++[t1]):=B.snoc (by lia) ht1
 have m5:∀ (r:Int) (b:Vg) (z7 z8 z9 z10 z11:Vj),aM aA (ag (ah 0) (ag (e2 cm (e2 fz (eC (.int 20)) (ah 6)) (eC (.int 5))) aw)) (EM ns sg most so r b k z7 z8 z9 z10 z11)=some (.fr,.int n5):=fun r b _ _ _ _ _=>aN (xs:=[(.fr,.scr ns),(.fr,.int (20 * (k:Int)+5))]) rfl hn5
 have m4:aM aA (ag (ah 0) (ag (e2 cm (e2 fz (eC (.int 20)) (ah 6)) (eC (.int 4))) aw)) (EM ns sg most so room (bk.map T.str) k z7 z8 z9 z10 z11)=some (.fr,.int n4):=aN (xs:=[(.fr,.scr ns),(.fr,.int (20 * (k:Int)+4))]) rfl hn4
 have mp:∀ (b:List Tx) (t:Tx),(b++[t]).map T.str=b.map T.str++[T.str t]:=fun b t=>by rw [Yv];rfl
 unfold cD
 rw [ar (η1:=EM ns sg most so room (bk.map T.str) k (cI sz) z8 z9 z10 z11) (aJ (m:=.fr) (t:=.int sz) (by
  have a:=xv (a:=ah 4) (x:=(.fr,.int room)) (η:=EM ns sg most so room (bk.map T.str) k z7 z8 z9 z10 z11) rfl (xv (e2v (z:=(.fr,.int (n4 % (most+1)))) m4 (b:=e2 cm (ah 1) (eC (.int 1))) (y:=(.fr,.int (most+1))) rfl (bq (by lia))) (xs:=[]) (r:=aw) rfl)
  show (ag _ _ _).bind _=_
  rw [a,← hsz]
  rfl) (by decide) (by decide:7 < 12))]
 rw [ar (η1:=EM ns sg most so r1 (bk.map T.str) k (cI sz) z8 z9 z10 z11) (aJ (m:=.fr) (t:=.int r1) (by rw [← er];rfl) (by decide) (by decide:4 < 12))]
 rw [ar (η1:=EM ns sg most so r1 (bk.map T.str) k (cI sz) (cI bc) z9 z10 z11) (aJ (m:=.fr) (t:=.int bc) (e2v (x:=(.fr,.int 1)) rfl (e2v (m5 r1 _ _ _ _ _ _) rfl (bq (j:=5) (by decide))) (by rw [← hbc];rfl)) (by decide) (by decide:8 < 12))]
 rw [ar (η1:=EM ns sg most so r1 (bk.map T.str) k (cI sz) (cI bc) (cS []) z10 z11) rfl]
 rw [ar (η1:=EM ns sg most so r1 (bk.map T.str) k (cI sz) (cI bc) (cS t1) y10 y11) (by rw [fD (nc (m:=.fr) (n:=sz) rfl (by lia))];exact ee)]
 rw [ar (η1:=EM ns sg most so r1 ((bk++[t1]).map T.str) k (cI sz) (cI bc) (cS t1) y10 y11) (by rw [mp,iq (l:=bk.map T.str) (t:=.str t1) rfl rfl (by rw [Zv];lia)];rfl)]
 have g1:e2 oGt (ah 7) (eC (.int 2)) (EM ns sg most so r1 ((bk++[t1]).map T.str) k (cI sz) (cI bc) (cS t1) y10 y11)=some (.fr,.bl (decide ((2:Int) < (sz:Int)))):=rfl
 have g2:e2 oEq (e2 oMod (aM aA (ag (ah 0) (ag (e2 cm (e2 fz (eC (.int 20)) (ah 6)) (eC (.int 5))) aw))) (eC (.int 3))) (eC (.int 0)) (EM ns sg most so r1 ((bk++[t1]).map T.str) k (cI sz) (cI bc) (cS t1) y10 y11)=some (.fr,.bl (n5 % 3 == 0)):=e2v (e2v (m5 _ _ _ _ _ _ _) rfl (bq (by decide))) rfl rfl
 have g3:e2 oGe (ah 4) (eC (.int 2)) (EM ns sg most so r1 ((bk++[t1]).map T.str) k (cI sz) (cI bc) (cS t1) y10 y11)=some (.fr,.bl (decide ((2:Int)<=(r1:Int)))):=rfl
 have g:=jP g1 (jP g2 g3)
 cases hg:(decide ((2:Int) < (sz:Int)) && ((n5 % 3 == 0) && decide ((2:Int)<=(r1:Int)))) with
 | true =>
  rw [hg] at g
  have q:=Wx.mp hg
  have q3:=of_decide_eq_true (Wx.mp q.2).2
  have q1:=of_decide_eq_true q.1
  have cu:cut t1 (some 1) (some 3)=(t1.drop 1).take 2:=tu t1 1 2 (by lia)
  have az2:Az ((t1.drop 1).take 2):=fun x hx=>ht1 x (Yd (Yn hx))
  have l2:((t1.drop 1).take 2).length<=2:=by rw [ZO];exact Nat.min_le_left _ _
  have e2':((r1:Int) - 2)=((r1 - 2:Nat):Int):=by lia
  refine ⟨r1 - 2,bk++[t1]++[(t1.drop 1).take 2],cI sz,cI bc,cS t1,y10,y11,by lia,B1.snoc (by lia) az2,by rw [Zu,Zu,ZY,ZY];exact Zp _,?_⟩
  rw [m8 (m:=.fr) g]
  rw [ar (η1:=EM ns sg most so r1 ((bk++[t1]++[(t1.drop 1).take 2]).map T.str) k (cI sz) (cI bc) (cS t1) y10 y11) (by
   rw [mp (bk++[t1]),iq (l:=(bk++[t1]).map T.str) (t:=.str ((t1.drop 1).take 2)) rfl (by rw [← cu];rfl) (by rw [Zv,Zu,ZY];lia)];rfl)]
  rw [← e2']
  rfl
 | false =>
  rw [hg] at g
  refine ⟨r1,bk++[t1],cI sz,cI bc,cS t1,y10,y11,by lia,B1,by rw [Zu,ZY];exact Nat.le_succ _,?_⟩
  rw [jR (m:=.fr) g]
  rfl
theorem FP (ns:Vl) (sg:Vm) (hsg:Az sg) (most so:Int) (hm0:0<=most) (hm1:most<=120) (h0:0 < so) (h1:so<=sg.length) (ks:Vm):∀ (room:Nat) (bk:List Tx) (z6 z7 z8 z9 z10 z11:Vj),(∀ k∈ks,k < 6)->(room:Int)<=most->Bk (most.toNat - room) bk->bk.length+2 * ks.length<=100 →
  ∃ (room':Int) (bk':List Tx) (y6 y7 y8 y9 y10 y11:Vj),Bk most.toNat bk'/\bk'.length<=bk.length+2 * ks.length/\forL (aY 6) cD (ks.map fun (k:Nat)=>T.int (k:Int)) [some (.pu (.scr ns)),some (.pu (.int most)),some (.pu (sgT sg)),some (.pu (.int so)),some (.pu (.int (room:Int))),some (.ow (.lst (bk.map T.str))),z6,z7,z8,z9,z10,z11] =
   some (.nx [some (.pu (.scr ns)),some (.pu (.int most)),some (.pu (sgT sg)),some (.pu (.int so)),some (.pu (.int room')),some (.ow (.lst (bk'.map T.str))),y6,y7,y8,y9,y10,y11]):=by
 induction ks with
 | nil=>exact fun room bk z6 z7 z8 z9 z10 z11 _ hr B _=>⟨room,bk,z6,z7,z8,z9,z10,z11,⟨ZV B.n (YQ _ _),B.az⟩,Zp _,rfl⟩
 | cons k ks ih =>
  intro room bk z6 z7 z8 z9 z10 z11 hk hr B hl
  rw [Zj] at hl
  obtain ⟨r1,b1,y7,y8,y9,y10,y11,hr1,B1,hl1,eb⟩:=t6 ns sg hsg most so hm0 hm1 h0 h1 k (hk k Zw) room hr bk B (by lia) z7 z8 z9 z10 z11
  obtain ⟨r2,b2,x6,x7,x8,x9,x10,x11,B2,hl2,e⟩:=ih r1 b1 (cI k) y7 y8 y9 y10 y11 (fun i hi=>hk i (Zx _ hi)) (by lia) B1 (by lia)
  refine ⟨r2,b2,x6,x7,x8,x9,x10,x11,B2,by rw [Zj];lia,?_⟩
  rw [Zt,bH rfl eb,e]
theorem FJ {α:Type} (l:List α):cut l none (some 8)=l.take 8:=by
 simp only [cut,clip]
 by_cases h:8<=l.length
 ·simp [Yt h]
 ·simp [X3 (ZQ (Vp h))]
  rw [ZA (by exact YB h)]
theorem Bk.take {m:Nat} {bk:List Tx} (B:Bk m bk) (n:Nat):Bk m (bk.take n):=by
 refine ⟨?_,fun t ht=>B.az t (Yn ht)⟩
 have h:bk.flatten=(bk.take n).flatten++(bk.drop n).flatten:=by rw [← Z5,Yh]
 have:=B.n
 rw [h,Zu] at this
 lia
theorem wA (l:List Tx):fN (l.map T.str)=true:=by
 induction l with
 | nil=>rfl
 | cons a l ih=>simpa [fN,imm] using ih
theorem vD (ns:Vl) (most:Int) (hm0:0<=most) (hm1:most<=120):∃ bk:List Tx,cL [.scr ns,.int most]=some (.fr,.lst (bk.map T.str))/\Bk most.toNat bk/\bk.length<=8:=by
 obtain ⟨n1,hn1,_,_⟩:=dF ns 1 (by decide) (by decide)
 obtain ⟨n2,hn2,_,_⟩:=dF ns 2 (by decide) (by decide)
 obtain ⟨n3,hn3,_,_⟩:=dF ns 3 (by decide) (by decide)
 obtain ⟨sg,hs,hl,haz⟩:=oQ n1
 have a0:=Z0 n2 (b:=8) (by decide)
 have a1:=ZM n2 (b:=8) (by decide)
 have li:bh (.fr,.lst [.int 1,.int 2,.int 3,.int 4,.int 2,.int 3,.int 9,.int 26]) (.fr,.int (n2 % 8))=_:=mH T.int [1,2,3,4,2,3,9,26] (n2 % 8) 0 a0 a1 rfl
 obtain ⟨so,hso,s0,s1⟩:∃ so:Int,List.getD [1,2,3,4,2,3,9,26] (n2 % 8).toNat 0=so/\0 < so/\so<=26:=by
  have pk:∀ i,i < 8->0 < (List.getD [1,2,3,4,2,3,9,26] i 0:Int)/\(List.getD [1,2,3,4,2,3,9,26] i 0:Int)<=26:=by decide
  have h:=pk (n2 % 8).toNat (by lia)
  exact ⟨_,rfl,h.1,h.2⟩
 rw [hso] at li
 have b0:=Z0 n3 (b:=6) (by decide)
 have b1:=ZM n3 (b:=6) (by decide)
 obtain ⟨mn,hmn,m1⟩:∃ mn:Nat,n3 % 6=(mn:Int)/\mn < 6:=⟨(n3 % 6).toNat,by lia,by lia⟩
 obtain ⟨rm,rfl⟩:∃ rm:Nat,most=(rm:Int):=⟨most.toNat,by lia⟩
 obtain ⟨r2,b2,x6,x7,x8,x9,x10,x11,B2,hl2,e⟩:=FP ns sg haz rm so hm0 hm1 s0 (by lia) (List.range mn) rm [] none none none none none none (fun k hk=>Wo (Z7.mp hk) m1) (Int.le_refl _) ⟨ZS _,fun t ht=>nomatch ht⟩ (by rw [Z2,YU];lia)
 have mx:∀ (i n:Int) (r:Env),aA [.scr ns,.int i]=some (.fr,.int n)->aM aA (ag (ah 0) (ag (eC (.int i)) aw)) (some (.pu (.scr ns)) :: r)=some (.fr,.int n):=fun i n r h=>aN (xs:=[(.fr,.scr ns),(.fr,.int i)]) rfl h
 have mk:mkL .pu ((b2.take 8).map T.str)=some (.fr,.lst ((b2.take 8).map T.str)):=by
  unfold mkL
  rw [Zr (show ((b2.take 8).map T.str).length<=ip by rw [Zv,ZO];exact ZV (Nat.min_le_left _ _) (by decide)),Zr (wA _)]
 refine ⟨b2.take 8,?_,B2.take 8,by rw [ZO];exact Nat.min_le_left _ _⟩
 unfold cL
 refine dD rfl (η:=[some (.pu (.scr ns)),some (.pu (.int rm)),some (.pu (sgT sg)),some (.pu (.int so)),some (.pu (.int r2)),some (.pu (.lst (b2.map T.str))),x6,x7,x8,x9,x10,x11]) ?_
 refine (show au _ _ [some (.pu (.scr ns)),some (.pu (.int rm)),none,none,none,none,none,none,none,none,none,none]=_ from ?_)
 rw [ar (η1:=[some (.pu (.scr ns)),some (.pu (.int rm)),some (.pu (sgT sg)),none,none,none,none,none,none,none,none,none]) (aJ (aN (xs:=[(.fr,.int n1)]) (xv (mx 1 n1 _ hn1) rfl) hs) (by decide) (by decide:2 < 12))]
 rw [ar (η1:=[some (.pu (.scr ns)),some (.pu (.int rm)),some (.pu (sgT sg)),some (.pu (.int so)),none,none,none,none,none,none,none,none]) (aJ (m:=.fr) (e2v rfl (e2v (mx 2 n2 _ hn2) rfl (bq (j:=8) (by decide))) li) (by decide) (by decide:3 < 12))]
 rw [ar (η1:=[some (.pu (.scr ns)),some (.pu (.int rm)),some (.pu (sgT sg)),some (.pu (.int so)),some (.pu (.int (rm:Int))),none,none,none,none,none,none,none]) rfl]
 rw [ar (η1:=[some (.pu (.scr ns)),some (.pu (.int rm)),some (.pu (sgT sg)),some (.pu (.int so)),some (.pu (.int (rm:Int))),some (.ow (.lst (([]:List Tx).map T.str))),none,none,none,none,none,none]) rfl]
 rw [ar (show dN _ _ _ _=_ from by
  rw [fD (nc (m:=.fr) (n:=mn) (e2v (mx 3 n3 _ hn3) rfl (by rw [← hmn];exact bq (by decide))) (by lia))]
  exact e)]
 rw [ar (η1:=[some (.pu (.scr ns)),some (.pu (.int rm)),some (.pu (sgT sg)),some (.pu (.int so)),some (.pu (.int r2)),some (.pu (.lst (b2.map T.str))),x6,x7,x8,x9,x10,x11]) rfl]
 have sl:eSl (ah 5) none (some (eC (.int 8))) [some (.pu (.scr ns)),some (.pu (.int rm)),some (.pu (sgT sg)),some (.pu (.int so)),some (.pu (.int r2)),some (.pu (.lst (b2.map T.str))),x6,x7,x8,x9,x10,x11]=some (.fr,.lst ((b2.take 8).map T.str)):=by
  show mkL .pu (cut (b2.map T.str) none (some 8))=_
  rw [FJ,← List.map_take,mk]
 simp only [dy,sl,Zm]
theorem vN {α:Type} (l:List α) (n:Nat) (h:n<=l.length):cut l none (some (n:Int))=l.take n:=by
 have h1:¬ ((n:Int) < 0):=by lia
 simp only [cut,clip,Zq h1,YM,Yt h]
 simp
theorem wt {α:Type} (l:List α) (n:Nat) (h:n<=l.length):cut l (some (n:Int)) none=l.drop n:=by
 have h1:¬ ((n:Int) < 0):=by lia
 simp only [cut,clip,Zq h1,YM,Yt h]
 rw [ZA (by simp)]
theorem vq (n x:Nat):(List.replicate n [x]).flatten=List.replicate n x:=by
 induction n with
 | zero=>rfl
 | succ n ih=>rw [Ws,Ze,ih];rfl
noncomputable abbrev EG (ns:Vl) (sg:Vm) (z2 z3:Vj):Env:=[some (.pu (.scr ns)),some (.pu (sgT sg)),z2,z3]
theorem Bi (ns:Vl):∃ bk:List Tx,dQ [.scr ns]=some (.fr,.lst (bk.map T.str))/\Bk 120 bk/\bk.length<=8:=by
 obtain ⟨n1,hn1,_,_⟩:=dF ns 1 (by decide) (by decide)
 obtain ⟨n2,hn2,_,_⟩:=dF ns 2 (by decide) (by decide)
 obtain ⟨n3,hn3,_,_⟩:=dF ns 3 (by decide) (by decide)
 obtain ⟨n4,hn4,_,_⟩:=dF ns 4 (by decide) (by decide)
 obtain ⟨sg,hs,hl,haz⟩:=oQ n1
 have a0:=Z0 n2 (b:=21) (by decide)
 have a1:=ZM n2 (b:=21) (by decide)
 obtain ⟨L,hL,l0,l1⟩:∃ L:Nat,100+n2 % 21=(L:Int)/\100<=L/\L<=120:=⟨(100+n2 % 21).toNat,by lia,by lia,by lia⟩
 have ix0:=oj (m:=.pu) (n:=.fr) sg 0 (by decide) (by rw [hl];decide)
 have ix1:=oj (m:=.pu) (n:=.fr) sg 1 (by decide) (by rw [hl];decide)
 have z0:Az [sg.getD (0:Int).toNat 0]:=jL haz (by rw [hl];decide)
 have z1:Az [sg.getD (1:Int).toNat 0]:=jL haz (by rw [hl];decide)
 generalize sg.getD (0:Int).toNat 0=x at ix0 z0
 generalize sg.getD (1:Int).toNat 0=y at ix1 z1
 have rp:lY (.fr,.str [x]) (.fr,.int (L:Int))=some (.fr,.str (List.replicate L x)):=by
  refine (Zr ⟨?_,?_,?_⟩).trans (by rw [YM,vq])
  ·show 1 * (L:Int).toNat<=16777216
   rw [YM,Nat.one_mul]
   exact ZV l1 (by decide)
  ·show -4611686018427387904<=(L:Int)
   lia
  ·show (L:Int) < 4611686018427387904
   lia
 have tl:(List.replicate L x).length=L:=Y2
 have ta:Az (List.replicate L x):=fun c hc=>by
  rw [(List.mem_replicate.mp hc).2]
  exact z0 x Zw
 generalize List.replicate L x=t at rp tl ta
 have bk1:∀ t':Tx,t'.length<=120->Az t'->Bk 120 [t']:=fun t' h1 h2=>⟨by rw [Ze,List.flatten_nil,ZD];exact h1,fun s hs=>by rw [Zn.mp hs];exact h2⟩
 have mx:∀ (i n:Int) (r:Env),aA [.scr ns,.int i]=some (.fr,.int n)->aM aA (ag (ah 0) (ag (eC (.int i)) aw)) (some (.pu (.scr ns)) :: r)=some (.fr,.int n):=fun i n r h=>aN (xs:=[(.fr,.scr ns),(.fr,.int i)]) rfl h
 have st1:(aQ 1 (aM bL (ag (aM aA (ag (ah 0) (ag (eC (.int 1)) aw))) aw))) [some (.pu (.scr ns)),none,none,none]=some (.nx (EG ns sg none none)) :=
  aJ (aN (xs:=[(.fr,.int n1)]) (xv (mx 1 n1 _ hn1) rfl) hs) (by decide) (by decide:1 < 4)
 have st2:(aQ 2 (e2 lY (e2 bh (ah 1) (eC (.int 0))) (e2 cm (eC (.int 100)) (e2 oMod (aM aA (ag (ah 0) (ag (eC (.int 2)) aw))) (eC (.int 21)))))) (EG ns sg none none)=some (.nx (EG ns sg (some (.pu (.str t))) none)) :=
  aJ (m:=.fr) (e2v (e2v (x:=(.pu,sgT sg)) rfl rfl ix0) (e2v (x:=(.fr,.int 100)) rfl (e2v (mx 2 n2 _ hn2) rfl (bq (j:=21) (by decide))) (z:=(.fr,.int L)) (by rw [← hL];rfl)) rp) (by decide) (by decide:2 < 4)
 have cd:e2 oEq (e2 oMod (aM aA (ag (ah 0) (ag (eC (.int 3)) aw))) (eC (.int 2))) (eC (.int 0)) (EG ns sg (some (.pu (.str t))) none)=some (.fr,.bl (n3 % 2 == 0)):=e2v (e2v (mx 3 n3 _ hn3) rfl (bq (by decide))) rfl rfl
 cases hp:(n3 % 2 == 0) with
 | true =>
  rw [hp] at cd
  have tp:(0:Int) < (t.length:Int):=by lia
  have b0:=Z0 n4 (b:=(t.length:Int)) (by lia)
  have b1:=ZM n4 (b:=(t.length:Int)) tp
  obtain ⟨q,hq,hq2⟩:∃ q:Nat,n4 % (t.length:Int)=(q:Int)/\q < t.length:=⟨(n4 % (t.length:Int)).toNat,by lia,by lia⟩
  have c1:=vN t q (ZQ hq2)
  have c2:=wt t (q+1) (W7 hq2)
  have l3:(t.take q++[y]++t.drop (q+1)).length=t.length:=by
   rw [Zu,Zu,ZO,ZK,ZY,Yt (ZQ hq2)]
   lia
  have len:(t.take q++[y]++t.drop (q+1)).length<=120:=by rw [l3,tl];exact l1
  have az:Az (t.take q++[y]++t.drop (q+1)):=(Az.app (Az.app (fun c hc=>ta c (Yn hc)) z1) (fun c hc=>ta c (Yd hc)))
  refine ⟨[t.take q++[y]++t.drop (q+1)],?_,bk1 _ len az,(by decide:1<=8)⟩
  have big:e2 cm (e2 cm (eSl (ah 2) none (some (ah 3))) (e2 bh (ah 1) (eC (.int 1)))) (eSl (ah 2) (some (e2 cm (ah 3) (eC (.int 1)))) none) (EG ns sg (some (.pu (.str t))) (some (.pu (.int q))))=some (.fr,.str (t.take q++[y]++t.drop (q+1))) :=
   e2v (e2v (x:=(.fr,.str (t.take q))) (by rw [← c1];rfl) (e2v (x:=(.pu,sgT sg)) rfl rfl ix1) (iM (ZV (ZV (ZL _ (t.drop (q+1)).length) (by rw [← Zu,← Zu];exact len)) (by decide)))) (y:=(.fr,.str (t.drop (q+1)))) (by rw [← c2];rfl) (iM (ZV (by rw [← Zu];exact len) (by decide)))
  unfold dQ
  refine dD rfl (η:=EG ns sg (some (.pu (.str (t.take q++[y]++t.drop (q+1))))) (some (.pu (.int q)))) ?_
  refine (show au _ _ [some (.pu (.scr ns)),none,none,none]=_ from ?_)
  rw [ar st1,ar st2]
  rw [ar (η1:=EG ns sg (some (.pu (.str (t.take q++[y]++t.drop (q+1))))) (some (.pu (.int q)))) (by
   rw [m8 (m:=.fr) cd]
   rw [ar (η1:=EG ns sg (some (.pu (.str t))) (some (.pu (.int q)))) (aJ (m:=.fr) (t:=.int q) (e2v (mx 4 n4 _ hn4) (y:=(.fr,.int t.length)) rfl (by rw [← hq];exact bq tp)) (by decide) (by decide:3 < 4))]
   exact aJ big (by decide) (by decide:2 < 4))]
  rfl
 | false =>
  rw [hp] at cd
  refine ⟨[t],?_,bk1 t (by rw [tl];exact l1) ta,(by decide:1<=8)⟩
  unfold dQ
  refine dD rfl (η:=EG ns sg (some (.pu (.str t))) none) ?_
  refine (show au _ _ [some (.pu (.scr ns)),none,none,none]=_ from ?_)
  rw [ar st1,ar st2]
  rw [ar (η1:=EG ns sg (some (.pu (.str t))) none) (by
   rw [jR (m:=.fr) cd]
   rfl)]
  rfl
theorem Bk.up {m n:Nat} {bk:List Tx} (B:Bk m bk) (h:m<=n):Bk n bk:=⟨ZV B.n h,B.az⟩
theorem eq0 {m n:Md} (i:Int):oEq (m,.int i) (n,.int 0)=some (.fr,.bl (decide (i=0))):=by
 show (if _ then some (Md.fr,T.bl (eqT (.int i) (.int 0))) else none)=_
 rw [Zr ⟨rfl,rfl⟩]
 rfl
theorem Cb (ns:Vl):∃ bk:List Tx,gr [.scr ns,.int 60]=some (.fr,.lst (bk.map T.str))/\Bk 120 bk/\bk.length<=8:=by
 obtain ⟨c,hc⟩:=CY ns
 obtain ⟨n5,hn5,_,_⟩:=dF ns 5 (by decide) (by decide)
 obtain ⟨n0,hn0,_,_⟩:=dF ns 0 (by decide) (by decide)
 have ca:aM eJ (ag (ah 0) (ag (eC (.int 0)) aw)) [some (.pu (.scr ns)),some (.pu (.int 60))]=some (.fr,.int c):=aN (xs:=[(.fr,.scr ns),(.fr,.int 0)]) rfl hc
 have c1:=e2v (f:=oEq) (b:=eC (.int 0)) (e2v (f:=oMod) (b:=eC (.int 2)) ca rfl (bq (by decide))) rfl (eq0 (c % 2))
 unfold gr
 by_cases p:c % 2=0
 ·rw [decide_eq_true p] at c1
  obtain ⟨bk,hb,B,hl⟩:=xC (c / 2)
  exact ⟨bk,dD rfl (oy ((m8 c1).trans (ig (aN (xs:=[(.fr,.int (c / 2))]) (xv (e2v ca rfl (gu (by decide))) rfl) hb)))),B.up (by decide),ZV hl (by decide)⟩
 rw [ZP p] at c1
 have c2:=jP (a:=e2 oGt (ah 1) (eC (.int 30))) (x:=true) rfl (e2v (f:=oEq) (b:=eC (.int 0)) (e2v (f:=oMod) (b:=eC (.int 16)) (aN (as:=ag (ah 0) (ag (eC (.int 5)) aw)) (η:=[some (.pu (.scr ns)),some (.pu (.int 60))]) (xs:=[(.fr,.scr ns),(.fr,.int 5)]) rfl hn5) rfl (bq (by decide))) rfl (eq0 (n5 % 16)))
 rw [Bool.true_and] at c2
 by_cases r:n5 % 16=0
 ·rw [decide_eq_true r] at c2
  obtain ⟨bk,hb,B,hl⟩:=Bi ns
  exact ⟨bk,dD rfl ((ar (jR c1)).trans (oy ((m8 c2).trans (ig (aN (xs:=[(.fr,.scr ns)]) rfl hb))))),B,hl⟩
 rw [ZP r] at c2
 have a0:=Z0 n0 (b:=4) (by decide)
 have a1:=ZM n0 (b:=4) (by decide)
 have li:=fun m n=>mH (m:=m) (n:=n) T.int [24,24,24,60] (n0 % 4) 0 a0 a1 rfl
 obtain ⟨mo,hmo,m0,m1⟩:∃ mo:Int,List.getD [24,24,24,60] (n0 % 4).toNat 0=mo/\0<=mo/\mo<=120:=by
  have pk:∀ i,i < 4->0<=(List.getD [24,24,24,60] i 0:Int)/\(List.getD [24,24,24,60] i 0:Int)<=120:=by decide
  have h:=pk (n0 % 4).toNat (by lia)
  exact ⟨_,rfl,h.1,h.2⟩
 rw [hmo] at li
 obtain ⟨bk,hb,B,hl⟩:=vD ns mo m0 m1
 exact ⟨bk,dD rfl ((ar (jR c1)).trans ((ar (jR c2)).trans (ig (aN (xs:=[(.fr,.scr ns),(.fr,.int mo)]) (xv rfl (xv (e2v rfl (e2v (aN (xs:=[(.fr,.scr ns),(.fr,.int 0)]) rfl hn0) rfl (bq (by decide))) (li _ _)) rfl)) hb)))),B.up (by lia),hl⟩
noncomputable abbrev Pl:=Nat×Nat
noncomputable def tP (p:Pl):T:=.tup [.int p.1,.int p.2]
noncomputable abbrev Fd:=List (Tx×List Pl)
noncomputable def dT (d:Fd):List (T×T):=d.map fun p=>(T.str p.1,T.lst (p.2.map tP))
noncomputable def dm:Fd->Tx->Pl->Fd
 | [],w,p=>[(w,[p])]
 | (x,l) :: d,w,p=>if x=w then (x,l++[p]) :: d else (x,l) :: dm d w p
noncomputable def qX (f:T->Option (T×Val)) (w:Tx) (L:List (T×T)):Option (List (T×T)):=(L.findIdx? fun q=>eqT q.1 (.str w)).bind fun i=>(L[i]?).bind fun q=>(f q.2).map fun z=>L.set i (q.1,z.1)
theorem t5 {f:T->Option (T×Val)} {w:Tx} {a:T×T} {L:List (T×T)} (h:eqT a.1 (.str w)=false):qX f w (a :: L)=(qX f w L).map (a :: ·):=by
 unfold qX
 rw [Yc,Zq (by rw [h];simp)]
 cases e:L.findIdx? fun q=>eqT q.1 (.str w) with
 | none=>rfl
 | some i =>
  simp only [Yb,Zm,List.getElem?_cons_succ]
  cases e2:L[i]? with
  | none=>rfl
  | some q =>
   simp only [Zm]
   cases f q.2 with
   | none=>rfl
   | some z=>rfl
theorem qB {f:T->Option (T×Val)} {w:Tx} {a:T×T} {L:List (T×T)} (h:eqT a.1 (.str w)=true):qX f w (a :: L)=(f a.2).map fun z=>(a.1,z.1) :: L:=by
 unfold qX
 rw [Yc,Zr h]
 rfl
theorem p9 {k:T} {a:T×T} {L:List (T×T)} (h:eqT a.1 k=false):cT (a :: L) k=a :: cT L k:=by
 unfold cT bS
 rw [Yu,h]
 dsimp only
 by_cases q:(Option.map (fun x=>x.2) (L.find? fun p=>eqT p.1 k)).isSome=true
 ·rw [Zr q,Zr q]
 ·rw [Zq q,Zq q]
  rfl
theorem rS {k:T} {a:T×T} {L:List (T×T)} (h:eqT a.1 k=true):cT (a :: L) k=a :: L:=by
 unfold cT bS
 rw [Yu,h]
 rfl
theorem oU (d:Fd) (w:Tx) (p:Pl) (hl:∀ q∈d,q.2.length < 16777216):qX (fun x=>aZ x [(.fr,tP p)]) w (cT (dT d) (.str w))=some (dT (dm d w p)):=by
 induction d with
 | nil =>
  have:cT (dT []) (.str w)=[(.str w,.lst [])]:=rfl
  rw [this,qB (by simp),eO (by decide)]
  rfl
 | cons a d ih =>
  obtain ⟨x,l⟩:=a
  by_cases e:x=w
  ·subst e
   have h:eqT (T.str x) (.str x)=true:=by simp
   rw [show dT ((x,l) :: d)=(T.str x,T.lst (l.map tP)) :: dT d from rfl,rS h,qB h,eO (by rw [Zv];exact hl (x,l) Zw)]
   simp [dm,dT]
  ·have h:eqT (T.str x) (.str w)=false:=by simpa using e
   rw [show dT ((x,l) :: d)=(T.str x,T.lst (l.map tP)) :: dT d from rfl,p9 h,t5 h,ih fun q hq=>hl q (Zx _ hq)]
   simp [dm,dT,e]
theorem uJ {i:Nat} {ck:Ex} {cv:Ex} {η:Env} {d:Fd} {w:Tx} {p:Pl} {m:Md} (h:η[i]?=some (some (.ow (.dct 0 (dT d))))) (hk:ck η=some (m,.str w)) (hv:∀ c,cv (η.set i c)=some (.fr,tP p)) (hl:∀ q∈d,q.2.length < 16777216) (hd:d.length < 16777216) :
  jl i ck (ag cv aw) η=some (.nx (η.set i (some (.ow (.dct 0 (dT (dm d w p))))))):=by
 unfold jl
 simp only [h]
 rw [hk,Zm,Zr ⟨rfl,by rw [dT,Zv];exact hd⟩]
 have e:ag cv aw (η.set i (some (.ow (.dct 0 (cT (dT d) (.str w))))))=some [(.fr,tP p)]:=by simp [hv]
 rw [e,Zm]
 have pk:=oU d w p hl
 unfold qX at pk
 obtain ⟨j,h1,pk⟩:=Zz.mp pk
 obtain ⟨q,h2,pk⟩:=Zz.mp pk
 obtain ⟨z,h3,pk⟩:=Zl.mp pk
 have hp:pm (fun x=>aZ x [(.fr,tP p)]) [.at (.str w)] (.dct 0 (cT (dT d) (.str w)))=some (.dct 0 (dT (dm d w p)),z.2):=by
  show (if gP (.str w) then _ else none)=_
  rw [Zr (show gP (.str w)=true from rfl),h1,Zm,h2,Zm]
  show (aZ q.2 [(.fr,tP p)]).map _=_
  rw [show aZ q.2 [(.fr,tP p)]=some z from h3,Yb,pk]
 rw [hp]
 rfl
noncomputable def Sz (N:Nat) (d:Fd):Prop:=d.length<=N/\∀ q∈d,q.2.length<=N
theorem vX (d:Fd) (w:Tx) (p:Pl):(dm d w p).length<=d.length+1:=by
 induction d with
 | nil=>simp [dm]
 | cons a d ih =>
  obtain ⟨x,l⟩:=a
  unfold dm
  split
  ·simp
  ·simp only [Zj];exact YC ih
theorem vw (d:Fd) (w:Tx) (p:Pl) (N:Nat) (h:∀ q∈d,q.2.length<=N):∀ q∈dm d w p,q.2.length<=N+1:=by
 induction d with
 | nil=>intro q hq;simp [dm] at hq;rw [hq];simp
 | cons a d ih =>
  obtain ⟨x,l⟩:=a
  have h1:=h (x,l) Zw
  have ih:=ih fun q hq=>h q (Zx _ hq)
  unfold dm
  split
  ·intro q hq
   rcases Zo.mp hq with rfl | hq
   ·simp only [Zu,ZY];simp only at h1;exact YC h1
   ·have:=h q (Zx _ hq);exact YE this
  ·intro q hq
   rcases Zo.mp hq with rfl | hq
   ·simp only at h1 ⊢;exact YE h1
   ·exact ih q hq
theorem Sz.add {N:Nat} {d:Fd} (h:Sz N d) (w:Tx) (p:Pl):Sz (N+1) (dm d w p):=⟨by have:=vX d w p;have:=h.1;lia,vw d w p N h.2⟩
noncomputable def adds (n:Nat) (t:Tx) (e:Nat) (ss:Vm) (d:Fd):Fd:=ss.foldl (fun d s=>dm d ((t.drop s).take (e - s)) (n,e)) d
theorem pl1 (bk:T) (n:Nat) (t:Tx) (e:Nat) (he:e<=t.length) (ss:Vm):∀ (d:Fd) (N:Nat) (z:Vj),(∀ s∈ss,s<=e)->Sz N d->N+ss.length < 16777216 →
  ∃ z',forL (aY 5) dG (ss.map fun (s:Nat)=>T.int (s:Int)) [some (.pu bk),some (.ow (.dct 0 (dT d))),some (.pu (.int n)),some (.pu (.str t)),some (.pu (.int e)),z] =
   some (.nx [some (.pu bk),some (.ow (.dct 0 (dT (adds n t e ss d)))),some (.pu (.int n)),some (.pu (.str t)),some (.pu (.int e)),z'])/\Sz (N+ss.length) (adds n t e ss d):=by
 induction ss with
 | nil=>exact fun d N z _ h _=>⟨z,by simp [forL,adds],by simpa [adds] using h⟩
 | cons s ss ih =>
  intro d N z hs h hN
  rw [Zj] at hN
  have hse:s<=e:=hs s Zw
  have cu:cut t (some (s:Int)) (some (e:Int))=(t.drop s).take (e - s):=by
   have:=tu t s (e - s) (by exact ZV hse he)
   rwa [show ((s:Int)+((e - s:Nat):Int))=(e:Int) by lia] at this
  obtain ⟨z',ee,hz⟩:=ih (dm d ((t.drop s).take (e - s)) (n,e)) (N+1) (some (.pu (.int s))) (fun i hi=>hs i (Zx _ hi)) (h.add _ _) (by lia)
  refine ⟨z',?_,by rw [Zj];rw [show N+(ss.length+1)=N+1+ss.length by lia];exact hz⟩
  have bo:dG [some (.pu bk),some (.ow (.dct 0 (dT d))),some (.pu (.int n)),some (.pu (.str t)),some (.pu (.int e)),some (.pu (.int s))] =
    some (.nx [some (.pu bk),some (.ow (.dct 0 (dT (dm d ((t.drop s).take (e - s)) (n,e))))),some (.pu (.int n)),some (.pu (.str t)),some (.pu (.int e)),some (.pu (.int s))]):=by
   unfold dG
   rw [uJ (d:=d) (w:=(t.drop s).take (e - s)) (p:=(n,e)) (m:=.fr) rfl (by simp [cu]) (fun c=>by simp [pZ,tP,up,imm,fN]) (fun q hq=>by have:=h.2 q hq;lia) (by have:=h.1;lia)]
   simp
  rw [Zt,bH rfl bo,ee]
  rfl
noncomputable def iy (n:Nat) (t:Tx) (es:Vm) (d:Fd):Fd:=es.foldl (fun d e=>adds n t e (List.range (e+1)) d) d
theorem pl2 (bk:T) (n:Nat) (t:Tx) (ht:t.length<=120) (es:Vm):∀ (d:Fd) (N:Nat) (z4 z5:Vj),(∀ e∈es,e<=t.length)->Sz N d->N+121 * es.length < 16777216 →
  ∃ z4' z5',forL (aY 4) dH (es.map fun (e:Nat)=>T.int (e:Int)) [some (.pu bk),some (.ow (.dct 0 (dT d))),some (.pu (.int n)),some (.pu (.str t)),z4,z5] =
   some (.nx [some (.pu bk),some (.ow (.dct 0 (dT (iy n t es d)))),some (.pu (.int n)),some (.pu (.str t)),z4',z5'])/\Sz (N+121 * es.length) (iy n t es d):=by
 induction es with
 | nil=>exact fun d N z4 z5 _ h _=>⟨z4,z5,by simp [forL,iy],by simpa [iy] using h⟩
 | cons e es ih =>
  intro d N z4 z5 hs h hN
  rw [Zj] at hN
  have he:e<=t.length:=hs e Zw
  obtain ⟨y5,e1,h1⟩:=pl1 bk n t e he (List.range (e+1)) d N z5 (fun s hs=>by have:=Z7.mp hs;exact Yf this) h (by rw [Z2];lia)
  rw [Z2] at h1
  have h2:Sz (N+121) (adds n t e (List.range (e+1)) d):=⟨by have:=h1.1;lia,fun q hq=>by have:=h1.2 q hq;lia⟩
  obtain ⟨x4,x5,ee,hz⟩:=ih (adds n t e (List.range (e+1)) d) (N+121) (some (.pu (.int e))) y5 (fun i hi=>hs i (Zx _ hi)) h2 (by lia)
  refine ⟨x4,x5,?_,by rw [Zj,show N+121 * (es.length+1)=N+121+121 * es.length by lia];exact hz⟩
  have bo:dH [some (.pu bk),some (.ow (.dct 0 (dT d))),some (.pu (.int n)),some (.pu (.str t)),some (.pu (.int e)),z5] =
    some (.nx [some (.pu bk),some (.ow (.dct 0 (dT (adds n t e (List.range (e+1)) d)))),some (.pu (.int n)),some (.pu (.str t)),some (.pu (.int e)),y5]):=by
   unfold dH
   rw [fD (nc (m:=.fr) (n:=e+1) rfl (by lia))]
   exact e1
  rw [Zt,bH rfl bo,ee]
  rfl
theorem pl3 (bk:T) (n:Nat) (t:Tx) (ht:t.length<=120) (d:Fd) (N:Nat) (z4 z5:Vj) (h:Sz N d) (hN:N+14641 < 16777216):∃ z4' z5',cN [some (.pu bk),some (.ow (.dct 0 (dT d))),some (.pu (.int n)),some (.pu (.str t)),z4,z5] =
   some (.nx [some (.pu bk),some (.ow (.dct 0 (dT (iy n t (List.range (t.length+1)) d)))),some (.pu (.int n)),some (.pu (.str t)),z4',z5'])/\Sz (N+14641) (iy n t (List.range (t.length+1)) d):=by
 obtain ⟨z4',z5',e,hz⟩:=pl2 bk n t ht (List.range (t.length+1)) d N z4 z5 (fun e he=>by have:=Z7.mp he;exact Yf this) h (by rw [Z2];lia)
 rw [Z2] at hz
 refine ⟨z4',z5',?_,⟨by have:=hz.1;lia,fun q hq=>by have:=hz.2 q hq;lia⟩⟩
 unfold cN
 rw [fD (nc (m:=.fr) (n:=t.length+1) rfl (by lia))]
 exact e
noncomputable def iF:Nat->List Tx->Fd->Fd
 | _,[],d=>d
 | n,t :: l,d=>iF (n+1) l (iy n t (List.range (t.length+1)) d)
theorem pl4 (bk:T) (l:List Tx):∀ (n:Nat) (d:Fd) (N:Nat) (z2 z3 z4 z5:Vj),(∀ t∈l,t.length<=120)->Sz N d->N+14641 * l.length < 16000000 →
  ∃ z2' z3' z4' z5',forL (j4 [aY 2,aY 3]) cN ((l.zipIdx n).map fun p=>T.tup [.int p.2,.str p.1]) [some (.pu bk),some (.ow (.dct 0 (dT d))),z2,z3,z4,z5] =
   some (.nx [some (.pu bk),some (.ow (.dct 0 (dT (iF n l d)))),z2',z3',z4',z5'])/\Sz (N+14641 * l.length) (iF n l d):=by
 induction l with
 | nil=>exact fun n d N z2 z3 z4 z5 _ h _=>⟨z2,z3,z4,z5,by simp [forL,iF],by simpa [iF] using h⟩
 | cons t l ih =>
  intro n d N z2 z3 z4 z5 ht h hN
  rw [Zj] at hN
  obtain ⟨y4,y5,e1,h1⟩:=pl3 bk n t (ht t Zw) d N z4 z5 h (by lia)
  obtain ⟨x2,x3,x4,x5,ee,hz⟩:=ih (n+1) (iy n t (List.range (t.length+1)) d) (N+14641) (some (.pu (.int n))) (some (.pu (.str t))) y4 y5 (fun s hs=>ht s (Zx _ hs)) h1 (by lia)
  refine ⟨x2,x3,x4,x5,?_,by rw [Zj,show N+14641 * (l.length+1)=N+14641+14641 * l.length by lia];exact hz⟩
  rw [Xa,Zt,bH (η1:=[some (.pu bk),some (.ow (.dct 0 (dT d))),some (.pu (.int n)),some (.pu (.str t)),z4,z5]) rfl e1,ee]
  rfl
theorem enum_zip (l:List Tx):∀ n:Nat,dC n (l.map T.str)=(l.zipIdx n).map fun p=>T.tup [.int p.2,.str p.1]:=by
 induction l with
 | nil=>intro n;rfl
 | cons t l ih=>intro n;rw [Xa,Zt,Zt,dC,ih (n+1)]
noncomputable def found (bk:List Tx):Fd:=iF 0 bk [([],[])]
theorem vM (bk:List Tx) (B:Bk 120 bk) (hl:bk.length<=8):cZ [.lst (bk.map T.str)]=some (.fr,.dct 0 (dT (found bk)))/\Sz 117129 (found bk):=by
 have hlen:∀ t∈bk,t.length<=120:=fun t ht=>by
  have h:t.length<=bk.flatten.length:=by
   obtain ⟨a,b,rfl⟩:=W3 ht
   simp only [Z5,Ze,Zu]
   lia
  have:=B.n
  exact ZV h this
 obtain ⟨z2,z3,z4,z5,e,hz⟩:=pl4 (.lst (bk.map T.str)) bk 0 [([],[])] 1 none none none none hlen ⟨by simp,fun q hq=>by rw [Zn.mp hq];simp⟩ (by lia)
 refine ⟨?_,⟨by have:=hz.1;unfold found;lia,fun q hq=>by have:=hz.2 q hq;lia⟩⟩
 unfold cZ
 refine dD rfl (η:=[some (.pu (.lst (bk.map T.str))),none,z2,z3,z4,z5]) ?_
 refine (show au _ _ [some (.pu (.lst (bk.map T.str))),none,none,none,none,none]=_ from ?_)
 rw [ar (η1:=[some (.pu (.lst (bk.map T.str))),some (.ow (.dct 0 (dT [([],[])]))),none,none,none,none]) (by
  have:lE 0 [((eC (.str [])),(fC aw))] [some (.pu (.lst (bk.map T.str))),none,none,none,none,none]=some (.fr,.dct 0 (dT [([],[])])):=rfl
  simp [this])]
 have fo:dN (j4 [aY 2,aY 3]) (iX (ah 0)) cN [some (.pu (.lst (bk.map T.str))),some (.ow (.dct 0 (dT [([],[])]))),none,none,none,none]=some (.nx [some (.pu (.lst (bk.map T.str))),some (.ow (.dct 0 (dT (iF 0 bk [([],[])])))),z2,z3,z4,z5]):=by
  rw [← enum_zip] at e
  simp [-forL,Bz]
  exact e
 rw [ar fo]
 simp [found]
noncomputable def aV (d:Fd):List Tx:=d.map (·.1)
theorem rK (d:Fd) (w:Tx) (p:Pl):aV (dm d w p)=if w∈aV d then aV d else aV d++[w]:=by
 induction d with
 | nil=>simp [aV,dm]
 | cons a d ih =>
  obtain ⟨x,l⟩:=a
  unfold dm
  by_cases e:x=w
  ·rw [Zr e];subst e;simp [aV]
  ·rw [Zq e]
   have:aV ((x,l) :: dm d w p)=x :: aV (dm d w p):=rfl
   rw [this,ih]
   have e':¬ w=x:=fun z=>e z.symm
   by_cases m:w∈aV d
   ·rw [Zr m,Zr (by simp only [aV,Zt,Zo];exact .inr m)];rfl
   ·rw [Zq m,Zq (by simp only [aV,Zt,Zo,not_or];exact ⟨e',m⟩)];rfl
theorem zp {d:Fd} {w x:Tx} {p:Pl}:x∈aV (dm d w p) ↔ x∈aV d\/x=w:=by
 rw [rK]
 by_cases m:w∈aV d
 ·rw [Zr m]
  constructor
  ·exact .inl
  ·rintro (h | rfl)
   ·exact h
   ·exact m
 ·rw [Zq m];simp
theorem B9 {d:Fd} (w:Tx) (p:Pl) (h:(aV d).Nodup):(aV (dm d w p)).Nodup:=by
 rw [rK]
 by_cases m:w∈aV d
 ·rw [Zr m];exact h
 ·rw [Zq m]
  exact ZF.mpr ⟨h,by simp,fun a ha b hb e=>m (by rw [Zn] at hb;rw [← hb,← e];exact ha)⟩
theorem CZ {d:Fd} {r:List Tx} (w:Tx) (p:Pl) (h:aV d=[] :: r):∃ r',aV (dm d w p)=[] :: r':=by
 rw [rK]
 split
 ·exact ⟨r,h⟩
 ·exact ⟨r++[w],by rw [h];rfl⟩
theorem nP {P:Fd->Prop} (hP:∀ d w p,P d->P (dm d w p)):∀ (l:List Tx) (n:Nat) (d:Fd),P d->P (iF n l d):=by
 have h1:∀ (n:Nat) (t:Tx) (e:Nat) (ss:Vm) (d:Fd),P d->P (adds n t e ss d):=by
  intro n t e ss
  induction ss with
  | nil=>exact fun d h=>h
  | cons s ss ih=>exact fun d h=>ih _ (hP _ _ _ h)
 have h2:∀ (n:Nat) (t:Tx) (es:Vm) (d:Fd),P d->P (iy n t es d):=by
  intro n t es
  induction es with
  | nil=>exact fun d h=>h
  | cons e es ih=>exact fun d h=>ih _ (h1 n t e _ d h)
 intro l
 induction l with
 | nil=>exact fun n d h=>h
 | cons t l ih=>exact fun n d h=>ih (n+1) _ (h2 n t _ d h)
theorem xt (bk:List Tx):(aV (found bk)).Nodup:=nP (P:=fun d=>(aV d).Nodup) (fun d w p h=>B9 w p h) bk 0 _ (by simp [aV])
theorem yw (bk:List Tx):∃ r,aV (found bk)=[] :: r:=nP (P:=fun d=>∃ r,aV d=[] :: r) (fun d w p ⟨r,h⟩=>CZ w p h) bk 0 _ ⟨[],rfl⟩
theorem wD (n:Nat) (t:Tx) (e:Nat) (x:Tx) (ss:Vm):∀ d,x∈aV (adds n t e ss d) ↔ x∈aV d\/∃ s∈ss,x=(t.drop s).take (e - s):=by
 induction ss with
 | nil=>intro d;simp [adds]
 | cons s ss ih =>
  intro d
  have:=ih (dm d ((t.drop s).take (e - s)) (n,e))
  rw [show adds n t e (s :: ss) d=adds n t e ss (dm d ((t.drop s).take (e - s)) (n,e)) from rfl,this,zp]
  simp [or_assoc]
theorem yE (n:Nat) (t:Tx) (x:Tx) (es:Vm):∀ d,x∈aV (iy n t es d) ↔ x∈aV d\/∃ e∈es,∃ s∈List.range (e+1),x=(t.drop s).take (e - s):=by
 induction es with
 | nil=>intro d;simp [iy]
 | cons e es ih =>
  intro d
  rw [show iy n t (e :: es) d=iy n t es (adds n t e (List.range (e+1)) d) from rfl,ih,wD,or_assoc]
  simp only [Zo,exists_eq_or_imp]
theorem jY (x:Tx) (l:List Tx):∀ n d,x∈aV (iF n l d) ↔ x∈aV d\/∃ t∈l,∃ e∈List.range (t.length+1),∃ s∈List.range (e+1),x=(t.drop s).take (e - s):=by
 induction l with
 | nil=>intro n d;simp [iF]
 | cons t l ih =>
  intro n d
  rw [show iF n (t :: l) d=iF (n+1) l (iy n t (List.range (t.length+1)) d) from rfl,ih,yE,or_assoc]
  simp only [Zo,exists_eq_or_imp]
theorem r9 (bk:List Tx) (x:Tx) (h:x∈aV (found bk)):x.drop 1∈aV (found bk):=by
 unfold found at h ⊢
 rw [jY] at h ⊢
 rcases h with h | ⟨t,ht,e,he,s,hs,rfl⟩
 ·left
  simp [aV] at h ⊢
  rw [h];rfl
 ·have h1:=Z7.mp he
  have h2:=Z7.mp hs
  by_cases q:s=e
  ·left
   subst q
   simp [aV]
  ·right
   refine ⟨t,ht,e,he,s+1,Z7.mpr (by lia),?_⟩
   rw [Wf,List.drop_drop]
   congr 1
theorem vL (bk:List Tx) (B:Bk 120 bk) (x:Tx) (h:x∈aV (found bk)):Az x/\x.length<=120:=by
 unfold found at h
 rw [jY] at h
 rcases h with h | ⟨t,ht,e,he,s,hs,rfl⟩
 ·simp [aV] at h
  subst h
  exact ⟨fun c hc=>by simp at hc,by simp⟩
 ·refine ⟨fun c hc=>B.az t ht c (Yd (Yn hc)),?_⟩
  have h1:=Z7.mp he
  have hl:t.length<=bk.flatten.length:=by
   obtain ⟨a,b,rfl⟩:=W3 ht
   simp only [Z5,Ze,Zu]
   lia
  have:=B.n
  rw [ZO]
  lia
end T22
end
section
namespace T22
open VS L2
noncomputable abbrev Gr:=List (List Pl×List Tx)
noncomputable def nkP (l:List Pl):bx:=l.map fun q=>[(q.1:Int),(q.2:Int)]
theorem tq:∀ {x y:List Pl},nkP x=nkP y->x=y
 | [],[],_=>rfl
 | [],_ :: _,h=>by simp [nkP] at h
 | _ :: _,[],h=>by simp [nkP] at h
 | (a,b) :: x,(c,d) :: y,h=>by
  simp only [nkP,Zt,YT,Int.natCast_inj,and_true] at h
  obtain ⟨⟨rfl,rfl⟩,h⟩:=h
  rw [tq h]
theorem EW (l:List Pl):nkT (nkP l)=T.tup (l.map tP):=by simp [nkT,nkP,tP]
theorem AC (l:List Pl):zL (T.tup (l.map tP))=some (nkP l):=by
 show (l.map tP).mapM nk1=_
 induction l with
 | nil=>rfl
 | cons a l ih =>
  rw [Zt,List.mapM_cons,ih]
  rfl
noncomputable def gT (g:Gr):List (T×T):=g.map fun p=>(nkT (nkP p.1),T.lst (p.2.map T.str))
noncomputable def dz:Gr->List Pl->Tx->Gr
 | [],k,w=>[(k,[w])]
 | (x,l) :: g,k,w=>if x=k then (x,l++[w]) :: g else (x,l) :: dz g k w
theorem ur {f:T->Option (T×Val)} {k:T} {a:T×T} {L:List (T×T)} (h:eqT a.1 k=false):qO f (a :: L) k=(qO f L k).map (a :: ·):=by
 unfold qO
 rw [Yc,Zq (by rw [h];simp)]
 cases e:L.findIdx? fun q=>eqT q.1 k with
 | none=>rfl
 | some i =>
  simp only [Yb,Zm,List.getElem?_cons_succ]
  cases e2:L[i]? with
  | none=>rfl
  | some q =>
   simp only [Zm]
   cases f q.2 with
   | none=>rfl
   | some z=>rfl
theorem qg {f:T->Option (T×Val)} {k:T} {a:T×T} {L:List (T×T)} (h:eqT a.1 k=true):qO f (a :: L) k=(f a.2).map fun z=>(a.1,z.1) :: L:=by
 unfold qO
 rw [Yc,Zr h]
 rfl
theorem oT {k:T} {a:T×T} {L:List (T×T)} (h:eqT a.1 k=false):bP (a :: L) k=a :: bP L k:=by
 have q:(a :: L).findIdx? (fun q=>eqT q.1 k)=(L.findIdx? fun q=>eqT q.1 k).map (·+1):=by
  rw [Yc,Zq (by rw [h];exact Zh)]
 unfold bP
 rw [q]
 cases e:L.findIdx? fun q=>eqT q.1 k with
 | none=>rfl
 | some i=>rfl
theorem qi {k:T} {a:T×T} {L:List (T×T)} (h:eqT a.1 k=true):bP (a :: L) k=a :: L:=by
 unfold bP
 rw [Yc,Zr h]
 rfl
theorem A9 (g:Gr) (k:List Pl) (w:Tx) (hl:∀ q∈g,q.2.length < 16777216):qO (fun x=>aZ x [(.fr,.str w)]) (bP (gT g) (nkT (nkP k))) (nkT (nkP k))=some (gT (dz g k w)):=by
 induction g with
 | nil =>
  have:bP (gT []) (nkT (nkP k))=[(nkT (nkP k),.lst [])]:=rfl
  rw [this,qg (by rw [lM];simp),eO (by decide)]
  rfl
 | cons a g ih =>
  obtain ⟨x,l⟩:=a
  by_cases e:x=k
  ·subst e
   have h:eqT (nkT (nkP x)) (nkT (nkP x))=true:=by rw [lM];simp
   rw [show gT ((x,l) :: g)=(nkT (nkP x),T.lst (l.map T.str)) :: gT g from rfl,qi h,qg h,eO (by rw [Zv];exact hl (x,l) Zw)]
   simp [dz,gT]
  ·have h:eqT (nkT (nkP x)) (nkT (nkP k))=false:=by rw [lM];exact ZP fun z=>e (tq z)
   rw [show gT ((x,l) :: g)=(nkT (nkP x),T.lst (l.map T.str)) :: gT g from rfl,oT h,ur h,ih fun q hq=>hl q (Zx _ hq)]
   simp [dz,gT,e]
theorem qV {i:Nat} {ck:Ex} {cv:Ex} {η:Env} {g:Gr} {w:Tx} {k:List Pl} {m:Md} (h:η[i]?=some (some (.ow (.dct 2 (gT g))))) (hk:ck η=some (m,.tup (k.map tP))) (hv:∀ c,cv (η.set i c)=some (.fr,.str w)) (hl:∀ q∈g,q.2.length < 16777216) (hd:g.length < 16777216) :
  gW i ck (ag cv aw) η=some (.nx (η.set i (some (.ow (.dct 2 (gT (dz g k w))))))):=by
 unfold gW
 simp only [h]
 rw [hk,Zm,Zr ⟨by rw [AC];rfl,by rw [gT,Zv];exact hd⟩]
 have e:ag cv aw (η.set i (some (.ow (.dct 2 (bP (gT g) (T.tup (k.map tP)))))))=some [(.fr,.str w)]:=xv (hv _) rfl
 rw [e,Zm,← EW,A9 g k w hl]
 rfl
noncomputable def look:Fd->Tx->List Pl
 | [],_=>[]
 | (x,l) :: d,w=>if x=w then l else look d w
theorem pK (d:Fd) (w:Tx) (h:w∈aV d):bS (dT d) (.str w)=some (.lst ((look d w).map tP)):=by
 induction d with
 | nil=>simp [aV] at h
 | cons a d ih =>
  obtain ⟨x,l⟩:=a
  rw [show dT ((x,l) :: d)=(T.str x,T.lst (l.map tP)) :: dT d from rfl]
  unfold bS
  by_cases e:x=w
  ·rw [Yu,show eqT (T.str x) (T.str w)=true by simp [e]]
   simp [look,e]
  ·rw [Yu,show eqT (T.str x) (T.str w)=false by simpa using e]
   have hm:w∈aV d:=by
    rcases Zo.mp (show w∈x :: aV d from h) with h | h
    ·exact absurd h.symm e
    ·exact h
   rw [show look ((x,l) :: d) w=look d w by simp [look,e]]
   exact ih hm
theorem xk (d:Fd) (w:Tx) (N:Nat) (h:∀ q∈d,q.2.length<=N):(look d w).length<=N:=by
 induction d with
 | nil=>simp [look]
 | cons a d ih =>
  obtain ⟨x,l⟩:=a
  unfold look
  split
  ·exact h _ Zw
  ·exact ih fun q hq=>h q (Zx _ hq)
noncomputable def grp (d:Fd) (ws:List Tx) (g:Gr):Gr:=ws.foldl (fun g w=>dz g (look d w) w) g
theorem zf (g:Gr) (k:List Pl) (w:Tx) (N:Nat) (h:g.length<=N/\∀ q∈g,q.2.length<=N):(dz g k w).length<=N+1/\∀ q∈dz g k w,q.2.length<=N+1:=by
 induction g generalizing N with
 | nil=>simp [dz]
 | cons a g ih =>
  obtain ⟨x,l⟩:=a
  have h1:=h.2 (x,l) Zw
  have h0:=h.1
  unfold dz
  split
  ·refine ⟨by simp only [Zj] at h0 ⊢;exact YE h0,fun q hq=>?_⟩
   rcases Zo.mp hq with rfl | hq
   ·simp only [Zu,ZY];simp only at h1;exact YC h1
   ·have:=h.2 q (Zx _ hq);exact YE this
  ·have hN:∀ (g:Gr),(dz g k w).length<=g.length+1:=by
    intro g
    induction g with
    | nil=>simp [dz]
    | cons a g ih=>obtain ⟨x,l⟩:=a;unfold dz;split <;> simp only [Zj] <;> lia
   refine ⟨by have:=hN g;simp only [Zj] at h0 ⊢;lia,fun q hq=>?_⟩
   rcases Zo.mp hq with rfl | hq
   ·simp only at h1 ⊢;exact YE h1
   ·exact (ih N ⟨by simp only [Zj] at h0;exact Xl h0,fun q hq=>h.2 q (Zx _ hq)⟩).2 q hq
theorem st1 (d:Fd) (hd:∀ q∈d,q.2.length<=117129) (ws:List Tx):∀ (g:Gr) (N:Nat) (z:Vj),(∀ w∈ws,w∈aV d)->(g.length<=N/\∀ q∈g,q.2.length<=N)->N+ws.length < 16777216 →
  ∃ z',forL (aY 2) dI (ws.map T.str) [some (.pu (.dct 0 (dT d))),some (.ow (.dct 2 (gT g))),z]=some (.nx [some (.pu (.dct 0 (dT d))),some (.ow (.dct 2 (gT (grp d ws g)))),z']):=by
 induction ws with
 | nil=>exact fun g N z _ _ _=>⟨z,rfl⟩
 | cons w ws ih =>
  intro g N z hw hN hl
  rw [Zj] at hl
  obtain ⟨z',e⟩:=ih (dz g (look d w) w) (N+1) (some (.pu (.str w))) (fun x hx=>hw x (Zx _ hx)) (zf g _ w N hN) (by lia)
  refine ⟨z',?_⟩
  have lk:=pK d w (hw w Zw)
  have ll:=xk d w 117129 hd
  have bo:dI [some (.pu (.dct 0 (dT d))),some (.ow (.dct 2 (gT g))),some (.pu (.str w))]=some (.nx [some (.pu (.dct 0 (dT d))),some (.ow (.dct 2 (gT (dz g (look d w) w)))),some (.pu (.str w))]):=by
   unfold dI
   have im:fN ((look d w).map tP)=true:=iY tP (fun _=>rfl) _
   have h2:gE [(.pu,.lst ((look d w).map tP))]=some (.fr,.tup ((look d w).map tP)):=by
    show (if _ then _ else _)=_
    rw [Zr (by rw [Zv];exact ZV ll (by decide)),up,imm,im]
    rfl
   exact qV (g:=g) (w:=w) (k:=look d w) (m:=.fr) rfl (lU (xv (e2v (x:=(.pu,.dct 0 (dT d))) (y:=(.fr,.str w)) rfl rfl (by
    show (bS (dT d) (.str w)).map _=_
    rw [lk]
    rfl)) rfl) h2) (fun c=>rfl) (fun q hq=>by have:=hN.2 q hq;lia) (by have:=hN.1;lia)
  rw [Zt,bH rfl bo,e]
  rfl
noncomputable def stT (st:Vk):T:=.lst (st.map fun s=>T.lst (s.map T.str))
noncomputable def fA (d:Fd):Vk:=(grp d (cG (aV d)) []).map (·.2)
theorem xr (d:Fd) (hz:Sz 117129 d) (haz:∀ x∈aV d,Az x/\x.length<=120):dk [.dct 0 (dT d)]=some (.fr,stT (fA d)):=by
 have pm:=dP (aV d)
 obtain ⟨z',e⟩:=st1 d hz.2 (cG (aV d)) [] 0 none (fun w hw=>pm.mem_iff.mp hw) ⟨by simp,fun q hq=>by simp at hq⟩ (by rw [pm.length_eq,aV,Zv];have:=hz.1;lia)
 have so:jH [(.pu,.dct 0 (dT d))]=some (.fr,.lst ((cG (aV d)).map T.str)):=by
  show ((strs? ((dT d).map (·.1))).bind _)=_
  rw [show (dT d).map (·.1)=d.map fun p=>T.str p.1 by simp [dT],strs_map (fun p:Tx×List Pl=>p.1) d,Zm,show d.map (fun p=>p.1)=aV d from rfl,Zr (show ((aV d).all txB)=true from Z9.mpr fun x hx=>by
   obtain ⟨h1,h2⟩:=haz x hx
   simp only [txB,Yq,decide_eq_true_eq,Z9]
   exact ⟨ZV h2 (by decide),fun c hc=>by have:=h1 c hc;lia⟩)]
 unfold dk
 refine dD rfl (η:=[some (.pu (.dct 0 (dT d))),none,z']) ?_
 refine (show au _ _ [some (.pu (.dct 0 (dT d))),none,none]=_ from ?_)
 rw [ar (η1:=[some (.pu (.dct 0 (dT d))),some (.ow (.dct 2 (gT []))),none]) rfl,
  ar ((fD (l:=(cG (aV d)).map T.str) (by
   show (eN jH (ag (ah 0) aw) _).bind _=_
   rw [lU (xv (x:=(.pu,.dct 0 (dT d))) rfl rfl) so]
   rfl)).trans e)]
 show some _=_
 rw [gT,YV,stT,fA,YV]
 rfl
structure Stn (st:Vk) (ks:List Tx):Prop where
 ne:∀ s∈st,s ≠ []
 pm:st.flatten.Perm ks
 hd:∃ a b,st=([] :: a) :: b
theorem AI (g:Gr) (k:List Pl) (w:Tx) (h:∀ q∈g,q.2 ≠ []):∀ q∈dz g k w,q.2 ≠ []:=by
 induction g with
 | nil=>intro q hq;simp [dz] at hq;rw [hq];simp
 | cons a g ih =>
  obtain ⟨x,l⟩:=a
  have ih:=ih fun q hq=>h q (Zx _ hq)
  unfold dz
  split
  ·intro q hq
   rcases Zo.mp hq with rfl | hq
   ·simp
   ·exact h q (Zx _ hq)
  ·intro q hq
   rcases Zo.mp hq with rfl | hq
   ·exact h _ Zw
   ·exact ih q hq
theorem AZ (g:Gr) (k:List Pl) (w:Tx):((dz g k w).map (·.2)).flatten.Perm (w :: (g.map (·.2)).flatten):=by
 induction g with
 | nil=>simp [dz]
 | cons a g ih =>
  obtain ⟨x,l⟩:=a
  unfold dz
  split
  ·rw [Zt,Ze,Zt,Ze]
   show (l++[w]++_).Perm (w :: (l++_))
   rw [Zf]
   exact Vo
  ·rw [Zt,Ze,Zt,Ze]
   exact (List.Perm.append_left l ih).trans Vo
theorem Aw (g:Gr) (k:List Pl) (w:Tx) (k0:List Pl) (a:List Tx) (b:Gr) (h:g=(k0,[] :: a) :: b):∃ a' b',dz g k w=(k0,[] :: a') :: b':=by
 subst h
 unfold dz
 split
 ·exact ⟨a++[w],b,rfl⟩
 ·exact ⟨a,_,rfl⟩
theorem C2 (d:Fd) (ws:List Tx):∀ g:Gr,(∀ q∈g,q.2 ≠ [])->∀ q∈grp d ws g,q.2 ≠ []:=by
 induction ws with
 | nil=>exact fun g h=>h
 | cons w ws ih=>exact fun g h=>ih _ (AI g _ w h)
theorem Dy (d:Fd) (ws:List Tx):∀ g:Gr,((grp d ws g).map (·.2)).flatten.Perm (ws++(g.map (·.2)).flatten):=by
 induction ws with
 | nil=>exact fun g=>by simp [grp]
 | cons w ws ih =>
  intro g
  refine (ih (dz g (look d w) w)).trans ?_
  refine ((AZ g (look d w) w).append_left ws).trans ?_
  exact Vo
theorem Cr (d:Fd) (ws:List Tx):∀ (g:Gr) (k0:List Pl) (a:List Tx) (b:Gr),g=(k0,[] :: a) :: b->∃ a' b',grp d ws g=(k0,[] :: a') :: b':=by
 induction ws with
 | nil=>exact fun g k0 a b h=>⟨a,b,h⟩
 | cons w ws ih =>
  intro g k0 a b h
  obtain ⟨a',b',h'⟩:=Aw g (look d w) w k0 a b h
  exact ih _ k0 a' b' h'
theorem xR (l:List Tx) (h:[]∈l):∃ r,cG l=[] :: r:=by
 have pm:=dP l
 have pw:=j9 l
 have m:[]∈cG l:=pm.mem_iff.mpr h
 cases e:cG l with
 | nil=>rw [e] at m;simp at m
 | cons x r =>
  rw [e] at m pw
  rcases Zo.mp m with m1 | m2
  ·exact ⟨r,by rw [m1]⟩
  ·cases x with
   | nil=>exact ⟨r,rfl⟩
   | cons c x=>exact absurd (.inl (by simp)) ((Xt.mp pw).1 [] m2)
theorem Dq (d:Fd) (h:[]∈aV d):Stn (fA d) (aV d):=by
 refine ⟨fun s hs=>?_,?_,?_⟩
 ·obtain ⟨q,hq,rfl⟩:=Yz.mp hs
  exact C2 d _ [] (fun q hq=>by simp at hq) q hq
 ·have:=Dy d (cG (aV d)) []
  simp only [YW,List.flatten_nil,ZD] at this
  exact this.trans (dP _)
 ·obtain ⟨r,e⟩:=xR _ h
  obtain ⟨a,b,h'⟩:=Cr d r (dz [] (look d []) []) (look d []) [] [] rfl
  refine ⟨a,b.map (·.2),?_⟩
  unfold fA
  rw [e,show grp d ([] :: r) []=grp d r (dz [] (look d []) []) from rfl,h']
  rfl
noncomputable def num:Vk->Tx->Nat
 | [],_=>0
 | s :: st,w=>if w∈s then 0 else num st w+1
theorem hZ (st:Vk) (w:Tx) (h:w∈st.flatten):num st w < st.length:=by
 induction st with
 | nil=>simp at h
 | cons s st ih =>
  unfold num
  split
  ·simp
  ·rename_i hn
   have:w∈st.flatten:=by
    rw [Ze] at h
    exact (Zc.mp h).resolve_left hn
   have:=ih this
   simp only [Zj];exact Nat.succ_lt_succ this
noncomputable def nT (m:List (Tx×Nat)):List (T×T):=m.map fun p=>(T.str p.1,T.int (p.2:Int))
noncomputable def nums:Nat->Vk->List (Tx×Nat)
 | _,[]=>[]
 | k,s :: st=>s.map (fun w=>(w,k))++nums (k+1) st
theorem qq (a b:List (T×T)) (k:T):bS (a++b) k=(bS a k).or (bS b k):=by
 unfold bS
 rw [List.find?_append]
 cases a.find? fun p=>eqT p.1 k <;> rfl
theorem yy (s:List Tx) (k:Nat) (w:Tx):bS (nT (s.map fun w=>(w,k))) (.str w)=if w∈s then some (.int (k:Int)) else none:=by
 induction s with
 | nil=>rfl
 | cons x s ih =>
  rw [Zt,show nT ((x,k) :: s.map fun w=>(w,k))=(T.str x,T.int (k:Int)) :: nT (s.map fun w=>(w,k)) from rfl]
  by_cases e:x=w
  ·rw [bS,Yu,show eqT (T.str x) (T.str w)=true by simp [e],Zr (by rw [e];simp)]
   rfl
  ·rw [bS,Yu,show eqT (T.str x) (T.str w)=false by simpa using e]
   have e':¬ w=x:=fun z=>e z.symm
   refine (show bS (nT (s.map fun w=>(w,k))) (.str w)=_ from ?_)
   rw [ih]
   by_cases q:w∈s
   ·rw [Zr q,Zr (Zx _ q)]
   ·rw [Zq q,Zq fun z=>(Zo.mp z).elim e' q]
theorem nh (st:Vk) (w:Tx):∀ k,bS (nT (nums k st)) (.str w)=if w∈st.flatten then some (.int ((k+num st w:Nat):Int)) else none:=by
 induction st with
 | nil=>exact fun k=>rfl
 | cons s st ih =>
  intro k
  rw [nums,nT,Yv,qq]
  rw [show bS ((s.map fun w=>(w,k)).map fun p=>(T.str p.1,T.int (p.2:Int))) (.str w)=_ from yy s k w]
  rw [show bS ((nums (k+1) st).map fun p=>(T.str p.1,T.int (p.2:Int))) (.str w)=_ from ih (k+1),Ze]
  by_cases h:w∈s
  ·rw [Zr h,Zr (Zc.mpr (.inl h)),show num (s :: st) w=0 by simp [num,h]]
   rfl
  ·rw [Zq h]
   by_cases h2:w∈st.flatten
   ·rw [Zr h2,Zr (Zc.mpr (.inr h2)),show num (s :: st) w=num st w+1 by simp [num,h],show k+(num st w+1)=k+1+num st w by lia]
    rfl
   ·rw [Zq h2,Zq fun z=>(Zc.mp z).elim h h2]
    rfl
theorem Bg (m:List (Tx×Nat)) (w:Tx) (k:Nat) (h:w ∉ m.map (·.1)):dput (nT m) (.str w) (.int (k:Int))=nT (m++[(w,k)]):=by
 unfold dput
 rw [Zq (by
  simp only [List.any_eq_true,not_exists,not_and]
  intro p hp
  obtain ⟨q,hq,rfl⟩:=Yz.mp hp
  simp only [eqT,beq_iff_eq]
  intro e
  exact h (Yz.mpr ⟨q,hq,e⟩))]
 simp [nT]
theorem A8 {i:Nat} {k e:Ex} {η:Env} {l:List (T×T)} {kv v:T} {m n:Md} (h:η[i]?=some (some (.ow (.dct 0 l)))) (he:e η=some (m,v)) (hk:k η=some (n,kv)) (h1:gP kv=true) (h2:imm v=true) (h3:l.length < 16777216):nZ i k e η=some (.nx (η.set i (some (.ow (.dct 0 (dput l kv v)))))):=by
 unfold nZ
 rw [he,Zm,h,hk]
 exact Zr ⟨h1,h2,h3⟩
theorem nm1 (st:T) (some_:T) (k:Nat) (s:List Tx):∀ (m:List (Tx×Nat)) (z:Vj),(m.map (·.1)++s).Nodup->m.length+s.length < 16777216 →
  ∃ z',forL (aY 4) di (s.map T.str) [some (.pu st),some (.ow (.dct 0 (nT m))),some (.pu (.int k)),some (.pu some_),z]=some (.nx [some (.pu st),some (.ow (.dct 0 (nT (m++s.map fun w=>(w,k))))),some (.pu (.int k)),some (.pu some_),z']):=by
 induction s with
 | nil=>exact fun m z _ _=>⟨z,by simp [forL]⟩
 | cons w s ih =>
  intro m z hn hl
  rw [Zj] at hl
  obtain ⟨z',e⟩:=ih (m++[(w,k)]) (some (.pu (.str w))) (by simpa using hn) (by rw [Zu,ZY];lia)
  refine ⟨z',?_⟩
  have nw:w ∉ m.map (·.1):=fun hm=>by
   have:=(ZF.mp hn).2.2 w hm w Zw
   exact this rfl
  have bo:di [some (.pu st),some (.ow (.dct 0 (nT m))),some (.pu (.int k)),some (.pu some_),some (.pu (.str w))]=some (.nx [some (.pu st),some (.ow (.dct 0 (nT (m++[(w,k)])))),some (.pu (.int k)),some (.pu some_),some (.pu (.str w))]):=by
   unfold di
   rw [A8 (l:=nT m) (kv:=.str w) (v:=.int (k:Int)) (m:=.fr) (n:=.fr) rfl rfl rfl rfl rfl (by rw [nT,Zv];lia),Bg m w k nw]
   rfl
  rw [Zt,bH rfl bo,e]
  simp
theorem nm2 (st:T) (l:Vk):∀ (n:Nat) (m:List (Tx×Nat)) (z2 z3 z4:Vj),(m.map (·.1)++l.flatten).Nodup->m.length+l.flatten.length < 16777216 →
  ∃ z2' z3' z4',forL (j4 [aY 2,aY 3]) eY (dC n (l.map fun s=>T.lst (s.map T.str))) [some (.pu st),some (.ow (.dct 0 (nT m))),z2,z3,z4]=some (.nx [some (.pu st),some (.ow (.dct 0 (nT (m++nums n l)))),z2',z3',z4']):=by
 induction l with
 | nil=>exact fun n m z2 z3 z4 _ _=>⟨z2,z3,z4,by simp [forL,dC,nums]⟩
 | cons s l ih =>
  intro n m z2 z3 z4 hn hl
  rw [Ze,Zu] at hl
  rw [Ze,← Zf] at hn
  obtain ⟨y4,e1⟩:=nm1 st (.lst (s.map T.str)) n s m z4 (ZF.mp hn).1 (by lia)
  obtain ⟨x2,x3,x4,e⟩:=ih (n+1) (m++s.map fun w=>(w,n)) (some (.pu (.int n))) (some (.pu (.lst (s.map T.str)))) y4 (by rw [Yv,YV,show ((fun x:Tx×Nat=>x.1) ∘ fun w:Tx=>(w,n))=id from rfl,List.map_id];exact hn) (by rw [Zu,Zv];lia)
  refine ⟨x2,x3,x4,?_⟩
  rw [Zt,dC,bH (η1:=[some (.pu st),some (.ow (.dct 0 (nT m))),some (.pu (.int n)),some (.pu (.lst (s.map T.str))),z4]) rfl (by
   unfold eY
   rw [jU (m:=.pu) (l:=s.map T.str) rfl rfl,e1]),e,Zf]
  rfl
theorem t7 (st:Vk) (hn:st.flatten.Nodup) (hl:st.flatten.length < 16777216):bY [stT st]=some (.fr,.dct 0 (nT (nums 0 st))):=by
 obtain ⟨z2,z3,z4,e⟩:=nm2 (stT st) st 0 [] none none none (by simpa using hn) (by simpa using hl)
 unfold bY
 refine dD rfl (η:=[some (.pu (stT st)),none,z2,z3,z4]) ?_
 refine (show au _ _ [some (.pu (stT st)),none,none,none,none]=_ from ?_)
 rw [ar (η1:=[some (.pu (stT st)),some (.ow (.dct 0 (nT []))),none,none,none]) (by
  have:lE 0 [] [some (.pu (stT st)),none,none,none,none]=some (.fr,.dct 0 (nT [])):=rfl
  simp [this])]
 rw [ar (η1:=[some (.pu (stT st)),some (.ow (.dct 0 (nT (nums 0 st)))),z2,z3,z4]) (by
  rw [jU (m:=.pu) (l:=dC 0 (st.map fun s=>T.lst (s.map T.str))) rfl rfl]
  exact e)]
 simp
noncomputable def hdW (s:List Tx):Tx:=s.headD []
noncomputable def laW (s:List Tx):Tx:=s.getLast?.getD []
theorem ql {m n:Md} {s:List Tx} (h:s ≠ []):bh (m,.lst (s.map T.str)) (n,.int 0)=some (.fr,.str (hdW s)):=by
 cases s with
 | nil=>exact absurd rfl h
 | cons a s =>
  have:ixP ((T.str a :: s.map T.str).length) 0=some 0:=ly (k:=0) (by simp)
  show (ixP ((T.str a :: s.map T.str).length) 0).bind _=_
  rw [this]
  rfl
theorem D6 {m n:Md} {s:List Tx} (h:s ≠ []):bh (m,.lst (s.map T.str)) (n,.int (-1))=some (.fr,.str (laW s)):=by
 have hl:0 < s.length:=WB.mpr h
 have:ixP ((s.map T.str).length) (-1)=some (s.length - 1):=by
  unfold ixP
  rw [Zq (by lia),Zv,Zr (by lia)]
  congr 1
  lia
 show (ixP ((s.map T.str).length) (-1)).bind _=_
 rw [this,Zm,ZC,Zb (show s.length - 1 < s.length by omega)]
 unfold laW
 rw [List.getLast?_eq_getElem?,Zb (show s.length - 1 < s.length by omega)]
 rfl
noncomputable def wT (p:Nat×Nat):T:=.tup [.str [p.1],.int (p.2:Int)]
noncomputable def fH (st:Vk) (h:Tx) (c:Nat):List (Nat×Nat):=if h++[c]∈st.flatten then [(c,num st (h++[c]))] else []
noncomputable def bM (st:Vk) (h:Tx) (cs:Vm):List (Nat×Nat):=cs.flatMap (fH st h)
theorem vC (st:Vk) (h:Tx) (cs:Vm):(bM st h cs).length<=cs.length:=by
 induction cs with
 | nil=>simp [bM]
 | cons c cs ih =>
  have:bM st h (c :: cs)=fH st h c++bM st h cs:=rfl
  rw [this,Zu,Zj]
  have:(fH st h c).length<=1:=by unfold fH;split <;> simp
  lia
noncomputable abbrev ET (st:Vk) (S tb:T) (s:List Tx) (z4 z5 z6:Vj):Env:=[some (.pu S),some (.pu (.dct 0 (nT (nums 0 st)))),some (.ow tb),some (.pu (.lst (s.map T.str))),z4,z5,z6]
theorem EJ {m n:Md} {l:List (T×T)} {k:Tx} {r:Option T} (h:bS l (.str k)=r):lH (m,.str k) (n,.dct 0 l)=some (.fr,.bl r.isSome):=by
 subst h
 rfl
theorem Bq {m n:Md} {l:List (T×T)} {k:Tx} {i:Int} (h:bS l (.str k)=some (.int i)):oIx (m,.dct 0 l) (n,.str k)=some (.fr,.int i):=by
 show (bS l (.str k)).map _=_
 rw [h]
 rfl
theorem wR {as:Exs} {η:Env} {l:Vi} {t:T} (h:as η=some l) (hl:l.length<=16777216) (ht:T.tup (trees l)=t) (hi:imm t=true):mP as η=some (.fr,t):=by
 subst ht
 show (as η).bind qG=_
 rw [h,Zm,pZ hl,up,hi]
 rfl
theorem tb1 (st:Vk) (S:T) (tb:T) (s:List Tx) (hs:s ≠ []) (hl:(hdW s).length<=120) (l6:Vj) (cs:Vm):∀ (ws:List (Nat×Nat)) (z:Vj),ws.length+cs.length < 1000 →
  ∃ z',forL (aY 5) i4 (cs.map fun c=>T.str [c]) (ET st S tb s (some (.ow (.lst (ws.map wT)))) z l6)=some (.nx (ET st S tb s (some (.ow (.lst ((ws++bM st (hdW s) cs).map wT)))) z' l6)):=by
 induction cs with
 | nil=>exact fun ws z _=>⟨z,by rw [show bM st (hdW s) []=[] from rfl,ZD];rfl⟩
 | cons c cs ih =>
  intro ws z hw
  rw [Zj] at hw
  have hq:=nh st (hdW s++[c]) 0
  rw [Xu] at hq
  have ad:e2 cm (e2 bh (ah 3) (eC (.int 0))) (ah 5) (ET st S tb s (some (.ow (.lst (ws.map wT)))) (some (.pu (.str [c]))) l6)=some (.fr,.str (hdW s++[c])):=e2v (y:=(.fr,.str [c])) (e2v rfl rfl (ql hs)) rfl (iM (show (hdW s).length+1<=16777216 by lia))
  have cd:=e2v (f:=lH) (b:=ah 1) ad rfl (EJ hq)
  rw [show bM st (hdW s) (c :: cs)=fH st (hdW s) c++bM st (hdW s) cs from rfl,← Zf,Zt]
  by_cases p:hdW s++[c]∈st.flatten
  ·rw [Zr p] at hq cd
   rw [fH,Zr p]
   obtain ⟨z',e⟩:=ih (ws++[(c,num st (hdW s++[c]))]) (some (.pu (.str [c]))) (by rw [Zu,ZY];lia)
   refine ⟨z',?_⟩
   rw [← e]
   refine bH rfl ((m8 cd).trans ((iq (l:=ws.map wT) (t:=wT (c,num st (hdW s++[c]))) rfl (wR (l:=[(.fr,.str [c]),(.fr,.int (num st (hdW s++[c])))]) (xv rfl (xv (e2v rfl ad (Bq hq)) rfl)) (show 2<=16777216 by decide) rfl rfl) (by rw [Zv];lia)).trans ?_))
   rw [Yv]
   rfl
  ·rw [Zq p] at cd
   rw [fH,Zq p,ZD]
   obtain ⟨z',e⟩:=ih ws (some (.pu (.str [c]))) (by lia)
   exact ⟨z',(bH rfl (jR cd)).trans e⟩
noncomputable def df:Vm:=[97,98,99,100,101,102,103,104,105,106,107,108,109,110,111,112,113,114,115,116,117,118,119,120,121,122]
noncomputable def lkT (st:Vk) (s:List Tx):T:=if hdW s=[] then .non else .int (num st ((hdW s).drop 1):Nat)
noncomputable def gw (st:Vk) (s:List Tx):T:=.tup [.int (hdW s).length,.int (laW s).length,lkT st s,.tup ((bM st (hdW s) df).map wT)]
theorem oD (l:List (Nat×Nat)):fN (l.map wT)=true:=iY wT (fun x=>by simp [wT]) l
theorem sf (st:Vk) (s:List Tx):imm (lkT st s)=true:=by unfold lkT;split <;> rfl
theorem lF (st:Vk) (s:List Tx):imm (gw st s)=true:=by simp [gw,sf,oD]
theorem FR (t:Tx):cut t (some 1) none=t.drop 1:=by
 unfold cut clip
 simp only [show ¬ ((1:Int) < 0) by lia,if_false]
 by_cases h:1<=t.length
 ·rw [Yt (by simpa using h),show (1:Int).toNat=1 from rfl,ZA (by simp)]
 ·have:t=[]:=XG.mp (by lia)
  subst this
  rfl
theorem ne_nil {m n:Md} (t:Tx):oNe (m,.str t) (n,.str [])=some (.fr,.bl (!decide (t=[]))):=by
 cases t with
 | nil=>rfl
 | cons a t=>rfl
theorem vB (st:Vk) (S:T) (s:List Tx) (hs:s ≠ []) (hl:(hdW s).length<=120) (ht:hdW s ≠ []->(hdW s).drop 1∈st.flatten) (tb:Vg) (hb:tb.length < 16777216) (z4 z5 z6:Vj) :
  ∃ z4' z5' z6',eE (ET st S (.lst tb) s z4 z5 z6)=some (.nx (ET st S (.lst (tb++[gw st s])) s z4' z5' z6')):=by
 obtain ⟨z',e⟩:=tb1 st S (.lst tb) s hs hl z6 df [] z5 (by decide)
 rw [Yr] at e
 refine ⟨some (.pu (.lst ((bM st (hdW s) df).map wT))),z',some (.pu (lkT st s)),?_⟩
 unfold eE
 rw [ar (η1:=ET st S (.lst tb) s (some (.ow (.lst (([]:List (Nat×Nat)).map wT)))) z5 z6) rfl,
  ar ((fD (l:=df.map fun c=>T.str [c]) rfl).trans e),
  ar (η1:=ET st S (.lst tb) s (some (.pu (.lst ((bM st (hdW s) df).map wT)))) z' z6) rfl,
  ar (η1:=ET st S (.lst tb) s (some (.pu (.lst ((bM st (hdW s) df).map wT)))) z' (some (.pu .non))) rfl,
  ar (η1:=ET st S (.lst tb) s (some (.pu (.lst ((bM st (hdW s) df).map wT)))) z' (some (.pu (lkT st s)))) (by
  have cd:=e2v (f:=oNe) (η:=ET st S (.lst tb) s (some (.pu (.lst ((bM st (hdW s) df).map wT)))) z' (some (.pu .non))) (b:=eC (.str [])) (e2v (a:=ah 3) (b:=eC (.int 0)) rfl rfl (ql hs)) rfl (ne_nil _)
  unfold lkT
  by_cases p:hdW s=[]
  ·rw [decide_eq_true p] at cd
   rw [Zr p]
   exact jR cd
  ·have hq:=nh st ((hdW s).drop 1) 0
   rw [Xu,Zr (ht p)] at hq
   rw [ZP p] at cd
   rw [Zq p]
   refine (m8 cd).trans (aJ (m:=.fr) (e2v (y:=(.fr,.str ((hdW s).drop 1))) rfl ?_ (Bq hq)) (by decide) (by decide:6 < 7))
   show (e2 bh (ah 3) (eC (.int 0)) _).bind _=_
   rw [e2v (a:=ah 3) (b:=eC (.int 0)) rfl rfl (ql hs),Zm]
   exact congrArg (fun t=>some (Md.fr,T.str t)) (FR _))]
 have wi:=oD (bM st (hdW s) df)
 have wl:(bM st (hdW s) df).length<=16777216:=ZV (vC _ _ _) (by decide)
 have tl:∀ m,gE [(m,.lst ((bM st (hdW s) df).map wT))]=some (.fr,.tup ((bM st (hdW s) df).map wT)):=fun m=>by
  show (if _ then _ else _)=_
  rw [Zr (by rw [Zv];exact wl),up,imm,wi]
  rfl
 exact iq (l:=tb) (t:=gw st s) rfl (wR (xv (lU (xv (e2v rfl rfl (ql hs)) rfl) rfl) (xv (lU (xv (e2v rfl rfl (D6 hs)) rfl) rfl) (xv (x:=(_,lkT st s)) rfl (xv (lU (xv rfl rfl) (tl _)) (xs:=[]) rfl)))) (show 4<=16777216 by decide) rfl (lF st s)) hb
theorem tb2 (st:Vk) (S:T) (l:Vk):∀ (tb:Vg) (z3 z4 z5 z6:Vj),(∀ s∈l,s ≠ []/\(hdW s).length<=120/\(hdW s ≠ []->(hdW s).drop 1∈st.flatten))->tb.length+l.length < 16777216 →
  ∃ z3' z4' z5' z6',forL (aY 3) eE (l.map fun s=>T.lst (s.map T.str)) [some (.pu S),some (.pu (.dct 0 (nT (nums 0 st)))),some (.ow (.lst tb)),z3,z4,z5,z6] =
   some (.nx [some (.pu S),some (.pu (.dct 0 (nT (nums 0 st)))),some (.ow (.lst (tb++l.map (gw st)))),z3',z4',z5',z6']):=by
 induction l with
 | nil=>exact fun tb z3 z4 z5 z6 _ _=>⟨z3,z4,z5,z6,by rw [YW,YW,ZD];rfl⟩
 | cons s l ih =>
  intro tb z3 z4 z5 z6 h hl
  rw [Zj] at hl
  obtain ⟨h1,h2,h3⟩:=h s Zw
  obtain ⟨y4,y5,y6,eb⟩:=vB st S s h1 h2 h3 tb (by lia) z4 z5 z6
  obtain ⟨x3,x4,x5,x6,e⟩:=ih (tb++[gw st s]) (some (.pu (.lst (s.map T.str)))) y4 y5 y6 (fun x hx=>h x (Zx _ hx)) (by rw [Zu,ZY];lia)
  refine ⟨x3,x4,x5,x6,?_⟩
  rw [Zt,bH rfl eb,e,Zf]
  rfl
noncomputable def bt (st:Vk):T:=.lst (st.map (gw st))
theorem Af (st:Vk) (h:∀ s∈st,s ≠ []/\(hdW s).length<=120/\(hdW s ≠ []->(hdW s).drop 1∈st.flatten)) (hl:st.length < 16777216):d4 [stT st,.dct 0 (nT (nums 0 st))]=some (.fr,bt st):=by
 obtain ⟨z3,z4,z5,z6,e⟩:=tb2 st (stT st) st [] none none none none h (by simpa using hl)
 rw [Yr] at e
 unfold d4
 refine dD rfl (η:=[some (.pu (stT st)),some (.pu (.dct 0 (nT (nums 0 st)))),none,z3,z4,z5,z6]) ?_
 refine (show au _ _ [some (.pu (stT st)),some (.pu (.dct 0 (nT (nums 0 st)))),none,none,none,none,none]=_ from ?_)
 rw [ar (η1:=[some (.pu (stT st)),some (.pu (.dct 0 (nT (nums 0 st)))),some (.ow (.lst [])),none,none,none,none]) rfl]
 rw [ar (η1:=[some (.pu (stT st)),some (.pu (.dct 0 (nT (nums 0 st)))),some (.ow (.lst (st.map (gw st)))),z3,z4,z5,z6]) (by
  rw [jU (m:=.pu) (l:=st.map fun s=>T.lst (s.map T.str)) rfl rfl]
  exact e)]
 simp [bt]
structure GI (f:Tx->List Pl) (g:Gr) (pre:List Tx):Prop where
 nd:(g.map (·.1)).Nodup
 eq:∀ q∈g,q.2=pre.filter fun w=>decide (f w=q.1)
 al:∀ w∈pre,f w∈g.map (·.1)
theorem nK (g:Gr) (k:List Pl) (w:Tx):(dz g k w).map (·.1)=if k∈g.map (·.1) then g.map (·.1) else g.map (·.1)++[k]:=by
 induction g with
 | nil=>simp [dz]
 | cons a g ih =>
  obtain ⟨x,l⟩:=a
  unfold dz
  by_cases e:x=k
  ·rw [Zr e];subst e;simp
  ·rw [Zq e,Zt,ih]
   have e':¬ k=x:=fun z=>e z.symm
   by_cases m:k∈g.map (·.1)
   ·rw [Zr m,Zr (by rw [Zt];exact Zx _ m)];rfl
   ·rw [Zq m,Zq (by rw [Zt,Zo,not_or];exact ⟨e',m⟩)];rfl
theorem yj (g:Gr) (k:List Pl) (w:Tx) (nd:(g.map (·.1)).Nodup) (q:List Pl×List Tx) (h:q∈dz g k w):(q.1 ≠ k/\q∈g)\/(q.1=k/\((∃ l,(k,l)∈g/\q.2=l++[w])\/(k ∉ g.map (·.1)/\q.2=[w]))):=by
 induction g with
 | nil =>
  simp only [dz,Zn] at h
  subst h
  exact .inr ⟨rfl,.inr ⟨by simp,rfl⟩⟩
 | cons a g ih =>
  obtain ⟨x,l⟩:=a
  rw [Zt,ZW] at nd
  unfold dz at h
  by_cases e:x=k
  ·rw [Zr e] at h
   rcases Zo.mp h with rfl | h
   ·exact .inr ⟨e,.inl ⟨l,by rw [← e];exact Zw,rfl⟩⟩
   ·exact .inl ⟨fun z=>nd.1 (Yz.mpr ⟨q,h,z.trans e.symm⟩),Zx _ h⟩
  ·rw [Zq e] at h
   rcases Zo.mp h with rfl | h
   ·exact .inl ⟨e,Zw⟩
   ·rcases ih nd.2 h with ⟨h1,h2⟩ | ⟨h1,⟨l',h2,h3⟩ | ⟨h2,h3⟩⟩
    ·exact .inl ⟨h1,Zx _ h2⟩
    ·exact .inr ⟨h1,.inl ⟨l',Zx _ h2,h3⟩⟩
    ·exact .inr ⟨h1,.inr ⟨by rw [Zt,Zo,not_or];exact ⟨fun z=>e z.symm,h2⟩,h3⟩⟩
theorem GI.add {f:Tx->List Pl} {g:Gr} {pre:List Tx} (I:GI f g pre) (w:Tx):GI f (dz g (f w) w) (pre++[w]):=by
 refine ⟨?_,fun q hq=>?_,fun x hx=>?_⟩
 ·rw [nK]
  by_cases m:f w∈g.map (·.1)
  ·rw [Zr m];exact I.nd
  ·rw [Zq m]
   exact ZF.mpr ⟨I.nd,by simp,fun a ha b hb e=>m (by rw [Zn] at hb;rw [← hb,← e];exact ha)⟩
 ·rw [List.filter_append]
  rcases yj g (f w) w I.nd q hq with ⟨h1,h2⟩ | ⟨h1,⟨l,h2,h3⟩ | ⟨h2,h3⟩⟩
  ·rw [I.eq q h2,show [w].filter (fun w=>decide (f w=q.1))=[] by rw [XF (by simp only [decide_eq_true_eq];exact fun z=>h1 z.symm)];rfl,ZD]
  ·rw [h3,show l=pre.filter fun w'=>decide (f w'=f w) from I.eq (f w,l) h2,h1,show [w].filter (fun w'=>decide (f w'=f w))=[w] by simp]
  ·rw [h3,h1,show [w].filter (fun w'=>decide (f w'=f w))=[w] by simp,List.filter_eq_nil_iff.mpr fun x hx=>by
    have:=I.al x hx
    simp only [decide_eq_true_eq]
    intro z
    rw [z] at this
    exact h2 this]
   rfl
 ·rw [nK]
  rcases Zc.mp hx with hx | hx
  ·have:=I.al x hx
   by_cases m:f w∈g.map (·.1)
   ·rw [Zr m];exact this
   ·rw [Zq m];exact Zc.mpr (.inl this)
  ·rw [Zn.mp hx]
   by_cases m:f w∈g.map (·.1)
   ·rw [Zr m];exact m
   ·rw [Zq m];simp
theorem GI.grp {d:Fd} (ws:List Tx):∀ {g:Gr} {pre:List Tx},GI (look d) g pre->GI (look d) (grp d ws g) (pre++ws):=by
 induction ws with
 | nil=>intro g pre I;rw [ZD];exact I
 | cons w ws ih =>
  intro g pre I
  have:=ih (I.add w)
  rw [Zf] at this
  exact this
theorem Fh (d:Fd):GI (look d) (grp d (cG (aV d)) []) (cG (aV d)):=GI.grp (cG (aV d)) (g:=[]) (pre:=[]) ⟨by simp,fun q hq=>by simp at hq,fun w hw=>by simp at hw⟩
theorem Bt (d:Fd) (s:List Tx) (h:s∈fA d):∃ k,s=(cG (aV d)).filter fun w=>decide (look d w=k):=by
 obtain ⟨q,hq,rfl⟩:=Yz.mp h
 exact ⟨q.1,(Fh d).eq q hq⟩
theorem xB (d:Fd) (s:List Tx) (h:s∈fA d):s.Pairwise (fun a b=>¬ lL b a):=by
 obtain ⟨k,rfl⟩:=Bt d s h
 exact (j9 _).filter _
theorem j1 (d:Fd) (s:List Tx) (h:s∈fA d) (w:Tx) (hw:w∈s):(hdW s).length<=w.length:=by
 have p:=xB d s h
 cases s with
 | nil=>simp at hw
 | cons a s =>
  rcases Zo.mp hw with rfl | hw
  ·exact Zp _
  ·have:=(Xt.mp p).1 w hw
   unfold lL at this
   show a.length<=_
   lia
theorem ox (st:Vk) (w:Tx) (h:w∈st.flatten):w∈st.getD (num st w) []:=by
 induction st with
 | nil=>simp at h
 | cons s st ih =>
  by_cases m:w∈s
  ·rw [show num (s :: st) w=0 by simp [num,m]];exact m
  ·rw [show num (s :: st) w=num st w+1 by simp [num,m],XU]
   rw [Ze] at h
   exact ih ((Zc.mp h).resolve_left m)
theorem getD_mem (st:Vk) (i:Nat) (h:i < st.length):st.getD i []∈st:=by
 rw [Z4,Zb h]
 exact XY h
theorem xG (d:Fd) (w x:Tx) (p:Pl):look (dm d w p) x=if x=w then look d x++[p] else look d x:=by
 induction d with
 | nil =>
  by_cases e:x=w
  ·simp [dm,look,e]
  ·have e':¬ w=x:=fun z=>e z.symm
   simp [dm,look,e,e']
 | cons a d ih =>
  obtain ⟨y,l⟩:=a
  unfold dm
  by_cases e:y=w
  ·rw [Zr e]
   subst e
   by_cases e2:y=x
   ·simp [look,e2]
   ·have e3:¬ x=y:=fun z=>e2 z.symm
    simp [look,e2,e3]
  ·rw [Zq e]
   by_cases e2:y=x
   ·have e3:¬ x=w:=fun z=>e (e2.trans z)
    simp [look,e2,e3]
   ·rw [show look ((y,l) :: dm d w p) x=look (dm d w p) x by simp [look,e2],show look ((y,l) :: d) x=look d x by simp [look,e2],ih]
theorem uP (n:Nat) (t:Tx) (e:Nat) (x:Tx) (ss:Vm):∀ d,look (adds n t e ss d) x=look d x++(ss.filter fun s=>decide ((t.drop s).take (e - s)=x)).map fun _=>(n,e):=by
 induction ss with
 | nil=>intro d;simp [adds]
 | cons s ss ih =>
  intro d
  rw [show adds n t e (s :: ss) d=adds n t e ss (dm d ((t.drop s).take (e - s)) (n,e)) from rfl,ih,xG]
  by_cases h:x=(t.drop s).take (e - s)
  ·rw [Zr h,WQ (by simpa using h.symm)]
   simp
  ·rw [Zq h,XF (by simpa using fun z=>h z.symm)]
theorem lZ {P:Nat->Bool} {s0:Nat}:∀ {l:Vm},l.Nodup->(∀ s∈l,P s=true->s=s0)->l.filter P=if s0∈l/\P s0=true then [s0] else []
 | [],_,_=>by simp
 | a :: l,hn,h=>by
  obtain ⟨h1,h2⟩:=ZW.mp hn
  have ih:=lZ h2 fun s hs=>h s (Zx _ hs)
  by_cases q:P a=true
  ·have e:=h a Zw q
   subst e
   rw [WQ q,ih,Zq fun z=>h1 z.1,Zr ⟨Zw,q⟩]
  ·rw [XF q,ih]
   by_cases z:s0∈l/\P s0=true
   ·rw [Zr z,Zr ⟨Zx _ z.1,z.2⟩]
   ·rw [Zq z,Zq]
    rintro ⟨z1,z2⟩
    rcases Zo.mp z1 with rfl | z1
    ·exact q z2
    ·exact z ⟨z1,z2⟩
theorem starts (t x:Tx) (e:Nat) (he:e<=t.length):((List.range (e+1)).filter fun s=>decide ((t.drop s).take (e - s)=x)).map (fun _=>())=if x <:+ t.take e then [()] else []:=by
 have cut:∀ s,s<=e->(t.drop s).take (e - s)=(t.take e).drop s:=fun s hs=>by rw [Wf]
 have len:∀ s,s<=e->((t.take e).drop s).length=e - s:=fun s hs=>by rw [ZK,ZO];lia
 rw [lZ (s0:=e - x.length) List.nodup_range fun s hs hp=>by
  have h1:=Z7.mp hs
  have h2:=of_decide_eq_true hp
  rw [cut s (by exact Yf h1)] at h2
  have:=len s (by exact Yf h1)
  rw [h2] at this
  omega]
 by_cases h:x <:+ t.take e
 ·have hl:x.length<=e:=by have:=h.length_le;rw [ZO] at this;lia
  rw [Zr h,Zr]
  ·rfl
  ·refine ⟨Z7.mpr (by omega),decide_eq_true ?_⟩
   rw [cut _ (by exact YQ _ _)]
   obtain ⟨y,hy⟩:=h
   have h1:(t.take e).length=e:=by rw [ZO];exact Yt he
   rw [← hy,Zu] at h1
   rw [← hy,show e - x.length=y.length by lia,List.drop_left]
 ·rw [Zq h,Zq]
  ·rfl
  ·rintro ⟨h1,h2⟩
   have h1:=Z7.mp h1
   have h2:=of_decide_eq_true h2
   rw [cut _ (by exact YQ _ _)] at h2
   exact h (by rw [← h2];exact X4 _ _)
theorem nV (n:Nat) (t x:Tx) (es:Vm):∀ d,(∀ e∈es,e<=t.length)->look (iy n t es d) x=look d x++(es.filter fun e=>decide (x <:+ t.take e)).map fun e=>(n,e):=by
 induction es with
 | nil=>intro d _;simp [iy]
 | cons e es ih =>
  intro d h
  rw [show iy n t (e :: es) d=iy n t es (adds n t e (List.range (e+1)) d) from rfl,ih _ fun i hi=>h i (Zx _ hi),uP]
  have st:=starts t x e (h e Zw)
  have:((List.range (e+1)).filter fun s=>decide ((t.drop s).take (e - s)=x)).map (fun _=>(n,e))=(if x <:+ t.take e then [()] else []).map fun _=>(n,e):=by
   rw [← st,YV];rfl
  rw [this]
  by_cases q:x <:+ t.take e
  ·rw [Zr q,WQ (by simpa using q)]
   simp
  ·rw [Zq q,XF (by simpa using q)]
   simp
noncomputable def jS:Nat->List Tx->List Pl
 | _,[]=>[]
 | n,t :: l=>(List.range (t.length+1)).map (fun e=>(n,e))++jS (n+1) l
theorem Av (l:List Tx):∀ n p,p∈jS n l->n<=p.1:=by
 induction l with
 | nil=>intro n p h;simp [jS] at h
 | cons t l ih =>
  intro n p h
  rcases Zc.mp h with h | h
  ·obtain ⟨e,_,rfl⟩:=Yz.mp h
   exact Zp _
  ·have:=ih (n+1) p h
   exact Xl this
theorem uh (x:Tx) (l:List Tx):∀ n d,look (iF n l d) x=look d x++(jS n l).filter fun p=>decide (x <:+ (l.getD (p.1 - n) []).take p.2):=by
 induction l with
 | nil=>intro n d;simp [iF,jS]
 | cons t l ih =>
  intro n d
  rw [show iF n (t :: l) d=iF (n+1) l (iy n t (List.range (t.length+1)) d) from rfl,ih,nV n t x _ d fun e he=>by have:=Z7.mp he;exact Yf this,Zf]
  congr 1
  rw [jS,List.filter_append,List.filter_map]
  congr 1
  ·congr 1
   apply Vx
   intro e _
   simp
  ·apply Vx
   intro p hp
   have:=Av l (n+1) p hp
   rw [show p.1 - n=(p.1 - (n+1))+1 by lia,XU]
noncomputable def En (bk:List Tx) (x:Tx) (p:Pl):Prop:=x <:+ (bk.getD p.1 []).take p.2
noncomputable instance (bk:List Tx) (x:Tx) (p:Pl):Decidable (En bk x p):=inferInstanceAs (Decidable (_ <:+ _))
theorem jy (bk:List Tx) (x:Tx):look (found bk) x=(jS 0 bk).filter fun p=>decide (En bk x p):=by
 unfold found
 rw [uh,show look [([],[])] x=[] by unfold look;split <;> rfl,Yr]
 rfl
theorem o9 {bk:List Tx} {x:Tx} {p:Pl}:p∈look (found bk) x ↔ p∈jS 0 bk/\En bk x p:=by
 rw [jy,Wv,decide_eq_true_eq]
theorem Vu {bk:List Tx} {x y:Tx}:look (found bk) x=look (found bk) y ↔ ∀ p∈jS 0 bk,En bk x p ↔ En bk y p:=by
 constructor
 ·intro h p hp
  have h1:=o9 (bk:=bk) (x:=x) (p:=p)
  have h2:=o9 (bk:=bk) (x:=y) (p:=p)
  rw [h] at h1
  exact ⟨fun z=>(h2.mp (h1.mpr ⟨hp,z⟩)).2,fun z=>(h1.mp (h2.mpr ⟨hp,z⟩)).2⟩
 ·intro h
  rw [jy,jy]
  apply Vx
  intro p hp
  exact decide_eq_decide.mpr (h p hp)
theorem g8 (l:List Tx):∀ n p,p∈jS n l ↔ n<=p.1/\p.1 < n+l.length/\p.2<=(l.getD (p.1 - n) []).length:=by
 induction l with
 | nil=>intro n p;simp [jS];lia
 | cons t l ih =>
  intro n p
  obtain ⟨i,e⟩:=p
  rw [jS,Zc,ih,Yz]
  simp only [Z7,Prod.mk.injEq,Zj]
  constructor
  ·rintro (⟨a,h1,h2,h3⟩ | ⟨h1,h2,h3⟩)
   ·subst h2 h3
    simp
    exact Yf h1
   ·refine ⟨by exact Xl h1,by lia,?_⟩
    rw [show i - n=(i - (n+1))+1 by lia,XU]
    exact h3
  ·rintro ⟨h1,h2,h3⟩
   by_cases q:i=n
   ·subst q
    simp at h3
    exact .inl ⟨e,by exact Nat.lt_succ_of_le h3,rfl,rfl⟩
   ·rw [show i - n=(i - (n+1))+1 by lia,XU] at h3
    exact .inr ⟨by lia,by lia,h3⟩
theorem ky {bk:List Tx} {x:Tx}:x∈aV (found bk) ↔ x=[]\/∃ p∈jS 0 bk,En bk x p:=by
 unfold found
 rw [jY]
 constructor
 ·rintro (h | ⟨t,ht,e,he,s,hs,rfl⟩)
  ·left;simpa [aV] using h
  ·right
   obtain ⟨i,hi,rfl⟩:=Ys ht
   have h1:=Z7.mp he
   refine ⟨(i,e),(g8 bk 0 (i,e)).mpr ⟨ZS _,by simpa using hi,?_⟩,?_⟩
   ·simp [hi];exact Yf h1
   ·show _ <:+ (bk.getD i []).take e
    rw [Z4,Zb hi,X2,← Wf]
    exact X4 _ _
 ·rintro (h | ⟨⟨i,e⟩,hp,h⟩)
  ·left;rw [h];simp [aV]
  ·right
   obtain ⟨_,h2,h3⟩:=(g8 bk 0 (i,e)).mp hp
   have hi:i < bk.length:=by simpa using h2
   have hg:bk.getD i []=bk[i]:=by rw [Z4,Zb hi,X2]
   have h3:e<=bk[i].length:=by simpa [hi] using h3
   have h4:x <:+ bk[i].take e:=by rw [← hg];exact h
   have hl:x.length<=e:=by have:=h4.length_le;rw [ZO] at this;lia
   refine ⟨bk[i],XY hi,e,Z7.mpr (by exact Nat.lt_succ_of_le h3),e - x.length,Z7.mpr (by lia),?_⟩
   obtain ⟨y,hy⟩:=h4
   have h5:(bk[i].take e).length=e:=by rw [ZO];exact Yt h3
   rw [← hy,Zu] at h5
   rw [← Wf,← hy,show e - x.length=y.length by lia,List.drop_left]
theorem j7 {s:List Tx} (h:s ≠ []):hdW s∈s:=by
 cases s with
 | nil=>exact absurd rfl h
 | cons a s=>exact Zw
theorem tm {s:List Tx} (h:s ≠ []):laW s∈s:=by
 unfold laW
 rw [List.getLast?_eq_some_getLast h]
 exact List.getLast_mem h
theorem oE {d:Fd} {s:List Tx} (hs:s∈fA d) (hne:s ≠ []) (w:Tx):w∈s ↔ w∈aV d/\look d w=look d (hdW s):=by
 obtain ⟨k,e⟩:=Bt d s hs
 have hk:look d (hdW s)=k:=by
  have:=j7 hne
  rw [e] at this
  have:=(Wv.mp this).2
  rw [← e] at this
  exact of_decide_eq_true this
 rw [hk]
 conv=>lhs;rw [e]
 rw [Wv,decide_eq_true_eq,(dP (aV d)).mem_iff]
theorem uE (st:Vk) (u v:Tx) (h:∀ s∈st,u∈s ↔ v∈s):num st u=num st v:=by
 induction st with
 | nil=>rfl
 | cons s st ih =>
  have e:=ih fun x hx=>h x (Zx _ hx)
  have e2:=h s Zw
  unfold num
  by_cases q:u∈s
  ·rw [Zr q,Zr (e2.mp q)]
  ·rw [Zq q,Zq fun z=>q (e2.mpr z),e]
theorem vn {d:Fd} (h0:∀ s∈fA d,s ≠ []) {u v:Tx} (hu:u∈aV d) (hv:v∈aV d) (h:look d u=look d v):num (fA d) u=num (fA d) v :=
 uE _ u v fun s hs=>by rw [oE hs (h0 s hs),oE hs (h0 s hs),h];exact ⟨fun z=>⟨hv,z.2⟩,fun z=>⟨hu,z.2⟩⟩
theorem oO {bk:List Tx} {x y:Tx} {p:Pl} (h:x <:+ y) (e:En bk y p):En bk x p:=h.trans e
theorem rQ {bk:List Tx} {x:Tx} {c n e:Nat} (h:e+1<=(bk.getD n []).length):En bk (x++[c]) (n,e+1) ↔ En bk x (n,e)/\(bk.getD n [])[e]?=some c:=by
 unfold En
 dsimp only
 have ht:(bk.getD n []).take (e+1)=(bk.getD n []).take e++[(bk.getD n [])[e]]:=by rw [List.take_add_one,Zb (show e < (bk.getD n []).length by exact Vz h)];rfl
 rw [ht,Zb (show e < (bk.getD n []).length by exact Vz h)]
 constructor
 ·rintro ⟨y,hy⟩
  rw [← Zf] at hy
  obtain ⟨h1,h2⟩:=List.append_inj' hy rfl
  refine ⟨⟨y,h1⟩,?_⟩
  simp only [YT,and_true] at h2
  rw [h2]
 ·rintro ⟨⟨y,hy⟩,h2⟩
  refine ⟨y,?_⟩
  rw [← Zf,hy,ZE h2]
theorem oK {bk:List Tx} {x:Tx} {n:Nat} (h:En bk x (n,0)):x=[]:=by
 unfold En at h
 simpa using h
theorem yh {bk:List Tx} {x y:Tx} (c:Nat) (h:look (found bk) x=look (found bk) y):look (found bk) (x++[c])=look (found bk) (y++[c]):=by
 rw [Vu] at h ⊢
 rintro ⟨n,e⟩ hp
 cases e with
 | zero=>exact ⟨fun z=>absurd (oK z) (by simp),fun z=>absurd (oK z) (by simp)⟩
 | succ e =>
  have hp':=(g8 bk 0 (n,e+1)).mp hp
  have hl:e+1<=(bk.getD n []).length:=by simpa using hp'.2.2
  rw [rQ hl,rQ hl]
  have hq:(n,e)∈jS 0 bk:=(g8 bk 0 (n,e)).mpr ⟨hp'.1,hp'.2.1,by simpa using (by (exact Xl hl):e<=(bk.getD n []).length)⟩
  rw [h _ hq]
theorem AB {bk:List Tx} {x y:Tx} (hx:x ≠ []) (hy:y ≠ []) (h:look (found bk) x=look (found bk) y):x∈aV (found bk) ↔ y∈aV (found bk):=by
 rw [Vu] at h
 rw [ky,ky]
 constructor
 ·rintro (z | ⟨p,hp,z⟩)
  ·exact absurd z hx
  ·exact .inr ⟨p,hp,(h p hp).mp z⟩
 ·rintro (z | ⟨p,hp,z⟩)
  ·exact absurd z hy
  ·exact .inr ⟨p,hp,(h p hp).mpr z⟩
theorem Be {bk:List Tx} {x:Tx} {c:Nat} (h:x++[c]∈aV (found bk)):x∈aV (found bk):=by
 rw [ky] at h ⊢
 rcases h with h | ⟨⟨n,e⟩,hp,h⟩
 ·simp at h
 ·cases e with
  | zero=>have:=oK h;simp at this
  | succ e =>
   have hp':=(g8 bk 0 (n,e+1)).mp hp
   have hl:e+1<=(bk.getD n []).length:=by simpa using hp'.2.2
   exact .inr ⟨(n,e),(g8 bk 0 (n,e)).mpr ⟨hp'.1,hp'.2.1,by simpa using (by (exact Xl hl):e<=(bk.getD n []).length)⟩,((rQ hl).mp h).1⟩
theorem zJ (d:Fd) (s:List Tx) (h:s∈fA d) (w:Tx) (hw:w∈s):w.length<=(laW s).length:=by
 have p:=xB d s h
 have hne:s ≠ []:=List.ne_nil_of_mem hw
 obtain ⟨a,b,rfl⟩:∃ a b,s=a++[b]:=⟨_,_,(List.dropLast_concat_getLast hne).symm⟩
 rw [show laW (a++[b])=b by simp [laW]]
 rcases Zc.mp hw with hw | hw
 ·have:=(ZJ.mp p).2.2 w hw b (by simp)
  unfold lL at this
  lia
 ·rw [Zn.mp hw]
  exact Zp _
noncomputable def jv (h L:Tx):List Tx:=(List.range' h.length (L.length - h.length+1)).map fun l=>L.drop (L.length - l)
theorem jf {h L y:Tx} (hl:h.length<=L.length):y∈jv h L ↔ y <:+ L/\h.length<=y.length:=by
 unfold jv
 rw [Yz]
 constructor
 ·rintro ⟨l,hl',rfl⟩
  have:=Wa.mp hl'
  exact ⟨X4 _ _,by rw [ZK];omega⟩
 ·rintro ⟨h1,h2⟩
  have:=h1.length_le
  exact ⟨y.length,Wa.mpr ⟨h2,by lia⟩,(List.suffix_iff_eq_drop.mp h1).symm⟩
theorem v3 (h L:Tx) (hl:h.length<=L.length):(jv h L).Pairwise (fun a b=>a.length < b.length):=by
 unfold jv
 rw [Wb]
 have pw:=List.pairwise_lt_range' (s:=h.length) (n:=L.length - h.length+1)
 exact pw.imp_of_mem fun {a b} ha hb hab=>by
  have h1:=Wa.mp ha
  have h2:=Wa.mp hb
  rw [ZK,ZK]
  omega
theorem v5 (bk:List Tx) (s:List Tx) (hs:s∈fA (found bk)) (hne:s ≠ []) (hn:s.Nodup):s=jv (hdW s) (laW s):=by
 have hh:=j7 hne
 have hL:=tm hne
 have hl:=j1 (found bk) s hs _ hL
 have m:=fun w=>oE hs hne (d:=found bk) w
 have kL:=(m _).mp hL
 have suf:∀ x∈s,x <:+ laW s:=fun x hx=>by
  have hx':=(m x).mp hx
  have len:=zJ (found bk) s hs x hx
  rcases ky.mp kL.1 with z | ⟨p,hp,z⟩
  ·rw [z] at len
   have:x=[]:=XG.mp (by simpa using len)
   rw [this];exact List.nil_suffix
  ·have zx:En bk x p:=(Vu.mp (hx'.2.trans kL.2.symm) p hp).mpr z
   exact YL zx z len
 have mem:∀ y,y∈s ↔ y∈jv (hdW s) (laW s):=fun y=>by
  rw [jf hl]
  constructor
  ·exact fun hy=>⟨suf y hy,j1 (found bk) s hs y hy⟩
  ·rintro ⟨h1,h2⟩
   have h3:hdW s <:+ y:=YL (suf _ hh) h1 h2
   have hlk:look (found bk) y=look (found bk) (hdW s):=by
    rw [Vu]
    intro p hp
    exact ⟨oO h3,fun z=>oO h1 ((Vu.mp kL.2 p hp).mpr z)⟩
   refine (m y).mpr ⟨?_,hlk⟩
   rcases ky.mp kL.1 with z | ⟨p,hp,z⟩
   ·rw [z] at h1
    rw [List.suffix_nil.mp h1,← z]
    exact kL.1
   ·exact ky.mpr (.inr ⟨p,hp,oO h1 z⟩)
 have pw:=v3 (hdW s) (laW s) hl
 have nd:(jv (hdW s) (laW s)).Nodup:=pw.imp fun h e=>by rw [e] at h;lia
 have pm:(jv (hdW s) (laW s)).Perm s:=(List.perm_ext_iff_of_nodup nd hn).mpr fun y=>(mem y).symm
 have e1:=jz pm (pw.imp fun h=>by unfold lL;lia)
 have e2:=jz (XD s) (xB (found bk) s hs)
 rw [e1,← e2]
theorem iG {f:Val->Val->Vh} {a b:Ex} {η:Env} {x y:Val} (h1:a η=some x) (h2:b η=some y):e2 f a b η=f x y:=by
 show (a η).bind _=_
 rw [h1,Zm,h2]
 rfl
theorem g0 {a:Ex} {r:Exs} {η:Env} {x:Val} {xs:Vi} (h1:a η=some x) (h2:r η=some xs):ag a r η=some (x :: xs):=xv h1 h2
theorem ui {α:Type} (f:α->T) (l:List α):∀ n:Nat,dC n (l.map f)=(l.zipIdx n).map fun p=>T.tup [.int p.2,f p.1]:=by
 induction l with
 | nil=>intro n;rfl
 | cons t l ih=>intro n;rw [Xa,Zt,Zt,dC,ih (n+1)]
theorem B6 (l:Vm) (hl:l.length < 16777216):eQ [.lst (l.map fun i:Nat=>T.int (i:Int)),.lst (l.map fun i:Nat=>T.int (i:Int))]=some (.fr,.bl true):=by
 have d:eqD 60 (.lst (l.map fun i:Nat=>T.int (i:Int)))=true:=by
  rw [eqD,Z9]
  intro x hx
  obtain ⟨_,_,rfl⟩:=Yz.mp hx
  rfl
 have co:=oq (m:=.pu) (k:=1) (tg:=aY 0) (it:=eT (ah 0)) (c:=aM gH (ag (ah 0) aw)) (elt:=ah 0) (η:=[some (.pu (.lst (l.map fun i:Nat=>T.int (i:Int)))),some (.pu (.lst (l.map fun i:Nat=>T.int (i:Int))))]) (fun i:Nat=>T.int (i:Int)) (fun _=>true) (fun i:Nat=>T.int (i:Int)) l rfl rfl (ZQ hl) fun i _ =>
   ⟨[some (.pu (.int i)),some (.pu (.lst (l.map fun i:Nat=>T.int (i:Int)))),some (.pu (.lst (l.map fun i:Nat=>T.int (i:Int))))],(.fr,.bl true),rfl,rfl,rfl,fun _=>rfl⟩
 rw [List.filter_eq_self.mpr (fun _ _=>rfl)] at co
 unfold eQ
 have n0:e2 oNe (ah 0) (ah 1) [some (.pu (.lst (l.map fun i:Nat=>T.int (i:Int)))),some (.pu (.lst (l.map fun i:Nat=>T.int (i:Int))))]=some (.fr,.bl false):=e2v (x:=(.pu,_)) (y:=(.pu,_)) rfl rfl (lV d)
 have cn:eOr (gy (eIs .list (ah 0))) (e2 oNe (ah 0) (ah 1)) [some (.pu (.lst (l.map fun i:Nat=>T.int (i:Int)))),some (.pu (.lst (l.map fun i:Nat=>T.int (i:Int))))]=some (.fr,.bl false):=n0
 exact dD rfl ((ar (jR cn)).trans (ig (e2v (lU (xv co rfl) rfl) (lU (xv rfl rfl) rfl) (vz rfl))))
theorem zH {f g:Val->Val->Vh} {a b c:Ex} {η:Env} {x y z v:Val} (h1:a η=some x) (h2:b η=some y) (h3:f x y=some (.fr,.bl true)) (h4:c η=some z) (h5:g y z=some v):ij f g a b c η=some v:=by
 show (a η).bind _=_
 rw [h1,Zm,h2,Zm,h3,Zm]
 show (c η).bind _=_
 rw [h4]
 exact h5
theorem B4 {a:Ex} {η:Env} {b:Bool} (h:a η=some (.fr,.bl b)):gy a η=some (.fr,.bl (!b)):=by
 show (a η).bind _=_
 rw [h]
 rfl
theorem xK (l:Vg) (k:Nat) (h:k < l.length):bV [.lst l,.int k]=some (.fr,.non):=by
 have c2:gy (ij oLe oLt (eC (.int 0)) (ah 1) (eN d5 (ag (ah 0) aw))) [some (.pu (.lst l)),some (.pu (.int k))]=some (.fr,.bl false):=B4 (b:=true) (zH (x:=(.fr,.int 0)) (y:=(.fr,.int k)) rfl rfl (congrArg (fun b=>some (Md.fr,T.bl b)) (decide_eq_true (by lia:(0:Int)<=(k:Int)))) (lU (xv rfl rfl) rfl) (congrArg (fun b=>some (Md.fr,T.bl b)) (decide_eq_true (show (k:Int) < (l.length:Int) by lia))))
 have c3:eOr (gy (aM g9 (ag (ah 1) aw))) (gy (ij oLe oLt (eC (.int 0)) (ah 1) (eN d5 (ag (ah 0) aw)))) [some (.pu (.lst l)),some (.pu (.int k))]=some (.fr,.bl false):=c2
 unfold bV fn
 rw [Zr (show [T.lst l,T.int k].length=2 from rfl)]
 exact congrArg (fun z:Option Out=>z.bind _) (jR c3)
theorem zZ (st:Vk) (s:List Tx) (n:Nat):eqD (n+3) (gw st s)=true:=by
 have d1:eqD (n+2) (lkT st s)=true:=by unfold lkT;split <;> rfl
 have d2:((bM st (hdW s) df).map wT).all (eqD (n+1))=true:=by
  rw [Z9]
  intro x hx
  obtain ⟨p,_,rfl⟩:=Yz.mp hx
  simp [wT]
 unfold gw
 rw [eqD]
 simp only [X6,List.all_nil,d1,eqD,d2,Bool.and_self,Bool.true_and]
theorem Er (l:Vk):(∀ s∈l,s ≠ [])->l.length<=l.flatten.length:=by
 induction l with
 | nil=>exact fun _=>by simp
 | cons s l ih =>
  intro h
  have h1:=WB.mpr (h s Zw)
  have h2:=ih fun x hx=>h x (Zx _ hx)
  rw [Ze,Zu,Zj]
  lia
theorem Dt (st:Vk) (h:st.length < 16777216):gf [(.pu,bt st)]=some (.fr,bt st):=by
 have im:fN (st.map (gw st))=true:=iY (gw st) (fun s=>lF st s) st
 show mkL .pu (st.map (gw st))=_
 rw [lI (by rw [Zv];exact ZQ h),im]
 rfl
theorem pQ {f:Vi->Vh} {as:Exs} {η:Env} {xs:Vi} (h:as η=some xs):eN f as η=f xs:=by
 show (as η).bind f=_
 rw [h]
 rfl
theorem wN {m n:Md} (st:Vk) (i:Nat) (h:i < st.length):bh (m,bt st) (n,.int (i:Int))=some (.fr,gw st (st.getD i [])):=by
 show (ixP ((st.map (gw st)).length) (i:Int)).bind _=_
 rw [ly (by rw [Zv];exact h),Zm,ZC,Zb h,Z4,Zb h,Yb,Yb,X2]
 unfold sub up
 rw [lF,Zr rfl]
theorem E6 {m n:Md} (st:Vk) (s:List Tx):bh (m,gw st s) (n,.int 2)=some (.fr,lkT st s):=by
 show some (sub m (lkT st s))=_
 rw [sub,up,sf,Zr rfl]
theorem C8 {m n:Md} (l:Vg) (t:T):bh (m,.lst (l++[t])) (n,.int (-1))=some (sub m t):=by
 have:ixP ((l++[t]).length) (-1)=some l.length:=by
  unfold ixP
  rw [Zq (by lia),Zu,ZY,Zr (by lia)]
  congr 1
  lia
 show (ixP ((l++[t]).length) (-1)).bind _=_
 rw [this,Zm,Yw (Zp _)]
 simp
noncomputable def wd (ws:List (Nat×Nat)):List (T×T):=ws.map fun p=>(T.str [p.1],T.int (p.2:Int))
theorem Ew (ws:List (Nat×Nat)):oH (ws.map wT)=some (wd ws):=by
 induction ws with
 | nil=>rfl
 | cons w ws ih =>
  show (if gP (T.str [w.1])/\imm (T.int (w.2:Int)) then (oH (ws.map wT)).map _ else none)=_
  rw [Zr ⟨rfl,rfl⟩,ih]
  rfl
theorem qk:∀ (ws acc:List (Nat×Nat)),((acc++ws).map (·.1)).Nodup->(wd ws).foldl (fun d q=>dput d q.1 q.2) (wd acc)=wd (acc++ws)
 | [],acc,_=>by rw [ZD];rfl
 | w :: ws,acc,h=>by
  have hn:w.1 ∉ acc.map (·.1):=fun z=>by
   rw [Yv,Zt] at h
   exact (ZF.mp h).2.2 w.1 z w.1 Zw rfl
  have e:dput (wd acc) (T.str [w.1]) (T.int (w.2:Int))=wd (acc++[w]):=by
   unfold dput
   rw [Zq (by
    simp only [List.any_eq_true,not_exists,not_and]
    intro p hp
    obtain ⟨q,hq,rfl⟩:=Yz.mp hp
    simp only [eqT,beq_iff_eq,YT,and_true]
    intro z
    exact hn (Yz.mpr ⟨q,hq,z⟩))]
   simp [wd]
  show (wd ws).foldl _ (dput (wd acc) (T.str [w.1]) (T.int (w.2:Int)))=_
  rw [e,qk ws (acc++[w]) (by rw [Zf];exact h),Zf]
  rfl
theorem su (st:Vk) (h:Tx):∀ (cs:Vm),cs.Nodup->((bM st h cs).map (·.1)).Sublist cs
 | [],_=>by simp [bM]
 | c :: cs,hn=>by
  obtain ⟨h1,h2⟩:=ZW.mp hn
  have ih:=su st h cs h2
  have:bM st h (c :: cs)=fH st h c++bM st h cs:=rfl
  rw [this,Yv]
  unfold fH
  split
  ·exact ih.cons₂ c
  ·exact ih.cons c
theorem Cq {m:Md} (st:Vk) (h:Tx):jG [(m,.tup ((bM st h df).map wT))]=some (.fr,.dct 0 (wd (bM st h df))):=by
 show (oH ((bM st h df).map wT)).map _=_
 rw [Ew,Yb]
 have nd:((bM st h df).map (·.1)).Nodup:=(su st h df (by decide)).nodup (by decide)
 have:=qk (bM st h df) [] (by simpa using nd)
 rw [Yr] at this
 exact congrArg (fun z=>some (Md.fr,T.dct 0 z)) this
theorem nM (st:Vk) (h:Tx) (c:Nat):∀ (cs:Vm),bS (wd (bM st h cs)) (.str [c])=if c∈cs/\h++[c]∈st.flatten then some (.int (num st (h++[c]):Nat)) else none
 | []=>by simp [bM,wd,bS]
 | a :: cs=>by
  have ih:=nM st h c cs
  have e:bM st h (a :: cs)=fH st h a++bM st h cs:=rfl
  rw [e,wd,Yv,qq,show bS ((bM st h cs).map fun p=>(T.str [p.1],T.int (p.2:Int))) (.str [c])=_ from ih]
  by_cases q:a=c
  ·subst q
   by_cases p:h++[a]∈st.flatten
   ·have h0:bS ((fH st h a).map fun p=>(T.str [p.1],T.int (p.2:Int))) (.str [a])=some (.int (num st (h++[a]):Nat)):=by rw [fH,Zr p];simp [bS]
    rw [h0]
    exact (Zr ⟨Zw,p⟩).symm
   ·have h0:bS ((fH st h a).map fun p=>(T.str [p.1],T.int (p.2:Int))) (.str [a])=none:=by rw [fH,Zq p];rfl
    rw [h0,Zq fun z=>p z.2]
    exact (Zq fun z=>p z.2).symm
  ·have hn:bS ((fH st h a).map fun p=>(T.str [p.1],T.int (p.2:Int))) (.str [c])=none:=by
    unfold fH
    split
    ·simp [bS,q]
    ·rfl
   rw [hn]
   have q':¬ c=a:=fun z=>q z.symm
   by_cases z:c∈cs/\h++[c]∈st.flatten
   ·rw [Zr z,Zr ⟨Zx _ z.1,z.2⟩];rfl
   ·rw [Zq z,Zq fun y=>z ⟨(Zo.mp y.1).resolve_left q',y.2⟩];rfl
noncomputable def wl (st:Vk):Tx->Tx->Vm
 | _,[]=>[]
 | u,c :: cs=>if u++[c]∈st.flatten then num st (u++[c]) :: wl st (u++[c]) cs else []
structure Wk (st:Vk):Prop where
 ne:∀ s∈st,s ≠ []
 len:st.length<=117129
 z0:num st []=0
 nil:[]∈st.flatten
 az:∀ x∈st.flatten,Az x
 ext:∀ u∈st.flatten,∀ c,(hdW (st.getD (num st u) [])++[c]∈st.flatten ↔ u++[c]∈st.flatten)/\(u++[c]∈st.flatten->num st (hdW (st.getD (num st u) [])++[c])=num st (u++[c]))
theorem AG:∀ c,c < 123->97<=c->c∈df:=by decide
theorem Wk.way {st:Vk} (W:Wk st) {u:Tx} (hu:u∈st.flatten) (c:Nat):bS (wd (bM st (hdW (st.getD (num st u) [])) df)) (.str [c])=if u++[c]∈st.flatten then some (.int (num st (u++[c]):Nat)) else none:=by
 rw [nM]
 obtain ⟨e1,e2⟩:=W.ext u hu c
 by_cases p:u++[c]∈st.flatten
 ·have hc:=W.az _ p c (by simp)
  rw [Zr p,Zr ⟨AG c (by lia) hc.1,e1.mpr p⟩,e2 p]
 ·rw [Zq p,Zq fun z=>p (e1.mp z.2)]
theorem FG {m n:Md} (st:Vk) (s:List Tx):bh (m,gw st s) (n,.int 3)=some (.fr,.tup ((bM st (hdW s) df).map wT)):=by
 have wi:=oD (bM st (hdW s) df)
 unfold gw
 simp [ixP,wi]
noncomputable abbrev iL (ms:Vm):T:=.lst (ms.map fun i:Nat=>T.int (i:Int))
noncomputable abbrev E5 (st:Vk) (w:Tx) (ms:Vm) (z3 z4:Vj):Env:=[some (.pu (bt st)),some (.pu (.str w)),some (.ow (iL ms)),z3,z4]
theorem we {a b:Ex} {η:Env} {m n:Md} {k:T} {l:List (T×T)} (h1:a η=some (m,k)) (h2:b η=some (n,.dct 0 l)) (hk:gP k=true):e2 fJ a b η=some (.fr,.bl (!(bS l k).isSome)):=by
 rw [iG h1 h2]
 simp [hk]
theorem BE {m n:Md} {k v:T} {l:List (T×T)} (hk:gP k=true) (h:bS l k=some v) (hv:imm v=true):oIx (m,.dct 0 l) (n,k)=some (.fr,v):=by
 show (if gP k=true then (bS l k).map (sub m) else none)=_
 rw [Zr hk,h]
 simp [hv]
theorem yX {st:Vk} (W:Wk st) (w:Tx) {u:Tx} (hu:u∈st.flatten) (ms:Vm) (c:Nat) (z4:Vj) :
  aQ 4 (eN jG (ag (e2 bh (e2 bh (ah 0) (e2 bh (ah 2) (eC (.int (-1))))) (eC (.int 3))) aw)) (E5 st w (ms++[num st u]) (some (.pu (.str [c]))) z4)=some (.nx (E5 st w (ms++[num st u]) (some (.pu (.str [c]))) (some (.pu (.dct 0 (wd (bM st (hdW (st.getD (num st u) [])) df))))))):=by
 have hi:=hZ st u hu
 have h1:e2 bh (ah 2) (eC (.int (-1))) (E5 st w (ms++[num st u]) (some (.pu (.str [c]))) z4)=some (.fr,.int (num st u:Nat)):=by
  rw [iG (x:=(.bo,.lst ((ms.map fun i:Nat=>T.int (i:Int))++[.int (num st u:Nat)]))) (y:=(.fr,.int (-1))) (by simp) rfl,C8]
  rfl
 have h2:e2 bh (e2 bh (ah 0) (e2 bh (ah 2) (eC (.int (-1))))) (eC (.int 3)) (E5 st w (ms++[num st u]) (some (.pu (.str [c]))) z4)=some (.fr,.tup ((bM st (hdW (st.getD (num st u) [])) df).map wT)):=by
  rw [iG (x:=(.fr,gw st (st.getD (num st u) []))) (y:=(.fr,.int 3)) (by rw [iG (x:=(.pu,bt st)) (by simp [bt]) h1,wN st _ hi]) rfl,FG]
 rw [aJ (m:=.fr) (t:=.dct 0 (wd (bM st (hdW (st.getD (num st u) [])) df))) (by rw [pQ (g0 h2 rfl),Cq]) (by decide) (by simp)]
 rfl
theorem wk1 {st:Vk} (W:Wk st) (w:Tx) (cs:Tx):∀ (u:Tx) (ms:Vm) (z3 z4:Vj),u∈st.flatten->ms.length+cs.length < 1000000 →
  (∃ z3' z4',forL (aY 3) cq (cs.map fun c=>T.str [c]) (E5 st w (ms++[num st u]) z3 z4)=some (.nx (E5 st w (ms++[num st u]++wl st u cs) z3' z4'))) ∨
  ∃ η',forL (aY 3) cq (cs.map fun c=>T.str [c]) (E5 st w (ms++[num st u]) z3 z4)=some (.rt (.fr,iL (ms++[num st u]++wl st u cs)) η'):=by
 induction cs with
 | nil=>exact fun u ms z3 z4 _ _=>.inl ⟨z3,z4,by simp [forL,wl]⟩
 | cons c cs ih =>
  intro u ms z3 z4 hu hl
  rw [Zj] at hl
  have dg:=W.way hu c
  have s1:=yX W w hu ms c z4
  have ni:e2 fJ (ah 3) (ah 4) (E5 st w (ms++[num st u]) (some (.pu (.str [c]))) (some (.pu (.dct 0 (wd (bM st (hdW (st.getD (num st u) [])) df))))))=some (.fr,.bl (!(bS (wd (bM st (hdW (st.getD (num st u) [])) df)) (.str [c])).isSome)):=we (m:=.fr) (n:=.pu) rfl rfl rfl
  by_cases p:u++[c]∈st.flatten
  ·rw [Zr p] at dg
   have bo:cq (E5 st w (ms++[num st u]) (some (.pu (.str [c]))) z4)=some (.nx (E5 st w (ms++[num st u]++[num st (u++[c])]) (some (.pu (.str [c]))) (some (.pu (.dct 0 (wd (bM st (hdW (st.getD (num st u) [])) df))))))):=by
    unfold cq
    rw [ar s1,ar (η1:=E5 st w (ms++[num st u]) (some (.pu (.str [c]))) (some (.pu (.dct 0 (wd (bM st (hdW (st.getD (num st u) [])) df)))))) (by rw [jR (m:=.fr) (by rw [ni,dg];rfl)];rfl)]
    rw [iq (l:=(ms++[num st u]).map fun i:Nat=>T.int (i:Int)) (t:=.int (num st (u++[c]):Nat)) rfl (by rw [iG (x:=(.pu,.dct 0 (wd (bM st (hdW (st.getD (num st u) [])) df)))) (y:=(.fr,.str [c])) rfl rfl];exact BE rfl dg rfl) (by rw [Zv,Zu,ZY];lia)]
    simp
   have hw:wl st u (c :: cs)=num st (u++[c]) :: wl st (u++[c]) cs:=by rw [wl,Zr p]
   rw [hw]
   have:=ih (u++[c]) (ms++[num st u]) (some (.pu (.str [c]))) (some (.pu (.dct 0 (wd (bM st (hdW (st.getD (num st u) [])) df))))) p (by rw [Zu,ZY];lia)
   rw [Zt,bH (η1:=E5 st w (ms++[num st u]) (some (.pu (.str [c]))) z4) rfl bo]
   simpa [Zf] using this
  ·rw [Zq p] at dg
   right
   have hw:wl st u (c :: cs)=[]:=by rw [wl,Zq p]
   rw [hw,ZD]
   have bo:cq (E5 st w (ms++[num st u]) (some (.pu (.str [c]))) z4)=some (.rt (.fr,iL (ms++[num st u])) [some (.pu (bt st)),some (.pu (.str w)),none,some (.pu (.str [c])),some (.pu (.dct 0 (wd (bM st (hdW (st.getD (num st u) [])) df))))]):=by
    unfold cq
    rw [ar s1,pJ (η':=[some (.pu (bt st)),some (.pu (.str w)),none,some (.pu (.str [c])),some (.pu (.dct 0 (wd (bM st (hdW (st.getD (num st u) [])) df))))]) (v:=(.fr,iL (ms++[num st u]))) (by rw [m8 (m:=.fr) (by rw [ni,dg];rfl)];rfl)]
   exact ⟨_,zk (η1:=E5 st w (ms++[num st u]) (some (.pu (.str [c]))) z4) rfl bo⟩
theorem CL {st:Vk} (W:Wk st) (w:Tx) (hw:w.length<=1000):jD [bt st,.str w]=some (.fr,iL (0 :: wl st [] w)):=by
 have key:=wk1 W w w [] [] none none W.nil (by simp;lia)
 rw [Yr,W.z0] at key
 have h0:au (gZ 2 (fC (ag (eC (.int 0)) aw))) (au (dN (aY 3) (eT (ah 1)) cq) (gQ 2)) [some (.pu (bt st)),some (.pu (.str w)),none,none,none]=au (dN (aY 3) (eT (ah 1)) cq) (gQ 2) (E5 st w [0] none none):=by
  rw [ar (η1:=E5 st w [0] none none) rfl]
 have it:dN (aY 3) (eT (ah 1)) cq (E5 st w [0] none none)=forL (aY 3) cq (w.map fun c=>T.str [c]) (E5 st w [0] none none):=fD rfl
 unfold jD
 rcases key with ⟨z3,z4,e⟩ | ⟨η',e⟩
 ·refine dD rfl (η:=[some (.pu (bt st)),some (.pu (.str w)),none,z3,z4]) ?_
  refine (show au _ _ [some (.pu (bt st)),some (.pu (.str w)),none,none,none]=_ from ?_)
  rw [h0,ar (it.trans e)]
  rfl
 ·refine dD rfl (η:=η') ?_
  refine (show au _ _ [some (.pu (bt st)),some (.pu (.str w)),none,none,none]=_ from ?_)
  rw [h0,pJ (it.trans e)]
  rfl
noncomputable def lk (st:Vk) (i:Nat):Nat:=num st ((hdW (st.getD i [])).drop 1)
noncomputable def chF (st:Vk):Nat->Nat->Vm
 | 0,i=>[i]
 | n+1,i=>i :: (if hdW (st.getD i [])=[] then [] else chF st n (lk st i))
theorem tL {c:Ex} {body:Sx} {f:Nat} {η η2:Env} {m:Md} (h:c η=some (m,.bl true)) (hb:body η=some (.nx η2)):eu c body (f+1) η=eu c body f η2:=by
 simp [eu,h,hb]
theorem zX {c:Ex} {body:Sx} {f:Nat} {η:Env} {m:Md} (h:c η=some (m,.bl false)):eu c body (f+1) η=some (.nx η):=by
 simp [eu,h]
structure Lk (st:Vk):Prop where
 ne:∀ s∈st,s ≠ []
 len:st.length < 1000000
 lt:∀ i < st.length,(hdW (st.getD i [])).drop 1∈st.flatten
 dn:∀ i < st.length,hdW (st.getD i []) ≠ []->(hdW (st.getD (lk st i) [])).length < (hdW (st.getD i [])).length
 sz:∀ i < st.length,(hdW (st.getD i [])).length<=120
theorem Lk.in {st:Vk} (L:Lk st) {i:Nat} (h:i < st.length):lk st i < st.length:=hZ st _ (L.lt i h)
theorem Lk.non {st:Vk} (L:Lk st) {i:Nat} (h:i < st.length):st.getD i [] ≠ []:=L.ne _ (getD_mem st i h)
noncomputable abbrev EC (st:Vk) (c:T) (ms:Vm):Env:=[some (.pu (bt st)),some (.pu c),some (.ow (.lst (ms.map fun i:Nat=>T.int (i:Int))))]
theorem sZ {st:Vk} (L:Lk st) {i:Nat} (h:i < st.length) (ms:Vm) (hl:ms.length < 16777216):fZ (EC st (.int i) ms)=some (.nx (EC st (lkT st (st.getD i [])) (ms++[i]))):=by
 unfold fZ
 rw [ar (η1:=EC st (.int i) (ms++[i])) (by
  rw [iq (l:=ms.map fun i:Nat=>T.int (i:Int)) (t:=.int i) rfl (by simp) (by rw [Zv];exact hl)]
  simp)]
 rw [aJ (m:=.fr) (t:=lkT st (st.getD i [])) (by
  rw [iG (x:=(.fr,gw st (st.getD i []))) (y:=(.fr,.int 2)) (by
   rw [iG (x:=(.pu,bt st)) (y:=(.fr,.int i)) (by simp [bt]) (by simp),wN st i h]) rfl,E6]) (by decide) (by simp)]
 rfl
theorem vy {st:Vk} (L:Lk st) {i:Nat} (hi:i < st.length) (ms:Vm) (hm:ms.length < 16777216) (f:Nat) (p:hdW (st.getD i [])=[]):eu (jO (ah 1)) fZ (f+2) (EC st (.int i) ms)=some (.nx (EC st .non (ms++[i]))):=by
 rw [tL (m:=.fr) rfl (sZ L hi ms hm),show lkT st (st.getD i [])=.non by unfold lkT;rw [Zr p],zX (m:=.fr) rfl]
theorem ch1 {st:Vk} (L:Lk st) (n:Nat):∀ (i:Nat) (ms:Vm) (f:Nat),i < st.length->(hdW (st.getD i [])).length<=n->n<=f->ms.length+n+1 < 16777216 →
  eu (jO (ah 1)) fZ (f+2) (EC st (.int i) ms)=some (.nx (EC st .non (ms++chF st n i))):=by
 induction n with
 | zero=>exact fun i ms f hi hn hf hm=>vy L hi ms (Y6 hm) f (XG.mp (Nat.le_zero.mp hn))
 | succ n ih =>
  intro i ms f hi hn hf hm
  by_cases p:hdW (st.getD i [])=[]
  ·rw [chF,Zr p]
   exact vy L hi ms (by lia) f p
  ·obtain ⟨g,rfl⟩:=Nat.exists_eq_add_of_le' hf
   have d:=L.dn i hi p
   rw [tL (m:=.fr) rfl (sZ L hi ms (by lia)),show lkT st (st.getD i [])=.int (lk st i:Nat) by unfold lkT lk;rw [Zq p]]
   refine (ih (lk st i) (ms++[i]) (g+n) (L.in hi) (by lia) (Y5 _ _) (by rw [Zu,ZY];lia)).trans ?_
   rw [chF,Zq p,Zf]
   rfl
theorem Bh {st:Vk} (L:Lk st) (k:Nat) (h:k < st.length):ja [bt st,.int k]=some (.fr,.lst ((chF st 120 k).map fun i:Nat=>T.int (i:Int))):=by
 have rf:=xK (st.map (gw st)) k (by rw [Zv];exact h)
 unfold ja
 refine dD rfl (η:=[some (.pu (bt st)),some (.pu .non),none]) ?_
 refine (show au _ _ [some (.pu (bt st)),some (.pu (.int k)),none]=_ from ?_)
 rw [ar (η1:=[some (.pu (bt st)),some (.pu (.int k)),none]) (by simp [bt,rf])]
 rw [ar (η1:=EC st (.int k) []) (by simp [lI])]
 rw [ar (η1:=EC st .non (chF st 120 k)) (by
  refine (show eu _ _ (999998+2) _=_ from ?_)
  rw [ch1 L 120 k [] 999998 h (L.sz k h) (by decide) (by decide)]
  rfl)]
 simp
theorem wM {st:Vk} (h:st.flatten.Nodup) {s:List Tx} (hs:s∈st):s.Nodup:=by
 obtain ⟨a,b,rfl⟩:=W3 hs
 rw [Z5,Ze] at h
 exact (ZF.mp (ZF.mp h).2.1).1
theorem ma {st:Vk} (h:st.flatten.Nodup) {x:Tx}:∀ {j:Nat},x∈st.getD j []->num st x=j:=by
 induction st with
 | nil=>intro j hx;simp at hx
 | cons s st ih =>
  rw [Ze] at h
  obtain ⟨h1,h2,h3⟩:=ZF.mp h
  intro j hx
  cases j with
  | zero=>rw [List.getD_cons_zero] at hx;simp [num,hx]
  | succ j =>
   rw [XU] at hx
   have hn:x ∉ s:=fun z=>by
    have hj:j < st.length:=by
     rcases Wn j st.length with q | q
     ·exact q
     ·rw [Z4,Xm q] at hx
      simp at hx
    exact h3 x z x (WS.mpr ⟨_,getD_mem st j hj,hx⟩) rfl
   rw [num,Zq hn,ih h2 hx]
structure Pb (st:Vk):Prop where
 L:Lk st
 nf:st.flatten.Nodup
 tl:∀ s∈st,s=jv (hdW s) (laW s)
 sh:∀ s∈st,(hdW s).length<=(laW s).length
 pc:∀ x c,x++[c]∈st.flatten->x∈st.flatten
section
variable {st:Vk} (P:Pb st)
noncomputable abbrev hW (st:Vk) (i:Nat):Tx:=hdW (st.getD i [])
include P
theorem Pb.hd {u:Tx} (hu:u∈st.flatten):hW st (num st u) <:+ u/\u <:+ laW (st.getD (num st u) []):=by
 have hi:=hZ st u hu
 have hs:=getD_mem st _ hi
 have hm:=ox st u hu
 have ht:=P.tl _ hs
 have m1:=hm
 rw [ht] at m1
 have h2:=(jf (P.sh _ hs)).mp m1
 have h3:hdW (st.getD (num st u) [])∈jv (hdW (st.getD (num st u) [])) (laW (st.getD (num st u) [])):=by
  rw [← ht]
  exact j7 (P.L.non hi)
 have h4:=(jf (P.sh _ hs)).mp h3
 exact ⟨YL h4.1 h2.1 h2.2,h2.1⟩
theorem Pb.step {u:Tx} (hu:u∈st.flatten) {i:Nat} (hi:i < st.length):hW st i <:+ u ↔ i=num st u\/(hW st (num st u) ≠ []/\hW st i <:+ (hW st (num st u)).drop 1):=by
 obtain ⟨h1,h2⟩:=P.hd hu
 have hk:=hZ st u hu
 have hs:=getD_mem st _ hk
 have hx:=j7 (P.L.non hi)
 constructor
 ·intro h
  by_cases q:(hW st (num st u)).length<=(hW st i).length
  ·left
   have:hW st i∈st.getD (num st u) []:=by
    rw [P.tl _ hs]
    exact (jf (P.sh _ hs)).mpr ⟨h.trans h2,q⟩
   rw [← ma P.nf hx,ma P.nf this]
  ·right
   have h5:hW st i <:+ hW st (num st u):=YL h h1 (by exact YB q)
   refine ⟨fun z=>by rw [z] at q;simp at q,?_⟩
   refine YL h5 (X4 1 _) ?_
   rw [ZK]
   omega
 ·rintro (rfl | ⟨_,h⟩)
  ·exact h1
  ·exact (h.trans (X4 1 _)).trans h1
theorem Pb.mem:∀ (n:Nat) {u:Tx},u∈st.flatten->(hW st (num st u)).length<=n->∀ i < st.length,i∈chF st n (num st u) ↔ hW st i <:+ u
 | 0,u,hu,hn,i,hi=>by
  rw [chF,P.step hu hi]
  have z:hW st (num st u)=[]:=XG.mp (by lia)
  rw [Zn]
  exact ⟨.inl,fun h=>h.elim id fun q=>absurd z q.1⟩
 | n+1,u,hu,hn,i,hi=>by
  rw [chF,P.step hu hi]
  have hk:=hZ st u hu
  by_cases z:hdW (st.getD (num st u) [])=[]
  ·rw [Zr z,Zn]
   exact ⟨.inl,fun h=>h.elim id fun q=>absurd z q.1⟩
  ·have hd:=P.L.dn _ hk z
   rw [Zq z,Zo,lk,Pb.mem n (P.L.lt _ hk) (by have:(hdW (st.getD (lk st (num st u)) [])).length < _:=hd;unfold lk at this;lia) i hi]
   exact ⟨fun h=>h.imp id fun q=>⟨z,q⟩,fun h=>h.imp id fun q=>q.2⟩
theorem Pb.lt:∀ (n k:Nat),k < st.length->∀ i∈chF st n k,i < st.length
 | 0,k,hk,i,h=>by rw [chF,Zn] at h;rw [h];exact hk
 | n+1,k,hk,i,h=>by
  rw [chF] at h
  rcases Zo.mp h with rfl | h
  ·exact hk
  ·by_cases z:hdW (st.getD k [])=[]
   ·rw [Zr z] at h;exact nomatch h
   ·rw [Zq z] at h;exact Pb.lt n _ (P.L.in hk) i h
theorem Pb.le:∀ (n k:Nat),k < st.length->∀ i∈chF st n k,(hW st i).length<=(hW st k).length
 | 0,k,hk,i,h=>by rw [chF,Zn] at h;rw [h];exact Zp _
 | n+1,k,hk,i,h=>by
  rw [chF] at h
  rcases Zo.mp h with rfl | h
  ·exact Zp _
  ·by_cases z:hdW (st.getD k [])=[]
   ·rw [Zr z] at h;exact nomatch h
   ·rw [Zq z] at h
    exact ZV (Pb.le n _ (P.L.in hk) i h) (ZQ (P.L.dn k hk z))
theorem Pb.nd:∀ (n k:Nat),k < st.length->(chF st n k).Nodup
 | 0,k,hk=>by rw [chF];exact ZW.mpr ⟨XZ,Wg⟩
 | n+1,k,hk=>by
  rw [chF]
  by_cases z:hdW (st.getD k [])=[]
  ·rw [Zr z];exact ZW.mpr ⟨XZ,Wg⟩
  ·rw [Zq z]
   refine ZW.mpr ⟨fun h=>?_,Pb.nd n _ (P.L.in hk)⟩
   have h1:=Pb.le P n _ (P.L.in hk) k h
   have h2:=P.L.dn k hk z
   exact absurd h2 (Nat.not_lt.mpr h1)
noncomputable abbrev ch (st:Vk) (u:Tx):Vm:=chF st 120 (num st u)
theorem Pb.ch_mem {u:Tx} (hu:u∈st.flatten) {i:Nat} (hi:i < st.length):i∈ch st u ↔ hW st i <:+ u:=Pb.mem P 120 hu (P.L.sz _ (hZ st u hu)) i hi
theorem rg:∀ (y x:Tx),x++y∈st.flatten->x∈st.flatten
 | [],x,h=>by rw [ZD] at h;exact h
 | c :: y,x,h=>P.pc x c (rg y (x++[c]) (by rw [Zf];exact h))
theorem sJ {t:Tx} (h:t∈st.flatten) (e:Nat):t.take e∈st.flatten:=rg P (t.drop e) (t.take e) (by rw [Yh];exact h)
theorem sj:∀ (cs u:Tx),u++cs∈st.flatten->num st u :: wl st u cs=(List.range (cs.length+1)).map fun e=>num st (u++cs.take e)
 | [],u,_=>by rw [wl];simp
 | c :: cs,u,h=>by
  have h':u++[c]++cs∈st.flatten:=by rw [Zf];exact h
  have ih:=sj cs (u++[c]) h'
  have r:(List.range ((c :: cs).length+1)).map (fun e=>num st (u++(c :: cs).take e))=num st (u++[]) :: (List.range (cs.length+1)).map ((fun e=>num st (u++(c :: cs).take e)) ∘ Nat.succ):=by
   rw [Zj,List.range_succ_eq_map,Zt,YV]
   rfl
  rw [r,wl,Zr (rg P cs _ h'),ih,ZD]
  congr 1
  refine WC fun e _=>?_
  show _=num st (u++(c :: cs).take (e+1))
  rw [List.take_succ_cons,Zf]
  rfl
end
noncomputable abbrev plT (m:Nat) (g:Nat->List Pl):T:=.lst ((List.range m).map fun i=>T.lst ((g i).map tP))
noncomputable def iu (g:Nat->List Pl) (c:Vm) (p:Pl):Nat->List Pl:=fun j=>if j∈c then g j++[p] else g j
noncomputable abbrev E8 (bk:T) (st:Vk) (g:Nat->List Pl) (z3 z4 z5 z6 z7:Vj):Env:=[some (.pu bk),some (.pu (bt st)),some (.ow (plT st.length g)),z3,z4,z5,z6,z7]
noncomputable abbrev iC (n:Nat):Vj:=some (.pu (.int (n:Int)))
theorem vQ (bk:T) (st:Vk) (g:Nat->List Pl) (n e i:Nat) (hi:i < st.length) (hl:(g i).length < 16777216) (z4 z6:Vj) :
  eB (E8 bk st g (iC n) z4 (iC e) z6 (iC i))=some (.nx (E8 bk st (iu g [i] (n,e)) (iC n) z4 (iC e) z6 (iC i))):=by
 have h1:((List.range st.length).map fun i=>T.lst ((g i).map tP))[i]?=some (T.lst ((g i).map tP)):=by
  rw [ZC,List.getElem?_range hi]
  rfl
 have h2:((List.range st.length).map fun i=>T.lst ((g i).map tP)).set i (T.lst ((g i).map tP++[tP (n,e)]))=(List.range st.length).map fun j=>T.lst ((iu g [i] (n,e) j).map tP):=by
  refine List.ext_getElem (by rw [XN,Zv,Zv]) fun j a b=>?_
  rw [List.getElem_set,WR,WR,List.getElem_range]
  unfold iu
  by_cases q:i=j
  ·subst q
   rw [Zr rfl,Zr (Zn.mpr rfl),Yv]
   rfl
  ·rw [Zq q,Zq fun z=>q (Zn.mp z).symm]
 have h3:nU 2 (ah 7) (ag (mP (ag (ah 3) (ag (ah 5) aw))) aw) (E8 bk st g (iC n) z4 (iC e) z6 (iC i))=some ((.fr,.non),E8 bk st (iu g [i] (n,e)) (iC n) z4 (iC e) z6 (iC i)):=by
  show (ixP ((List.range st.length).map fun i=>T.lst ((g i).map tP)).length (i:Int)).bind _=_
  rw [ly (by rw [Zv,Z2];exact hi),Zm,h1,Zm]
  show (aZ (T.lst ((g i).map tP)) [(.fr,tP (n,e))]).map _=_
  rw [eO (by rw [Zv];exact hl),Yb]
  show some ((Md.fr,T.non),List.set _ 2 (some (Cell.ow (T.lst (List.set _ i _)))))=_
  rw [h2]
  rfl
 unfold eB
 show (nU 2 (ah 7) (ag (mP (ag (ah 3) (ag (ah 5) aw))) aw) (E8 bk st g (iC n) z4 (iC e) z6 (iC i))).map _=_
 rw [h3]
 rfl
theorem tZ (g:Nat->List Pl) (i:Nat) (c:Vm) (p:Pl) (h:i ∉ c):iu (iu g [i] p) c p=iu g (i :: c) p:=by
 funext j
 unfold iu
 by_cases q:j∈c
 ·have:j ≠ i:=fun z=>h (z ▸ q)
  rw [Zr q,Zq fun z=>this (Zn.mp z),Zr (Zx _ q)]
 ·by_cases z:j=i
  ·rw [Zq q,Zr (Zn.mpr z),Zr (by rw [z];exact Zw)]
  ·rw [Zq q,Zq fun y=>z (Zn.mp y),Zq fun y=>(Zo.mp y).elim z q]
theorem pb1 (bk:T) (st:Vk) (n e:Nat) (z4 z6:Vj) (c:Vm):∀ (g:Nat->List Pl) (z7:Vj),c.Nodup->(∀ i∈c,i < st.length)->(∀ i∈c,(g i).length < 16777216) →
  ∃ z7',forL (aY 7) eB (c.map fun i:Nat=>T.int (i:Int)) (E8 bk st g (iC n) z4 (iC e) z6 z7)=some (.nx (E8 bk st (iu g c (n,e)) (iC n) z4 (iC e) z6 z7')):=by
 induction c with
 | nil=>exact fun g z7 _ _ _=>⟨z7,by
   have:iu g [] (n,e)=g:=by funext j;unfold iu;rw [Zq XZ]
   rw [this]
   rfl⟩
 | cons i c ih =>
  intro g z7 nd hi hl
  obtain ⟨n1,n2⟩:=ZW.mp nd
  obtain ⟨x7,ex⟩:=ih (iu g [i] (n,e)) (iC i) n2 (fun j hj=>hi j (Zx _ hj)) fun j hj=>by
   unfold iu
   rw [Zq fun z=>n1 (by rw [← Zn.mp z];exact hj)]
   exact hl j (Zx _ hj)
  exact ⟨x7,by rw [Zt,bH (η1:=E8 bk st g (iC n) z4 (iC e) z6 (iC i)) rfl (vQ bk st g n e i (hi i Zw) (hl i Zw) z4 z6),ex,tZ g i c (n,e) n1]⟩
section
variable {st:Vk} (P:Pb st)
include P
theorem yF (bk:T) (g:Nat->List Pl) (hg:∀ i,(g i).length < 16777216) (n e:Nat) {u:Tx} (hu:u∈st.flatten) (z4 z7:Vj) :
  ∃ z7',eD (E8 bk st g (iC n) z4 (iC e) (iC (num st u)) z7)=some (.nx (E8 bk st (iu g (ch st u) (n,e)) (iC n) z4 (iC e) (iC (num st u)) z7')):=by
 have hk:=hZ st u hu
 have c1:=aN (g:=ja) (as:=ag (ah 1) (ag (ah 6) aw)) (η:=E8 bk st g (iC n) z4 (iC e) (iC (num st u)) z7) (xs:=[(.pu,bt st),(.fr,.int (num st u:Nat))]) rfl (Bh P.L _ hk)
 obtain ⟨x7,ex⟩:=pb1 bk st n e z4 (iC (num st u)) (ch st u) g z7 (P.nd 120 _ hk) (P.lt 120 _ hk) fun i _=>hg i
 refine ⟨x7,?_⟩
 unfold eD
 rw [fD (gq c1)]
 exact ex
noncomputable def kH (st:Vk) (t:Tx) (n:Nat) (es:Vm) (g:Nat->List Pl):Nat->List Pl:=fun i=>g i++(es.filter fun e=>decide (i∈ch st (t.take e))).map fun e=>(n,e)
omit P in
theorem uK (t:Tx) (n e:Nat) (es:Vm) (g:Nat->List Pl):kH st t n es (iu g (ch st (t.take e)) (n,e))=kH st t n (e :: es) g:=by
 funext i
 unfold kH iu
 rw [List.filter_cons]
 by_cases q:i∈ch st (t.take e)
 ·rw [Zr q,decide_eq_true q,Zr rfl,Zt,Zf]
  rfl
 ·rw [Zq q,ZP q,Zq Zh]
omit P in
theorem wJ (g:Nat->List Pl) (c:Vm) (p:Pl) {k:Nat} (h:∀ i,(g i).length<=k) (i:Nat):(iu g c p i).length<=k+1:=by
 unfold iu
 have:=h i
 split
 ·rw [Zu,ZY];exact YC this
 ·exact YE this
theorem pb2 (bk:T) {t:Tx} (ht:t∈st.flatten) (n:Nat) (z4:Vj) (es:Vm):∀ (g:Nat->List Pl) (k:Nat) (z5 z6 z7:Vj),(∀ i,(g i).length<=k)->k+es.length < 16777216 →
  ∃ z5' z6' z7',forL (j4 [aY 5,aY 6]) eD (es.map fun e:Nat=>T.tup [.int (e:Int),.int (num st (t.take e):Nat)]) (E8 bk st g (iC n) z4 z5 z6 z7)=some (.nx (E8 bk st (kH st t n es g) (iC n) z4 z5' z6' z7')):=by
 induction es with
 | nil=>exact fun g k z5 z6 z7 _ _=>⟨z5,z6,z7,by
   have:kH st t n [] g=g:=by funext j;unfold kH;rw [List.filter_nil,YW,ZD]
   rw [this]
   rfl⟩
 | cons e es ih =>
  intro g k z5 z6 z7 hg hk
  rw [Zj] at hk
  obtain ⟨y7,eb⟩:=yF P bk g (fun i=>Wi (hg i) (by lia)) n e (sJ P ht e) z4 z7
  obtain ⟨x5,x6,x7,ex⟩:=ih (iu g (ch st (t.take e)) (n,e)) (k+1) (iC e) (iC (num st (t.take e))) y7 (wJ g _ _ hg) (by lia)
  exact ⟨x5,x6,x7,by rw [Zt,bH (η1:=E8 bk st g (iC n) z4 (iC e) (iC (num st (t.take e))) z7) rfl eb,ex,uK]⟩
omit P in
theorem sd (f:Nat->T) (k:Nat):∀ n:Nat,dC n ((List.range' n k).map f)=(List.range' n k).map fun e:Nat=>T.tup [.int (e:Int),f e]:=by
 induction k with
 | zero=>intro n;rfl
 | succ k ih=>intro n;rw [List.range'_succ,Zt,Zt,dC,ih (n+1)]
theorem wa (W:Wk st) (bk:T) {t:Tx} (ht:t∈st.flatten) (hl:t.length<=120) (n:Nat) (g:Nat->List Pl) (k:Nat) (hg:∀ i,(g i).length<=k) (hk:k+121 < 16777216) (z5 z6 z7:Vj) :
  ∃ z5' z6' z7',d6 (E8 bk st g (iC n) (some (.pu (.str t))) z5 z6 z7)=some (.nx (E8 bk st (kH st t n (List.range (t.length+1)) g) (iC n) (some (.pu (.str t))) z5' z6' z7')):=by
 have wk:=CL W t (by lia)
 have w2:=sj P t [] (by rw [Yr];exact ht)
 rw [W.z0] at w2
 rw [w2] at wk
 have c1:=aN (g:=jD) (as:=ag (ah 1) (ag (ah 4) aw)) (η:=E8 bk st g (iC n) (some (.pu (.str t))) z5 z6 z7) (xs:=[(.pu,bt st),(.fr,.str t)]) rfl wk
 have it:iX (aM jD (ag (ah 1) (ag (ah 4) aw))) (E8 bk st g (iC n) (some (.pu (.str t))) z5 z6 z7)=some (.fr,(List.range (t.length+1)).map fun e:Nat=>T.tup [.int (e:Int),.int (num st (t.take e):Nat)]):=by
  unfold iX
  rw [c1]
  show some (Md.fr,dC 0 (List.map _ (List.map _ (List.range (t.length+1)))))=_
  rw [YV,List.range_eq_range',sd]
  rfl
 obtain ⟨x5,x6,x7,ex⟩:=pb2 P bk ht n (some (.pu (.str t))) (List.range (t.length+1)) g k z5 z6 z7 hg (by rw [Z2];lia)
 refine ⟨x5,x6,x7,?_⟩
 unfold d6
 rw [fD it]
 exact ex
noncomputable def q9 (st:Vk):Nat->List Tx->(Nat->List Pl)->Nat->List Pl
 | _,[],g=>g
 | n,t :: l,g=>q9 st (n+1) l (kH st t n (List.range (t.length+1)) g)
omit P in
theorem wK (t:Tx) (n:Nat) (es:Vm) (g:Nat->List Pl) {k:Nat} (h:∀ i,(g i).length<=k) (i:Nat):(kH st t n es g i).length<=k+es.length:=by
 unfold kH
 have h1:=h i
 have h2:=List.length_filter_le (fun e=>decide (i∈ch st (t.take e))) es
 rw [Zu,Zv]
 exact Nat.add_le_add h1 h2
theorem pb3 (W:Wk st) (bk:T) (l:List Tx):∀ (n:Nat) (g:Nat->List Pl) (k:Nat) (z3 z4 z5 z6 z7:Vj),(∀ t∈l,t∈st.flatten/\t.length<=120)->(∀ i,(g i).length<=k)->k+121 * l.length < 16777216 →
  ∃ z3' z4' z5' z6' z7',forL (j4 [aY 3,aY 4]) d6 ((l.zipIdx n).map fun p=>T.tup [.int p.2,.str p.1]) (E8 bk st g z3 z4 z5 z6 z7)=some (.nx (E8 bk st (q9 st n l g) z3' z4' z5' z6' z7')):=by
 induction l with
 | nil=>exact fun n g k z3 z4 z5 z6 z7 _ _ _=>⟨z3,z4,z5,z6,z7,rfl⟩
 | cons t l ih =>
  intro n g k z3 z4 z5 z6 z7 ht hg hk
  rw [Zj] at hk
  obtain ⟨h1,h2⟩:=ht t Zw
  obtain ⟨y5,y6,y7,eb⟩:=wa P W bk h1 h2 n g k hg (by lia) z5 z6 z7
  obtain ⟨x3,x4,x5,x6,x7,ex⟩:=ih (n+1) (kH st t n (List.range (t.length+1)) g) (k+121) (iC n) (some (.pu (.str t))) y5 y6 y7 (fun x hx=>ht x (Zx _ hx)) (fun i=>by
   have:=wK (st:=st) t n (List.range (t.length+1)) g hg i
   rw [Z2] at this
   lia) (by lia)
  exact ⟨x3,x4,x5,x6,x7,by rw [Xa,Zt,bH (η1:=E8 bk st g (iC n) (some (.pu (.str t))) z5 z6 z7) rfl eb,ex];rfl⟩
theorem DZ (W:Wk st) (bk:List Tx) (ht:∀ t∈bk,t∈st.flatten/\t.length<=120) (hb:bk.length<=8):bw [.lst (bk.map T.str),bt st]=some (.fr,plT st.length (q9 st 0 bk fun _=>[])):=by
 have sl:=W.len
 obtain ⟨x3,x4,x5,x6,x7,ex⟩:=pb3 P W (.lst (bk.map T.str)) bk 0 (fun _=>[]) 0 none none none none none ht (fun _=>Zp _) (by lia)
 unfold bw
 refine dD rfl (η:=[some (.pu (.lst (bk.map T.str))),some (.pu (bt st)),none,x3,x4,x5,x6,x7]) ?_
 refine (show au _ _ [some (.pu (.lst (bk.map T.str))),some (.pu (bt st)),none,none,none,none,none,none]=_ from ?_)
 have co:dE 1 (aY 0) (eT (ah 1)) none (fC aw) [some (.pu (.lst (bk.map T.str))),some (.pu (bt st)),none,none,none,none,none,none]=some (.fr,plT st.length fun _=>[]):=by
  have:=fQ (k:=1) (tg:=aY 0) (it:=eT (ah 1)) (elt:=fC aw) (η:=[some (.pu (.lst (bk.map T.str))),some (.pu (bt st)),none,none,none,none,none,none]) (m:=.pu) (gw st) (fun _=>T.lst []) st (gq rfl) rfl (by lia) fun s _=>⟨_,rfl,rfl⟩
  rw [this,plT,List.map_const',List.map_const',Z2]
  rfl
 rw [ar (η1:=E8 (.lst (bk.map T.str)) st (fun _=>[]) none none none none none) (by
  rw [ot co rfl (by decide:2 < 8)]
  rfl)]
 have it:iX (ah 0) (E8 (.lst (bk.map T.str)) st (fun _=>[]) none none none none none)=some (.pu,(bk.zipIdx 0).map fun p=>T.tup [.int p.2,.str p.1]):=by
  show some (Md.pu,dC 0 (bk.map T.str))=_
  rw [ui]
 rw [ar (η1:=E8 (.lst (bk.map T.str)) st (q9 st 0 bk fun _=>[]) x3 x4 x5 x6 x7) (by
  rw [jU it rfl]
  exact ex)]
 rfl
end
noncomputable def plX (x:Tx):Nat->List Tx->List Pl
 | _,[]=>[]
 | n,t :: l=>((List.range (t.length+1)).filter fun e=>decide (x <:+ t.take e)).map (fun e=>(n,e))++plX x (n+1) l
theorem pA (x:Tx):∀ (l:List Tx) (n:Nat) (d:Fd),look (iF n l d) x=look d x++plX x n l
 | [],n,d=>by rw [iF,plX,ZD]
 | t :: l,n,d=>by
  rw [iF,pA x l (n+1),nV n t x _ _ (fun e he=>Yf (Z7.mp he)),plX,Zf]
theorem sA (bk:List Tx) (x:Tx):look (found bk) x=plX x 0 bk:=by
 unfold found
 rw [pA,show look [([],[])] x=[] by unfold look;split <;> rfl,Yr]
theorem tF {st:Vk} (P:Pb st) {i:Nat} (hi:i < st.length):∀ (l:List Tx) (n:Nat) (g:Nat->List Pl),(∀ t∈l,t∈st.flatten)->q9 st n l g i=g i++plX (hW st i) n l
 | [],n,g,_=>by rw [q9,plX,ZD]
 | t :: l,n,g,h=>by
  have ht:=h t Zw
  have e:((List.range (t.length+1)).filter fun e=>decide (i∈ch st (t.take e)))=(List.range (t.length+1)).filter fun e=>decide (hW st i <:+ t.take e):=by
   congr 1
   funext e
   exact decide_eq_decide.mpr (P.ch_mem (sJ P ht e) hi)
  rw [q9,tF P hi l (n+1) _ fun x hx=>h x (Zx _ hx),plX]
  show kH st t n (List.range (t.length+1)) g i++_=_
  unfold kH
  rw [e,Zf]
noncomputable abbrev ltN (p q:Pl):Prop:=p.1 < q.1\/(p.1=q.1/\p.2 < q.2)
theorem yr (x:Tx):∀ (l:List Tx) (n:Nat),∀ p∈plX x n l,n<=p.1
 | [],n,p,h=>nomatch h
 | t :: l,n,p,h=>by
  rw [plX] at h
  rcases Zc.mp h with h | h
  ·obtain ⟨e,_,rfl⟩:=Yz.mp h
   exact Zp _
  ·exact Xl (yr x l (n+1) p h)
theorem vi (x:Tx):∀ (l:List Tx) (n:Nat),(plX x n l).Pairwise ltN
 | [],n=>.nil
 | t :: l,n=>by
  rw [plX]
  refine ZJ.mpr ⟨?_,vi x l (n+1),fun a ha b hb=>?_⟩
  ·refine Wb.mpr ((List.pairwise_lt_range.filter _).imp fun h=>?_)
   exact .inr ⟨rfl,h⟩
  ·obtain ⟨e,_,rfl⟩:=Yz.mp ha
   exact .inl (yr x l (n+1) b hb)
theorem Cs (l:List Pl):lR (l.map tP)=some (l.map fun p=>((p.1:Int),(p.2:Int))):=by
 induction l with
 | nil=>rfl
 | cons p l ih =>
  show (lR (l.map tP)).map _=_
  rw [ih]
  rfl
noncomputable def hdT (l:List Pl):T:=match l with | []=>.non | p :: _=>tP p
theorem b_min {m:Md} (l:List Pl) (h:l.Pairwise ltN):qM [(m,.lst (l.map tP))]=some (.fr,hdT l):=by
 show (lR (l.map tP)).bind _=_
 rw [Cs,Zm]
 cases l with
 | nil=>rfl
 | cons p l =>
  refine Zr ?_
  rw [Z9]
  intro q hq
  obtain ⟨r,hr,rfl⟩:=Yz.mp hq
  have:=(Xt.mp h).1 r hr
  unfold vR
  rcases this with z | ⟨z,y⟩
  ·rw [Zq (show ¬ ((r.1:Int)=(p.1:Int)) by lia),ZP (by lia)]
   rfl
  ·rw [Zr (show ((r.1:Int)=(p.1:Int)) by lia),ZP (by lia)]
   rfl
theorem map_getD {β:Type} (f:List Tx->β) (st:Vk):(List.range st.length).map (fun i=>f (st.getD i []))=st.map f:=by
 refine List.ext_getElem (by rw [Zv,Z2,Zv]) fun i a b=>?_
 rw [Zv,Z2] at a
 rw [WR,WR,List.getElem_range,Z4,Zb a]
 rfl
theorem xm {α:Type} (l:List α):(List.range l.length).filterMap (l[·]?)=l:=by
 induction l with
 | nil=>rfl
 | cons a l ih =>
  rw [Zj,List.range_succ_eq_map,Yj,List.filterMap_map]
  show a :: List.filterMap (fun k=>(a :: l)[k+1]?) (List.range l.length)=_
  congr 1
theorem qw {α:Type} {f g:Nat->Option α}:∀ (is:Vm),(∀ k∈is,f k=g k)->is.filterMap f=is.filterMap g
 | [],_=>rfl
 | k :: is,h=>by rw [Yj,Yj,h k Zw,qw is fun x hx=>h x (Zx _ hx)]
theorem AS {α:Type} (l:List α):i8 l none none (some (-1))=l.reverse:=by
 unfold i8 PySem.sliceBounds PySem.sliceRange pick
 simp only [X2,show ¬ ((-1:Int) > 0) by decide,if_false]
 have hc:(if ((l.length:Int) - 1) > -1 then ((l.length:Int) - 1 - -1 - -1 - 1) / (- -1) else 0).toNat=l.length:=by
  by_cases h:((l.length:Int) - 1) > -1
  ·rw [Zr h]
   have:((l.length:Int) - 1 - -1 - -1 - 1) / (- -1)=l.length:=by
    rw [show (- -1:Int)=1 by decide,Int.ediv_one]
    lia
   rw [this,YM]
  ·rw [Zq h]
   lia
 rw [hc,List.filterMap_map]
 have:=xm l.reverse
 rw [List.length_reverse] at this
 refine Eq.trans ?_ this
 refine qw _ fun k hk=>?_
 have hk:=Z7.mp hk
 show l[((l.length:Int) - 1+-1 * (k:Int)).toNat]?=_
 rw [List.getElem?_reverse hk]
 congr 1
 lia
theorem E7 {c a b:Ex} {η:Env} {m:Md} (h:c η=some (m,.bl true)):eIf c a b η=a η:=by
 show (c η).bind _=_
 rw [h]
 rfl
structure Ak (bk:List Tx) (st:Vk):Prop where
 P:Pb st
 W:Wk st
 tx:∀ t∈bk,t∈st.flatten/\t.length<=120
 few:bk.length<=8
noncomputable abbrev pl (bk:List Tx) (s:List Tx):List Pl:=look (found bk) (hdW s)
section
variable {bk:List Tx} {st:Vk} (A:Ak bk st)
include A
theorem Ea:bw [.lst (bk.map T.str),bt st]=some (.fr,.lst (st.map fun s=>T.lst ((pl bk s).map tP))):=by
 rw [DZ A.P A.W bk A.tx A.few,plT,← map_getD (fun s=>T.lst ((pl bk s).map tP)) st]
 congr 3
 refine WC fun i hi=>?_
 rw [tF A.P (Z7.mp hi) bk 0 _ fun t ht=>(A.tx t ht).1,Yr,← sA]
theorem wC:iJ [.lst (bk.map T.str),bt st]=some (.fr,.lst (st.map fun s=>T.int ((pl bk s).length:Nat))):=by
 have sl:=A.W.len
 have c1:=aN (g:=bw) (as:=ag (ah 0) (ag (ah 1) aw)) (η:=[some (.pu (.lst (bk.map T.str))),some (.pu (bt st))]) (xs:=[(.pu,.lst (bk.map T.str)),(.pu,bt st)]) rfl (Ea A)
 unfold iJ
 refine dD rfl (η:=[some (.pu (.lst (bk.map T.str))),some (.pu (bt st))]) ?_
 have e:=fQ (k:=1) (tg:=aY 0) (it:=eT (aM bw (ag (ah 0) (ag (ah 1) aw)))) (elt:=eN d5 (ag (ah 0) aw)) (η:=[some (.pu (.lst (bk.map T.str))),some (.pu (bt st))]) (m:=.fr) (fun s=>T.lst ((pl bk s).map tP)) (fun s=>T.int ((pl bk s).length:Nat)) st (gq c1) rfl (by lia) fun s _=>⟨[some (.pu (.lst ((pl bk s).map tP))),some (.pu (.lst (bk.map T.str))),some (.pu (bt st))],rfl,by
  show some (Md.fr,T.int (((pl bk s).map tP).length:Nat))=_
  rw [Zv]⟩
 refine (show dy _ [some (.pu (.lst (bk.map T.str))),some (.pu (bt st))]=_ from ?_)
 exact ig e
theorem vT:iP [.lst (bk.map T.str),bt st]=some (.fr,.lst (st.map fun s=>hdT (pl bk s))):=by
 have sl:=A.W.len
 have c1:=aN (g:=bw) (as:=ag (ah 0) (ag (ah 1) aw)) (η:=[some (.pu (.lst (bk.map T.str))),some (.pu (bt st))]) (xs:=[(.pu,.lst (bk.map T.str)),(.pu,bt st)]) rfl (Ea A)
 unfold iP
 refine dD rfl (η:=[some (.pu (.lst (bk.map T.str))),some (.pu (bt st))]) ?_
 have e:=fQ (k:=1) (tg:=aY 0) (it:=eT (aM bw (ag (ah 0) (ag (ah 1) aw)))) (elt:=eIf (e2 oGt (eN d5 (ag (ah 0) aw)) (eC (.int 0))) (e2 bh (ah 0) (eC (.int 0))) (eC .non)) (η:=[some (.pu (.lst (bk.map T.str))),some (.pu (bt st))]) (m:=.fr) (fun s=>T.lst ((pl bk s).map tP)) (fun s=>hdT (pl bk s)) st (gq c1) rfl (by lia) fun s _=>⟨[some (.pu (.lst ((pl bk s).map tP))),some (.pu (.lst (bk.map T.str))),some (.pu (bt st))],rfl,by
  cases pl bk s with
  | nil=>rfl
  | cons p l =>
   have c2:e2 oGt (eN d5 (ag (ah 0) aw)) (eC (.int 0)) [some (.pu (.lst ((p :: l).map tP))),some (.pu (.lst (bk.map T.str))),some (.pu (bt st))]=some (.fr,.bl true):=by
    show some (Md.fr,T.bl (decide ((0:Int) < (((p :: l).map tP).length:Nat))))=_
    rw [decide_eq_true (by rw [Zv,Zj];lia)]
   rw [E7 c2,iG (x:=(.pu,.lst ((p :: l).map tP))) (y:=(.fr,.int 0)) rfl rfl]
   show (ixP ((p :: l).map tP).length ((0:Nat):Int)).bind _=_
   rw [ly (by rw [Zv,Zj];exact Nat.succ_pos _)]
   rfl⟩
 refine (show dy _ [some (.pu (.lst (bk.map T.str))),some (.pu (bt st))]=_ from ?_)
 exact ig e
end
theorem uB (l:List Pl):hdT l=.non\/∃ p,hdT l=tP p:=by
 cases l with
 | nil=>exact .inl rfl
 | cons p l=>exact .inr ⟨p,rfl⟩
theorem zu (f d:Vj) (t:T) (h:t=.non\/∃ p,t=tP p):fF [f,d,some (.pu t)]=some (.nx [f,d,some (.pu t)]):=by
 rcases h with rfl | ⟨p,rfl⟩ <;> rfl
theorem AQ (f d:Vj) (ts:Vg):∀ z:Vj,(∀ t∈ts,t=.non\/∃ p,t=tP p)->∃ z',forL (aY 2) fF ts [f,d,z]=some (.nx [f,d,z']):=by
 induction ts with
 | nil=>exact fun z _=>⟨z,rfl⟩
 | cons t ts ih =>
  intro z h
  obtain ⟨z',e⟩:=ih (some (.pu t)) fun x hx=>h x (Zx _ hx)
  exact ⟨z',by rw [bH (η1:=[f,d,some (.pu t)]) rfl (zu f d t (h t Zw)),e]⟩
theorem vc (ts:Vg) (h:∀ t∈ts,t=.non\/∃ p,t=tP p):du [.lst ts,.lst ts]=some (.fr,.bl true):=by
 have d:eqD 60 (.lst ts)=true:=by
  rw [eqD,Z9]
  intro t ht
  rcases h t ht with rfl | ⟨p,rfl⟩ <;> rfl
 obtain ⟨z',e⟩:=AQ (some (.pu (.lst ts))) (some (.pu (.lst ts))) ts none h
 unfold du
 refine dD rfl (η:=[some (.pu (.lst ts)),some (.pu (.lst ts)),z']) ?_
 refine (show au _ _ [some (.pu (.lst ts)),some (.pu (.lst ts)),none]=_ from ?_)
 have c0:ah 0 [some (.pu (.lst ts)),some (.pu (.lst ts)),none]=some (.pu,.lst ts):=rfl
 have ne:e2 oNe (ah 0) (ah 1) [some (.pu (.lst ts)),some (.pu (.lst ts)),none]=some (.fr,.bl false):=by
  rw [iG (x:=(.pu,.lst ts)) (y:=(.pu,.lst ts)) rfl rfl]
  exact lV d
 rw [ar (η1:=[some (.pu (.lst ts)),some (.pu (.lst ts)),none]) (by
  rw [jR (m:=.fr) (by
   simp only [eOr,gy,eIs,c0,Zm,oi,oW,if_true,YD]
   exact ne)]
  rfl)]
 rw [ar (η1:=[some (.pu (.lst ts)),some (.pu (.lst ts)),z']) (by
  rw [jU (m:=.pu) (l:=ts) (gq rfl) rfl]
  exact e)]
 rfl
section
variable {bk:List Tx} {st:Vk} (A:Ak bk st)
noncomputable abbrev kN (bk:List Tx) (st:Vk):T:=.lst ((st.map fun s=>(pl bk s).length).map fun i:Nat=>T.int (i:Int))
noncomputable abbrev lK (bk:List Tx) (st:Vk):T:=.lst (st.map fun s=>hdT (pl bk s))
noncomputable abbrev bkT (bk:List Tx):T:=.lst (bk.map T.str)
noncomputable abbrev hnT (bk:List Tx) (st:Vk):T:=.lst [bkT bk,bt st]
noncomputable abbrev EA (bk:List Tx) (st:Vk) (z6 z7 z8 z9:Vj):Env:=[some (.pu (bkT bk)),some (.pu (.dct 0 (dT (found bk)))),some (.pu (stT st)),some (.pu (bt st)),some (.pu (kN bk st)),some (.pu (lK bk st)),z6,z7,z8,z9]
include A
theorem sy (z6 z7 z8 z9:Vj):∃ y7 y8 y9,fR (EA bk st z6 z7 z8 z9)=some (.nx (EA bk st z6 y7 y8 y9)):=by
 have sl:=A.W.len
 have few:=A.few
 have imb:fN (bk.map T.str)=true:=iY _ (fun _=>rfl) _
 have lb:∀ z6 z7 z8 z9,eN gf (ag (ah 0) aw) (EA bk st z6 z7 z8 z9)=some (.fr,bkT bk):=fun _ _ _ _=>by
  rw [pQ (xs:=[(.pu,bkT bk)]) rfl]
  show mkL .pu (bk.map T.str)=_
  rw [lI (by rw [Zv];lia),imb]
  rfl
 have lt:∀ z6 z7 z8 z9,eN gf (ag (ah 3) aw) (EA bk st z6 z7 z8 z9)=some (.fr,bt st):=fun _ _ _ _=>by
  rw [pQ (xs:=[(.pu,bt st)]) rfl,Dt st (by lia)]
 have i0:∀ z6 z8 z9,e2 bh (ah 7) (eC (.int 0)) (EA bk st z6 (some (.pu (hnT bk st))) z8 z9)=some (.pu,bkT bk):=fun _ _ _=>rfl
 have i1:∀ z6 z8 z9,e2 bh (ah 7) (eC (.int 1)) (EA bk st z6 (some (.pu (hnT bk st))) z8 z9)=some (.pu,bt st):=fun _ _ _=>rfl
 have cc:=wC A
 have cf:=vT A
 have e1:(st.map fun s=>T.int ((pl bk s).length:Nat))=(st.map fun s=>(pl bk s).length).map fun i:Nat=>T.int (i:Int):=by rw [YV];rfl
 rw [e1] at cc
 have ls:=B6 (st.map fun s=>(pl bk s).length) (by rw [Zv];lia)
 have lf:=vc (st.map fun s=>hdT (pl bk s)) fun t ht=>by
  obtain ⟨s,_,rfl⟩:=Yz.mp ht
  exact uB _
 refine ⟨some (.pu (hnT bk st)),some (.pu (.lst ((st.map fun s=>(pl bk s).length).map (fun i:Nat=>T.int (i:Int))++[.int 0]))),some (.ow (.lst ((st.map fun s=>hdT (pl bk s))++[.non]))),?_⟩
 unfold fR
 rw [ar (η1:=EA bk st z6 (some (.pu (hnT bk st))) z8 z9) (by
  rw [aJ (m:=.fr) (t:=hnT bk st) (by
   show (ag (eN gf (ag (ah 0) aw)) (ag (eN gf (ag (ah 3) aw)) aw) _).bind _=_
   rw [g0 (lb z6 z7 z8 z9) (g0 (lt z6 z7 z8 z9) rfl)]
   rfl) (by decide) (by decide:7 < 10)]
  rfl)]
 rw [ar (η1:=EA bk st z6 (some (.pu (hnT bk st))) (some (.ow (kN bk st))) z9) (by
  rw [ot (aN (xs:=[(.pu,bkT bk),(.pu,bt st)]) (g0 (i0 z6 z8 z9) (g0 (i1 z6 z8 z9) rfl)) cc) rfl (by decide:8 < 10)]
  rfl)]
 rw [ar (η1:=EA bk st z6 (some (.pu (hnT bk st))) (some (.ow (kN bk st))) (some (.ow (lK bk st)))) (by
  rw [ot (aN (xs:=[(.pu,bkT bk),(.pu,bt st)]) (g0 (i0 z6 _ z9) (g0 (i1 z6 _ z9) rfl)) cf) rfl (by decide:9 < 10)]
  rfl)]
 have c1:aM eQ (ag (ah 8) (ag (ah 4) aw)) (EA bk st z6 (some (.pu (hnT bk st))) (some (.ow (kN bk st))) (some (.ow (lK bk st))))=some (.fr,.bl true):=aN (xs:=[(.bo,kN bk st),(.pu,kN bk st)]) rfl ls
 have c2:aM du (ag (ah 9) (ag (ah 5) aw)) (EA bk st z6 (some (.pu (hnT bk st))) (some (.ow (kN bk st))) (some (.ow (lK bk st))))=some (.fr,.bl true):=aN (xs:=[(.bo,lK bk st),(.pu,lK bk st)]) rfl lf
 rw [ar (η1:=EA bk st z6 (some (.pu (hnT bk st))) (some (.ow (kN bk st))) (some (.ow (lK bk st)))) (by
  rw [jR (m:=.fr) (by simp only [eOr,gy,c1,c2,Zm,YD])]
  rfl)]
 have dh:eqD 60 (hnT bk st)=true:=by
  have d1:eqD 59 (bkT bk)=true:=by
   rw [eqD,Z9]
   intro t ht
   obtain ⟨x,_,rfl⟩:=Yz.mp ht
   rfl
  have d2:eqD 59 (bt st)=true:=by
   unfold bt
   rw [eqD,Z9]
   intro t ht
   obtain ⟨x,_,rfl⟩:=Yz.mp ht
   exact zZ st x 55
  rw [eqD]
  simp only [X6,List.all_nil,d1,d2,Bool.and_self]
 rw [ar (η1:=EA bk st z6 (some (.pu (hnT bk st))) (some (.ow (kN bk st))) (some (.ow (lK bk st)))) (by
  rw [jR (m:=.fr) (by
   rw [iG (x:=(.pu,hnT bk st)) (y:=(.pu,hnT bk st)) rfl rfl]
   exact lV dh)]
  rfl)]
 rw [ar (η1:=EA bk st z6 (some (.pu (hnT bk st))) (some (.ow (.lst ((st.map fun s=>(pl bk s).length).map (fun i:Nat=>T.int (i:Int))++[.int 0])))) (some (.ow (lK bk st)))) (by
  rw [iq (l:=(st.map fun s=>(pl bk s).length).map fun i:Nat=>T.int (i:Int)) (t:=.int 0) rfl rfl (by rw [Zv,Zv];lia)]
  rfl)]
 rw [ar (η1:=EA bk st z6 (some (.pu (hnT bk st))) (some (.pu (.lst ((st.map fun s=>(pl bk s).length).map (fun i:Nat=>T.int (i:Int))++[.int 0])))) (some (.ow (lK bk st)))) rfl]
 rw [iq (l:=st.map fun s=>hdT (pl bk s)) (t:=.non) rfl rfl (by rw [Zv];lia)]
 rfl
end
theorem Cm (bk:List Tx) (st:Vk) (A:Ak bk st) (kh:∀ s∈st,hdW s∈aV (found bk))
  (hp:cZ [bkT bk]=some (.fr,.dct 0 (dT (found bk)))) (hsd:dk [.dct 0 (dT (found bk))]=some (.fr,stT st))
  (hn:bY [stT st]=some (.fr,.dct 0 (nT (nums 0 st)))) (ht:d4 [stT st,.dct 0 (nT (nums 0 st))]=some (.fr,bt st)):bD [bkT bk]=some (.fr,.bl true):=by
 have sl:=A.W.len
 have ix:∀ s∈st,∀ r:Env,e2 oIx (ah 2) (e2 bh (ah 0) (eC (.int 0))) (some (.pu (.lst (s.map T.str))) :: some (.pu (bkT bk)) :: some (.pu (.dct 0 (dT (found bk)))) :: r)=some (.pu,.lst ((pl bk s).map tP)):=fun s hs r=>by
  have h0:e2 bh (ah 0) (eC (.int 0)) (some (.pu (.lst (s.map T.str))) :: some (.pu (bkT bk)) :: some (.pu (.dct 0 (dT (found bk)))) :: r)=some (.fr,.str (hdW s)):=by
   rw [iG (x:=(.pu,.lst (s.map T.str))) (y:=(.fr,.int 0)) rfl rfl,ql (A.W.ne s hs)]
  rw [iG (x:=(.pu,.dct 0 (dT (found bk)))) rfl h0]
  show (if gP (T.str (hdW s))=true then (bS (dT (found bk)) (T.str (hdW s))).map (sub .pu) else none)=_
  rw [Zr (show gP (T.str (hdW s))=true from rfl),pK _ _ (kh s hs)]
  rfl
 obtain ⟨a7,a8,a9,b1⟩:=sy A (iC 0) none none none
 obtain ⟨b7,b8,b9,b2⟩:=sy A (iC 1) a7 a8 a9
 unfold bD
 refine dD rfl (η:=EA bk st (iC 1) b7 b8 b9) ?_
 refine (show au _ _ [some (.pu (bkT bk)),none,none,none,none,none,none,none,none,none]=_ from ?_)
 rw [ar (η1:=[some (.pu (bkT bk)),some (.pu (.dct 0 (dT (found bk)))),none,none,none,none,none,none,none,none]) (by
  rw [aJ (aN (xs:=[(.pu,bkT bk)]) rfl hp) (by decide) (by decide:1 < 10)];rfl)]
 rw [ar (η1:=[some (.pu (bkT bk)),some (.pu (.dct 0 (dT (found bk)))),some (.pu (stT st)),none,none,none,none,none,none,none]) (by
  rw [aJ (aN (xs:=[(.pu,.dct 0 (dT (found bk)))]) rfl hsd) (by decide) (by decide:2 < 10)];rfl)]
 rw [ar (η1:=[some (.pu (bkT bk)),some (.pu (.dct 0 (dT (found bk)))),some (.pu (stT st)),some (.pu (bt st)),none,none,none,none,none,none]) (by
  have h1:ah 2 [some (.pu (bkT bk)),some (.pu (.dct 0 (dT (found bk)))),some (.pu (stT st)),none,none,none,none,none,none,none]=some (.pu,stT st):=rfl
  have h2:=aN (g:=bY) (as:=ag (ah 2) aw) (g0 h1 rfl) hn
  rw [aJ (aN (xs:=[(.pu,stT st),(.fr,.dct 0 (nT (nums 0 st)))]) (g0 h1 (g0 h2 rfl)) ht) (by decide) (by decide:3 < 10)];rfl)]
 rw [ar (η1:=[some (.pu (bkT bk)),some (.pu (.dct 0 (dT (found bk)))),some (.pu (stT st)),some (.pu (bt st)),some (.pu (kN bk st)),none,none,none,none,none]) (by
  rw [aJ (m:=.fr) (t:=kN bk st) (by
   rw [kN,YV]
   exact fQ (m:=.pu) (fun s:List Tx=>T.lst (s.map T.str)) (fun s=>T.int ((pl bk s).length:Nat)) st (gq rfl) rfl (by lia) fun s hs=>⟨some (.pu (.lst (s.map T.str))) :: [some (.pu (bkT bk)),some (.pu (.dct 0 (dT (found bk)))),some (.pu (stT st)),some (.pu (bt st)),none,none,none,none,none,none],rfl,by
    rw [pQ (g0 (ix s hs _) rfl)]
    show some (Md.fr,T.int (((pl bk s).map tP).length:Nat))=_
    rw [Zv]⟩) (by decide) (by decide:4 < 10)];rfl)]
 rw [ar (η1:=EA bk st none none none none) (by
  rw [aJ (m:=.fr) (t:=lK bk st) (by
   exact fQ (m:=.pu) (fun s:List Tx=>T.lst (s.map T.str)) (fun s=>hdT (pl bk s)) st (gq rfl) rfl (by lia) fun s hs=>⟨some (.pu (.lst (s.map T.str))) :: [some (.pu (bkT bk)),some (.pu (.dct 0 (dT (found bk)))),some (.pu (stT st)),some (.pu (bt st)),some (.pu (kN bk st)),none,none,none,none,none],rfl,by
    rw [pQ (g0 (ix s hs _) rfl),b_min _ (show (look (found bk) (hdW s)).Pairwise ltN by rw [sA];exact vi _ _ _)]⟩) (by decide) (by decide:5 < 10)];rfl)]
 rw [ar (η1:=EA bk st (iC 1) b7 b8 b9) (by
  rw [fD (l:=[T.int 0,T.int 1]) rfl]
  rw [bH (η1:=EA bk st (iC 0) none none none) rfl b1,bH (η1:=EA bk st (iC 1) a7 a8 a9) rfl b2]
  rfl)]
 rfl
theorem oI (bk:List Tx) (B:Bk 120 bk) (hbl:bk.length<=8):bD [bkT bk]=some (.fr,.bl true):=by
 obtain ⟨hp,hz⟩:=vM bk B hbl
 obtain ⟨r,hd⟩:=yw bk
 have haz:=vL bk B
 have hsd:=xr (found bk) hz haz
 have kn:[]∈aV (found bk):=by rw [hd];exact Zw
 have S0:=Dq (found bk) kn
 have nd:=xt bk
 have tl:=r9 bk
 have nf:(fA (found bk)).flatten.Nodup:=S0.pm.nodup_iff.mpr nd
 have fl:(fA (found bk)).flatten.length<=117129:=by rw [S0.pm.length_eq,aV,Zv];exact hz.1
 have sl:=Er _ S0.ne
 have ksf:=fun {x:Tx}=>S0.pm.mem_iff (a:=x)
 have hm:∀ s∈fA (found bk),hdW s∈(fA (found bk)).flatten:=fun s hs=>WS.mpr ⟨s,hs,j7 (S0.ne s hs)⟩
 have dr:∀ x∈(fA (found bk)).flatten,x.drop 1∈(fA (found bk)).flatten:=fun x hx=>ksf.mpr (tl x (ksf.mp hx))
 have ht:=Af (fA (found bk)) (fun s hs=>⟨S0.ne s hs,(haz _ (ksf.mp (hm s hs))).2,fun _=>dr _ (hm s hs)⟩) (by lia)
 have W:Wk (fA (found bk)):=by
  refine ⟨S0.ne,by exact ZV sl fl,?_,ksf.mpr kn,fun x hx=>(haz x (ksf.mp hx)).1,fun u hu c=>?_⟩
  ·obtain ⟨a,b,hst⟩:=S0.hd
   rw [hst]
   simp [num]
  ·have hi:=hZ _ _ hu
   have hin:=getD_mem (fA (found bk)) _ hi
   have lu:=((oE hin (S0.ne _ hin) u).mp (ox _ _ hu)).2
   have lx:=yh c lu
   have kx:=AB (x:=u++[c]) (by simp) (by simp) lx
   refine ⟨ksf.trans (kx.symm.trans ksf.symm),fun h=>?_⟩
   have h':=ksf.mp h
   exact vn S0.ne (kx.mp h') h' lx.symm
 have L:Lk (fA (found bk)):=by
  refine ⟨S0.ne,by lia,fun i hi=>dr _ (hm _ (getD_mem _ i hi)),fun i hi h=>?_,fun i hi=>(haz _ (ksf.mp (hm _ (getD_mem _ i hi)))).2⟩
  have hx:=dr _ (hm _ (getD_mem _ i hi))
  have h1:=ox _ _ hx
  have h2:=j1 (found bk) _ (getD_mem _ _ (hZ _ _ hx)) _ h1
  have h3:0 < (hdW ((fA (found bk)).getD i [])).length:=WB.mpr h
  rw [ZK] at h2
  unfold lk
  omega
 have P:Pb (fA (found bk)):=⟨L,nf,fun s hs=>v5 bk s hs (S0.ne s hs) (wM nf hs),fun s hs=>j1 (found bk) s hs _ (tm (S0.ne s hs)),fun x c h=>ksf.mpr (Be (ksf.mp h))⟩
 refine Cm bk (fA (found bk)) ⟨P,W,fun t ht=>?_,hbl⟩ (fun s hs=>ksf.mp (hm s hs)) hp hsd (t7 _ nf (by lia)) ht
 have k:t∈aV (found bk):=by
  unfold found
  refine (jY t bk 0 _).mpr (.inr ⟨t,ht,t.length,Z7.mpr (WT _),0,Z7.mpr (Nat.succ_pos _),?_⟩)
  rw [Xe,Nat.sub_zero,List.take_length]
 exact ⟨ksf.mpr k,(haz t k).2⟩
theorem yd (ns:Vl):o8 [.scr ns]=some (.fr,.bl true):=by
 obtain ⟨bk,hb,B,hbl⟩:=Cb ns
 have a1:=oI bk B hbl
 have a2:=oI bk.reverse ⟨by
  have:bk.reverse.flatten.length=bk.flatten.length:=((List.reverse_perm bk).flatten).length_eq
  rw [this]
  exact B.n,fun t ht=>B.az t (YA.mp ht)⟩ (by rw [List.length_reverse];exact hbl)
 have a3:=oI [] ⟨ZS _,fun t ht=>nomatch ht⟩ (ZS _)
 unfold o8
 refine dD rfl (η:=[some (.pu (.scr ns)),some (.pu (bkT bk))]) ?_
 refine (show au _ _ [some (.pu (.scr ns)),none]=_ from ?_)
 rw [ar (η1:=[some (.pu (.scr ns)),some (.pu (bkT bk))]) (by
  rw [aJ (aN (xs:=[(.fr,.scr ns),(.fr,.int 60)]) rfl hb) (by decide) (by decide:1 < 2)];rfl)]
 have c1:=aN (g:=bD) (as:=ag (ah 1) aw) (η:=[some (.pu (.scr ns)),some (.pu (bkT bk))]) (xs:=[(.pu,bkT bk)]) rfl a1
 have sl:t4 (ah 1) none none (some (eC (.int (-1)))) [some (.pu (.scr ns)),some (.pu (bkT bk))]=some (.fr,bkT bk.reverse):=by
  show sl3 (.pu,bkT bk) none none (some (-1))=_
  refine (Zr (⟨?_,by decide⟩:(bk.map T.str).all sca/\(some (-1):Option Int) ≠ some 0)).trans ?_
  ·rw [List.all_map,Z9]
   exact fun _ _=>rfl
  ·rw [qE,AS]
 have c2:=aN (g:=bD) (as:=ag (t4 (ah 1) none none (some (eC (.int (-1))))) aw) (xs:=[(.fr,bkT bk.reverse)]) (g0 sl rfl) a2
 have c3:=aN (g:=bD) (as:=ag (fC aw) aw) (η:=[some (.pu (.scr ns)),some (.pu (bkT bk))]) (xs:=[(.fr,.lst [])]) rfl a3
 simp only [dy,iw,c1,c2,c3,Zm]
end T22
end
section
namespace T22
open PySem PySem.Spec PyProof.Rows L2 VS
noncomputable def top (i:Nat):Stmt:=PySem.Challenge.pw_allparts_k22_counts_and_firsts.main.body.getD i (.Pass ⟨0,0,0,0⟩)
structure Blt (mg:Xv):Prop where
 b_bool:mg "bool" = none
 b_dict:mg "dict" = none
 b_enumerate:mg "enumerate" = none
 b_int:mg "int" = none
 b_isinstance:mg "isinstance" = none
 b_len:mg "len" = none
 b_list:mg "list" = none
 b_min:mg "min" = none
 b_range:mg "range" = none
 b_sorted:mg "sorted" = none
 b_tuple:mg "tuple" = none
section
variable {P:Program} {w:World} {K:Y1} {mg:Xv} {base:Heap}
noncomputable abbrev eV:Stmt:=top 4
theorem pX:FnScope ["thing"] ["thing"] (aq eV):=⟨rfl,rfl,rfl,by decide +kernel,rfl,by decide +kernel,by decide +kernel⟩
theorem gg {f:Addr} {fd:FuncData} (F:Fun K "is_whole" "is_whole" eV f fd) (hm:mg "is_whole" = some (.ref f)) (B:Blt mg) :
  FnAt P w K mg base 1 "is_whole" ["thing"] (gx0 K) g9:=cV F hm pX rfl rfl (fun _ _ _ _ _ _ us hl=>by obtain ⟨_,rfl⟩:=L2.mF hl;rfl) fun cdv A outer s H E hr =>
  (ao (aP (jX (i5 .int B.b_isinstance B.b_int (aa 0 rfl (Or.inl rfl) rfl rfl) rfl rfl rfl rfl) (mS (qD (i5 .bool B.b_isinstance B.b_bool (aa 0 rfl (Or.inl rfl) rfl rfl) rfl rfl rfl rfl))))))
noncomputable abbrev ku:Stmt:=top 6
theorem lr:FnScope ["table", "word", "stands", "sign", "ways"] ["table", "word"] (aq ku):=⟨rfl,rfl,rfl,by decide +kernel,rfl,by decide +kernel,by decide +kernel⟩
theorem mN {f:Addr} {fd:FuncData} (F:Fun K "walk" "walk" ku f fd) (hm:mg "walk" = some (.ref f)) (B:Blt mg) :
  FnAt P w K mg base 1 "walk" ["table", "word"] (gx0 K) jD:=cV F hm lr rfl rfl (fun _ _ _ _ _ _ us hl=>by obtain ⟨_,_,rfl⟩:=L2.kM hl;rfl) fun cdv A outer s H E hr =>
  (ak (b5 (bO (ab ae af rfl)) lr.nd rfl (Or.inl rfl) rfl (Or.inl rfl))
  (ak (bj Yy rfl (bG (aa 1 rfl (Or.inl rfl) rfl rfl) rfl) (aC 3 lr.nd rfl (Or.inl rfl) (Or.inl rfl))
  (ak (av (uu B.b_dict (ab (aT (aT (aa 0 rfl (Or.inl rfl) rfl rfl) (aT (aa 2 rfl (Or.inl rfl) rfl rfl) n9 (fun _ _=>rfl) rfl) (fun _ _=>rfl) rfl) ae (fun _ _=>rfl) rfl) af rfl) rfl rfl rfl) lr.nd rfl (Or.inl rfl) rfl (Or.inl rfl))
  (ak (bE (vU hr (aa 3 rfl (Or.inl rfl) rfl rfl) (aa 4 rfl (Or.inl rfl) rfl rfl) (by with_unfolding_all rfl) rfl) (ao (cY 2 rfl (Or.inl rfl) rfl rfl)) bu)
  (ao (cF 2 (ab (ki hr (aa 4 rfl (Or.inl rfl) rfl rfl) (aa 3 rfl (Or.inl rfl) rfl rfl) (fun _ _=>rfl) rfl) af rfl) rfl rfl (Or.inl rfl) rfl rfl rfl rfl rfl)))) (fun _=>rfl))
  (ao (cY 2 rfl (Or.inl rfl) rfl rfl))))
noncomputable abbrev bI:Stmt:=top 7
theorem jC:FnScope ["table", "stand"] ["table", "stand"] (aq bI):=⟨rfl,rfl,rfl,by decide +kernel,rfl,by decide +kernel,by decide +kernel⟩
theorem bW {f:Addr} {fd:FuncData} (F:Fun K "refuse_no_stand" "refuse_no_stand" bI f fd) (hm:mg "refuse_no_stand" = some (.ref f)) (B:Blt mg) (gg:FnAt P w K mg base 1 "is_whole" ["thing"] (gx0 K) g9) :
  FnAt P w K mg base 2 "refuse_no_stand" ["table", "stand"] (gx0 K) bV:=cV F hm jC rfl rfl (fun _ _ _ _ _ _ us hl=>by obtain ⟨_,_,rfl⟩:=L2.kM hl;rfl) fun cdv A outer s H E hr =>
  (ao (bE (dv (ka (eU (dU (aE gg hr (ab (aa 1 rfl (Or.inl rfl) rfl rfl) af rfl) (by decide) rfl rfl rfl rfl) rfl (fun _=>rfl))) (ji (eU (kI ae (aa 1 rfl (Or.inl rfl) rfl rfl) (bU B.b_len (ab (aa 0 rfl (Or.inl rfl) rfl rfl) af rfl) rfl rfl rfl) (by with_unfolding_all rfl)))))) (ao vh) bu))
noncomputable abbrev i9:Stmt:=top 9
theorem mO:FnScope ["table", "stand", "met"] ["table", "stand"] (aq i9):=⟨rfl,rfl,rfl,by decide +kernel,rfl,by decide +kernel,by decide +kernel⟩
theorem j8 {f:Addr} {fd:FuncData} (F:Fun K "chain" "chain" i9 f fd) (hm:mg "chain" = some (.ref f)) (B:Blt mg) (bW:FnAt P w K mg base 2 "refuse_no_stand" ["table", "stand"] (gx0 K) bV) :
  FnAt P w K mg base 3 "chain" ["table", "stand"] (gx0 K) ja:=cV F hm mO rfl rfl (fun _ _ _ _ _ _ us hl=>by obtain ⟨_,_,rfl⟩:=L2.kM hl;rfl) fun cdv A outer s H E hr =>
  (ak (v8 (aE bW hr (ab (aa 0 rfl (Or.inl rfl) rfl rfl) (ab (aa 1 rfl (Or.inl rfl) rfl rfl) af rfl) rfl) (by decide) rfl rfl rfl rfl) rfl)
  (ak (b5 (bO af) mO.nd rfl (Or.inl rfl) rfl (Or.inl rfl))
  (ak (pL Yy (km (aa 1 rfl (Or.inl rfl) rfl rfl))
  (ak (cF 2 (ab (aa 1 rfl (Or.inl rfl) rfl rfl) af rfl) rfl rfl (Or.inl rfl) rfl rfl rfl rfl rfl)
  (ao (av (aT (aT (aa 0 rfl (Or.inl rfl) rfl rfl) (aa 1 rfl (Or.inl rfl) rfl rfl) (fun _ _=>rfl) rfl) ae (fun _ _=>rfl) rfl) mO.nd rfl (Or.inl rfl) rfl (Or.inl rfl)))))
  (ao (cY 2 rfl (Or.inl rfl) rfl rfl)))))
noncomputable abbrev dS:Stmt:=top 10
theorem cE:FnScope ["book", "table", "found", "number", "text", "end", "head", "stand"] ["book", "table"] (aq dS):=⟨rfl,rfl,rfl,by decide +kernel,rfl,by decide +kernel,by decide +kernel⟩
theorem cw {f:Addr} {fd:FuncData} (F:Fun K "places_by" "places_by" dS f fd) (hm:mg "places_by" = some (.ref f)) (B:Blt mg) (j8:FnAt P w K mg base 3 "chain" ["table", "stand"] (gx0 K) ja) (mN:FnAt P w K mg base 1 "walk" ["table", "word"] (gx0 K) jD) :
  FnAt P w K mg base 4 "places_by" ["book", "table"] (gx0 K) bw:=cV F hm cE rfl rfl (fun _ _ _ _ _ _ us hl=>by obtain ⟨_,_,rfl⟩:=L2.kM hl;rfl) fun cdv A outer s H E hr =>
  (ak (jI 1 ["row", "book", "table", "found", "number", "text", "end", "head", "stand"] (fun _ _ _ h=>B8 h) rfl (bG (aa 1 rfl (Or.inl rfl) rfl rfl) rfl) (gL (by decide)) (fun _ _ _ _ _=>(aC 0 (show List.Nodup (["row", "book", "table", "found", "number", "text", "end", "head", "stand"]:List Str) from by decide +kernel) rfl (Or.inl rfl) (Or.inr rfl))) (fun _ _ _ _ _=>(bO af)) cE.nd rfl (Or.inl rfl) rfl rfl (by decide) rfl (Or.inl rfl) (fun _=>rfl))
  (ak (bj Yy rfl (ik (aa 0 rfl (Or.inl rfl) rfl rfl) rfl B.b_enumerate rfl rfl) (jm rfl (cx (aC 3 cE.nd rfl (Or.inl rfl) (Or.inl rfl)) (cx (aC 4 cE.nd rfl (Or.inl rfl) (Or.inl rfl)) ic rfl) rfl) rfl rfl rfl)
  (ao (bj Yy rfl (ik (aE mN hr (ab (aa 1 rfl (Or.inl rfl) rfl rfl) (ab (aa 4 rfl (Or.inl rfl) rfl rfl) af rfl) rfl) (by decide) rfl rfl rfl rfl) rfl B.b_enumerate rfl rfl) (jm rfl (cx (aC 5 cE.nd rfl (Or.inl rfl) (Or.inl rfl)) (cx (aC 6 cE.nd rfl (Or.inl rfl) (Or.inl rfl)) ic rfl) rfl) rfl rfl rfl)
  (ao (bj Yy rfl (bG (aE j8 hr (ab (aa 1 rfl (Or.inl rfl) rfl rfl) (ab (aa 6 rfl (Or.inl rfl) rfl rfl) af rfl) rfl) (by decide) rfl rfl rfl rfl) rfl) (aC 7 cE.nd rfl (Or.inl rfl) (Or.inl rfl))
  (ao (xf 2 rfl (Or.inl rfl) rfl rfl (aa 7 rfl (Or.inl rfl) rfl rfl) (fun _ _=>rfl) (ab (iS (ab (aa 3 rfl (Or.inl rfl) rfl rfl) (ab (aa 5 rfl (Or.inl rfl) rfl rfl) af rfl) rfl)) af rfl) rfl rfl rfl rfl rfl rfl rfl)) (fun _=>rfl))) (fun _=>rfl))) (fun _=>rfl))
  (ao (cY 2 rfl (Or.inl rfl) rfl rfl))))
noncomputable abbrev gU:Stmt:=top 11
theorem t9:FnScope ["book", "table"] ["book", "table"] (aq gU):=⟨rfl,rfl,rfl,by decide +kernel,rfl,by decide +kernel,by decide +kernel⟩
theorem iO {f:Addr} {fd:FuncData} (F:Fun K "counts" "counts" gU f fd) (hm:mg "counts" = some (.ref f)) (B:Blt mg) (cw:FnAt P w K mg base 4 "places_by" ["book", "table"] (gx0 K) bw) :
  FnAt P w K mg base 5 "counts" ["book", "table"] (gx0 K) iJ:=cV F hm t9 rfl rfl (fun _ _ _ _ _ _ us hl=>by obtain ⟨_,_,rfl⟩:=L2.kM hl;rfl) fun cdv A outer s H E hr =>
  (ao (aP (kE 1 ["places", "book", "table"] rfl (bG (aE cw hr (ab (aa 0 rfl (Or.inl rfl) rfl rfl) (ab (aa 1 rfl (Or.inl rfl) rfl rfl) af rfl) rfl) (by decide) rfl rfl rfl rfl) rfl) (gL (by decide)) (fun _ _ _ _ _=>(aC 0 (show List.Nodup (["places", "book", "table"]:List Str) from by decide +kernel) rfl (Or.inl rfl) (Or.inr rfl))) (fun _ _ _ _ _=>(bU B.b_len (ab (aa 0 rfl (Or.inl rfl) rfl rfl) af rfl) rfl rfl rfl)) rfl rfl (by decide) (fun _=>rfl))))
noncomputable abbrev gR:Stmt:=top 12
theorem ua:FnScope ["book", "table"] ["book", "table"] (aq gR):=⟨rfl,rfl,rfl,by decide +kernel,rfl,by decide +kernel,by decide +kernel⟩
theorem iW {f:Addr} {fd:FuncData} (F:Fun K "firsts" "firsts" gR f fd) (hm:mg "firsts" = some (.ref f)) (B:Blt mg) (cw:FnAt P w K mg base 4 "places_by" ["book", "table"] (gx0 K) bw) :
  FnAt P w K mg base 5 "firsts" ["book", "table"] (gx0 K) iP:=cV F hm ua rfl rfl (fun _ _ _ _ _ _ us hl=>by obtain ⟨_,_,rfl⟩:=L2.kM hl;rfl) fun cdv A outer s H E hr =>
  (ao (aP (kE 1 ["places", "book", "table"] rfl (bG (aE cw hr (ab (aa 0 rfl (Or.inl rfl) rfl rfl) (ab (aa 1 rfl (Or.inl rfl) rfl rfl) af rfl) rfl) (by decide) rfl rfl rfl rfl) rfl) (gL (by decide)) (fun _ _ _ _ _=>(aC 0 (show List.Nodup (["places", "book", "table"]:List Str) from by decide +kernel) rfl (Or.inl rfl) (Or.inr rfl))) (fun _ _ _ _ _=>(Ax (je (bU B.b_len (ab (aa 0 rfl (Or.inl rfl) rfl rfl) af rfl) rfl rfl rfl) ae) (aT (aa 0 rfl (Or.inl rfl) rfl rfl) ae (fun _ _=>rfl) rfl) mM)) rfl rfl (by decide) (fun _=>rfl))))
noncomputable abbrev eI:Stmt:=top 14
theorem pB:FnScope ["_law_script", "_law_k"] ["_law_script", "_law_k"] (aq eI):=⟨rfl,rfl,rfl,by decide +kernel,rfl,by decide +kernel,by decide +kernel⟩
theorem eW {f:Addr} {fd:FuncData} (F:Fun K "_law_cell" "_law_cell" eI f fd) (hm:mg "_law_cell" = some (.ref f)) (B:Blt mg) :
  FnAt P w K mg base 1 "_law_cell" ["_law_script", "_law_k"] (gx0 K) eJ:=cV F hm pB rfl rfl (fun _ _ _ _ _ _ us hl=>by obtain ⟨_,_,rfl⟩:=L2.kM hl;rfl) fun cdv A outer s H E hr =>
  (ak (bE (AX (aa 1 rfl (Or.inl rfl) rfl rfl) (bU B.b_len (ab (aa 0 rfl (Or.inl rfl) rfl rfl) af rfl) rfl rfl rfl)) (ao (aP (aT (aa 0 rfl (Or.inl rfl) rfl rfl) (aa 1 rfl (Or.inl rfl) rfl rfl) (fun _ _=>rfl) rfl))) bu)
  (ao (aP ae)))
noncomputable abbrev d3:Stmt:=top 15
theorem dc:FnScope ["_law_script", "_law_k", "_law_cell_here", "_law_number"] ["_law_script", "_law_k"] (aq d3):=⟨rfl,rfl,rfl,by decide +kernel,rfl,by decide +kernel,by decide +kernel⟩
theorem aL {f:Addr} {fd:FuncData} (F:Fun K "_law_mixed" "_law_mixed" d3 f fd) (hm:mg "_law_mixed" = some (.ref f)) (B:Blt mg) :
  FnAt P w K mg base 1 "_law_mixed" ["_law_script", "_law_k"] (gx0 K) aA:=cV F hm dc rfl rfl (fun _ _ _ _ _ _ us hl=>by obtain ⟨_,_,rfl⟩:=L2.kM hl;rfl) fun cdv A outer s H E hr =>
  (ak (av ae dc.nd rfl (Or.inl rfl) rfl (Or.inl rfl))
  (ak (bE (je (bU B.b_len (ab (aa 0 rfl (Or.inl rfl) rfl rfl) af rfl) rfl rfl rfl) ae) (ao (av (aT (aa 0 rfl (Or.inl rfl) rfl rfl) (bg (aa 1 rfl (Or.inl rfl) rfl rfl) (bU B.b_len (ab (aa 0 rfl (Or.inl rfl) rfl rfl) af rfl) rfl rfl rfl)) (fun _ _=>rfl) rfl) dc.nd rfl (Or.inl rfl) rfl (Or.inl rfl))) bu)
  (ak (av (bg (ff (bz (bz (bg (aa 2 rfl (Or.inl rfl) rfl rfl) ae) (ff ae (aa 1 rfl (Or.inl rfl) rfl rfl))) ae) ae) ae) dc.nd rfl (Or.inl rfl) rfl (Or.inl rfl))
  (ak (av (bg (ff (aa 3 rfl (Or.inl rfl) rfl rfl) (aa 3 rfl (Or.inl rfl) rfl rfl)) ae) dc.nd rfl (Or.inl rfl) rfl (Or.inl rfl))
  (ak (av (bg (ff (bz (aa 3 rfl (Or.inl rfl) rfl rfl) (aa 1 rfl (Or.inl rfl) rfl rfl)) ae) ae) dc.nd rfl (Or.inl rfl) rfl (Or.inl rfl))
  (ao (aP (ef (bg (ff (aa 3 rfl (Or.inl rfl) rfl rfl) (aa 3 rfl (Or.inl rfl) rfl rfl)) ae) ae))))))))
noncomputable abbrev dY:Stmt:=top 16
theorem hU:FnScope ["_law_cell_here", "_law_start", "_law_step"] ["_law_cell_here"] (aq dY):=⟨rfl,rfl,rfl,by decide +kernel,rfl,by decide +kernel,by decide +kernel⟩
theorem bF {f:Addr} {fd:FuncData} (F:Fun K "_law_signs" "_law_signs" dY f fd) (hm:mg "_law_signs" = some (.ref f)) (B:Blt mg) :
  FnAt P w K mg base 1 "_law_signs" ["_law_cell_here"] (gx0 K) bL:=cV F hm hU rfl rfl (fun _ _ _ _ _ _ us hl=>by obtain ⟨_,rfl⟩:=L2.mF hl;rfl) fun cdv A outer s H E hr =>
  (ak (av (bg (aa 0 rfl (Or.inl rfl) rfl rfl) ae) hU.nd rfl (Or.inr rfl) rfl (Or.inl rfl))
  (ak (av (aT (bO (ab ae (ab ae (ab ae (ab ae (ab ae af rfl) rfl) rfl) rfl) rfl)) (bg (ef (aa 0 rfl (Or.inl rfl) rfl rfl) ae) ae) (fun _ _=>rfl) rfl) hU.nd rfl (Or.inr rfl) rfl (Or.inl rfl))
  (ao (aP (kE 1 ["_law_k", "_law_cell_here", "_law_start", "_law_step"] rfl (bT ae rfl B.b_range rfl rfl) (gL (by decide)) (fun _ _ _ _ _=>(aC 0 (show List.Nodup (["_law_k", "_law_cell_here", "_law_start", "_law_step"]:List Str) from by decide +kernel) rfl (Or.inl rfl) (Or.inr rfl))) (fun _ _ _ _ _=>(aT (iQ (by decide +kernel) (by decide)) (bg (bz (aa 2 rfl (Or.inr (Or.inl rfl)) rfl rfl) (ff (aa 3 rfl (Or.inr (Or.inl rfl)) rfl rfl) (aa 0 rfl (Or.inl rfl) rfl rfl))) ae) (fun _ _=>rfl) rfl)) rfl rfl (by decide) (fun _=>rfl))))))
noncomputable abbrev bQ:Stmt:=top 17
theorem aI:FnScope ["_law_cell_here", "_law_signs_here", "_law_some", "_law_many", "_law_room", "_law_book_here", "_law_k", "_law_size", "_law_text", "_law_j"] ["_law_cell_here"] (aq bQ):=⟨rfl,rfl,rfl,by decide +kernel,rfl,by decide +kernel,by decide +kernel⟩
theorem cO {f:Addr} {fd:FuncData} (F:Fun K "_law_by_digits" "_law_by_digits" bQ f fd) (hm:mg "_law_by_digits" = some (.ref f)) (B:Blt mg) (bF:FnAt P w K mg base 1 "_law_signs" ["_law_cell_here"] (gx0 K) bL) :
  FnAt P w K mg base 2 "_law_by_digits" ["_law_cell_here"] (gx0 K) cK:=cV F hm aI rfl rfl (fun _ _ _ _ _ _ us hl=>by obtain ⟨_,rfl⟩:=L2.mF hl;rfl) fun cdv A outer s H E hr =>
  (ak (av (aE bF hr (ab (aa 0 rfl (Or.inl rfl) rfl rfl) af rfl) (by decide) rfl rfl rfl rfl) aI.nd rfl (Or.inl rfl) rfl (Or.inl rfl))
  (ak (av (aT (bO (ab ae (ab ae (ab ae (ab ae (ab ae (ab ae (ab ae (ab ae af rfl) rfl) rfl) rfl) rfl) rfl) rfl) rfl)) (bg (ef (aa 0 rfl (Or.inl rfl) rfl rfl) ae) ae) (fun _ _=>rfl) rfl) aI.nd rfl (Or.inl rfl) rfl (Or.inl rfl))
  (ak (av (bg (ef (aa 0 rfl (Or.inl rfl) rfl rfl) ae) ae) aI.nd rfl (Or.inl rfl) rfl (Or.inl rfl))
  (ak (av (ef (aa 0 rfl (Or.inl rfl) rfl rfl) ae) aI.nd rfl (Or.inl rfl) rfl (Or.inl rfl))
  (ak (av ae aI.nd rfl (Or.inl rfl) rfl (Or.inl rfl))
  (ak (b5 (bO af) aI.nd rfl (Or.inl rfl) rfl (Or.inl rfl))
  (ak (bj Yy rfl (bT (aa 3 rfl (Or.inl rfl) rfl rfl) rfl B.b_range rfl rfl) (aC 6 aI.nd rfl (Or.inl rfl) (Or.inl rfl))
  (ak (av (qh B.b_min (ab (aa 4 rfl (Or.inl rfl) rfl rfl) (ab (bg (aa 0 rfl (Or.inl rfl) rfl rfl) ae) af rfl) rfl) rfl rfl rfl rfl) aI.nd rfl (Or.inl rfl) rfl (Or.inl rfl))
  (ak (av (ef (aa 0 rfl (Or.inl rfl) rfl rfl) ae) aI.nd rfl (Or.inl rfl) rfl (Or.inl rfl))
  (ak (av (lB (aa 4 rfl (Or.inl rfl) rfl rfl) (aa 7 rfl (Or.inl rfl) rfl rfl)) aI.nd rfl (Or.inl rfl) rfl (Or.inl rfl))
  (ak (av (iQ (by decide +kernel) (by decide)) aI.nd rfl (Or.inl rfl) rfl (Or.inl rfl))
  (ak (bj Yy rfl (bT (aa 7 rfl (Or.inl rfl) rfl rfl) rfl B.b_range rfl rfl) (aC 9 aI.nd rfl (Or.inl rfl) (Or.inl rfl))
  (ak (av (bz (aa 8 rfl (Or.inl rfl) rfl rfl) (aT (aa 1 rfl (Or.inl rfl) rfl rfl) (bg (aa 0 rfl (Or.inl rfl) rfl rfl) (aa 2 rfl (Or.inl rfl) rfl rfl)) (fun _ _=>rfl) rfl)) aI.nd rfl (Or.inl rfl) rfl (Or.inl rfl))
  (ao (av (ef (aa 0 rfl (Or.inl rfl) rfl rfl) (aa 2 rfl (Or.inl rfl) rfl rfl)) aI.nd rfl (Or.inl rfl) rfl (Or.inl rfl)))) (fun _=>rfl))
  (ao (cF 5 (ab (aa 8 rfl (Or.inl rfl) rfl rfl) af rfl) rfl rfl (Or.inl rfl) rfl rfl rfl rfl rfl))))))) (fun _=>rfl))
  (ao (cY 5 rfl (Or.inl rfl) rfl rfl)))))))))
noncomputable abbrev bR:Stmt:=top 18
theorem aH:FnScope ["_law_script", "_law_most", "_law_signs_here", "_law_some", "_law_room", "_law_book_here", "_law_k", "_law_size", "_law_back", "_law_text", "_law_j", "_law_number"] ["_law_script", "_law_most"] (aq bR):=⟨rfl,rfl,rfl,by decide +kernel,rfl,by decide +kernel,by decide +kernel⟩
theorem cM {f:Addr} {fd:FuncData} (F:Fun K "_law_by_mixing" "_law_by_mixing" bR f fd) (hm:mg "_law_by_mixing" = some (.ref f)) (B:Blt mg) (aL:FnAt P w K mg base 1 "_law_mixed" ["_law_script", "_law_k"] (gx0 K) aA) (bF:FnAt P w K mg base 1 "_law_signs" ["_law_cell_here"] (gx0 K) bL) :
  FnAt P w K mg base 2 "_law_by_mixing" ["_law_script", "_law_most"] (gx0 K) cL:=cV F hm aH rfl rfl (fun _ _ _ _ _ _ us hl=>by obtain ⟨_,_,rfl⟩:=L2.kM hl;rfl) fun cdv A outer s H E hr =>
  (ak (av (aE bF hr (ab (aE aL hr (ab (aa 0 rfl (Or.inl rfl) rfl rfl) (ab ae af rfl) rfl) (by decide) rfl rfl rfl rfl) af rfl) (by decide) rfl rfl rfl rfl) aH.nd rfl (Or.inl rfl) rfl (Or.inl rfl))
  (ak (av (aT (bO (ab ae (ab ae (ab ae (ab ae (ab ae (ab ae (ab ae (ab ae af rfl) rfl) rfl) rfl) rfl) rfl) rfl) rfl)) (bg (aE aL hr (ab (aa 0 rfl (Or.inl rfl) rfl rfl) (ab ae af rfl) rfl) (by decide) rfl rfl rfl rfl) ae) (fun _ _=>rfl) rfl) aH.nd rfl (Or.inl rfl) rfl (Or.inl rfl))
  (ak (av (aa 1 rfl (Or.inl rfl) rfl rfl) aH.nd rfl (Or.inl rfl) rfl (Or.inl rfl))
  (ak (b5 (bO af) aH.nd rfl (Or.inl rfl) rfl (Or.inl rfl))
  (ak (bj Yy rfl (bT (bg (aE aL hr (ab (aa 0 rfl (Or.inl rfl) rfl rfl) (ab ae af rfl) rfl) (by decide) rfl rfl rfl rfl) ae) rfl B.b_range rfl rfl) (aC 6 aH.nd rfl (Or.inl rfl) (Or.inl rfl))
  (ak (av (qh B.b_min (ab (aa 4 rfl (Or.inl rfl) rfl rfl) (ab (bg (aE aL hr (ab (aa 0 rfl (Or.inl rfl) rfl rfl) (ab (bz (ff ae (aa 6 rfl (Or.inl rfl) rfl rfl)) ae) af rfl) rfl) (by decide) rfl rfl rfl rfl) (bz (aa 1 rfl (Or.inl rfl) rfl rfl) ae)) af rfl) rfl) rfl rfl rfl rfl) aH.nd rfl (Or.inl rfl) rfl (Or.inl rfl))
  (ak (av (lB (aa 4 rfl (Or.inl rfl) rfl rfl) (aa 7 rfl (Or.inl rfl) rfl rfl)) aH.nd rfl (Or.inl rfl) rfl (Or.inl rfl))
  (ak (av (bz ae (bg (aE aL hr (ab (aa 0 rfl (Or.inl rfl) rfl rfl) (ab (bz (ff ae (aa 6 rfl (Or.inl rfl) rfl rfl)) ae) af rfl) rfl) (by decide) rfl rfl rfl rfl) ae)) aH.nd rfl (Or.inl rfl) rfl (Or.inl rfl))
  (ak (av (iQ (by decide +kernel) (by decide)) aH.nd rfl (Or.inl rfl) rfl (Or.inl rfl))
  (ak (bj Yy rfl (bT (aa 7 rfl (Or.inl rfl) rfl rfl) rfl B.b_range rfl rfl) (aC 10 aH.nd rfl (Or.inl rfl) (Or.inl rfl))
  (ak (av (aE aL hr (ab (aa 0 rfl (Or.inl rfl) rfl rfl) (ab (bz (bz (ff ae (aa 6 rfl (Or.inl rfl) rfl rfl)) ae) (aa 10 rfl (Or.inl rfl) rfl rfl)) af rfl) rfl) (by decide) rfl rfl rfl rfl) aH.nd rfl (Or.inl rfl) rfl (Or.inl rfl))
  (ao (bE (dv (fP (sD (bU B.b_len (ab (aa 9 rfl (Or.inl rfl) rfl rfl) af rfl) rfl rfl rfl) (aa 8 rfl (Or.inl rfl) rfl rfl)) (fY (je (bg (aa 11 rfl (Or.inl rfl) rfl rfl) ae) ae)))) (ao (av (bz (aa 9 rfl (Or.inl rfl) rfl rfl) (aT (aa 9 rfl (Or.inl rfl) rfl rfl) (lB (bU B.b_len (ab (aa 9 rfl (Or.inl rfl) rfl rfl) af rfl) rfl rfl rfl) (aa 8 rfl (Or.inl rfl) rfl rfl)) (fun _ _=>rfl) rfl)) aH.nd rfl (Or.inl rfl) rfl (Or.inl rfl))) (ao (av (bz (aa 9 rfl (Or.inl rfl) rfl rfl) (aT (aa 2 rfl (Or.inl rfl) rfl rfl) (bg (ef (aa 11 rfl (Or.inl rfl) rfl rfl) ae) (aa 3 rfl (Or.inl rfl) rfl rfl)) (fun _ _=>rfl) rfl)) aH.nd rfl (Or.inl rfl) rfl (Or.inl rfl)))))) (fun _=>rfl))
  (ak (cF 5 (ab (aa 9 rfl (Or.inl rfl) rfl rfl) af rfl) rfl rfl (Or.inl rfl) rfl rfl rfl rfl rfl)
  (ao (bE (dv (fP (je (aa 7 rfl (Or.inl rfl) rfl rfl) ae) (fP (lC hr (bg (aE aL hr (ab (aa 0 rfl (Or.inl rfl) rfl rfl) (ab (bz (ff ae (aa 6 rfl (Or.inl rfl) rfl rfl)) ae) af rfl) rfl) (by decide) rfl rfl rfl rfl) ae) ae) (fY (sD (aa 4 rfl (Or.inl rfl) rfl rfl) ae))))) (ak (cF 5 (ab (eL (aa 9 rfl (Or.inl rfl) rfl rfl) (cC ae) (cC ae) rfl) af rfl) rfl rfl (Or.inl rfl) rfl rfl rfl rfl rfl)
  (ao (av (lB (aa 4 rfl (Or.inl rfl) rfl rfl) ae) aH.nd rfl (Or.inl rfl) rfl (Or.inl rfl)))) bu)))))))) (fun _=>rfl))
  (kF 5 (ao (aP (eL (aa 5 rfl (Or.inl rfl) rfl rfl) eX (cC ae) rfl)))))))))
noncomputable abbrev dZ:Stmt:=top 19
theorem eg:FnScope ["_law_script", "_law_signs_here", "_law_text", "_law_at"] ["_law_script"] (aq dZ):=⟨rfl,rfl,rfl,by decide +kernel,rfl,by decide +kernel,by decide +kernel⟩
theorem fi {f:Addr} {fd:FuncData} (F:Fun K "_law_great" "_law_great" dZ f fd) (hm:mg "_law_great" = some (.ref f)) (B:Blt mg) (aL:FnAt P w K mg base 1 "_law_mixed" ["_law_script", "_law_k"] (gx0 K) aA) (bF:FnAt P w K mg base 1 "_law_signs" ["_law_cell_here"] (gx0 K) bL) :
  FnAt P w K mg base 2 "_law_great" ["_law_script"] (gx0 K) dQ:=cV F hm eg rfl rfl (fun _ _ _ _ _ _ us hl=>by obtain ⟨_,rfl⟩:=L2.mF hl;rfl) fun cdv A outer s H E hr =>
  (ak (av (aE bF hr (ab (aE aL hr (ab (aa 0 rfl (Or.inl rfl) rfl rfl) (ab ae af rfl) rfl) (by decide) rfl rfl rfl rfl) af rfl) (by decide) rfl rfl rfl rfl) eg.nd rfl (Or.inl rfl) rfl (Or.inl rfl))
  (ak (av (w6 (aT (aa 1 rfl (Or.inl rfl) rfl rfl) ae (fun _ _=>rfl) rfl) (bz ae (bg (aE aL hr (ab (aa 0 rfl (Or.inl rfl) rfl rfl) (ab ae af rfl) rfl) (by decide) rfl rfl rfl rfl) ae))) eg.nd rfl (Or.inl rfl) rfl (Or.inl rfl))
  (ak (bE (lC hr (bg (aE aL hr (ab (aa 0 rfl (Or.inl rfl) rfl rfl) (ab ae af rfl) rfl) (by decide) rfl rfl rfl rfl) ae) ae) (ak (av (bg (aE aL hr (ab (aa 0 rfl (Or.inl rfl) rfl rfl) (ab ae af rfl) rfl) (by decide) rfl rfl rfl rfl) (bU B.b_len (ab (aa 2 rfl (Or.inl rfl) rfl rfl) af rfl) rfl rfl rfl)) eg.nd rfl (Or.inl rfl) rfl (Or.inl rfl))
  (ao (av (bz (bz (eL (aa 2 rfl (Or.inl rfl) rfl rfl) eX (cC (aa 3 rfl (Or.inl rfl) rfl rfl)) rfl) (aT (aa 1 rfl (Or.inl rfl) rfl rfl) ae (fun _ _=>rfl) rfl)) (eL (aa 2 rfl (Or.inl rfl) rfl rfl) (cC (bz (aa 3 rfl (Or.inl rfl) rfl rfl) ae)) eX rfl)) eg.nd rfl (Or.inl rfl) rfl (Or.inl rfl)))) bu)
  (ao (aP (bO (ab (aa 2 rfl (Or.inl rfl) rfl rfl) af rfl)))))))
noncomputable abbrev eS:Stmt:=top 20
theorem p5:FnScope ["_law_script", "_law_most"] ["_law_script", "_law_most"] (aq eS):=⟨rfl,rfl,rfl,by decide +kernel,rfl,by decide +kernel,by decide +kernel⟩
theorem gp {f:Addr} {fd:FuncData} (F:Fun K "_law_book" "_law_book" eS f fd) (hm:mg "_law_book" = some (.ref f)) (B:Blt mg) (cO:FnAt P w K mg base 2 "_law_by_digits" ["_law_cell_here"] (gx0 K) cK) (cM:FnAt P w K mg base 2 "_law_by_mixing" ["_law_script", "_law_most"] (gx0 K) cL) (eW:FnAt P w K mg base 1 "_law_cell" ["_law_script", "_law_k"] (gx0 K) eJ) (fi:FnAt P w K mg base 2 "_law_great" ["_law_script"] (gx0 K) dQ) (aL:FnAt P w K mg base 1 "_law_mixed" ["_law_script", "_law_k"] (gx0 K) aA) :
  FnAt P w K mg base 3 "_law_book" ["_law_script", "_law_most"] (gx0 K) gr:=cV F hm p5 rfl rfl (fun _ _ _ _ _ _ us hl=>by obtain ⟨_,_,rfl⟩:=L2.kM hl;rfl) fun cdv A outer s H E hr =>
  (ak (bE (lC hr (bg (aE eW hr (ab (aa 0 rfl (Or.inl rfl) rfl rfl) (ab ae af rfl) rfl) (by decide) rfl rfl rfl rfl) ae) ae) (ao (aP (aE cO hr (ab (ef (aE eW hr (ab (aa 0 rfl (Or.inl rfl) rfl rfl) (ab ae af rfl) rfl) (by decide) rfl rfl rfl rfl) ae) af rfl) (by decide) rfl rfl rfl rfl))) bu)
  (ak (bE (dv (fP (je (aa 1 rfl (Or.inl rfl) rfl rfl) ae) (fY (lC hr (bg (aE aL hr (ab (aa 0 rfl (Or.inl rfl) rfl rfl) (ab ae af rfl) rfl) (by decide) rfl rfl rfl rfl) ae) ae)))) (ao (aP (aE fi hr (ab (aa 0 rfl (Or.inl rfl) rfl rfl) af rfl) (by decide) rfl rfl rfl rfl))) bu)
  (ao (aP (aE cM hr (ab (aa 0 rfl (Or.inl rfl) rfl rfl) (ab (aT (bO (ab ae (ab ae (ab ae (ab (aa 1 rfl (Or.inl rfl) rfl rfl) af rfl) rfl) rfl) rfl)) (bg (aE aL hr (ab (aa 0 rfl (Or.inl rfl) rfl rfl) (ab ae af rfl) rfl) (by decide) rfl rfl rfl rfl) ae) (fun _ _=>rfl) rfl) af rfl) rfl) (by decide) rfl rfl rfl rfl)))))
noncomputable abbrev dj:Stmt:=top 21
theorem cQ:FnScope ["_law_book_here", "_law_found", "_law_number", "_law_text", "_law_end", "_law_start"] ["_law_book_here"] (aq dj):=⟨rfl,rfl,rfl,by decide +kernel,rfl,by decide +kernel,by decide +kernel⟩
theorem d9 {f:Addr} {fd:FuncData} (F:Fun K "_law_places" "_law_places" dj f fd) (hm:mg "_law_places" = some (.ref f)) (B:Blt mg) :
  FnAt P w K mg base 1 "_law_places" ["_law_book_here"] (gx0 K) cZ:=cV F hm cQ rfl rfl (fun _ _ _ _ _ _ us hl=>by obtain ⟨_,rfl⟩:=L2.mF hl;rfl) fun cdv A outer s H E hr =>
  (ak (b5 (uc (by decide +kernel) (by decide)) cQ.nd rfl (Or.inl rfl) rfl (Or.inl rfl))
  (ak (bj Yy rfl (ik (aa 0 rfl (Or.inl rfl) rfl rfl) rfl B.b_enumerate rfl rfl) (jm rfl (cx (aC 2 cQ.nd rfl (Or.inl rfl) (Or.inl rfl)) (cx (aC 3 cQ.nd rfl (Or.inl rfl) (Or.inl rfl)) ic rfl) rfl) rfl rfl rfl)
  (ao (bj Yy rfl (bT (bz (bU B.b_len (ab (aa 3 rfl (Or.inl rfl) rfl rfl) af rfl) rfl rfl rfl) ae) rfl B.b_range rfl rfl) (aC 4 cQ.nd rfl (Or.inl rfl) (Or.inl rfl))
  (ao (bj Yy rfl (bT (bz (aa 4 rfl (Or.inl rfl) rfl rfl) ae) rfl B.b_range rfl rfl) (aC 5 cQ.nd rfl (Or.inl rfl) (Or.inl rfl))
  (ao (rA (zg _) 1 (eL (aa 3 rfl (Or.inl rfl) rfl rfl) (cC (aa 5 rfl (Or.inl rfl) rfl rfl)) (cC (aa 4 rfl (Or.inl rfl) rfl rfl)) rfl) (ab (iS (ab (aa 2 rfl (Or.inl rfl) rfl rfl) (ab (aa 4 rfl (Or.inl rfl) rfl rfl) af rfl) rfl)) af rfl)  rfl rfl (Or.inl rfl) rfl rfl rfl rfl rfl rfl rfl rfl rfl rfl rfl rfl rfl rfl)) (fun _=>rfl))) (fun _=>rfl))) (fun _=>rfl))
  (ao (cY 1 rfl (Or.inl rfl) rfl rfl))))
noncomputable abbrev cP:Stmt:=top 22
theorem lG:FnScope ["_law_word"] ["_law_word"] (aq cP):=⟨rfl,rfl,rfl,by decide +kernel,rfl,by decide +kernel,by decide +kernel⟩
theorem dB {f:Addr} {fd:FuncData} (F:Fun K "_law_by_size" "_law_by_size" cP f fd) (hm:mg "_law_by_size" = some (.ref f)) (B:Blt mg) :
  FnAt P w K mg base 1 "_law_by_size" ["_law_word"] (gx0 K) eZ:=cV F hm lG rfl rfl (fun _ _ _ _ _ _ us hl=>by obtain ⟨_,rfl⟩:=L2.mF hl;rfl) fun cdv A outer s H E hr =>
  (ao (aP (iS (ab (bU B.b_len (ab (aa 0 rfl (Or.inl rfl) rfl rfl) af rfl) rfl rfl rfl) (ab (aa 0 rfl (Or.inl rfl) rfl rfl) af rfl) rfl))))
noncomputable abbrev dw:Stmt:=top 23
theorem gM:FnScope ["_law_found", "_law_groups", "_law_word"] ["_law_found"] (aq dw):=⟨rfl,rfl,rfl,by decide +kernel,rfl,by decide +kernel,by decide +kernel⟩
theorem d7 {f:Addr} {fd:FuncData} (F:Fun K "_law_stands" "_law_stands" dw f fd) (hm:mg "_law_stands" = some (.ref f)) (B:Blt mg) (dB:FnAt P w K mg base 1 "_law_by_size" ["_law_word"] (gx0 K) eZ) :
  FnAt P w K mg base 4 "_law_stands" ["_law_found"] (gx0 K) dk:=cV F hm gM rfl rfl (fun _ _ _ _ _ _ us hl=>by obtain ⟨_,rfl⟩:=L2.mF hl;rfl) fun cdv A outer s H E hr =>
  (ak (b5 vf gM.nd rfl (Or.inr rfl) rfl (Or.inl rfl))
  (ak (bj Yy rfl (bG (qo dB (by decide) mh hr B.b_sorted (ab (aa 0 rfl (Or.inl rfl) rfl rfl) af rfl) rfl rfl rfl rfl rfl rfl) rfl) (aC 2 gM.nd rfl (Or.inl rfl) (Or.inl rfl))
  (ao (pq 1 hr (nu B.b_tuple (ab (ki hr (aa 0 rfl (Or.inl rfl) rfl rfl) (aa 2 rfl (Or.inl rfl) rfl rfl) (fun _ _=>rfl) rfl) af rfl) rfl rfl rfl) (ab (aa 2 rfl (Or.inl rfl) rfl rfl) af rfl)  rfl rfl (Or.inr (Or.inl rfl)) rfl rfl rfl rfl rfl rfl rfl rfl rfl rfl rfl rfl rfl rfl)) (fun _=>rfl))
  (ao (qT 1 ["_law_some", "_law_found", "_law_groups", "_law_word"] hr rfl rfl (Or.inr (Or.inl rfl)) rfl rfl (fun _ _ _ _ _=>⟨L2.tJ (show List.Nodup (["_law_some", "_law_found", "_law_groups", "_law_word"]:List Str) from by decide +kernel) rfl (Or.inl rfl) (Or.inr rfl),L2.fW rfl (Or.inr (Or.inl rfl)) rfl rfl,L2.fW rfl (Or.inl rfl) rfl rfl,rfl⟩) (fun _ _=>rfl) rfl rfl (by decide) (fun _=>rfl)))))
noncomputable abbrev cR:Stmt:=top 24
theorem cX:FnScope ["_law_stands_here", "_law_numbers_here", "_law_k", "_law_some", "_law_word"] ["_law_stands_here"] (aq cR):=⟨rfl,rfl,rfl,by decide +kernel,rfl,by decide +kernel,by decide +kernel⟩
theorem dA {f:Addr} {fd:FuncData} (F:Fun K "_law_numbers" "_law_numbers" cR f fd) (hm:mg "_law_numbers" = some (.ref f)) (B:Blt mg) :
  FnAt P w K mg base 1 "_law_numbers" ["_law_stands_here"] (gx0 K) bY:=cV F hm cX rfl rfl (fun _ _ _ _ _ _ us hl=>by obtain ⟨_,rfl⟩:=L2.mF hl;rfl) fun cdv A outer s H E hr =>
  (ak (b5 xU cX.nd rfl (Or.inl rfl) rfl (Or.inl rfl))
  (ak (bj Yy rfl (ik (aa 0 rfl (Or.inl rfl) rfl rfl) rfl B.b_enumerate rfl rfl) (jm rfl (cx (aC 2 cX.nd rfl (Or.inl rfl) (Or.inl rfl)) (cx (aC 3 cX.nd rfl (Or.inl rfl) (Or.inl rfl)) ic rfl) rfl) rfl rfl rfl)
  (ao (bj Yy rfl (bG (aa 3 rfl (Or.inl rfl) rfl rfl) rfl) (aC 4 cX.nd rfl (Or.inl rfl) (Or.inl rfl))
  (ao (yn 1 hr (aa 4 rfl (Or.inl rfl) rfl rfl) (aa 2 rfl (Or.inl rfl) rfl rfl) rfl (Or.inl rfl) rfl rfl (fun _=>rfl) rfl rfl rfl)) (fun _=>rfl))) (fun _=>rfl))
  (ao (cY 1 rfl (Or.inl rfl) rfl rfl))))
noncomputable abbrev dW:Stmt:=top 25
theorem cz:FnScope ["_law_stands_here", "_law_numbers_here", "_law_table_here", "_law_some", "_law_ways", "_law_sign", "_law_link"] ["_law_stands_here", "_law_numbers_here"] (aq dW):=⟨rfl,rfl,rfl,by decide +kernel,rfl,by decide +kernel,by decide +kernel⟩
theorem fu {f:Addr} {fd:FuncData} (F:Fun K "_law_table" "_law_table" dW f fd) (hm:mg "_law_table" = some (.ref f)) (B:Blt mg) :
  FnAt P w K mg base 1 "_law_table" ["_law_stands_here", "_law_numbers_here"] (gx0 K) d4:=cV F hm cz rfl rfl (fun _ _ _ _ _ _ us hl=>by obtain ⟨_,_,rfl⟩:=L2.kM hl;rfl) fun cdv A outer s H E hr =>
  (ak (b5 (bO af) cz.nd rfl (Or.inl rfl) rfl (Or.inl rfl))
  (ak (bj Yy rfl (bG (aa 0 rfl (Or.inl rfl) rfl rfl) rfl) (aC 3 cz.nd rfl (Or.inl rfl) (Or.inl rfl))
  (ak (b5 (bO af) cz.nd rfl (Or.inl rfl) rfl (Or.inl rfl))
  (ak (bj Yy rfl (bG (iQ (by decide +kernel) (by decide)) rfl) (aC 5 cz.nd rfl (Or.inl rfl) (Or.inl rfl))
  (ao (bE (AY hr (bz (aT (aa 3 rfl (Or.inl rfl) rfl rfl) ae (fun _ _=>rfl) rfl) (aa 5 rfl (Or.inl rfl) rfl rfl)) (aa 1 rfl (Or.inl rfl) rfl rfl) (by with_unfolding_all rfl) rfl) (ao (cF 4 (ab (iS (ab (aa 5 rfl (Or.inl rfl) rfl rfl) (ab (ki hr (aa 1 rfl (Or.inl rfl) rfl rfl) (bz (aT (aa 3 rfl (Or.inl rfl) rfl rfl) ae (fun _ _=>rfl) rfl) (aa 5 rfl (Or.inl rfl) rfl rfl)) (fun _ _=>rfl) rfl) af rfl) rfl)) af rfl) rfl rfl (Or.inl rfl) rfl rfl rfl rfl rfl)) bu)) (fun _=>rfl))
  (kF 4 (ak (av mM cz.nd rfl (Or.inl rfl) rfl (Or.inl rfl))
  (ak (bE (lA hr (aT (aa 3 rfl (Or.inl rfl) rfl rfl) ae (fun _ _=>rfl) rfl) (iQ (by decide +kernel) (by decide))) (ao (av (ki hr (aa 1 rfl (Or.inl rfl) rfl rfl) (eL (aT (aa 3 rfl (Or.inl rfl) rfl rfl) ae (fun _ _=>rfl) rfl) (cC ae) eX rfl) (fun _ _=>rfl) rfl) cz.nd rfl (Or.inl rfl) rfl (Or.inl rfl))) bu)
  (ao (cF 2 (ab (iS (ab (bU B.b_len (ab (aT (aa 3 rfl (Or.inl rfl) rfl rfl) ae (fun _ _=>rfl) rfl) af rfl) rfl rfl rfl) (ab (bU B.b_len (ab (aT (aa 3 rfl (Or.inl rfl) rfl rfl) n9 (fun _ _=>rfl) rfl) af rfl) rfl rfl rfl) (ab (aa 6 rfl (Or.inl rfl) rfl rfl) (ab (nu B.b_tuple (ab (aa 4 rfl (Or.inl rfl) rfl rfl) af rfl) rfl rfl rfl) af rfl) rfl) rfl) rfl)) af rfl) rfl rfl (Or.inl rfl) rfl rfl rfl rfl rfl))))))) (fun _=>rfl))
  (ao (cY 2 rfl (Or.inl rfl) rfl rfl))))
noncomputable abbrev dX:Stmt:=top 26
theorem oh:FnScope ["_law_found"] ["_law_found"] (aq dX):=⟨rfl,rfl,rfl,by decide +kernel,rfl,by decide +kernel,by decide +kernel⟩
theorem fB {f:Addr} {fd:FuncData} (F:Fun K "_law_whole" "_law_whole" dX f fd) (hm:mg "_law_whole" = some (.ref f)) (B:Blt mg) :
  FnAt P w K mg base 1 "_law_whole" ["_law_found"] (gx0 K) gH:=cV F hm oh rfl rfl (fun _ _ _ _ _ _ us hl=>by obtain ⟨_,rfl⟩:=L2.mF hl;rfl) fun cdv A outer s H E hr =>
  (ao (aP (jX (i5 .int B.b_isinstance B.b_int (aa 0 rfl (Or.inl rfl) rfl rfl) rfl rfl rfl rfl) (mS (qD (i5 .bool B.b_isinstance B.b_bool (aa 0 rfl (Or.inl rfl) rfl rfl) rfl rfl rfl rfl))))))
noncomputable abbrev eR:Stmt:=top 27
theorem qv:FnScope ["_law_found", "_law_due"] ["_law_found", "_law_due"] (aq eR):=⟨rfl,rfl,rfl,by decide +kernel,rfl,by decide +kernel,by decide +kernel⟩
theorem fT {f:Addr} {fd:FuncData} (F:Fun K "_law_same" "_law_same" eR f fd) (hm:mg "_law_same" = some (.ref f)) (B:Blt mg) (fB:FnAt P w K mg base 1 "_law_whole" ["_law_found"] (gx0 K) gH) :
  FnAt P w K mg base 2 "_law_same" ["_law_found", "_law_due"] (gx0 K) eQ:=cV F hm qv rfl rfl (fun _ _ _ _ _ _ us hl=>by obtain ⟨_,_,rfl⟩:=L2.kM hl;rfl) fun cdv A outer s H E hr =>
  (ak (bE (dv (ka (eU (dU (i5 .list B.b_isinstance B.b_list (aa 0 rfl (Or.inl rfl) rfl rfl) rfl rfl rfl rfl) rfl (fun _=>rfl))) (ji (lA hr (aa 0 rfl (Or.inl rfl) rfl rfl) (aa 1 rfl (Or.inl rfl) rfl rfl))))) (ao (aP gG)) bu)
  (ao (aP (BR hr (bU B.b_len (ab (kR 1 ["_law_one", "_law_found", "_law_due"] rfl (bG (aa 0 rfl (Or.inl rfl) rfl rfl) rfl) (gL (by decide)) (fun _ _ _ _ _=>(aC 0 (show List.Nodup (["_law_one", "_law_found", "_law_due"]:List Str) from by decide +kernel) rfl (Or.inl rfl) (Or.inr rfl))) (fun _ _ _ _ _=>(dU (aE fB hr (ab (aa 0 rfl (Or.inl rfl) rfl rfl) af rfl) (by decide) rfl rfl rfl rfl) rfl (fun _=>rfl))) (fun _ _ _ _ _=>(aa 0 rfl (Or.inl rfl) rfl rfl)) rfl rfl (by decide) (fun _=>rfl)) af rfl) rfl rfl rfl) (bU B.b_len (ab (aa 1 rfl (Or.inl rfl) rfl rfl) af rfl) rfl rfl rfl)))))
noncomputable abbrev dq:Stmt:=top 28
theorem ju:FnScope ["_law_found", "_law_due", "_law_one"] ["_law_found", "_law_due"] (aq dq):=⟨rfl,rfl,rfl,by decide +kernel,rfl,by decide +kernel,by decide +kernel⟩
theorem eA {f:Addr} {fd:FuncData} (F:Fun K "_law_firsts" "_law_firsts" dq f fd) (hm:mg "_law_firsts" = some (.ref f)) (B:Blt mg) :
  FnAt P w K mg base 1 "_law_firsts" ["_law_found", "_law_due"] (gx0 K) du:=cV F hm ju rfl rfl (fun _ _ _ _ _ _ us hl=>by obtain ⟨_,_,rfl⟩:=L2.kM hl;rfl) fun cdv A outer s H E hr =>
  (ak (bE (dv (ka (eU (dU (i5 .list B.b_isinstance B.b_list (aa 0 rfl (Or.inl rfl) rfl rfl) rfl rfl rfl rfl) rfl (fun _=>rfl))) (ji (lA hr (aa 0 rfl (Or.inl rfl) rfl rfl) (aa 1 rfl (Or.inl rfl) rfl rfl))))) (ao (aP gG)) bu)
  (ak (bj Yy rfl (bG (aa 0 rfl (Or.inl rfl) rfl rfl) rfl) (aC 2 ju.nd rfl (Or.inl rfl) (Or.inl rfl))
  (ak (bE (dv (fP (km (aa 2 rfl (Or.inl rfl) rfl rfl)) (fY (eU (dU (i5 .tuple B.b_isinstance B.b_tuple (aa 2 rfl (Or.inl rfl) rfl rfl) rfl rfl rfl rfl) rfl (fun _=>rfl)))))) (ao (aP gG)) bu)
  (ao (bE (dv (fP (km (aa 2 rfl (Or.inl rfl) rfl rfl)) (fY (je (bU B.b_len (ab (kR 1 ["_law_k", "_law_found", "_law_due", "_law_one"] rfl (bG (aa 2 rfl (Or.inl rfl) rfl rfl) rfl) (gL (by decide)) (fun _ _ _ _ _=>(aC 0 (show List.Nodup (["_law_k", "_law_found", "_law_due", "_law_one"]:List Str) from by decide +kernel) rfl (Or.inl rfl) (Or.inr rfl))) (fun _ _ _ _ _=>(dU (i5 .bool B.b_isinstance B.b_bool (aa 0 rfl (Or.inl rfl) rfl rfl) rfl rfl rfl rfl) rfl (fun _=>rfl))) (fun _ _ _ _ _=>(aa 0 rfl (Or.inl rfl) rfl rfl)) rfl rfl (by decide) (fun _=>rfl)) af rfl) rfl rfl rfl) ae)))) (ao (aP gG)) bu))) (fun _=>rfl))
  (ao (aP gG))))
noncomputable abbrev dR:Stmt:=top 29
theorem bC:FnScope ["_law_book_here", "_law_found", "_law_stands_here", "_law_table_here", "_law_due", "_law_first", "_law_turn", "_law_handed", "_law_told", "_law_other"] ["_law_book_here"] (aq dR):=⟨rfl,rfl,rfl,by decide +kernel,rfl,by decide +kernel,by decide +kernel⟩
theorem cW {f:Addr} {fd:FuncData} (F:Fun K "_law_asked" "_law_asked" dR f fd) (hm:mg "_law_asked" = some (.ref f)) (B:Blt mg) (eA:FnAt P w K mg base 1 "_law_firsts" ["_law_found", "_law_due"] (gx0 K) du) (dA:FnAt P w K mg base 1 "_law_numbers" ["_law_stands_here"] (gx0 K) bY) (d9:FnAt P w K mg base 1 "_law_places" ["_law_book_here"] (gx0 K) cZ) (fT:FnAt P w K mg base 2 "_law_same" ["_law_found", "_law_due"] (gx0 K) eQ) (d7:FnAt P w K mg base 4 "_law_stands" ["_law_found"] (gx0 K) dk) (fu:FnAt P w K mg base 1 "_law_table" ["_law_stands_here", "_law_numbers_here"] (gx0 K) d4) (iO:FnAt P w K mg base 5 "counts" ["book", "table"] (gx0 K) iJ) (iW:FnAt P w K mg base 5 "firsts" ["book", "table"] (gx0 K) iP) :
  FnAt P w K mg base 6 "_law_asked" ["_law_book_here"] (gx0 K) bD:=cV F hm bC rfl rfl (fun _ _ _ _ _ _ us hl=>by obtain ⟨_,rfl⟩:=L2.mF hl;rfl) fun cdv A outer s H E hr =>
  (ak (av (aE d9 hr (ab (aa 0 rfl (Or.inl rfl) rfl rfl) af rfl) (by decide) rfl rfl rfl rfl) bC.nd rfl (Or.inr rfl) rfl (Or.inl rfl))
  (ak (av (aE d7 hr (ab (aa 1 rfl (Or.inr (Or.inl rfl)) rfl rfl) af rfl) (by decide) rfl rfl rfl rfl) bC.nd rfl (Or.inl rfl) rfl (Or.inl rfl))
  (ak (av (aE fu hr (ab (aa 2 rfl (Or.inl rfl) rfl rfl) (ab (aE dA hr (ab (aa 2 rfl (Or.inl rfl) rfl rfl) af rfl) (by decide) rfl rfl rfl rfl) af rfl) rfl) (by decide) rfl rfl rfl rfl) bC.nd rfl (Or.inl rfl) rfl (Or.inl rfl))
  (ak (jI 1 ["_law_some", "_law_book_here", "_law_found", "_law_stands_here", "_law_table_here", "_law_due", "_law_first", "_law_turn", "_law_handed", "_law_told", "_law_other"] (fun _ _ _ h=>sP h) rfl (bG (aa 2 rfl (Or.inl rfl) rfl rfl) rfl) (gL (by decide)) (fun _ _ _ _ _=>(aC 0 (show List.Nodup (["_law_some", "_law_book_here", "_law_found", "_law_stands_here", "_law_table_here", "_law_due", "_law_first", "_law_turn", "_law_handed", "_law_told", "_law_other"]:List Str) from by decide +kernel) rfl (Or.inl rfl) (Or.inr rfl))) (fun _ _ _ _ _=>(bU B.b_len (ab (ki hr (aa 2 rfl (Or.inr (Or.inl rfl)) rfl rfl) (aT (aa 0 rfl (Or.inl rfl) rfl rfl) ae (fun _ _=>rfl) rfl) (fun _ _=>rfl) rfl) af rfl) rfl rfl rfl)) bC.nd rfl (Or.inl rfl) rfl rfl (by decide) rfl (Or.inl rfl) (fun _=>rfl))
  (ak (jI 1 ["_law_some", "_law_book_here", "_law_found", "_law_stands_here", "_law_table_here", "_law_due", "_law_first", "_law_turn", "_law_handed", "_law_told", "_law_other"] (fun _ _ _ h=>sP h) rfl (bG (aa 2 rfl (Or.inl rfl) rfl rfl) rfl) (gL (by decide)) (fun _ _ _ _ _=>(aC 0 (show List.Nodup (["_law_some", "_law_book_here", "_law_found", "_law_stands_here", "_law_table_here", "_law_due", "_law_first", "_law_turn", "_law_handed", "_law_told", "_law_other"]:List Str) from by decide +kernel) rfl (Or.inl rfl) (Or.inr rfl))) (fun _ _ _ _ _=>(vS hr B.b_min (ab (ki hr (aa 2 rfl (Or.inr (Or.inl rfl)) rfl rfl) (aT (aa 0 rfl (Or.inl rfl) rfl rfl) ae (fun _ _=>rfl) rfl) (fun _ _=>rfl) rfl) af rfl) rfl rfl rfl rfl rfl)) bC.nd rfl (Or.inl rfl) rfl rfl (by decide) rfl (Or.inl rfl) (fun _=>rfl))
  (ak (bj Yy rfl (bT ae rfl B.b_range rfl rfl) (aC 6 bC.nd rfl (Or.inl rfl) (Or.inl rfl))
  (ak (av (bO (ab (nR B.b_list (ab (aa 0 rfl (Or.inl rfl) rfl rfl) af rfl) rfl rfl rfl rfl) (ab (nR B.b_list (ab (aa 3 rfl (Or.inl rfl) rfl rfl) af rfl) rfl rfl rfl rfl) af rfl) rfl)) bC.nd rfl (Or.inl rfl) rfl (Or.inl rfl))
  (ak (b5 (aE iO hr (ab (aT (aa 7 rfl (Or.inl rfl) rfl rfl) ae (fun _ _=>rfl) rfl) (ab (aT (aa 7 rfl (Or.inl rfl) rfl rfl) ae (fun _ _=>rfl) rfl) af rfl) rfl) (by decide) rfl rfl rfl rfl) bC.nd rfl (Or.inl rfl) rfl (Or.inl rfl))
  (ak (b5 (aE iW hr (ab (aT (aa 7 rfl (Or.inl rfl) rfl rfl) ae (fun _ _=>rfl) rfl) (ab (aT (aa 7 rfl (Or.inl rfl) rfl rfl) ae (fun _ _=>rfl) rfl) af rfl) rfl) (by decide) rfl rfl rfl rfl) bC.nd rfl (Or.inl rfl) rfl (Or.inl rfl))
  (ak (bE (dv (ka (eU (dU (aE fT hr (ab (aa 8 rfl (Or.inl rfl) rfl rfl) (ab (aa 4 rfl (Or.inl rfl) rfl rfl) af rfl) rfl) (by decide) rfl rfl rfl rfl) rfl (fun _=>rfl))) (ji (eU (dU (aE eA hr (ab (aa 9 rfl (Or.inl rfl) rfl rfl) (ab (aa 5 rfl (Or.inl rfl) rfl rfl) af rfl) rfl) (by decide) rfl rfl rfl rfl) rfl (fun _=>rfl)))))) (ao (aP gG)) bu)
  (ak (bE (lA hr (aa 7 rfl (Or.inl rfl) rfl rfl) (bO (ab (aa 0 rfl (Or.inl rfl) rfl rfl) (ab (aa 3 rfl (Or.inl rfl) rfl rfl) af rfl) rfl))) (ao (aP gG)) bu)
  (ak (cF 8 (ab ae af rfl) rfl rfl (Or.inl rfl) rfl rfl rfl rfl rfl)
  (kF 8 (ao (cF 9 (ab mM af rfl) rfl rfl (Or.inl rfl) rfl rfl rfl rfl rfl))))))))) (fun _=>rfl))
  (ao (aP gG))))))))
noncomputable abbrev jK:Stmt:=top 30
theorem vG:FnScope ["_law_script", "_law_book_here"] ["_law_script"] (aq jK):=⟨rfl,rfl,rfl,by decide +kernel,rfl,by decide +kernel,by decide +kernel⟩
theorem Cj {f:Addr} {fd:FuncData} (F:Fun K "law" "law" jK f fd) (B:Blt mg) (cW:FnAt P w K mg base 6 "_law_asked" ["_law_book_here"] (gx0 K) bD) (gp:FnAt P w K mg base 3 "_law_book" ["_law_script", "_law_most"] (gx0 K) gr) :
  FnOk P w K mg base CX0 7 f fd ["_law_script"] (spF (gx0 K) o8):=FV F vG rfl rfl fun cdv A outer s H E hr =>
  (ak (av (aE gp hr (ab (aa 0 rfl (Or.inl rfl) rfl rfl) (ab ae af rfl) rfl) (by decide) rfl rfl rfl rfl) vG.nd rfl (Or.inl rfl) rfl (Or.inl rfl))
  (ao (aP (jX (aE cW hr (ab (aa 1 rfl (Or.inl rfl) rfl rfl) af rfl) (by decide) rfl rfl rfl rfl) (jX (aE cW hr (ab (rE (aa 1 rfl (Or.inl rfl) rfl rfl) eX eX (cC n9) rfl) af rfl) (by decide) rfl rfl rfl rfl) (mS (aE cW hr (ab (bO af) af rfl) (by decide) rfl rfl rfl rfl)))))))
end
theorem all_mk {l:PySem.W.OpenLaw} {w:World} {K:Y1} {h:Heap} {mg:Xv} {fa f0 f1 f2 f3 f4 f5 f6 f7 f8 f9 f10 f11 f12 f13 f14 f15 f16 f17 f18 f19 f20 f21 f22 f23:Addr} (X:K.In h) (G:h.Ns mainGlobals mg) (hfa:mg "law" = some (.ref fa))
  {od0 an0 od1 an1 od2 an2 od3 an3 od4 an4 od5 an5 od6 an6 od7 an7 od8 an8 od9 an9 od10 an10 od11 an11 od12 an12 od13 an13 od14 an14 od15 an15 od16 an16 od17 an17 od18 an18 od19 an19 od20 an20 od21 an21 od22 an22 od23 an23:Option Addr} {sl0 sl1 sl2 sl3 sl4 sl5 sl6 sl7 sl8 sl9 sl10 sl11 sl12 sl13 sl14 sl15 sl16 sl17 sl18 sl19 sl20 sl21 sl22 sl23:Array (Vt)} {oc0 kV0 dc0 pm0 cd0 ct0 oc1 kV1 dc1 pm1 cd1 ct1 oc2 kV2 dc2 pm2 cd2 ct2 oc3 kV3 dc3 pm3 cd3 ct3 oc4 kV4 dc4 pm4 cd4 ct4 oc5 kV5 dc5 pm5 cd5 ct5 oc6 kV6 dc6 pm6 cd6 ct6 oc7 kV7 dc7 pm7 cd7 ct7 oc8 kV8 dc8 pm8 cd8 ct8 oc9 kV9 dc9 pm9 cd9 ct9 oc10 kV10 dc10 pm10 cd10 ct10 oc11 kV11 dc11 pm11 cd11 ct11 oc12 kV12 dc12 pm12 cd12 ct12 oc13 kV13 dc13 pm13 cd13 ct13 oc14 kV14 dc14 pm14 cd14 ct14 oc15 kV15 dc15 pm15 cd15 ct15 oc16 kV16 dc16 pm16 cd16 ct16 oc17 kV17 dc17 pm17 cd17 ct17 oc18 kV18 dc18 pm18 cd18 ct18 oc19 kV19 dc19 pm19 cd19 ct19 oc20 kV20 dc20 pm20 cd20 ct20 oc21 kV21 dc21 pm21 cd21 ct21 oc22 kV22 dc22 pm22 cd22 ct22 oc23 kV23 dc23 pm23 cd23 ct23:Value}
  (a0:PySem.W.nsIn K mainGlobals "is_whole" = some (some (.ref f0))) (l0:K.lookup f0=some ⟨oc0,od0,.func (PySem.W.fnOf "is_whole" "is_whole" (aS eV) (aO eV) (aq eV) .none kV0 dc0 pm0 an0 cd0 ct0),sl0⟩) (c0:PySem.W.codeIn K cd0 "is_whole" = true) (k0:PySem.W.keepIn K (.ref f0)=true)
  (a1:PySem.W.nsIn K mainGlobals "walk" = some (some (.ref f1))) (l1:K.lookup f1=some ⟨oc1,od1,.func (PySem.W.fnOf "walk" "walk" (aS ku) (aO ku) (aq ku) .none kV1 dc1 pm1 an1 cd1 ct1),sl1⟩) (c1:PySem.W.codeIn K cd1 "walk" = true) (k1:PySem.W.keepIn K (.ref f1)=true)
  (a2:PySem.W.nsIn K mainGlobals "refuse_no_stand" = some (some (.ref f2))) (l2:K.lookup f2=some ⟨oc2,od2,.func (PySem.W.fnOf "refuse_no_stand" "refuse_no_stand" (aS bI) (aO bI) (aq bI) .none kV2 dc2 pm2 an2 cd2 ct2),sl2⟩) (c2:PySem.W.codeIn K cd2 "refuse_no_stand" = true) (k2:PySem.W.keepIn K (.ref f2)=true)
  (a3:PySem.W.nsIn K mainGlobals "chain" = some (some (.ref f3))) (l3:K.lookup f3=some ⟨oc3,od3,.func (PySem.W.fnOf "chain" "chain" (aS i9) (aO i9) (aq i9) .none kV3 dc3 pm3 an3 cd3 ct3),sl3⟩) (c3:PySem.W.codeIn K cd3 "chain" = true) (k3:PySem.W.keepIn K (.ref f3)=true)
  (a4:PySem.W.nsIn K mainGlobals "places_by" = some (some (.ref f4))) (l4:K.lookup f4=some ⟨oc4,od4,.func (PySem.W.fnOf "places_by" "places_by" (aS dS) (aO dS) (aq dS) .none kV4 dc4 pm4 an4 cd4 ct4),sl4⟩) (c4:PySem.W.codeIn K cd4 "places_by" = true) (k4:PySem.W.keepIn K (.ref f4)=true)
  (a5:PySem.W.nsIn K mainGlobals "counts" = some (some (.ref f5))) (l5:K.lookup f5=some ⟨oc5,od5,.func (PySem.W.fnOf "counts" "counts" (aS gU) (aO gU) (aq gU) .none kV5 dc5 pm5 an5 cd5 ct5),sl5⟩) (c5:PySem.W.codeIn K cd5 "counts" = true) (k5:PySem.W.keepIn K (.ref f5)=true)
  (a6:PySem.W.nsIn K mainGlobals "firsts" = some (some (.ref f6))) (l6:K.lookup f6=some ⟨oc6,od6,.func (PySem.W.fnOf "firsts" "firsts" (aS gR) (aO gR) (aq gR) .none kV6 dc6 pm6 an6 cd6 ct6),sl6⟩) (c6:PySem.W.codeIn K cd6 "firsts" = true) (k6:PySem.W.keepIn K (.ref f6)=true)
  (a7:PySem.W.nsIn K mainGlobals "_law_cell" = some (some (.ref f7))) (l7:K.lookup f7=some ⟨oc7,od7,.func (PySem.W.fnOf "_law_cell" "_law_cell" (aS eI) (aO eI) (aq eI) .none kV7 dc7 pm7 an7 cd7 ct7),sl7⟩) (c7:PySem.W.codeIn K cd7 "_law_cell" = true) (k7:PySem.W.keepIn K (.ref f7)=true)
  (a8:PySem.W.nsIn K mainGlobals "_law_mixed" = some (some (.ref f8))) (l8:K.lookup f8=some ⟨oc8,od8,.func (PySem.W.fnOf "_law_mixed" "_law_mixed" (aS d3) (aO d3) (aq d3) .none kV8 dc8 pm8 an8 cd8 ct8),sl8⟩) (c8:PySem.W.codeIn K cd8 "_law_mixed" = true) (k8:PySem.W.keepIn K (.ref f8)=true)
  (a9:PySem.W.nsIn K mainGlobals "_law_signs" = some (some (.ref f9))) (l9:K.lookup f9=some ⟨oc9,od9,.func (PySem.W.fnOf "_law_signs" "_law_signs" (aS dY) (aO dY) (aq dY) .none kV9 dc9 pm9 an9 cd9 ct9),sl9⟩) (c9:PySem.W.codeIn K cd9 "_law_signs" = true) (k9:PySem.W.keepIn K (.ref f9)=true)
  (a10:PySem.W.nsIn K mainGlobals "_law_by_digits" = some (some (.ref f10))) (l10:K.lookup f10=some ⟨oc10,od10,.func (PySem.W.fnOf "_law_by_digits" "_law_by_digits" (aS bQ) (aO bQ) (aq bQ) .none kV10 dc10 pm10 an10 cd10 ct10),sl10⟩) (c10:PySem.W.codeIn K cd10 "_law_by_digits" = true) (k10:PySem.W.keepIn K (.ref f10)=true)
  (a11:PySem.W.nsIn K mainGlobals "_law_by_mixing" = some (some (.ref f11))) (l11:K.lookup f11=some ⟨oc11,od11,.func (PySem.W.fnOf "_law_by_mixing" "_law_by_mixing" (aS bR) (aO bR) (aq bR) .none kV11 dc11 pm11 an11 cd11 ct11),sl11⟩) (c11:PySem.W.codeIn K cd11 "_law_by_mixing" = true) (k11:PySem.W.keepIn K (.ref f11)=true)
  (a12:PySem.W.nsIn K mainGlobals "_law_great" = some (some (.ref f12))) (l12:K.lookup f12=some ⟨oc12,od12,.func (PySem.W.fnOf "_law_great" "_law_great" (aS dZ) (aO dZ) (aq dZ) .none kV12 dc12 pm12 an12 cd12 ct12),sl12⟩) (c12:PySem.W.codeIn K cd12 "_law_great" = true) (k12:PySem.W.keepIn K (.ref f12)=true)
  (a13:PySem.W.nsIn K mainGlobals "_law_book" = some (some (.ref f13))) (l13:K.lookup f13=some ⟨oc13,od13,.func (PySem.W.fnOf "_law_book" "_law_book" (aS eS) (aO eS) (aq eS) .none kV13 dc13 pm13 an13 cd13 ct13),sl13⟩) (c13:PySem.W.codeIn K cd13 "_law_book" = true) (k13:PySem.W.keepIn K (.ref f13)=true)
  (a14:PySem.W.nsIn K mainGlobals "_law_places" = some (some (.ref f14))) (l14:K.lookup f14=some ⟨oc14,od14,.func (PySem.W.fnOf "_law_places" "_law_places" (aS dj) (aO dj) (aq dj) .none kV14 dc14 pm14 an14 cd14 ct14),sl14⟩) (c14:PySem.W.codeIn K cd14 "_law_places" = true) (k14:PySem.W.keepIn K (.ref f14)=true)
  (a15:PySem.W.nsIn K mainGlobals "_law_by_size" = some (some (.ref f15))) (l15:K.lookup f15=some ⟨oc15,od15,.func (PySem.W.fnOf "_law_by_size" "_law_by_size" (aS cP) (aO cP) (aq cP) .none kV15 dc15 pm15 an15 cd15 ct15),sl15⟩) (c15:PySem.W.codeIn K cd15 "_law_by_size" = true) (k15:PySem.W.keepIn K (.ref f15)=true)
  (a16:PySem.W.nsIn K mainGlobals "_law_stands" = some (some (.ref f16))) (l16:K.lookup f16=some ⟨oc16,od16,.func (PySem.W.fnOf "_law_stands" "_law_stands" (aS dw) (aO dw) (aq dw) .none kV16 dc16 pm16 an16 cd16 ct16),sl16⟩) (c16:PySem.W.codeIn K cd16 "_law_stands" = true) (k16:PySem.W.keepIn K (.ref f16)=true)
  (a17:PySem.W.nsIn K mainGlobals "_law_numbers" = some (some (.ref f17))) (l17:K.lookup f17=some ⟨oc17,od17,.func (PySem.W.fnOf "_law_numbers" "_law_numbers" (aS cR) (aO cR) (aq cR) .none kV17 dc17 pm17 an17 cd17 ct17),sl17⟩) (c17:PySem.W.codeIn K cd17 "_law_numbers" = true) (k17:PySem.W.keepIn K (.ref f17)=true)
  (a18:PySem.W.nsIn K mainGlobals "_law_table" = some (some (.ref f18))) (l18:K.lookup f18=some ⟨oc18,od18,.func (PySem.W.fnOf "_law_table" "_law_table" (aS dW) (aO dW) (aq dW) .none kV18 dc18 pm18 an18 cd18 ct18),sl18⟩) (c18:PySem.W.codeIn K cd18 "_law_table" = true) (k18:PySem.W.keepIn K (.ref f18)=true)
  (a19:PySem.W.nsIn K mainGlobals "_law_whole" = some (some (.ref f19))) (l19:K.lookup f19=some ⟨oc19,od19,.func (PySem.W.fnOf "_law_whole" "_law_whole" (aS dX) (aO dX) (aq dX) .none kV19 dc19 pm19 an19 cd19 ct19),sl19⟩) (c19:PySem.W.codeIn K cd19 "_law_whole" = true) (k19:PySem.W.keepIn K (.ref f19)=true)
  (a20:PySem.W.nsIn K mainGlobals "_law_same" = some (some (.ref f20))) (l20:K.lookup f20=some ⟨oc20,od20,.func (PySem.W.fnOf "_law_same" "_law_same" (aS eR) (aO eR) (aq eR) .none kV20 dc20 pm20 an20 cd20 ct20),sl20⟩) (c20:PySem.W.codeIn K cd20 "_law_same" = true) (k20:PySem.W.keepIn K (.ref f20)=true)
  (a21:PySem.W.nsIn K mainGlobals "_law_firsts" = some (some (.ref f21))) (l21:K.lookup f21=some ⟨oc21,od21,.func (PySem.W.fnOf "_law_firsts" "_law_firsts" (aS dq) (aO dq) (aq dq) .none kV21 dc21 pm21 an21 cd21 ct21),sl21⟩) (c21:PySem.W.codeIn K cd21 "_law_firsts" = true) (k21:PySem.W.keepIn K (.ref f21)=true)
  (a22:PySem.W.nsIn K mainGlobals "_law_asked" = some (some (.ref f22))) (l22:K.lookup f22=some ⟨oc22,od22,.func (PySem.W.fnOf "_law_asked" "_law_asked" (aS dR) (aO dR) (aq dR) .none kV22 dc22 pm22 an22 cd22 ct22),sl22⟩) (c22:PySem.W.codeIn K cd22 "_law_asked" = true) (k22:PySem.W.keepIn K (.ref f22)=true)
  (a23:PySem.W.nsIn K mainGlobals "law" = some (some (.ref f23))) (l23:K.lookup f23=some ⟨oc23,od23,.func (PySem.W.fnOf "law" "law" (aS jK) (aO jK) (aq jK) .none kV23 dc23 pm23 an23 cd23 ct23),sl23⟩) (c23:PySem.W.codeIn K cd23 "law" = true) (k23:PySem.W.keepIn K (.ref f23)=true)
  (z_bool:PySem.W.nsIn K mainGlobals "bool" = some none)
  (z_dict:PySem.W.nsIn K mainGlobals "dict" = some none)
  (z_enumerate:PySem.W.nsIn K mainGlobals "enumerate" = some none)
  (z_int:PySem.W.nsIn K mainGlobals "int" = some none)
  (z_isinstance:PySem.W.nsIn K mainGlobals "isinstance" = some none)
  (z_len:PySem.W.nsIn K mainGlobals "len" = some none)
  (z_list:PySem.W.nsIn K mainGlobals "list" = some none)
  (z_min:PySem.W.nsIn K mainGlobals "min" = some none)
  (z_range:PySem.W.nsIn K mainGlobals "range" = some none)
  (z_sorted:PySem.W.nsIn K mainGlobals "sorted" = some none)
  (z_tuple:PySem.W.nsIn K mainGlobals "tuple" = some none)
  : ∃ fd:FuncData,(∀ (s:Shared) (v:Value),BindsTo s fd ⟨[v],[]⟩ [("_law_script",v)])/\∀ base:Heap,K.In base->base.Ns mainGlobals mg->FnOk l.prog w K mg base CX0 7 fa fd ["_law_script"] (spF (gx0 K) o8):=by
 have e:=hfa.symm.trans (Z6 X G a23)
 cases e
 have B:Blt mg:=⟨Yl X G z_bool,Yl X G z_dict,Yl X G z_enumerate,Yl X G z_int,Yl X G z_isinstance,Yl X G z_len,Yl X G z_list,Yl X G z_min,Yl X G z_range,Yl X G z_sorted,Yl X G z_tuple⟩
 refine ⟨PySem.W.fnOf "law" "law" (aS jK) (aO jK) (aq jK) .none kV23 dc23 pm23 an23 cd23 ct23,fun s v=>.of_eq rfl,fun base _ _=>?_⟩
 have gg:=gg (P:=l.prog) (w:=w) (base:=base) (bK (st:=eV) l0 c0 k0) (Z6 X G a0) B
 have mN:=mN (P:=l.prog) (w:=w) (base:=base) (bK (st:=ku) l1 c1 k1) (Z6 X G a1) B
 have bW:=bW (P:=l.prog) (w:=w) (base:=base) (bK (st:=bI) l2 c2 k2) (Z6 X G a2) B gg
 have j8:=j8 (P:=l.prog) (w:=w) (base:=base) (bK (st:=i9) l3 c3 k3) (Z6 X G a3) B bW
 have cw:=cw (P:=l.prog) (w:=w) (base:=base) (bK (st:=dS) l4 c4 k4) (Z6 X G a4) B j8 mN
 have iO:=iO (P:=l.prog) (w:=w) (base:=base) (bK (st:=gU) l5 c5 k5) (Z6 X G a5) B cw
 have iW:=iW (P:=l.prog) (w:=w) (base:=base) (bK (st:=gR) l6 c6 k6) (Z6 X G a6) B cw
 have eW:=eW (P:=l.prog) (w:=w) (base:=base) (bK (st:=eI) l7 c7 k7) (Z6 X G a7) B
 have aL:=aL (P:=l.prog) (w:=w) (base:=base) (bK (st:=d3) l8 c8 k8) (Z6 X G a8) B
 have bF:=bF (P:=l.prog) (w:=w) (base:=base) (bK (st:=dY) l9 c9 k9) (Z6 X G a9) B
 have cO:=cO (P:=l.prog) (w:=w) (base:=base) (bK (st:=bQ) l10 c10 k10) (Z6 X G a10) B bF
 have cM:=cM (P:=l.prog) (w:=w) (base:=base) (bK (st:=bR) l11 c11 k11) (Z6 X G a11) B aL bF
 have fi:=fi (P:=l.prog) (w:=w) (base:=base) (bK (st:=dZ) l12 c12 k12) (Z6 X G a12) B aL bF
 have gp:=gp (P:=l.prog) (w:=w) (base:=base) (bK (st:=eS) l13 c13 k13) (Z6 X G a13) B cO cM eW fi aL
 have d9:=d9 (P:=l.prog) (w:=w) (base:=base) (bK (st:=dj) l14 c14 k14) (Z6 X G a14) B
 have dB:=dB (P:=l.prog) (w:=w) (base:=base) (bK (st:=cP) l15 c15 k15) (Z6 X G a15) B
 have d7:=d7 (P:=l.prog) (w:=w) (base:=base) (bK (st:=dw) l16 c16 k16) (Z6 X G a16) B dB
 have dA:=dA (P:=l.prog) (w:=w) (base:=base) (bK (st:=cR) l17 c17 k17) (Z6 X G a17) B
 have fu:=fu (P:=l.prog) (w:=w) (base:=base) (bK (st:=dW) l18 c18 k18) (Z6 X G a18) B
 have fB:=fB (P:=l.prog) (w:=w) (base:=base) (bK (st:=dX) l19 c19 k19) (Z6 X G a19) B
 have fT:=fT (P:=l.prog) (w:=w) (base:=base) (bK (st:=eR) l20 c20 k20) (Z6 X G a20) B fB
 have eA:=eA (P:=l.prog) (w:=w) (base:=base) (bK (st:=dq) l21 c21 k21) (Z6 X G a21) B
 have cW:=cW (P:=l.prog) (w:=w) (base:=base) (bK (st:=dR) l22 c22 k22) (Z6 X G a22) B eA dA d9 fT d7 fu iO iW
 exact Cj (bK (st:=jK) l23 c23 k23) B cW gp
end T22
open PySem PySem.W PyProof.Rows PySem.W.X PySem.W.ZRun
set_option maxRecDepth 100000 in
set_option maxHeartbeats 0 in
theorem PySem.Challenge.cw_allparts_k22_counts_and_firsts_holds : PySem.Challenge.rw_allparts_k22_counts_and_firsts.Holds := by
 w_on;o_law;z_head;(case hw=>w_witness2)
 k_fill
 intro w s₀ s₁ mg mb G y fa o pm cd doc dV kV ho hd hcd hD hmg hg args vals as L hpre hlay hrd hwl hlo
 z_open y L KX ZH ZN ZT
 clear ZH ZN ZT
 refine VS.xZ (l:=PySem.Challenge.rw_allparts_k22_counts_and_firsts) (k:=7) (x := "_law_script") (g:=T22.o8) rfl rfl ⟨rfl,by decide,by decide⟩ T22.yd ?F w s₀ s₁ mg mb G KX fa o pm cd doc dV kV ho hd hcd hD hmg hg args vals as hpre hlay hrd hwl hlo
 case F =>
  intro w mg fa h KX G hmg
  refine' T22.all_mk KX G hmg ?a0 ?l0 ?c0 ?k0 ?a1 ?l1 ?c1 ?k1 ?a2 ?l2 ?c2 ?k2 ?a3 ?l3 ?c3 ?k3 ?a4 ?l4 ?c4 ?k4 ?a5 ?l5 ?c5 ?k5 ?a6 ?l6 ?c6 ?k6 ?a7 ?l7 ?c7 ?k7 ?a8 ?l8 ?c8 ?k8 ?a9 ?l9 ?c9 ?k9 ?a10 ?l10 ?c10 ?k10 ?a11 ?l11 ?c11 ?k11 ?a12 ?l12 ?c12 ?k12 ?a13 ?l13 ?c13 ?k13 ?a14 ?l14 ?c14 ?k14 ?a15 ?l15 ?c15 ?k15 ?a16 ?l16 ?c16 ?k16 ?a17 ?l17 ?c17 ?k17 ?a18 ?l18 ?c18 ?k18 ?a19 ?l19 ?c19 ?k19 ?a20 ?l20 ?c20 ?k20 ?a21 ?l21 ?c21 ?k21 ?a22 ?l22 ?c22 ?k22 ?a23 ?l23 ?c23 ?k23 ?z_bool ?z_dict ?z_enumerate ?z_int ?z_isinstance ?z_len ?z_list ?z_min ?z_range ?z_sorted ?z_tuple
  (case a0=>k_is)
  (case l0=>k_is)
  (case c0=>k_is)
  (case k0=>k_is)
  (case a1=>k_is)
  (case l1=>k_is)
  (case c1=>k_is)
  (case k1=>k_is)
  (case a2=>k_is)
  (case l2=>k_is)
  (case c2=>k_is)
  (case k2=>k_is)
  (case a3=>k_is)
  (case l3=>k_is)
  (case c3=>k_is)
  (case k3=>k_is)
  (case a4=>k_is)
  (case l4=>k_is)
  (case c4=>k_is)
  (case k4=>k_is)
  (case a5=>k_is)
  (case l5=>k_is)
  (case c5=>k_is)
  (case k5=>k_is)
  (case a6=>k_is)
  (case l6=>k_is)
  (case c6=>k_is)
  (case k6=>k_is)
  (case a7=>k_is)
  (case l7=>k_is)
  (case c7=>k_is)
  (case k7=>k_is)
  (case a8=>k_is)
  (case l8=>k_is)
  (case c8=>k_is)
  (case k8=>k_is)
  (case a9=>k_is)
  (case l9=>k_is)
  (case c9=>k_is)
  (case k9=>k_is)
  (case a10=>k_is)
  (case l10=>k_is)
  (case c10=>k_is)
  (case k10=>k_is)
  (case a11=>k_is)
  (case l11=>k_is)
  (case c11=>k_is)
  (case k11=>k_is)
  (case a12=>k_is)
  (case l12=>k_is)
  (case c12=>k_is)
  (case k12=>k_is)
  (case a13=>k_is)
  (case l13=>k_is)
  (case c13=>k_is)
  (case k13=>k_is)
  (case a14=>k_is)
  (case l14=>k_is)
  (case c14=>k_is)
  (case k14=>k_is)
  (case a15=>k_is)
  (case l15=>k_is)
  (case c15=>k_is)
  (case k15=>k_is)
  (case a16=>k_is)
  (case l16=>k_is)
  (case c16=>k_is)
  (case k16=>k_is)
  (case a17=>k_is)
  (case l17=>k_is)
  (case c17=>k_is)
  (case k17=>k_is)
  (case a18=>k_is)
  (case l18=>k_is)
  (case c18=>k_is)
  (case k18=>k_is)
  (case a19=>k_is)
  (case l19=>k_is)
  (case c19=>k_is)
  (case k19=>k_is)
  (case a20=>k_is)
  (case l20=>k_is)
  (case c20=>k_is)
  (case k20=>k_is)
  (case a21=>k_is)
  (case l21=>k_is)
  (case c21=>k_is)
  (case k21=>k_is)
  (case a22=>k_is)
  (case l22=>k_is)
  (case c22=>k_is)
  (case k22=>k_is)
  (case a23=>k_is)
  (case l23=>k_is)
  (case c23=>k_is)
  (case k23=>k_is)
  (case z_bool=>k_is)
  (case z_dict=>k_is)
  (case z_enumerate=>k_is)
  (case z_int=>k_is)
  (case z_isinstance=>k_is)
  (case z_len=>k_is)
  (case z_list=>k_is)
  (case z_min=>k_is)
  (case z_range=>k_is)
  (case z_sorted=>k_is)
  (case z_tuple=>k_is)
end
