import PyProof.Rows.All
import Wide.All
import OpenK.AllK
import Wide.FinOn
import Lean
import PyProof.EqAt
import PyProof.EqKinds
import PyProof.TupleCall
import PyProof.Rows.SortShellK
import PyProof.Rows.SortStr
import PyProof.Rows.SortWalk
import PyProof.StrBlockH
import PyProof.StrLawsIn
import PyProof.Rows.SetFrom
import PyProof.CollectWalk
import KE.KDictSum
import PyProof.ListStr
import PyProof.SeqI3
import PyProof.Rows.CallKwBuiltin
import PyProof.ListRange
import PyProof.AttrMissSeq
import PyProof.DictUpdate
import PyProof.DictList
import PyProof.ListNew
import PyProof.FactsAll.dict_1
import PyProof.SliceList
import PyProof.WalkInts
import PyProof.StationsW
import OpenK.KOwn
import KE.KTryMore
import PyProof.NsDelKeeps
import PyProof.ExcArgsOwn
import PyProof.ExcAttrAll.Exception
import OpenK.KDescr
import KE.KIsAll
import PyProof.ExcBaseAll.ValueError
import PySem.Challenge.RW_allparts_k16_stands_refused
theorem PySem.W.Fast.tw4784163632409501475:True:=trivial
theorem PySem.W.Fast.tw7515505264814456160:True:=trivial
theorem PySem.W.Fast.tw16040599689440044752:True:=trivial
theorem PySem.W.Fast.tw1520639454558330065:True:=trivial
theorem PySem.W.Fast.tw3839048287203954119:True:=trivial
theorem PySem.W.Fast.tw15858897939658835682:True:=trivial
theorem PySem.W.Fast.tw3866450378792748119:True:=trivial
theorem PySem.W.Fast.tw4521573799601943523:True:=trivial
theorem PySem.W.Fast.tw7365563859389673677:True:=trivial
theorem PySem.W.Fast.tw3500123982987830234:True:=trivial
theorem PySem.W.Fast.tw16635150673707538899:True:=trivial
theorem PySem.W.Fast.tw2640090051853259414:True:=trivial
theorem PySem.W.Fast.tw17533499949498326854:True:=trivial
theorem PySem.W.Fast.tw4655094980386819161:True:=trivial
theorem PySem.W.Fast.tw13961976061348756910:True:=trivial
theorem PySem.W.Fast.tw12218995961955645588:True:=trivial
theorem PySem.W.Fast.tw8305742578543798269:True:=trivial
theorem PySem.W.Fast.tw11778090814841627676:True:=trivial
theorem PySem.W.Fast.tw2056530453529374577:True:=trivial
theorem PySem.W.Fast.tw16799886746702723368:True:=trivial
theorem PySem.W.Fast.tw6110510611468085238:True:=trivial
theorem PySem.W.Fast.tw11832646020622246525:True:=trivial
theorem PySem.W.Fast.tw1767198896460774284:True:=trivial
theorem PySem.W.Fast.tw1744631323505842714:True:=trivial
theorem PySem.W.Fast.tw14744370118058079053:True:=trivial
theorem PySem.W.Fast.tw6106275193327731981:True:=trivial
theorem PySem.W.Fast.tw6559206212911286291:True:=trivial
theorem PySem.W.Fast.tw4026262779315436604:True:=trivial
theorem PySem.W.Fast.tw10150373424881409248:True:=trivial
theorem PySem.W.Fast.tw2071746124580171673:True:=trivial
theorem PySem.W.Fast.tw10664542873110463433:True:=trivial
theorem PySem.W.Fast.tw14549027322399381643:True:=trivial
theorem PySem.W.Fast.tw2479823146890498319:True:=trivial
theorem PySem.W.Fast.tw7767254315199674045:True:=trivial
theorem PySem.W.Fast.tw3152198186154528785:True:=trivial
theorem PySem.W.Fast.tw9045641271205729818:True:=trivial
theorem PySem.W.Fast.tw17202805706597960476:True:=trivial
theorem PySem.W.Fast.tw6022725407801025620:True:=trivial
theorem PySem.W.Fast.tw13143668343546721216:True:=trivial
theorem PySem.W.Fast.tw5779965523163399505:True:=trivial
set_option linter.all false
set_option maxRecDepth 100000
set_option Elab.async false
set_option maxHeartbeats 4000000
abbrev Z9:=PySem.Value->PySem.Shared->Prop
abbrev Yz:=List (PySem.Addr×PySem.Obj)
abbrev Yk:=List (List PySem.Addr)
abbrev Xy:=PySem.W.Frag
abbrev Xm:=PySem.Str->Option PySem.Value
abbrev Xl:=List PySem.Addr
abbrev Xg:=List PySem.Value
abbrev Wr:=Option PySem.Value
abbrev W9:=List Nat
abbrev Vz:=List Int
abbrev Vy:=List (List (List Nat))
abbrev Zq:=@if_pos
abbrev Zn:=@if_neg
abbrev ZL:=@decide_eq_false
open Option renaming bind_eq_some_iff->Zz,map_eq_some_iff->Zo,bind_some->Zk,map_some->YO,getD_some->Xk,isSome_iff_exists->Ww,getD_none->W2
open PySem renaming wpAny_bind->Zy,wpAny_pure->Zs,wpAny_mono->Yp,wpAny_truthy_bool->Yj,wpAny_holding->YN,wpAny_specialOf->Xq,wpAny_passesOwn->Xp,mem_of_lookup->Xf,wpAny_forIn_list->Xa,wpAny_call_entry->XZ,wpAny_Call_Name_kw->XQ,wpAny_field->XO,wpAny_newObj_type->XJ,wpAny_rule->XB,wpAny_typeNameOfWhole_keyiter->X0,wpAny_execs_nil->X4,codeAny_mono->Wz,wpAny_setField->Wt,wpAny_attempt->Wg,wpAny_isInstance->Wb,look_same->Wa,wpAny_typeOf->WX,isSubtype_tuple_tuple->WU,wpAny_seqItems->WM,sizeLine_eq->WK
open List renaming mem_cons_of_mem->Zx,mem_cons_self->Zw,length_append->Zv,map_cons->Zu,length_map->Zt,mem_cons->Zr,length_cons->Zi,mem_append->Zh,mem_singleton->Zg,flatten_cons->Zf,append_assoc->Zc,getElem?_eq_some_iff->Zb,getElem?_eq_getElem->Za,size_toArray->ZZ,length_singleton->ZX,length_take->ZS,length_drop->ZR,nodup_cons->ZJ,zip_cons_cons->ZG,pairwise_append->ZF,getD_eq_getElem?_getD->ZE,nodup_append->ZD,mem_append_right->ZA,getElem?_map->Z1,flatten_append->Z2,take_of_length_le->Z5,find?_cons->Z6,append_nil->Z7,mem_range->Yx,getElem?_append_right->Yw,mem_map->Yv,getElem_of_mem->Yu,length_range->Yt,getElem?_append_left->Yo,map_append->Ym,mem_of_mem_take->Yi,findIdx?_cons->Yh,length_zip->Ye,length_nil->Yd,getElem?_set_self->Yc,all_eq_true->Yb,drop_eq_getElem_cons->Ya,take_append_drop->YX,mem_of_mem_drop->YW,mem_append_left->YV,getElem?_set_ne->YU,sublist_cons_self->YS,map_nil->YR,drop_eq_nil_of_le->YQ,getElem?_eq_none_iff->YM,perm_append_comm->YL,map_map->YK,nil_append->YG,any_cons->YE,lookup_cons->YD,pairwise_iff_getElem->YC,mem_of_getElem?->Y0,mem_reverse->Y5,getElem?_replicate->Y6,drop_of_length_le->Y9,length_set->Xv,length_replicate->Xu,getElem_take->Xs,getElem_drop->Xr,getElem_mem->Xh,getD_cons_succ->Xe,zip_append->Xb,pairwise_cons->XY,filter_cons_of_neg->XX,drop_zero->XT,drop_append->XM,take_append_of_le_length->XI,mem_filter->XE,filterMap_cons->XC,drop_take->X2,getElem?_zip_eq_some->X5,mem_range'_1->X6,all_cons->Wv,zipIdx_cons->Wo,length_eq_zero_iff->Wn,getElem?_cons_succ->Wm,filter_cons_of_pos->Wl,flatten_singleton->Wj,of_mem_zip->Wi,getElem?_eq_none->We,cons_lt_cons_iff->Wd,lt_irrefl->WZ,length_pos_iff->WW,mem_filterMap->WQ,append_of_mem->WO,pairwise_map->WD,filter_congr->WC,suffix_of_suffix_length_le->W0,perm_middle->W5,mem_flatten->W6,map_snd_zip->W7,drop_suffix->W8
open Nat renaming le_refl->Zp,le_trans->ZV,zero_le->ZU,lt_of_lt_of_le->ZQ,le_of_lt->ZO,le_add_right->ZI,ne_of_lt->Z0,pos_of_ne_zero->Yr,min_eq_left->Yf,le_of_lt_succ->YY,sub_le->YT,add_sub_cancel_left->YH,le_add_left->YB,lt_of_succ_lt->YA,lt_irrefl->Y3,succ_le_succ->Y4,zero_add->Y7,le_add_right_of_le->Y8,le_of_not_lt->Xj,le_of_not_le->Xi,add_assoc->Xd,le_of_succ_le->XU,lt_or_ge->XA,add_sub_cancel->X1,min_eq_right->Wp,le_of_eq->Wk,lt_of_le_of_lt->WR,sub_pos_of_lt->WJ,ne_of_gt->WI,lt_succ_of_lt->WH,lt_of_succ_le->WG,add_sub_of_le->WE,not_lt_of_le->W3,lt_of_not_le->W4
open Bool renaming false_ne_true->Zm,false_eq_true->ZC,and_eq_true->Z3,not_true->Xc,and_eq_true_iff->XG,true_eq_false->WN
open PyProof.Rows renaming wpS_pure->Zl,wpS_bind->Zd,wpS_forRange->Yn,wpS_mono->Y1,callWith_type1->Xt,wpS_modify->XD,size_push'->Wu,listUpdate_at->Ws,wpS_get->Wc
open Array renaming getElem_mem->Zj,getElem?_toList->Z8,toList_append->Yl,length_toList->YZ,perm_iff_toList_perm->Xn,toList_extract->XF,forIn_toList->X3,toList_reverse->WY,toList_push->WA
open PySem.Heap renaming get?_push_of_some->Ze,lt_size->ZY,get?_push_size->ZM,get?_update_other->Yq,size_update->YJ,get?_update_self->Y2,get?_update_ne->Xz,get?_push_ne->XH
open PySem.W renaming mg_of->ZW,mg_none_of->Ys,kia_one->Yg
open Int renaming emod_lt_of_pos->ZP,emod_nonneg->Z4,toNat_natCast->X8
open Option.some renaming inj->ZK
open PySem.PassesOwn renaming never->Yy
open Ne renaming symm->YI
open List.cons renaming injEq->YF
open PySem.F renaming slot_dict_setdefault->Xw,slot_dict_keyiterator_next->Xo,type_list_append->Wy,slot_list_append->Wx,plainAttrs_list->Wq,slot_tuple_hash->Wh,slot_tuple_eq->WV,args_dict_setdefault_3->W1
open List.Perm renaming refl->XS
open List.Sublist renaming refl->X7
open PySem.Heap.SameBut renaming update->X9
open PySem.Paired renaming length->Wf
open PySem.W.KFB renaming if_not->WT
open PySem.Obj renaming isFreed_of_fields->WS
open PySem.Calls renaming evalArgs_plain->WB
section
namespace L2
theorem gC {G:Prop} (h:∀ P:Prop,(G->P)->P):G:=h G id
end L2
namespace VS
noncomputable abbrev Tx:=W9
inductive T where
 | non | bl (b:Bool) | int (i:Int) | str (s:Tx) | scr (ns:Vz)
 | tup (l:List T) | lst (l:List T) | dct (kd:Nat) (l:List (T×T)) | obj (c:Nat) (fs:List (Nat×T))
 deriving Inhabited
abbrev Vu:=List T
noncomputable def g9:Nat:=16777216
mutual
@[simp] noncomputable def imm:T->Bool
 | .lst _=>false
 | .dct _ _=>false
 | .obj _ _=>false
 | .tup l=>fN l
 | _=>true
@[simp] noncomputable def fN:Vu->Bool
 | []=>true
 | t :: r=>imm t && fN r
end
mutual
@[simp] noncomputable def eqT:T->T->Bool
 | .non,.non=>true
 | .bl a,.bl b=>a == b
 | .bl a,.int i=>(if a then 1 else 0) == i
 | .int i,.bl a=>i == (if a then 1 else 0)
 | .int i,.int j=>i == j
 | .str s,.str t=>s == t
 | .tup a,.tup b=>mI a b
 | .lst a,.lst b=>mI a b
 | _,_=>false
@[simp] noncomputable def mI:Vu->Vu->Bool
 | [],[]=>true
 | a :: as,b :: bs=>eqT a b && mI as bs
 | _,_=>false
end
@[simp] noncomputable def eqD:Nat->T->Bool
 | _,.non=>true
 | _,.bl _=>true
 | _,.int _=>true
 | _,.str _=>true
 | n+1,.tup l=>l.all (eqD n)
 | n+1,.lst l=>l.all (eqD n)
 | _,_=>false
inductive Md where | fr | pu | bo
 deriving DecidableEq,Inhabited
@[simp] noncomputable def Md.join:Md->Md->Md
 | .bo,_=>.bo
 | _,.bo=>.bo
 | .pu,_=>.pu
 | _,.pu=>.pu
 | .fr,.fr=>.fr
inductive Cell where | pu (t:T) | ow (t:T)
 deriving Inhabited
abbrev Vx:=Option Cell
noncomputable abbrev Env:=List (Vx)
noncomputable abbrev Val:=Md×T
abbrev Vv:=Option Val
abbrev Vw:=List Val
noncomputable abbrev Ex:=Env->Vv
noncomputable abbrev Exs:=Env->Option (Vw)
@[simp] noncomputable def up (m:Md) (t:T):Val:=(if imm t then .fr else m,t)
@[simp] noncomputable def Fc:T->Bool
 | .lst _=>true
 | .dct _ _=>true
 | .obj _ _=>true
 | _=>false
@[simp] noncomputable def cellOf:Val->Vx
 | (.fr,t)=>some (if Fc t then .ow t else .pu t)
 | (.pu,t)=>some (.pu t)
 | (.bo,_)=>none
inductive Out where | nx (η:Env) | rt (v:Val) (η:Env) | bk (η:Env) | ct (η:Env)
noncomputable abbrev Sx:=Env->Option Out
@[simp] noncomputable def eC (t:T) (_:Env):Vv:=some (.fr,t)
@[simp] noncomputable def aj (i:Nat) (η:Env):Vv:=match η[i]? with
 | some (some (.pu t))=>some (up .pu t)
 | some (some (.ow t))=>some (.bo,t)
 | _=>none
@[simp] noncomputable def e1 (f:Val->Vv) (a:Ex) (η:Env):Vv:=(a η).bind f
@[simp] noncomputable def e2 (f:Val->Val->Vv) (a b:Ex) (η:Env):Vv:=(a η).bind fun x=>(b η).bind fun y=>f x y
@[simp] noncomputable def aA (_:Env):Option (Vw):=some []
@[simp] noncomputable def ah (a:Ex) (r:Exs) (η:Env):Option (Vw):=(a η).bind fun x=>(r η).bind fun xs=>some (x :: xs)
@[simp] noncomputable def eN (f:Vw->Vv) (as:Exs) (η:Env):Vv:=(as η).bind f
@[simp] noncomputable def bX:Vw->Md
 | []=>.fr
 | v :: r=>v.1.join (bX r)
@[simp] noncomputable def trees (l:Vw):Vu:=l.map (·.2)
noncomputable def mkL (m:Md) (l:Vu):Vv:=if l.length<=g9 then some (if fN l then .fr else m,.lst l) else none
@[simp] noncomputable def gr (as:Exs) (η:Env):Vv:=(as η).bind fun l=>mkL (bX l) (trees l)
noncomputable def pS (l:Vw):Vv:=if l.length<=g9 then some (up (bX l) (.tup (trees l))) else none
@[simp] noncomputable def kI (as:Exs) (η:Env):Vv:=(as η).bind pS
noncomputable def dput (l:List (T×T)) (k v:T):List (T×T):=if l.any (fun p=>eqT p.1 k) then l.map (fun p=>if eqT p.1 k then (p.1,v) else p) else l++[(k,v)]
noncomputable def ki:T->Bool
 | .int _=>true
 | .str _=>true
 | _=>false
noncomputable def keyOk:Nat->T->Bool
 | 0,t=>ki t
 | 1,.tup l=>l.all ki
 | _,_=>false
noncomputable def pairs:List (Ex×Ex)->Env->Option (List (Val×Val))
 | [],_=>some []
 | (a,b) :: r,η=>(a η).bind fun x=>(b η).bind fun y=>(pairs r η).map ((x,y) :: ·)
noncomputable def kg (kd:Nat) (ps:List (Ex×Ex)) (η:Env):Vv:=(pairs ps η).bind fun l=>if l.all (fun p=>keyOk kd p.1.2)/\l.length<=15 then
 some (bX (l.map (·.2)),.dct kd (l.foldl (fun d p=>dput d p.1.2 p.2.2) [])) else none
@[simp] noncomputable def tru:T->Option Bool
 | .bl b=>some b
 | .int i=>some (i != 0)
 | .str s=>some (!s.isEmpty)
 | .lst l=>some (!l.isEmpty)
 | .tup l=>some (!l.isEmpty)
 | .dct 0 l=>some (!l.isEmpty)
 | .non=>some false
 | _=>none
@[simp] noncomputable def i0 (a b:Ex) (η:Env):Vv:=(a η).bind fun x=>match x.2 with
 | .bl true=>b η
 | .bl false=>some (.fr,.bl false)
 | _=>none
@[simp] noncomputable def eOr (a b:Ex) (η:Env):Vv:=(a η).bind fun x=>match x.2 with
 | .bl true=>some (.fr,.bl true)
 | .bl false=>b η
 | _=>none
@[simp] noncomputable def gO (a:Ex) (η:Env):Vv:=(a η).bind fun x=>match x.2 with
 | .bl b=>some (.fr,.bl (!b))
 | _=>none
@[simp] noncomputable def eIf (c a b:Ex) (η:Env):Vv:=(c η).bind fun x=>(tru x.2).bind fun t=>if t then a η else b η
@[simp] noncomputable def isN:T->Bool
 | .non=>true
 | _=>false
@[simp] noncomputable def Gm (a:Ex) (η:Env):Vv:=(a η).bind fun x=>some (.fr,.bl (isN x.2))
@[simp] noncomputable def lU (a:Ex) (η:Env):Vv:=(a η).bind fun x=>some (.fr,.bl (!isN x.2))
@[simp] noncomputable def eY (f g:Val->Val->Vv) (a b c:Ex) (η:Env):Vv:=(a η).bind fun x=>(b η).bind fun y=>(f x y).bind fun r=>match r.2 with
 | .bl true=>(c η).bind fun z=>g y z
 | .bl false=>some (.fr,.bl false)
 | _=>none
@[simp] noncomputable def int?:T->Option Int
 | .int i=>some i
 | _=>none
noncomputable def bR:Val->Val->Vv
 | (_,.int i),(_,.int j)=>some (.fr,.int (i+j))
 | (_,.str s),(_,.str t)=>if s.length+t.length<=g9 then some (.fr,.str (s++t)) else none
 | (m,.lst s),(n,.lst t)=>mkL (m.join n) (s++t)
 | _,_=>none
@[simp] noncomputable def kJ:Val->Val->Vv
 | (_,.int i),(_,.int j)=>some (.fr,.int (i - j))
 | _,_=>none
noncomputable def B62:Int:=4611686018427387904
noncomputable def B64:Int:=18446744073709551616
noncomputable def eI:Val->Val->Vv
 | (_,.int i),(_,.int j)=>if (-B64 < i/\i < B64)\/(-B64 < j/\j < B64) then some (.fr,.int (i * j)) else none
 | _,_=>none
noncomputable def fz:Val->Val->Vv
 | (_,.int i),(_,.int j)=>if 0 < j/\j < 1073741824 then some (.fr,.int (i / j)) else none
 | _,_=>none
noncomputable def oMod:Val->Val->Vv
 | (_,.int i),(_,.int j)=>if 0 < j then some (.fr,.int (i % j)) else none
 | _,_=>none
noncomputable def ltx:Tx->Tx->Bool
 | [],[]=>false
 | [],_ :: _=>true
 | _ :: _,[]=>false
 | a :: as,b :: bs=>if a < b then true else if b < a then false else ltx as bs
@[simp] noncomputable def oLt:Val->Val->Vv
 | (_,.int i),(_,.int j)=>some (.fr,.bl (decide (i < j)))
 | (_,.str s),(_,.str t)=>some (.fr,.bl (ltx s t))
 | _,_=>none
@[simp] noncomputable def oLe:Val->Val->Vv
 | (_,.int i),(_,.int j)=>some (.fr,.bl (decide (i<=j)))
 | (_,.str s),(_,.str t)=>some (.fr,.bl (!ltx t s))
 | _,_=>none
@[simp] noncomputable def oGt (a b:Val):Vv:=oLt b a
@[simp] noncomputable def oGe (a b:Val):Vv:=oLe b a
@[simp] noncomputable def oEq (a b:Val):Vv:=if eqD 60 a.2/\eqD 60 b.2 then some (.fr,.bl (eqT a.2 b.2)) else none
@[simp] noncomputable def oNe (a b:Val):Vv:=if eqD 60 a.2/\eqD 60 b.2 then some (.fr,.bl (!eqT a.2 b.2)) else none
noncomputable def dq (l:List (T×T)) (k:T):Option T:=(l.find? fun p=>eqT p.1 k).map (·.2)
noncomputable def ixP (n:Nat) (i:Int):Option Nat:=if 0<=i then (if i < n then some i.toNat else none) else (if 0<=i+n then some (i+n).toNat else none)
@[simp] noncomputable def sub (m:Md) (t:T):Val:=up m t
@[simp] noncomputable def aV:Val->Val->Vv
 | (m,.lst l),(_,.int i)=>(ixP l.length i).bind fun k=>(l[k]?).map (sub m)
 | (m,.tup l),(_,.int i)=>(ixP l.length i).bind fun k=>(l[k]?).map (sub m)
 | (_,.scr l),(_,.int i)=>(ixP l.length i).bind fun k=>(l[k]?).map fun n=>(.fr,.int n)
 | (_,.str l),(_,.int i)=>(ixP l.length i).bind fun k=>(l[k]?).map fun n=>(.fr,.str [n])
 | _,_=>none
noncomputable def clip (n:Nat) (i:Int):Nat:=if i < 0 then (i+n).toNat else min i.toNat n
noncomputable def cut {α:Type} (l:List α) (a b:Option Int):List α :=
 let lo:=match a with | none=>0 | some i=>clip l.length i
 let hi:=match b with | none=>l.length | some i=>clip l.length i
 (l.drop lo).take (hi - lo)
@[simp] noncomputable def oSl (v:Val) (a b:Option Int):Vv:=match v with
 | (_,.str s)=>some (.fr,.str (cut s a b))
 | (m,.lst l)=>mkL m (cut l a b)
 | _=>none
@[simp] noncomputable def xJ (c:Option Ex) (η:Env):Option (Option Int):=match c with
 | none=>some none
 | some e=>(e η).bind fun y=>(int? y.2).map some
@[simp] noncomputable def eSl (a:Ex) (lo hi:Option Ex) (η:Env):Vv:=(a η).bind fun x=>(xJ lo η).bind fun l=>(xJ hi η).bind fun h=>oSl x l h
@[simp] noncomputable def E8:T->Option Nat
 | .lst l=>some l.length
 | .tup l=>some l.length
 | .str l=>some l.length
 | .scr l=>some l.length
 | .dct 0 l=>some l.length
 | _=>none
@[simp] noncomputable def d8:Vw->Vv
 | [x]=>(E8 x.2).map fun n=>(.fr,.int n)
 | _=>none
@[simp] noncomputable def nc:Vw->Vv
 | [(_,.int i),(_,.int j)]=>some (.fr,.int (if j < i then j else i))
 | _=>none
@[simp] noncomputable def Gf:Vw->Vv
 | [(_,.int i),(_,.int j)]=>some (.fr,.int (if j > i then j else i))
 | _=>none
noncomputable def strs?:Vu->Option (List Tx)
 | []=>some []
 | .str i :: r=>(strs? r).map (i :: ·)
 | _=>none
noncomputable def oy:Vu->Option (List Bool)
 | []=>some []
 | .bl i :: r=>(oy r).map (i :: ·)
 | _=>none
noncomputable def xi:Vw->Vv
 | [(_,.lst l)]=>(oy l).bind fun bs=>some (.fr,.bl (bs.any id))
 | _=>none
@[simp] noncomputable def Gi:T->Option (Vu)
 | .lst l=>some l
 | .tup l=>some l
 | .scr l=>some (l.map T.int)
 | .str l=>some (l.map fun c=>T.str [c])
 | .dct _ l=>some (l.map (·.1))
 | _=>none
@[simp] noncomputable def Bd:Vw->Vv
 | [(m,.lst l)]=>mkL m l
 | [(m,.tup l)]=>mkL m l
 | _=>none
noncomputable def fW:Vw->Vv
 | [(m,.lst l)]=>if l.length<=g9 then some (up m (.tup l)) else none
 | _=>none
inductive Ty where | int | str | bool | list | tuple | dict
@[simp] noncomputable def p9:Ty->T->Bool
 | .int,.int _=>true
 | .int,.bl _=>true
 | .bool,.bl _=>true
 | .str,.str _=>true
 | .list,.lst _=>true
 | .tuple,.tup _=>true
 | .dict,.dct _ _=>true
 | _,_=>false
@[simp] noncomputable def sS:T->Bool
 | .obj _ _=>false
 | .scr _=>false
 | .dct n _=>n != 2
 | _=>true
@[simp] noncomputable def eIs (t:Ty) (a:Ex) (η:Env):Vv:=(a η).bind fun x=>if sS x.2 then some (.fr,.bl (p9 t x.2)) else none
@[simp] noncomputable def eM (f:Val->Vw->Vv) (o:Ex) (as:Exs) (η:Env):Vv:=(o η).bind fun x=>(as η).bind fun xs=>f x xs
noncomputable abbrev Fn:=Vu->Vv
@[simp] noncomputable def aZ (g:Fn) (as:Exs) (η:Env):Vv:=(as η).bind fun xs=>(g (trees xs)).bind fun r=>match r with
 | (.fr,t)=>some (.fr,t)
 | (_,t)=>some ((Md.pu).join (bX xs),t)
noncomputable abbrev Its:=Env->Option (Md×Vu)
@[simp] noncomputable def FK:Val->Option (Md×Vu)
 | (m,.lst l)=>some (m,l)
 | (m,.tup l)=>some (m,l)
 | (_,.str l)=>some (.fr,l.map fun c=>.str [c])
 | _=>none
@[simp] noncomputable def kG (a:Ex) (η:Env):Option (Md×Vu):=(a η).bind FK
noncomputable def rng (lo:Int) (n:Nat):Vu:=(List.range n).map fun (k:Nat)=>T.int (lo+k)
noncomputable def cw (a:Ex) (η:Env):Option (Md×Vu):=(a η).bind fun x=>(int? x.2).bind fun j=>if -B62<=j/\j < B62 then some (.fr,rng 0 j.toNat) else none
noncomputable def kT (a b:Ex) (η:Env):Option (Md×Vu):=(a η).bind fun x=>(b η).bind fun y=>(int? x.2).bind fun i=>(int? y.2).bind fun j =>
 if (-B62<=i/\i < B62)/\-B62<=j/\j < B62 then some (.fr,rng i (j - i).toNat) else none
noncomputable def d5 (k:Nat):Vu->Vu
 | []=>[]
 | t :: r=>.tup [.int k,t] :: d5 (k+1) r
@[simp] noncomputable def AX:Val->Option (Md×Vu)
 | (m,.lst l)=>some (m,d5 0 l)
 | _=>none
@[simp] noncomputable def ky (a:Ex) (η:Env):Option (Md×Vu):=(a η).bind AX
noncomputable abbrev Tg:=T->Env->Option Env
@[simp] noncomputable def bE (i:Nat) (t:T) (η:Env):Option Env:=if i < η.length then some (η.set i (some (.pu t))) else none
@[simp] noncomputable def lY:List Tg->Vu->Env->Option Env
 | [],[],η=>some η
 | g :: gs,t :: ts,η=>(g t η).bind fun η'=>lY gs ts η'
 | _,_,_=>none
@[simp] noncomputable def ja (gs:List Tg) (t:T) (η:Env):Option Env:=match t with
 | .tup l=>lY gs l η
 | _=>none
@[simp] noncomputable def okI (m:Md) (l:Vu):Bool:=match m with
 | .bo=>fN l
 | _=>true
noncomputable def lr (tg:Tg) (cond:Option Ex) (elt:Ex) (η:Env):Vu->Option (Vw)
 | []=>some []
 | t :: r=>(tg t η).bind fun η'=>(match cond with | none=>some true | some c=>(c η').bind fun x=>tru x.2).bind fun b =>
  if b then (elt η').bind fun v=>(lr tg cond elt η r).map (v :: ·) else lr tg cond elt η r
noncomputable def h9 (k:Nat) (tg:Tg) (it:Its) (cond:Option Ex) (elt:Ex) (η:Env):Vv:=(it η).bind fun (m,l)=>if okI m l then
 (lr tg cond elt (List.replicate k none++η) l).bind fun vs=>mkL (bX vs) (trees vs) else none
@[simp] noncomputable def ic (η:Env):Option Out:=some (.nx η)
@[simp] noncomputable def av (a b:Sx) (η:Env):Option Out:=(a η).bind fun o=>match o with
 | .nx η'=>b η'
 | o=>some o
@[simp] noncomputable def kE (i:Nat) (e:Ex) (η:Env):Option Out:=(e η).bind fun v=>(cellOf v).bind fun c=>if i < η.length then some (.nx (η.set i (some c))) else none
@[simp] noncomputable def aN (i:Nat) (e:Ex) (η:Env):Option Out:=(e η).bind fun v=>match v.1 with
 | .bo=>none
 | _=>if i < η.length then some (.nx (η.set i (some (.pu v.2)))) else none
@[simp] noncomputable def dj (e:Ex) (η:Env):Option Out:=(e η).bind fun v=>some (.rt (match v.1 with | .bo=>.pu | m=>m,v.2) η)
@[simp] noncomputable def iT (i:Nat) (η:Env):Option Out:=match η[i]? with
 | some (some (.ow t))=>some (.rt (.fr,t) (η.set i none))
 | some (some (.pu t))=>some (.rt (up .pu t) η)
 | _=>none
@[simp] noncomputable def Gg (η:Env):Option Out:=some (.rt (.fr,.non) η)
@[simp] noncomputable def Gk (η:Env):Option Out:=some (.bk η)
@[simp] noncomputable def Gd (η:Env):Option Out:=some (.ct η)
@[simp] noncomputable def sIf (c:Ex) (a b:Sx) (η:Env):Option Out:=(c η).bind fun x=>(tru x.2).bind fun t=>if t then a η else b η
noncomputable def forL (tg:Tg) (body:Sx):Vu->Env->Option Out
 | [],η=>some (.nx η)
 | t :: r,η=>(tg t η).bind fun η1=>(body η1).bind fun o=>match o with
  | .nx η2=>forL tg body r η2
  | .ct η2=>forL tg body r η2
  | .bk η2=>some (.nx η2)
  | .rt v η2=>some (.rt v η2)
@[simp] noncomputable def okF:Md->Bool
 | .bo=>false
 | _=>true
@[simp] noncomputable def eW (tg:Tg) (it:Its) (body:Sx) (η:Env):Option Out:=(it η).bind fun (m,l)=>if okF m then forL tg body l η else none
noncomputable def dH (c:Ex) (body:Sx):Nat->Env->Option Out
 | 0,_=>none
 | n+1,η=>(c η).bind fun x=>(tru x.2).bind fun t=>if t then (body η).bind fun o=>match o with
  | .nx η2=>dH c body n η2
  | .ct η2=>dH c body n η2
  | .bk η2=>some (.nx η2)
  | .rt v η2=>some (.rt v η2)
  else some (.nx η)
noncomputable def AG:Nat:=1000000
noncomputable def mq (c:Ex) (body:Sx) (η:Env):Option Out:=dH c body AG η
@[simp] noncomputable def wJ (i:Nat) (η:Env):Option Out:=match η[i]? with
 | some (some (.ow t))=>some (.nx (η.set i (some (.pu t))))
 | some (some (.pu _))=>some (.nx η)
 | _=>none
inductive Stp where | fld (k:Nat) | ix (e:Ex)
inductive Ky where | fld (k:Nat) | at (t:T)
@[simp] noncomputable def keys:List Stp->Env->Option (List Ky)
 | [],_=>some []
 | .fld k :: r,η=>(keys r η).map (.fld k :: ·)
 | .ix e :: r,η=>(e η).bind fun x=>(keys r η).map (.at x.2 :: ·)
noncomputable def FS (fs:List (Nat×T)) (k:Nat):Option T:=fs.lookup k
noncomputable def FL (fs:List (Nat×T)) (k:Nat) (v:T):List (Nat×T):=if fs.any (fun p=>p.1 == k) then fs.map (fun p=>if p.1 == k then (p.1,v) else p) else fs++[(k,v)]
@[simp] noncomputable def zo {α:Type} (f:T->Option (T×α)):List Ky->T->Option (T×α)
 | [],t=>f t
 | .fld k :: r,.obj c fs=>(FS fs k).bind fun x=>(zo f r x).map fun (y,a)=>(.obj c (FL fs k y),a)
 | .at (.int i) :: r,.lst l=>(ixP l.length i).bind fun j=>(l[j]?).bind fun x=>(zo f r x).map fun (y,a)=>(.lst (l.set j y),a)
 | .at k :: r,.dct d l=>(dq l k).bind fun x=>(zo f r x).map fun (y,a)=>(.dct d (dput l k y),a)
 | _,_=>none
noncomputable abbrev Xx:=Env->Option (Val×Env)
@[simp] noncomputable def xP (e:Ex) (η:Env):Option (Val×Env):=(e η).map fun v=>(v,η)
@[simp] noncomputable def lz (i:Nat) (way:List Stp) (f:T->Vw->Option (T×Val)) (as:Exs) (η:Env):Option (Val×Env):=match η[i]? with
 | some (some (.ow t))=>(keys way η).bind fun ks=>(as η).bind fun xs=>(zo (fun x=>f x xs) ks t).map fun (t',v)=>(v,η.set i (some (.ow t')))
 | _=>none
@[simp] noncomputable def fit (v:Val):Option T:=match v.1 with
 | .fr=>some v.2
 | _=>none
noncomputable def bg:T->Vw->Option (T×Val)
 | .lst l,[v]=>(fit v).bind fun t=>if l.length < g9 then some (.lst (l++[t]),(.fr,.non)) else none
 | _,_=>none
@[simp] noncomputable def sX (x:Xx) (η:Env):Option Out:=(x η).map fun r=>.nx r.2
@[simp] noncomputable def Gc (i:Nat) (x:Xx) (η:Env):Option Out:=(x η).bind fun (v,η')=>(cellOf v).bind fun c=>if i < η'.length then some (.nx (η'.set i (some c))) else none
@[simp] noncomputable def Gb (x:Xx) (η:Env):Option Out:=(x η).bind fun (v,η')=>some (.rt (match v.1 with | .bo=>.pu | m=>m,v.2) η')
@[simp] noncomputable def fn (np nn:Nat) (body:Sx):Fn:=fun ts=>if ts.length=np then
 (body (ts.map (fun t=>some (.pu t))++List.replicate (nn - np) none)).bind fun o=>match o with
  | .rt v _=>some v
  | .nx _=>some (.fr,.non)
  | _=>none else none
@[simp] theorem vd {m n:Md} {i j:Int}:bR (m,.int i) (n,.int j)=some (.fr,.int (i+j)):=rfl
theorem jA {m n:Md} {s t:Tx} (h:s.length+t.length<=16777216):bR (m,.str s) (n,.str t)=some (.fr,.str (s++t)):=Zq h
theorem jb {m n:Md} {i j:Int} (h:-18446744073709551616 < i/\i < 18446744073709551616):eI (m,.int i) (n,.int j)=some (.fr,.int (i * j)):=Zq (.inl h)
theorem fE {m n:Md} {i j:Int} (h:0 < j/\j < 1073741824):fz (m,.int i) (n,.int j)=some (.fr,.int (i / j)):=Zq h
theorem bu {m n:Md} {i j:Int} (h:0 < j):oMod (m,.int i) (n,.int j)=some (.fr,.int (i % j)):=Zq h
theorem fJ {l:Vu} {t:T} (h:l.length < 16777216):bg (.lst l) [(.fr,t)]=some (.lst (l++[t]),(.fr,.non)):=by
 simp only [bg,fit,Zk]
 exact Zq h
theorem lh {a:Ex} {η:Env} {m:Md} {j:Int} (e:a η=some (m,.int j)) (h:-4611686018427387904<=j/\j < 4611686018427387904):cw a η=some (.fr,rng 0 j.toNat):=by
 simp only [cw,e,Zk,int?]
 exact Zq h
theorem vM {m:Md} {l:Vu} (h:l.length<=16777216):mkL m l=some (if fN l then .fr else m,.lst l):=Zq h
theorem bw {tg:Tg} {body:Sx} {t:T} {r:Vu} {η η1 η2:Env} (h1:tg t η=some η1) (h2:body η1=some (.nx η2)):forL tg body (t :: r) η=forL tg body r η2:=by
 simp [forL,h1,h2]
theorem strs_map {α:Type} (f:α->Tx):∀ l:List α,strs? (l.map fun x=>T.str (f x))=some (l.map f)
 | []=>rfl
 | a :: r=>by simp [strs?,strs_map f r]
theorem qm (n:Nat):rng 0 n=(List.range n).map fun (k:Nat)=>T.int (k:Int):=by
 unfold rng
 simp
theorem jr {α:Type} (f:α->T) (h:∀ x,imm (f x)=true):∀ l:List α,fN (l.map f)=true
 | []=>rfl
 | a :: r=>by simp [h,jr f h r]
theorem mV {α:Type} {tg:Tg} {elt:Ex} {η:Env} (g:α->T) (f:α->Val):∀ l:List α,(∀ a∈l,∃ η',tg (g a) η=some η'/\elt η'=some (f a))->lr tg none elt η (l.map g)=some (l.map f)
 | [],_=>rfl
 | a :: r,h=>by
  obtain ⟨η',h1,h2⟩:=h a Zw
  simp [lr,h1,h2,mV g f r fun b hb=>h b (Zx _ hb)]
theorem pL {α:Type} (f:α->T):∀ l:List α,bX (l.map fun a=>(Md.fr,f a))=.fr
 | []=>rfl
 | a :: r=>by simp [pL f r]
theorem uV {α:Type} (f:α->Val) (l:List α):trees (l.map f)=l.map fun a=>(f a).2:=by simp
theorem uY {α:Type} {k:Nat} {tg:Tg} {it:Its} {elt:Ex} {η:Env} {m:Md} (g:α->T) (f:α->T) (l:List α) (hi:it η=some (m,l.map g)) (hk:okI m (l.map g)=true) (hl:l.length<=16777216)
  (h:∀ a∈l,∃ η',tg (g a) (List.replicate k none++η)=some η'/\elt η'=some (.fr,f a)):h9 k tg it none elt η=some (.fr,.lst (l.map f)):=by
 simp only [h9,hi,Zk]
 rw [Zq hk,mV g (fun a=>(Md.fr,f a)) l h]
 simp only [Zk,pL,uV]
 rw [vM (by rw [Zt];exact hl)]
 simp
theorem lO {α:Type} {m n:Md} (f:α->T) (l:List α) (i:Int) (d:α) (h0:0<=i) (h1:i < l.length) (hi:imm (f (l.getD i.toNat d))=true):aV (m,.lst (l.map f)) (n,.int i)=some (.fr,f (l.getD i.toNat d)):=by
 have b2:i.toNat < l.length:=by lia
 simp only [ZE,Za b2,Xk] at hi ⊢
 simp [ixP,h0,h1,b2,hi]
theorem lW {l:Vw} (h:l.length<=16777216):pS l=some (up (bX l) (.tup (trees l))):=Zq h
end VS
end
section
namespace L2
open PySem PySem.Spec PyProof.Rows
noncomputable abbrev Key:=Sum Int Str
noncomputable def mQ:Key->Value->Bool
 | .inl k,v=>Value.isInt k v
 | .inr x,v=>Value.isStrOf x v
noncomputable def FU (w:World):Key->Int
 | .inl k=>hashInt k
 | .inr x=>hashStr w x
theorem bP:∀ {k:Key} {v:Value},mQ k v=true->(∃ i t,k=Sum.inl i/\v=Value.int i t)\/(∃ x t,k=Sum.inr x/\v=Value.str x t)
 | .inl i,v,h=>by
  obtain ⟨t,e⟩:=Value.isInt_shape (k:=i) (v:=v) h
  exact .inl ⟨i,t,rfl,e⟩
 | .inr x,v,h=>by
  obtain ⟨t,e⟩:=Value.isStrOf_shape (x:=x) (v:=v) h
  exact .inr ⟨x,t,rfl,e⟩
theorem tK (i:Int) (t:Tok):mQ (.inl i) (.int i t)=true:=by simp [mQ,Value.isInt]
theorem tV (x:Str) (t:Tok):mQ (.inr x) (.str x t)=true:=by simp [mQ,Value.isStrOf]
theorem B0 (a b:Int):decide ((Sum.inl a:Key)=Sum.inl b)=(a == b):=by
 by_cases e:a=b
 ·subst e;simp
 ·have h:¬ (Sum.inl a:Key)=Sum.inl b:=fun q=>e (Sum.inl.inj q)
  rw [ZL h]
  exact (beq_eq_false_iff_ne.mpr e).symm
theorem C0 (a b:Str):decide ((Sum.inr a:Key)=Sum.inr b)=decide (a=b):=by
 by_cases e:a=b
 ·subst e;simp
 ·have h:¬ (Sum.inr a:Key)=Sum.inr b:=fun q=>e (Sum.inr.inj q)
  rw [ZL h,ZL e]
theorem Co (a:Int) (b:Str):decide ((Sum.inl a:Key)=Sum.inr b)=false:=ZL (fun q=>nomatch q)
theorem Bs (a:Str) (b:Int):decide ((Sum.inr a:Key)=Sum.inl b)=false:=ZL (fun q=>nomatch q)
noncomputable def bU (prog:Program) (w:World):PySem.KeyKind prog w Key where
 is:=mQ
 hash:=FU w
 inj:=fun v a b ha hb=>by
  rcases bP ha with ⟨i,t,rfl,rfl⟩ | ⟨x,t,rfl,rfl⟩
  ·rcases bP hb with ⟨j,u,rfl,e⟩ | ⟨y,u,rfl,e⟩
   ·injection e with e1 _;rw [e1]
   ·exact nomatch e
  ·rcases bP hb with ⟨j,u,rfl,e⟩ | ⟨y,u,rfl,e⟩
   ·exact nomatch e
   ·injection e with e1 _;rw [e1]
 byValue:=fun k v h=>by
  rcases bP h with ⟨i,t,rfl,rfl⟩ | ⟨x,t,rfl,rfl⟩ <;> rfl
 pyHash:=fun hv h=>by
  rcases bP hv with ⟨i,t,rfl,rfl⟩ | ⟨x,t,rfl,rfl⟩
  ·exact wpAny_pyHash_int h
  ·exact wpAny_pyHash_str h
 eqBool:=fun hu hv h=>by
  rcases bP hu with ⟨i,t,rfl,rfl⟩ | ⟨x,t,rfl,rfl⟩
  ·rcases bP hv with ⟨j,u,rfl,rfl⟩ | ⟨y,u,rfl,rfl⟩
   ·rw [B0] at h;exact wpAny_eqBool_int h
   ·rw [Co] at h;exact SeqAt.EqAt.int_str i t y u _ _ _ _ h
  ·rcases bP hv with ⟨j,u,rfl,rfl⟩ | ⟨y,u,rfl,rfl⟩
   ·rw [Bs] at h;exact SeqAt.EqAt.str_int x t j u _ _ _ _ h
   ·rw [C0] at h;exact wpAny_eqBool_str h
 «strs» := fun k x t v h=>by
  rcases bP h with ⟨i,u,rfl,e⟩ | ⟨y,u,rfl,e⟩
  ·exact nomatch e
  ·injection e with e1 _
   subst e1
   cases v <;> rfl
theorem o7 (prog:Program) (w:World) (i:Int) (t:Tok):(bU prog w).is (.inl i) (.int i t)=true:=tK i t
theorem qd (prog:Program) (w:World) (x:Str) (t:Tok):(bU prog w).is (.inr x) (.str x t)=true:=tV x t
inductive V where
 | non | bl (b:Bool) | int (i:Int) | str (x:Str) | byt (b:Array UInt8) | flt (b:UInt64) | ref (a:Addr) | ty (n:String)
 deriving DecidableEq
noncomputable def RelV:V->Value->Prop
 | .non,u=>u=Value.none
 | .bl b,u=>u=Value.bool b
 | .int i,u=>∃ t,u=Value.int i t
 | .str x,u=>∃ t,u=Value.str x t
 | .byt b,u=>∃ t,u=Value.bytes b t
 | .flt b,u=>∃ t,u=Value.float b t
 | .ref a,u=>u=Value.ref a
 | .ty n,u=>u=Value.type n
noncomputable abbrev aT:List V->Xg->Prop:=Paired RelV
theorem aT.length {xs:List V} {us:Xg} (r:aT xs us):xs.length=us.length:=Wf r
theorem aT.get:∀ {xs:List V} {us:Xg} {i:Nat} {x:V},aT xs us->xs[i]?=some x->∃ u,us[i]?=some u/\RelV x u
 | _,_,_,_,.nil,e=>by simp at e
 | _,_,0,_,.cons r _,e=>by simp at e;subst e;exact ⟨_,rfl,r⟩
 | _,_,i+1,x,.cons _ t,e=>by
  obtain ⟨u,h1,h2⟩:=aT.get (i:=i) (x:=x) t (by simpa using e)
  exact ⟨u,by simpa using h1,h2⟩
theorem aT.set {x:V} {u:Value} (r:RelV x u):∀ {xs:List V} {us:Xg} (i:Nat),aT xs us->aT (xs.set i x) (us.set i u)
 | _,_,_,.nil=>.nil
 | _,_,0,.cons _ t=>.cons r t
 | _,_,i+1,.cons q t=>.cons q (aT.set r i t)
theorem aT.append:∀ {xs ys:List V} {us ws:Xg},aT xs us->aT ys ws->aT (xs++ys) (us++ws)
 | _,_,_,_,.nil,s=>s
 | _,_,_,_,.cons r t,s=>.cons r (aT.append t s)
theorem aT.take:∀ {xs:List V} {us:Xg} (n:Nat),aT xs us->aT (xs.take n) (us.take n)
 | _,_,0,_=>.nil
 | _,_,_+1,.nil=>.nil
 | _,_,n+1,.cons r t=>.cons r (aT.take n t)
theorem aT.drop:∀ {xs:List V} {us:Xg} (n:Nat),aT xs us->aT (xs.drop n) (us.drop n)
 | _,_,0,r=>r
 | _,_,_+1,.nil=>.nil
 | _,_,n+1,.cons _ t=>aT.drop n t
theorem aT.none_of:∀ {xs:List V} {us:Xg} {i:Nat},aT xs us->xs[i]?=none->us[i]?=none:=fun {xs us i} r e=>by
 have h1:=r.length
 have h2:xs.length<=i:=YM.mp e
 exact YM.mpr (by lia)
noncomputable def jS:Option V->Wr->Prop
 | some v,some u=>RelV v u
 | none,none=>True
 | _,_=>False
noncomputable def KV {κ:Type}:List (κ×V)->List (κ×Value)->Prop:=Paired fun (p:κ×V) (q:κ×Value)=>p.1=q.1/\RelV p.2 q.2
noncomputable def kV:Key->V
 | .inl i=>.int i
 | .inr x=>.str x
inductive HO where
 | lst (xs:List V)
 | tup (xs:List V)
 | dK (kvs:List (Key×V)) | dT (kvs:List (List Key×V))
 | set (S:Int->Bool) (n:Nat)
 | ins (C dx:Addr) (fs:List (Str×V))
 | own (x:Addr)
 | xd (fs:List (Str×V))
 | met (f x:Addr)
 | rng (lo hi:Int)
 | frz (o:Obj) (u:HO)
 | tbl (ps:Array Value)
 | ext (φ:Heap->Prop)
noncomputable abbrev Hp:=Addr->Option HO
noncomputable def upd (H:Hp) (a:Addr) (o:HO):Hp:=fun b=>if b=a then some o else H b
theorem aH {H:Hp} {a:Addr} {o:HO}:upd H a o a=some o:=by unfold upd;rw [Zq rfl]
theorem aw {H:Hp} {a b:Addr} {o:HO} (h:b ≠ a):upd H a o b=H b:=by unfold upd;rw [Zn h]
theorem yp {H:Hp} {a:Addr} {o u:HO}:upd (upd H a o) a u=upd H a u:=by
 funext b;unfold upd;split <;> rfl
theorem Dr {H:Hp} {a b:Addr} {o u:HO} (h:H a=some o) (h':H b=some u) (d:o ≠ u):a ≠ b:=by
 intro e;subst e;rw [h] at h';exact d (ZK h')
theorem bI {H:Hp} {a b:Addr} {o:HO} (h:H a=some o) (h':H b=none):a ≠ b:=by
 intro e;subst e;rw [h] at h';cases h'
noncomputable def NoD (h:Heap) (a:Addr):Prop:=∀ o,h.get? a=some o->o.dict=none
theorem NoD.new (h:Heap) (its:Array Value):NoD (h.push { cls:=.type "tuple",data:=.seq its }) h.objs.size:=fun o e=>by
 rw [ZM _ rfl] at e
 cases e
 rfl
theorem NoD.of {h:Heap} {a:Addr} {o:Obj} (e:h.get? a=some o) (d:o.dict=none):NoD h a:=fun o' e'=>by
 rw [e] at e'
 cases e'
 exact d
section
variable (P:Program) (w:World)
noncomputable def ba (H:Hp) (h:Heap) (a:Addr):HO->Prop
 | .lst xs=>xs.length<=sizeLine/\∃ (its:Xg) (n:Nat),aT xs its/\h.get? a=some { cls:=.type "list",data:=.seq its.toArray n }
 | .tup xs=>xs.length<=sizeLine/\∃ its:Xg,aT xs its/\NoD h a/\IsTup h a its.toArray
 | .dK kvs=>kvs.length<=sizeLine/\(a == sysModules)=false/\∃ vs,KV kvs vs/\h.DictOf (bU P w) a vs
 | .dT kvs=>kvs.length<=sizeLine/\(a == sysModules)=false/\∃ xs:List (List Key×Addr×Value),
   Paired (fun (p:List Key×V) (q:List Key×Addr×Value)=>p.1=q.1/\H q.2.1=some (.tup (p.1.map kV))/\RelV p.2 q.2.2) kvs xs ∧
   ∃ o es ep,h.get? a=some o/\o.ExactDict/\o.data=.dict es ep/\es.toList=xs.map (entryOfKey (tupleKind (bU P w)))/\(xs.map (·.1)).Nodup
 | .set S n=>h.SetOf (intKind P w) a S n
 | .ins C dx fs=>H dx=some (.own a)/\fs.length<=1000/\dx ≠ a/\h.get? a=some (PySem.W.instObj C dx) ∧
   ∃ mA,h.Ns1 dx mA/\(∀ f,jS (fs.lookup f) (mA f))/\PySem.Within mA (fs.map (·.1))
 | .own _=>∃ o,h.get? a=some o
 | .xd fs=>∃ mA,h.Ns1 a mA/\∀ f,jS (fs.lookup f) (mA f)
 | .rng lo hi=>∃ t u v,h.get? a=some { cls:=.type "range",data:=.fields #[.int lo t,.int hi u,.int 1 v] }
 | .frz o u=>h.get? a=some o/\ba H h a u
 | .tbl ps=>h.get? a=some { cls:=.none,data:=.fields ps }
 | .met f x=>h.get? a=some (PySem.W.methodObj (.ref f) (.ref x))
 | .ext φ=>φ h/\(∃ o,h.get? a=some o)/\∀ h1 h2:Heap,φ h1->(∀ o,h1.get? a=some o->h2.get? a=some o)->φ h2
noncomputable def HOk (H:Hp) (h:Heap):Prop:=∀ a o,H a=some o->ba P w H h a o
end
section
variable {P:Program} {w:World} {H H':Hp} {h h':Heap} {a:Addr} {o:HO}
theorem ba.lt (x:ba P w H h a o):a < h.objs.size:=by
 cases o with
 | lst xs=>obtain ⟨_,_,_,_,e⟩:=x;exact ZY e
 | tup xs=>obtain ⟨_,_,_,_,p⟩:=x;exact p.lt
 | dK kvs=>obtain ⟨_,_,_,_,o,_,_,e,_⟩:=x;exact ZY e
 | dT kvs=>obtain ⟨_,_,_,_,o,_,_,e,_⟩:=x;exact ZY e
 | set S n=>obtain ⟨o,_,_,_,e,_⟩:=x;exact ZY e
 | ins C dx fs=>obtain ⟨_,_,_,e,_⟩:=x;exact ZY e
 | own y=>obtain ⟨_,e⟩:=x;exact ZY e
 | xd fs=>obtain ⟨_,⟨_,_,_,e,_⟩,_⟩:=x;exact ZY e
 | rng lo hi=>obtain ⟨_,_,_,e⟩:=x;exact ZY e
 | frz ob u=>obtain ⟨e,_⟩:=x;exact ZY e
 | tbl ps=>exact ZY (show h.get? a=some _ from x)
 | met f y=>exact ZY (show h.get? a=some _ from x)
 | ext φ=>obtain ⟨_,⟨_,e⟩,_⟩:=x;exact ZY e
theorem Paired.mapP {α β:Type} {F G:α->β->Prop}:∀ {l₁:List α} {l₂:List β},Paired F l₁ l₂->(∀ a b,F a b->G a b)->Paired G l₁ l₂
 | _,_,.nil,_=>.nil
 | _,_,.cons r t,f=>.cons (f _ _ r) (Paired.mapP t f)
theorem ba.stay (x:ba P w H h a o) (k:∀ b u,(b=a\/H b=some (.own a))->h.get? b=some u->h'.get? b=some u)
  (ho:∀ b,H b=some (.own a)->H' b=some (.own a)) (ht:∀ b xs,H b=some (.tup xs)->H' b=some (.tup xs)):ba P w H' h' a o:=by
 induction o with
 | lst xs=>obtain ⟨z,its,n,r,e⟩:=x;exact ⟨z,its,n,r,k _ _ (.inl rfl) e⟩
 | tup xs=>obtain ⟨z,its,r,nd,ob,e,c⟩:=x;exact ⟨z,its,r,NoD.of (k _ _ (.inl rfl) e) (nd _ e),ob,k _ _ (.inl rfl) e,c⟩
 | dK kvs=>obtain ⟨z,y,vs,r,ob,es,ep,e,c⟩:=x;exact ⟨z,y,vs,r,ob,es,ep,k _ _ (.inl rfl) e,c⟩
 | dT kvs =>
  obtain ⟨z,y,xs,r,ob,es,ep,e,c⟩:=x
  exact ⟨z,y,xs,Paired.mapP r fun p q z=>⟨z.1,ht _ _ z.2.1,z.2.2⟩,ob,es,ep,k _ _ (.inl rfl) e,c⟩
 | set S n=>obtain ⟨ob,es,ep,t,e,c⟩:=x;exact ⟨ob,es,ep,t,k _ _ (.inl rfl) e,c⟩
 | ins C dx fs =>
  obtain ⟨d,z,ne,e,mA,⟨od,es,ep,e2,c⟩,r⟩:=x
  exact ⟨ho _ d,z,ne,k _ _ (.inl rfl) e,mA,⟨od,es,ep,k _ _ (.inr d) e2,c⟩,r⟩
 | own y=>obtain ⟨ob,e⟩:=x;exact ⟨ob,k _ _ (.inl rfl) e⟩
 | xd fs=>obtain ⟨mA,⟨od,es,ep,e,c⟩,r⟩:=x;exact ⟨mA,⟨od,es,ep,k _ _ (.inl rfl) e,c⟩,r⟩
 | rng lo hi=>obtain ⟨t,u,v,e⟩:=x;exact ⟨t,u,v,k _ _ (.inl rfl) e⟩
 | frz ob u ih=>obtain ⟨e,q⟩:=x;exact ⟨k _ _ (.inl rfl) e,ih q⟩
 | tbl ps =>
  have e:h.get? a=some { cls:=.none,data:=.fields ps }:=x
  show h'.get? a=some { cls:=.none,data:=.fields ps }
  exact k a _ (.inl rfl) e
 | met f y =>
  have e:h.get? a=some (PySem.W.methodObj (.ref f) (.ref y)):=x
  show h'.get? a=some (PySem.W.methodObj (.ref f) (.ref y))
  exact k a _ (.inl rfl) e
 | ext φ=>obtain ⟨p,⟨o,e⟩,st⟩:=x;exact ⟨st _ _ p fun o q=>k _ _ (.inl rfl) q,⟨o,k _ _ (.inl rfl) e⟩,st⟩
theorem HOk.lt (x:HOk P w H h) (e:H a=some o):a < h.objs.size:=(x a o e).lt
theorem HOk.fresh (x:HOk P w H h) (e:h.objs.size<=a):H a=none:=by
 cases q:H a with
 | none=>rfl
 | some u=>exact absurd (ZQ (x.lt q) e) (Y3 _)
theorem HOk.kept (x:HOk P w H h) (k:∀ b u,h.get? b=some u->h'.get? b=some u):HOk P w H h':=fun a o e =>
 (x a o e).stay (fun b u _ q=>k b u q) (fun _ q=>q) fun _ _ q=>q
theorem HOk.laid (x:HOk P w H h) (k:∀ b u,h.get? b=some u->h'.get? b=some u) (hp:h.objs.size<=a) (new:ba P w (upd H a o) h' a o):HOk P w (upd H a o) h':=fun b u e=>by
 have hn:=x.fresh hp
 by_cases hb:b=a
 ·subst hb;rw [aH] at e;cases e;exact new
 ·rw [aw hb] at e
  exact (x b u e).stay (fun c v _ q=>k c v q) (fun c q=>by rw [aw (bI q hn)];exact q) fun c xs q=>by rw [aw (bI q hn)];exact q
end
noncomputable def Rd (H:Hp) (a:Addr) (u:HO):Prop:=H a=some u\/∃ o,H a=some (.frz o u)
theorem Rd.ok {P:Program} {w:World} {H:Hp} {h:Heap} {a:Addr} {u:HO} (r:Rd H a u) (x:HOk P w H h):ba P w H h a u:=by
 rcases r with r | ⟨o,r⟩
 ·exact x a u r
 ·obtain ⟨_,q⟩:=x a _ r
  exact q
noncomputable def Mut:Option HO->Prop
 | some (.lst _)=>True
 | some (.dK _)=>True
 | some (.dT _)=>True
 | some (.set _ _)=>True
 | some (.ins _ _ _)=>True
 | some (.ext _)=>True
 | _=>False
section
variable {P:Program} {w:World} {H:Hp} {h h':Heap} {x e:Addr} {o':HO}
theorem HOk.write (ok:HOk P w H h) (mu:Mut (H x)) (he:e=x\/H e=some (.own x)) (k:∀ b u,b ≠ e->h.get? b=some u->h'.get? b=some u) (heo:∃ u,h'.get? e=some u)
  (new:ba P w (upd H x o') h' x o'):HOk P w (upd H x o') h':=fun b u q=>by
 have nown:∀ c y,H c=some (.own y)->c ≠ x:=fun c y r z=>by subst z;rw [r] at mu;exact mu
 have ntup:∀ c xs,H c=some (.tup xs)->c ≠ x:=fun c xs r z=>by subst z;rw [r] at mu;exact mu
 by_cases hb:b=x
 ·subst hb;rw [aH] at q;cases q;exact new
 ·rw [aw hb] at q
  by_cases hbe:b=e
  ·have q':H b=some (.own x):=by
    rcases he with z | z
    ·exact absurd (hbe.trans z) hb
    ·rw [hbe];exact z
   rw [q] at q';cases q'
   obtain ⟨v,hv⟩:=heo
   exact ⟨v,by rw [hbe];exact hv⟩
  ·refine (ok b u q).stay (fun c v hc r=>k c v ?_ r) (fun c r=>by rw [aw (nown c b r)];exact r) fun c xs r=>by rw [aw (ntup c xs r)];exact r
   rcases hc with rfl | hc
   ·exact hbe
   ·rintro rfl
    rcases he with z | z
    ·exact nown c b hc z
    ·rw [hc] at z;cases z;exact hb rfl
end
structure Un (fs ex:Xl) (H H':Hp) (h h':Heap):Prop where
 keep:∀ b o,h.get? b=some o->H b=none->b ∉ fs->b ∉ ex->h'.get? b=some o
 slot:∀ b o,h.get? b=some o->H b=none->b∈fs->b ∉ ex->∃ sl,h'.get? b=some { o with slots:=sl }
 free:∀ b o,h.get? b=some o->H b=none->b ∉ ex->H' b=none
 there:∀ b o,h.get? b=some o->b ∉ ex->∃ o',h'.get? b=some o'
 tups:∀ b xs,H b=some (.tup xs)->H' b=some (.tup xs)
 frzs:∀ b o u,H b=some (.frz o u)->H' b=some (.frz o u)
 tbls:∀ b ps,H b=some (.tbl ps)->∃ more,H' b=some (.tbl (ps++more))
section
variable {fs fs' ex ex':Xl} {H H1 H2:Hp} {h h1 h2 h':Heap} {a x e:Addr} {o:HO}
theorem Un.any (u:Un fs ex H H1 h h1) {b:Addr} {ob:Obj} (q:h.get? b=some ob) (n:H b=none) (hx:b ∉ ex):∃ sl,h1.get? b=some { ob with slots:=sl }:=by
 by_cases hb:b∈fs
 ·exact u.slot b ob q n hb hx
 ·exact ⟨ob.slots,u.keep b ob q n hb hx⟩
theorem Un.kept (k:∀ b u,h.get? b=some u->h'.get? b=some u):Un fs ex H H h h' :=
 ⟨fun b ob q _ _ _=>k b ob q,fun b ob q _ _ _=>⟨ob.slots,k b ob q⟩,fun _ _ _ n _=>n,fun b ob q _=>⟨ob,k b ob q⟩,fun _ _ q=>q,fun _ _ _ q=>q,fun _ ps q=>⟨#[],by rw [q];simp⟩⟩
theorem Un.refl:Un fs ex H H h h:=Un.kept fun _ _ q=>q
theorem Un.laid (k:∀ b u,h.get? b=some u->h'.get? b=some u) (hp:h.objs.size<=a) (hn:H a=none):Un fs ex H (upd H a o) h h' where
 keep:=fun b u q _ _ _=>k b u q
 slot:=fun b u q _ _ _=>⟨u.slots,k b u q⟩
 free:=fun b u q n _=>by rw [aw (Z0 (ZQ (ZY q) hp))];exact n
 there:=fun b u q _=>⟨u,k b u q⟩
 tups:=fun b xs q=>by rw [aw (bI q hn)];exact q
 frzs:=fun b u xs q=>by rw [aw (bI q hn)];exact q
 tbls:=fun b ps q=>⟨#[],by rw [aw (bI q hn),q];simp⟩
theorem Un.write (mu:Mut (H x)) (he:e=x\/H e=some (.own x)) (k:∀ b u,b ≠ e->h.get? b=some u->h'.get? b=some u) (heo:∃ u,h'.get? e=some u):Un fs ex H (upd H x o) h h':=by
 have hx:∀ b,H b=none->b ≠ x:=fun b n z=>by subst z;rw [n] at mu;exact mu
 have hb:∀ b,H b=none->b ≠ e:=fun b n z=>by
  subst z
  rcases he with r | r
  ·exact hx b n r
  ·rw [n] at r;cases r
 have hm:∀ b u,H b=some u->¬ Mut (some u)->b ≠ x:=fun b u q nm z=>by subst z;rw [q] at mu;exact nm mu
 refine ⟨fun b u q n _ _=>k b u (hb b n) q,fun b u q n _ _=>⟨u.slots,k b u (hb b n) q⟩,fun b u q n _=>by rw [aw (hx b n)];exact n,fun b u q _=>?_,
  fun b xs q=>by rw [aw (hm b _ q fun z=>z)];exact q,fun b u xs q=>by rw [aw (hm b _ q fun z=>z)];exact q,fun b ps q=>⟨#[],by rw [aw (hm b _ q fun z=>z),q];simp⟩⟩
 by_cases hbe:b=e
 ·subst hbe;exact heo
 ·exact ⟨u,k b u hbe q⟩
end
noncomputable def trk (h:Heap) (H:Hp):Xl:=(List.range h.objs.size).filter fun a=>(H a).isSome
noncomputable def oo (h:Heap) (H:Hp):Heap:=PySem.W.hideAll h (trk h H)
theorem tW (h:Heap) (H:Hp):(oo h H).objs.size=h.objs.size:=PySem.W.hideAll_size _ _
theorem xj {h:Heap} {H:Hp} {b:Addr} {o:Obj} (e:h.get? b=some o) (n:H b=none):(oo h H).get? b=some o :=
 PySem.W.hideAll_get _ e fun hm=>by
  have q:(H b).isSome=true:=(XE.mp hm).2
  rw [n] at q;simp at q
theorem zd {h:Heap} {H:Hp} {b:Addr} {o:Obj} (e:(oo h H).get? b=some o):h.get? b=some o/\H b=none:=by
 have e':h.get? b=some o:=PySem.W.of_hideAll (trk h H) e
 refine ⟨e',?_⟩
 cases q:H b with
 | none=>rfl
 | some x =>
  have hm:b∈trk h H:=XE.mpr ⟨Yx.mpr (ZY e'),by simp [q]⟩
  have z:(oo h H).get? b=none:=PySem.W.hideAll_none (trk h H) hm
  rw [z] at e;cases e
noncomputable def yU (g h:Heap) (L:Addr):Yz:=(List.range h.objs.size).filterMap fun a=>if a=L\/(g.get? a).isSome=true then none else (h.get? a).map fun o=>(a,o)
noncomputable def rest (g h:Heap) (L d:Addr):Yz:=(yU g h L).filter fun p=>decide (p.1 ≠ d)
structure Mod (K:Xy) (mg:Xm) (base:Heap):Prop where
 kin:K.In base
 glob:base.Ns mainGlobals mg
 blt:∃ mb,base.Ns builtinsNs mb/\∀ x:Str,x ≠ "__name__" → mb x=bootBuiltins x
 nolimit:base.NoLimit
structure Cx where
 prog:Program
 w:World
 K:Xy
 mg:Xm
 base:Heap
 A:Around
 N:List Str
 s₀:Shared
 H₀:Hp
 env:Env
 outer:List Env
 stack:List Env
 ex:Xl
 fn:Str->Bool
 calm:Bool
 pn:Yz
 xe:Z9
noncomputable def frs (l:List Env):Xl:=l.filterMap (·.frame)
noncomputable abbrev Cx.fs (X:Cx):Xl:=frs X.outer
noncomputable def Vis (sc:Scope) (x:Str):Prop:=sc.names.lookup x=some .local\/sc.names.lookup x=some .cell\/sc.names.lookup x=some .free
noncomputable def Loc (sc:Scope) (x:Str):Prop:=sc.names.lookup x=some .local\/sc.names.lookup x=some .cell
noncomputable def Look (env:Env) (h:Heap) (m:Xm) (x:Str) (u:Value):Prop :=
 (env.kindOf x=some .local/\m x=some u)\/((env.kindOf x=some .cell\/env.kindOf x=some .free)/\∃ c,env.cells.lookup x=some c/\h.IsCell c (some u))
structure Cx.Ok (X:Cx):Prop where
 mod:Mod X.K X.mg X.base
 kind:X.env.scope.kind=.function
 glob:X.env.globals=mainGlobals
 blt:X.env.builtins=builtinsNs
 above:X.s₀.heap.objs.size<=X.env.locals
 inj:∀ x y c,X.env.cells.lookup x=some c->X.env.cells.lookup y=some c->x=y
 has:∀ x,(X.env.kindOf x=some .cell\/X.env.kindOf x=some .free)->∃ c,X.env.cells.lookup x=some c
 cab:∀ x c,X.fn x=true->X.env.cells.lookup x=some c->X.s₀.heap.objs.size<=c
 hd:X.calm=true->X.A.handled=none
 frames:X.A.frames=some X.stack
 stk:X.stack=X.outer\/(X.stack=X.env :: X.outer/\X.env.frame=some X.env.locals)
 exf:∀ b∈X.ex,b ≠ X.env.locals/\∀ x c,X.env.cells.lookup x=some c->c ≠ b
 bs:∀ b o,X.base.get? b=some o->X.s₀.heap.get? b=some o/\X.H₀ b=none
 bsz:X.base.objs.size<=X.s₀.heap.objs.size
 noex:∀ b o,X.base.get? b=some o->b ∉ X.ex
 exfs:∀ b∈X.ex,b ∉ X.fs
 funs:X.s₀.heap.FunFrames X.base X.outer
 frf:∀ b∈X.fs,X.H₀ b=none
structure Inv (X:Cx) (pins:Yz) (σ:List (Option V)) (H:Hp) (s:Shared):Prop where
 ok:X.Ok
 os:s.os=X.s₀.os
 bare:AllBare s.gens
 base:Un X.fs X.ex X.H₀ H X.s₀.heap s.heap
 loc:∃ m,s.heap.Ns X.env.locals m/\∀ (i:Nat) (x:Str) (v:V),X.N[i]?=some x->σ[i]?=some (some v)->Vis X.env.scope x->∃ u,RelV v u/\Look X.env s.heap m x u
 cell:∀ x c,X.env.cells.lookup x=some c->∃ v,s.heap.IsCell c v
 free:H X.env.locals=none
 freeC:∀ x c,X.env.cells.lookup x=some c->H c=none
 pin:∀ p∈X.pn++pins,s.heap.get? p.1=some p.2/\H p.1=none/\p.1 ≠ X.env.locals/\p.1 ∉ X.fs/\∀ v,p.2.data ≠ .cell v
 hok:HOk X.prog X.w H s.heap
 len:σ.length=X.N.length
section
variable {X:Cx} {pins:Yz} {σ:List (Option V)} {H H':Hp} {s:Shared} {h':Heap}
theorem Cx.Ok.nofr (ok:X.Ok) {b:Addr} {o:Obj} (e:X.base.get? b=some o):b ∉ X.fs:=fun hb=>by
 have:=(ok.funs.mem hb).1
 rw [e] at this;cases this
theorem Inv.bs (I:Inv X pins σ H s):∀ b o,X.base.get? b=some o->s.heap.get? b=some o/\H b=none:=fun b o e =>
 ⟨I.base.keep b o (I.ok.bs b o e).1 (I.ok.bs b o e).2 (I.ok.nofr e) (I.ok.noex b o e),I.base.free b o (I.ok.bs b o e).1 (I.ok.bs b o e).2 (I.ok.noex b o e)⟩
theorem Inv.bk (I:Inv X pins σ H s):∀ b o,X.base.get? b=some o->s.heap.get? b=some o:=fun b o e=>(I.bs b o e).1
theorem Inv.mod (I:Inv X pins σ H s):Mod X.K X.mg X.base:=I.ok.mod
theorem Inv.kIn (I:Inv X pins σ H s):X.K.In s.heap:=I.ok.mod.kin.keeps I.bk
theorem Inv.lt (I:Inv X pins σ H s):X.env.locals < s.heap.objs.size:=let ⟨_,hn,_⟩:=I.loc;hn.lt
theorem Inv.sz (I:Inv X pins σ H s):X.s₀.heap.objs.size<=s.heap.objs.size:=ZV I.ok.above (ZO I.lt)
theorem Inv.nofs (I:Inv X pins σ H s) {a:Addr} (h:s.heap.objs.size<=a):a ∉ X.fs:=fun hb=>by
 obtain ⟨_,o,ho,_⟩:=I.ok.funs.mem hb
 exact absurd (ZQ (ZY ho) (ZV I.sz h)) (Y3 _)
theorem Inv.cne (I:Inv X pins σ H s):∀ x c,X.env.cells.lookup x=some c->c ≠ X.env.locals:=fun x c e z=>by
 obtain ⟨v,o,ho,hd⟩:=I.cell x c e
 obtain ⟨m,⟨o',es,ep,ho',hd',_⟩,_⟩:=I.loc
 rw [z,ho'] at ho;cases ho;rw [hd'] at hd;cases hd
theorem Inv.funs (I:Inv X pins σ H s):s.heap.FunFrames X.base X.outer:=by
 have all:∀ (l:List Env),(∀ b∈frs l,b∈X.fs)->X.s₀.heap.FunFrames X.base l->s.heap.FunFrames X.base l:=by
  intro l
  induction l with
  | nil=>intro _ _;trivial
  | cons env r ih =>
   intro hs hl
   obtain ⟨hk,⟨L,o,hf,hn,ho,hd⟩,hr⟩:=hl
   have hL:L∈X.fs:=hs L (by unfold frs;rw [XC,hf];exact Zw)
   obtain ⟨sl,e⟩:=I.base.slot L o ho (I.ok.frf L hL) hL fun z=>I.ok.exfs L z hL
   exact ⟨hk,⟨L,_,hf,hn,e,hd⟩,ih (fun b hb=>hs b (by unfold frs;rw [XC,hf];exact Zx _ hb)) hr⟩
 exact all X.outer (fun _ hb=>hb) I.ok.funs
theorem Inv.stack (I:Inv X pins σ H s):s.heap.FunFrames X.base X.stack:=by
 rcases I.ok.stk with e | ⟨e,hf⟩
 ·rw [e];exact I.funs
 ·rw [e]
  obtain ⟨m,hn,_⟩:=I.loc
  refine .cons (by rw [I.ok.kind];decide) hf hn ?_ I.funs
  exact Heap.get?_none_of_le (ZV I.ok.bsz I.ok.above)
theorem Inv.stkSub (I:Inv X pins σ H s):∀ b∈frs X.stack,b∈X.env.locals :: X.fs:=fun b hb=>by
 rcases I.ok.stk with e | ⟨e,hf⟩
 ·rw [e] at hb;exact Zx _ hb
 ·rw [e] at hb
  unfold frs at hb
  rw [XC,hf] at hb
  exact hb
theorem Inv.stkFree (I:Inv X pins σ H s):∀ b∈frs X.stack,H b=none:=fun b hb=>by
 rcases Zr.mp (I.stkSub b hb) with e | hb
 ·rw [e];exact I.free
 ·obtain ⟨_,o,ho,_⟩:=I.ok.funs.mem hb
  exact I.base.free b o ho (I.ok.frf b hb) fun z=>I.ok.exfs b z hb
theorem Inv.step {g':Array GenState} {t':Nat} {d':Drawn} {ch:Xl} (I:Inv X pins σ H s)
  (hch:∀ b∈ch,(b∈X.ex\/X.s₀.heap.objs.size<=b)/\b ≠ X.env.locals/\(∀ x c,X.env.cells.lookup x=some c->c ≠ b)/\∀ p∈X.pn++pins,p.1 ≠ b)
  (keep:∀ b o,b ≠ X.env.locals->b ∉ X.fs->b ∉ ch->s.heap.get? b=some o->H b=none->h'.get? b=some o)
  (slot:∀ b o,b ≠ X.env.locals->b∈X.fs->b ∉ ch->s.heap.get? b=some o->H b=none->∃ sl,h'.get? b=some { o with slots:=sl }) (free:∀ b o,b ∉ ch->s.heap.get? b=some o->H b=none->H' b=none)
  (there:∀ b o,b ∉ ch->s.heap.get? b=some o->∃ o',h'.get? b=some o')
  (tups:∀ b xs,H b=some (.tup xs)->H' b=some (.tup xs)) (frzs:∀ b o u,H b=some (.frz o u)->H' b=some (.frz o u)) (tbls:∀ b ps,H b=some (.tbl ps)->∃ more,H' b=some (.tbl (ps++more)))
  (ns:∀ m,s.heap.Ns X.env.locals m->h'.Ns X.env.locals m) (hok:HOk X.prog X.w H' h') (hg:AllBare g') :
  Inv X pins σ H' { s with heap:=h',gens:=g',drawn:=d',toks:=t' }:=by
 have neL:∀ b o,X.s₀.heap.get? b=some o->b ≠ X.env.locals:=fun b o e=>Z0 (ZQ (ZY e) I.ok.above)
 have neC:∀ b o,X.s₀.heap.get? b=some o->b ∉ X.ex->b ∉ ch:=fun b o e hx hb=>by
  rcases (hch b hb).1 with z | z
  ·exact hx z
  ·exact absurd (ZQ (ZY e) z) (Y3 _)
 have cellK:∀ x c,X.env.cells.lookup x=some c->∀ v,s.heap.IsCell c v->h'.IsCell c v:=fun x c e v hq=>by
  obtain ⟨o,ho,hd⟩:=hq
  have nch:c ∉ ch:=fun z=>(hch c z).2.2.1 x c e rfl
  by_cases hc:c∈X.fs
  ·obtain ⟨sl,q⟩:=slot c o (I.cne x c e) hc nch ho (I.freeC x c e)
   exact ⟨_,q,hd⟩
  ·exact ⟨o,keep c o (I.cne x c e) hc nch ho (I.freeC x c e),hd⟩
 refine ⟨I.ok,I.os,hg,⟨fun b o e n hb hx=>?_,fun b o e n hb hx=>?_,fun b o e n hx=>?_,fun b o e hx=>?_,fun b xs e=>tups b xs (I.base.tups b xs e),fun b o xs e=>frzs b o xs (I.base.frzs b o xs e),fun b ps e=>?_⟩,?_,fun x c e=>?_,?_,fun x c e=>?_,fun p hp=>?_,hok,I.len⟩
 ·exact keep b o (neL b o e) hb (neC b o e hx) (I.base.keep b o e n hb hx) (I.base.free b o e n hx)
 ·obtain ⟨sl,e1⟩:=I.base.slot b o e n hb hx
  obtain ⟨sl',e2⟩:=slot b _ (neL b o e) hb (neC b o e hx) e1 (I.base.free b o e n hx)
  exact ⟨sl',e2⟩
 ·obtain ⟨o',e1⟩:=I.base.there b o e hx
  exact free b o' (neC b o e hx) e1 (I.base.free b o e n hx)
 ·obtain ⟨o',e1⟩:=I.base.there b o e hx
  exact there b o' (neC b o e hx) e1
 ·obtain ⟨m1,e1⟩:=I.base.tbls b ps e
  obtain ⟨m2,e2⟩:=tbls b _ e1
  exact ⟨m1++m2,by rw [e2,Array.append_assoc]⟩
 ·obtain ⟨m,hn,hl⟩:=I.loc
  refine ⟨m,ns m hn,fun i x v e1 e2 e3=>?_⟩
  obtain ⟨u,r,l⟩:=hl i x v e1 e2 e3
  refine ⟨u,r,?_⟩
  rcases l with l | ⟨k,c,e,z⟩
  ·exact .inl l
  ·exact .inr ⟨k,c,e,cellK x c e _ z⟩
 ·obtain ⟨v,z⟩:=I.cell x c e
  exact ⟨v,cellK x c e v z⟩
 ·obtain ⟨m,⟨o,_,_,ho,_⟩,_⟩:=I.loc
  exact free _ o (fun z=>(hch _ z).2.1 rfl) ho I.free
 ·obtain ⟨v,o,ho,hd⟩:=I.cell x c e
  exact free c o (fun z=>(hch c z).2.2.1 x c e rfl) ho (I.freeC x c e)
 ·obtain ⟨e,n,ne,nf,d⟩:=I.pin p hp
  have nch:p.1 ∉ ch:=fun z=>(hch p.1 z).2.2.2 p hp rfl
  exact ⟨keep p.1 p.2 ne nf nch e n,free p.1 p.2 nch e n,ne,nf,d⟩
theorem Inv.un {t':Nat} (I:Inv X pins σ H s) (u:Un X.fs [] H H' s.heap h') (hok:HOk X.prog X.w H' h'):Inv X pins σ H' { s with heap:=h',toks:=t' }:=by
 obtain ⟨m,⟨o,es,ep,ho,r⟩,_⟩:=id I.loc
 obtain ⟨sl,hL⟩:=u.any ho I.free (by simp)
 exact I.step (g':=s.gens) (d':=s.drawn) (ch:=[]) (fun _ z=>nomatch z) (fun b o _ hb _ e n=>u.keep b o e n hb (by simp)) (fun b o _ hb _ e n=>u.slot b o e n hb (by simp)) (fun b o _ e n=>u.free b o e n (by simp)) (fun b o _ e=>u.there b o e (by simp)) u.tups u.frzs u.tbls (fun m' hm=>by
  obtain ⟨o',es',ep',ho',r'⟩:=hm
  rw [ho] at ho';cases ho'
  exact ⟨_,es',ep',hL,r'⟩) hok I.bare
theorem Inv.call {g':Array GenState} {t':Nat} {d':Drawn} {ch:Xl} (I:Inv X pins σ H s) (u:Un (frs X.stack) ch H H' s.heap h') (hok:HOk X.prog X.w H' h') (hg:AllBare g')
  (hch:∀ b∈ch,(b∈X.ex\/X.s₀.heap.objs.size<=b)/\b ≠ X.env.locals/\(∀ x c,X.env.cells.lookup x=some c->c ≠ b)/\∀ p∈X.pn++pins,p.1 ≠ b) :
  Inv X pins σ H' { s with heap:=h',gens:=g',drawn:=d',toks:=t' }:=by
 obtain ⟨m,⟨o,es,ep,ho,r⟩,_⟩:=id I.loc
 obtain ⟨sl,hL⟩:=u.any ho I.free fun z=>(hch _ z).2.1 rfl
 exact I.step (ch:=ch) hch (fun b o hL hb hc e n=>u.keep b o e n (fun z=>(Zr.mp (I.stkSub b z)).elim hL hb) hc) (fun b o _ _ hc e n=>u.any e n hc) (fun b o hc e n=>u.free b o e n hc) (fun b o hc e=>u.there b o e hc) u.tups u.frzs u.tbls (fun m' hm=>by
  obtain ⟨o',es',ep',ho',r'⟩:=hm
  rw [ho] at ho';cases ho'
  exact ⟨_,es',ep',hL,r'⟩) hok hg
theorem Inv.turned {t':Nat} {it:Addr} (I:Inv X pins σ H s) (k:∀ b o,b ≠ it->s.heap.get? b=some o->h'.get? b=some o) (hn:H it=none) (hL:it ≠ X.env.locals)
  (h1:it∈X.ex\/X.s₀.heap.objs.size<=it) (h2:∀ x c,X.env.cells.lookup x=some c->c ≠ it) (h3:∀ p∈X.pn++pins,p.1 ≠ it):Inv X pins σ H { s with heap:=h',toks:=t' }:=by
 have nit:∀ b u,H b=some u->b ≠ it:=fun b u e z=>by rw [z,hn] at e;cases e
 refine I.step (g':=s.gens) (d':=s.drawn) (ch:=[it]) (fun b hb=>?_) (fun b o _ _ hc e _=>k b o (fun z=>hc (by simp [z])) e) (fun b o _ _ hc e _=>⟨o.slots,k b o (fun z=>hc (by simp [z])) e⟩) (fun _ _ _ _ n=>n)
  (fun b o hc e=>⟨o,k b o (fun z=>hc (by simp [z])) e⟩) (fun _ _ e=>e) (fun _ _ _ e=>e) (fun b ps e=>⟨#[],by rw [e];simp⟩) (fun m hm=>?_) (fun b u e=>?_) I.bare
 ·have e:b=it:=by simpa using hb
  subst e
  exact ⟨h1,hL,h2,h3⟩
 ·obtain ⟨o,es,ep,ho,r⟩:=hm
  exact ⟨o,es,ep,k _ o (YI hL) ho,r⟩
 ·refine (I.hok b u e).stay (fun c v hc q=>k c v ?_ q) (fun _ q=>q) fun _ _ q=>q
  rcases hc with z | z
  ·rw [z];exact nit b u e
  ·exact nit c _ z
theorem Inv.tok (I:Inv X pins σ H s) (t:Nat):Inv X pins σ H { s with toks:=t }:=I.un (h':=s.heap) (t':=t) Un.refl I.hok
theorem Inv.kept {t':Nat} (I:Inv X pins σ H s) (k:∀ b u,s.heap.get? b=some u->h'.get? b=some u):Inv X pins σ H { s with heap:=h',toks:=t' }:=I.un (Un.kept k) (I.hok.kept k)
theorem Inv.laid {a:Addr} {o:HO} {t':Nat} (I:Inv X pins σ H s) (k:∀ b u,s.heap.get? b=some u->h'.get? b=some u) (hp:s.heap.objs.size<=a) (new:ba X.prog X.w (upd H a o) h' a o) :
  Inv X pins σ (upd H a o) { s with heap:=h',toks:=t' }:=I.un (Un.laid k hp (I.hok.fresh hp)) (I.hok.laid k hp new)
theorem Inv.write {x e:Addr} {o:HO} {t':Nat} (I:Inv X pins σ H s) (mu:Mut (H x)) (he:e=x\/H e=some (.own x)) (k:∀ b u,b ≠ e->s.heap.get? b=some u->h'.get? b=some u) (heo:∃ u,h'.get? e=some u)
  (new:ba X.prog X.w (upd H x o) h' x o):Inv X pins σ (upd H x o) { s with heap:=h',toks:=t' }:=I.un (Un.write mu he k heo) (I.hok.write mu he k heo new)
theorem Inv.pins_of {pins':Yz} (I:Inv X pins σ H s) (h:∀ p∈pins',s.heap.get? p.1=some p.2/\H p.1=none/\p.1 ≠ X.env.locals/\p.1 ∉ X.fs/\∀ v,p.2.data ≠ .cell v):Inv X pins' σ H s :=
 ⟨I.ok,I.os,I.bare,I.base,I.loc,I.cell,I.free,I.freeC,fun p hp=>(Zh.mp hp).elim (fun z=>I.pin p (YV _ z)) (h p),I.hok,I.len⟩
theorem qr {N:List Str} (hN:N.Nodup) {i j:Nat} {x:Str} (a:N[i]?=some x) (b:N[j]?=some x):i=j:=by
 obtain ⟨h1,e1⟩:=Zb.mp a
 obtain ⟨h2,e2⟩:=Zb.mp b
 exact (List.getElem_inj hN).mp (e1.trans e2.symm)
theorem uW {M:Model} {A:Around} {E:Z9} {i:Nat} {x:Str} {v:V} {u:Value} {Q:Unit->Shared->Prop} (I:Inv X pins σ H s) (hN:X.N.Nodup) (hi:X.N[i]?=some x) (hx:Loc X.env.scope x) (r:RelV v u)
  (h:∀ s',Inv X pins (σ.set i (some v)) H s'->(∃ a,Heap.SameBut a s.heap s'.heap/\(a=X.env.locals\/X.env.cells.lookup x=some a))->Q () s') (hf:X.fn x=true\/X.env.scope.names.lookup x=some .local:=by first | exact .inl rfl | exact .inr rfl | assumption):wpAny M A (storeName X.env x u) Q E s:=by
 obtain ⟨m,hn,hl⟩:=id I.loc
 have hcls:(X.env.scope.kind == .class || (X.env.scope.kind == .module && X.env.locals != X.env.globals))=false:=by rw [I.ok.kind];rfl
 have hiσ:i < σ.length:=by rw [I.len];exact (Zb.mp hi).1
 have cne:=I.cne
 have tracked:∀ {a:Addr} {h':Heap},(∃ o,s.heap.get? a=some o/\H a=none)->Heap.SameBut a s.heap h'->HOk X.prog X.w H h':=fun {a h'} ha hs b ob e=>by
  obtain ⟨_,_,hfree⟩:=ha
  refine (I.hok b ob e).stay (fun c w' hc q=>(hs.2 c ?_).trans q) (fun _ q=>q) fun _ _ q=>q
  rintro rfl
  rcases hc with rfl | hc
  ·rw [hfree] at e;cases e
  ·rw [hfree] at hc;cases hc
 rcases hx with hk | hk
 ·refine wpAny_storeName_local hk hn (fun h' hn' hs=>?_) hcls
  obtain ⟨oL,_,_,hoL,_⟩:=id hn
  refine h _ ⟨I.ok,I.os,I.bare,⟨fun b o e n hb hx=>?_,fun b o e n hb hx=>?_,I.base.free,fun b o e hx=>?_,I.base.tups,I.base.frzs,I.base.tbls⟩,⟨_,hn',fun j y v' e1 e2 e3=>?_⟩,fun y c e=>?_,I.free,I.freeC,fun p hp=>?_,tracked ⟨oL,hoL,I.free⟩ hs,by simpa using I.len⟩ ⟨_,hs,.inl rfl⟩
  ·exact (hs.2 b (Z0 (ZQ (ZY e) I.ok.above))).trans (I.base.keep b o e n hb hx)
  ·obtain ⟨sl,e1⟩:=I.base.slot b o e n hb hx
   exact ⟨sl,(hs.2 b (Z0 (ZQ (ZY e) I.ok.above))).trans e1⟩
  ·obtain ⟨o',e1⟩:=I.base.there b o e hx
   exact ⟨o',(hs.2 b (Z0 (ZQ (ZY e) I.ok.above))).trans e1⟩
  ·by_cases hj:j=i
   ·subst hj
    rw [hi] at e1;cases e1
    rw [Yc hiσ] at e2
    cases e2
    exact ⟨u,r,.inl ⟨hk,by simp⟩⟩
   ·rw [YU (YI hj)] at e2
    obtain ⟨u',r',q⟩:=hl j y v' e1 e2 e3
    refine ⟨u',r',?_⟩
    rcases q with ⟨k,e⟩ | ⟨k,c,e,z⟩
    ·refine .inl ⟨k,?_⟩
     have:y ≠ x:=fun e=>hj (qr hN e1 (e ▸ hi))
     simp [this,e]
    ·exact .inr ⟨k,c,e,z.sameBut hs (cne y c e)⟩
  ·obtain ⟨w',z⟩:=I.cell y c e
   exact ⟨w',z.sameBut hs (cne y c e)⟩
  ·obtain ⟨e,n,ne,nf,d⟩:=I.pin p hp
   exact ⟨(hs.2 p.1 ne).trans e,n,ne,nf,d⟩
 ·have hfn:X.fn x=true:=by
   rcases hf with z | z
   ·exact z
   ·rw [z] at hk;cases hk
  obtain ⟨c,hc⟩:=I.ok.has x (.inl hk)
  obtain ⟨w',z⟩:=I.cell x c hc
  refine wpAny_storeName_cell I.ok.kind hk hc z (fun h' hc' hs=>?_)
  obtain ⟨oc,hoc,hocd⟩:=id z
  refine h { s with heap:=h' } ⟨I.ok,I.os,I.bare,⟨fun b o e n hb hx=>?_,fun b o e n hb hx=>?_,I.base.free,fun b o e hx=>?_,I.base.tups,I.base.frzs,I.base.tbls⟩,⟨m,hn.sameBut hs (YI (cne x c hc)),fun j y v' e1 e2 e3=>?_⟩,fun y c' e=>?_,I.free,I.freeC,fun p hp=>?_,tracked ⟨oc,hoc,I.freeC x c hc⟩ hs,by simpa using I.len⟩ ⟨c,hs,.inr hc⟩
  ·exact (hs.2 b (Z0 (ZQ (ZY e) (I.ok.cab x c hfn hc)))).trans (I.base.keep b o e n hb hx)
  ·obtain ⟨sl,e1⟩:=I.base.slot b o e n hb hx
   exact ⟨sl,(hs.2 b (Z0 (ZQ (ZY e) (I.ok.cab x c hfn hc)))).trans e1⟩
  ·obtain ⟨o',e1⟩:=I.base.there b o e hx
   exact ⟨o',(hs.2 b (Z0 (ZQ (ZY e) (I.ok.cab x c hfn hc)))).trans e1⟩
  ·by_cases hj:j=i
   ·subst hj
    rw [hi] at e1;cases e1
    rw [Yc hiσ] at e2
    cases e2
    exact ⟨u,r,.inr ⟨.inl hk,c,hc,hc'⟩⟩
   ·rw [YU (YI hj)] at e2
    obtain ⟨u',r',q⟩:=hl j y v' e1 e2 e3
    refine ⟨u',r',?_⟩
    rcases q with q | ⟨k,c',e,z'⟩
    ·exact .inl q
    ·refine .inr ⟨k,c',e,z'.sameBut hs ?_⟩
     rintro rfl
     exact hj (qr hN e1 (I.ok.inj _ _ _ e hc ▸ hi))
  ·by_cases hcc:c'=c
   ·subst hcc;exact ⟨_,hc'⟩
   ·obtain ⟨w2,z2⟩:=I.cell y c' e
    exact ⟨w2,z2.sameBut hs hcc⟩
  ·obtain ⟨e,n,ne,nf,d⟩:=I.pin p hp
   refine ⟨(hs.2 p.1 ?_).trans e,n,ne,nf,d⟩
   intro q
   rw [q,hoc] at e
   have q':oc=p.2:=ZK e
   exact d w' (by rw [← q'];exact hocd)
theorem jJ {M:Model} {A:Around} {E:Z9} {i:Nat} {x:Str} {v:V} {u:Value} {Q:Unit->Shared->Prop} (I:Inv X pins σ H s) (hN:X.N.Nodup) (hi:X.N[i]?=some x) (hx:Loc X.env.scope x) (r:RelV v u)
  (h:∀ s',Inv X pins (σ.set i (some v)) H s'->Q () s') (hf:X.fn x=true\/X.env.scope.names.lookup x=some .local:=by first | exact .inl rfl | exact .inr rfl | assumption):wpAny M A (storeName X.env x u) Q E s :=
 uW I hN hi hx r (fun s' I' _=>h s' I') hf
theorem Inv.call' {s':Shared} {ch:Xl} (I:Inv X pins σ H s) (ho:s'.os=s.os) (u:Un (frs X.stack) ch H H' s.heap s'.heap) (hok:HOk X.prog X.w H' s'.heap) (hg:AllBare s'.gens)
  (hch:∀ b∈ch,(b∈X.ex\/X.s₀.heap.objs.size<=b)/\b ≠ X.env.locals/\(∀ x c,X.env.cells.lookup x=some c->c ≠ b)/\∀ p∈X.pn++pins,p.1 ≠ b):Inv X pins σ H' s':=by
 obtain ⟨h',g',d',t',o'⟩:=s'
 have e:o'=s.os:=ho
 subst e
 exact I.call (g':=g') (t':=t') (d':=d') u hok hg hch
end
noncomputable abbrev XK:=Value->Option Addr->Hp->Prop
noncomputable abbrev St:=List (Option V)
noncomputable abbrev VK:=V->Hp->Prop
noncomputable abbrev TE:=St->Hp->VK->Prop
noncomputable abbrev TT:=St->Hp->(Bool->Hp->Prop)->Prop
noncomputable abbrev TA:=St->Hp->(List V->Hp->Prop)->Prop
structure Ends where
 nx:St->Hp->Prop
 rt:VK
 bk:St->Hp->Prop:=fun _ _=>False
 ct:St->Hp->Prop:=fun _ _=>False
noncomputable abbrev TS:=Ends->St->Hp->Prop
noncomputable def EP (X:Cx) (pins:Yz) (σ:St) (Q:VK) (u:Value) (s':Shared):Prop:=∃ v H',Inv X pins σ H' s'/\RelV v u/\Q v H'
noncomputable def TP (X:Cx) (pins:Yz) (σ:St) (Q:Bool->Hp->Prop) (b:Bool) (s':Shared):Prop:=∃ H',Inv X pins σ H' s'/\Q b H'
noncomputable def AP (X:Cx) (pins:Yz) (σ:St) (Q:List V->Hp->Prop) (us:Xg) (s':Shared):Prop:=∃ vs H',Inv X pins σ H' s'/\aT vs us/\Q vs H'
noncomputable def SP (X:Cx) (pins:Yz) (D:Ends) (f:Flow) (s':Shared):Prop :=
 match f with
 | .next=>∃ σ' H',Inv X pins σ' H' s'/\D.nx σ' H'
 | .brk=>∃ σ' H',Inv X pins σ' H' s'/\D.bk σ' H'
 | .cont=>∃ σ' H',Inv X pins σ' H' s'/\D.ct σ' H'
 | .ret u=>∃ v σ' H',Inv X pins σ' H' s'/\RelV v u/\D.rt v H'
noncomputable def PE (X:Cx) (e:Expr) (t:TE):Prop :=
 ∀ (pins:Yz) (s:Shared) (σ:St) (H:Hp) (Q:VK),Inv X pins σ H s->t σ H Q->wpAny (model X.prog X.w) X.A (eval e X.env) (EP X pins σ Q) X.xe s
noncomputable def PT (X:Cx) (e:Expr) (t:TT):Prop :=
 ∀ (pins:Yz) (s:Shared) (σ:St) (H:Hp) (Q:Bool->Hp->Prop),Inv X pins σ H s->t σ H Q->wpAny (model X.prog X.w) X.A (isTrue e X.env (eval e X.env)) (TP X pins σ Q) X.xe s
noncomputable def PW (X:Cx) (e:Expr) (t:TT):Prop :=
 ∀ (whole:Sem Value) (pins:Yz) (s:Shared) (σ:St) (H:Hp) (Q:Bool->Hp->Prop),Inv X pins σ H s->t σ H Q->wpAny (model X.prog X.w) X.A (isTrue e X.env whole) (TP X pins σ Q) X.xe s
theorem PW.pt {X:Cx} {e:Expr} {t:TT} (h:PW X e t):PT X e t:=h _
noncomputable def PA (X:Cx) (es:List Expr) (t:TA):Prop :=
 ∀ (pos:Pos) (pins:Yz) (s:Shared) (σ:St) (H:Hp) (Q:List V->Hp->Prop),Inv X pins σ H s->t σ H Q->wpAny (model X.prog X.w) X.A (spliced (backTo pos (starEach es X.env))) (AP X pins σ Q) X.xe s
noncomputable def PS (X:Cx) (st:Stmt) (t:TS):Prop :=
 ∀ (pins:Yz) (s:Shared) (σ:St) (H:Hp) (D:Ends),Inv X pins σ H s->t D σ H->wpAny (model X.prog X.w) X.A (exec st X.env) (SP X pins D) X.xe s
noncomputable def PSs (X:Cx) (st:List Stmt) (t:TS):Prop :=
 ∀ (pins:Yz) (s:Shared) (σ:St) (H:Hp) (D:Ends),Inv X pins σ H s->t D σ H->wpAny (model X.prog X.w) X.A (execs st X.env) (SP X pins D) X.xe s
theorem thn {α:Type} {t:Sem α} {Q Q':α->Shared->Prop} {M:Model} {A:Around} {E:Z9} {s:Shared} (h:wpAny M A t Q E s) (hQ:∀ a s,Q a s->Q' a s):wpAny M A t Q' E s:=Yp h hQ fun _ _ x=>x
section
variable {X:Cx}
noncomputable def uG (i:Nat):TE:=fun σ H Q=>∃ v,σ[i]?=some (some v)/\Q v H
noncomputable def tC (v:V):TE:=fun _ H Q=>Q v H
theorem gu {i:Nat} {x:Str} {pos:Pos} (hN:X.N[i]?=some x) (hv:Vis X.env.scope x) (hd:(x == ("__debug__" : Str))=false:=by decide) (hcd:(x == ("__classdict__" : Str))=false:=by decide):PE X (.Name x pos) (uG i):=by
 intro pins s σ H Q I h
 obtain ⟨v,e,h⟩:=h
 obtain ⟨m,hn,hl⟩:=I.loc
 obtain ⟨u,r,l⟩:=hl i x v hN e hv
 have fin:EP X pins σ Q u s:=⟨v,H,I,r,h⟩
 rcases l with ⟨hk,hm⟩ | ⟨hk,c,hc,hcell⟩
 ·exact wpAny_Name (wpAny_loadName_local I.ok.kind hk hn hm fin) hd
 ·rcases hk with hk | hk
  ·exact wpAny_Name (wpAny_loadName_cell I.ok.kind hk hc hcell fin) hd
  ·exact wpAny_Name (wpAny_loadName_free I.ok.kind hk hc hcell fin hcd) hd
theorem yg {i j pos}:PE X (.Constant (.int i) j pos) (tC (.int i)):=fun _ _ _ H _ I h=>wpAny_Constant_int ⟨.int i,H,I.tok _,⟨_,rfl⟩,h⟩
theorem D0 {b j pos}:PE X (.Constant (.bool b) j pos) (tC (.bl b)):=fun _ _ _ H _ I h=>Constant_bool ⟨.bl b,H,I,rfl,h⟩
theorem BN {j pos}:PE X (.Constant .none j pos) (tC .non):=fun _ _ _ H _ I h=>Constant_none ⟨.non,H,I,rfl,h⟩
theorem xB {x j pos}:PE X (.Constant (.str x) j pos) (tC (.str x)):=fun _ _ _ H _ I h=>Calls.Constant_str ⟨.str x,H,I.tok _,⟨_,rfl⟩,h⟩
noncomputable def Gl (X:Cx) (x:Str):Prop:=X.env.kindOf x=some .globalImplicit
theorem jo {E:Z9} {pins:Yz} {s:Shared} {σ:St} {H:Hp} {x:Str} {u:Value} {pos:Pos} {Q:Z9} (I:Inv X pins σ H s) (hg:Gl X x) (hm:X.mg x=some u) (h:Q u s)
  (hd:(x == ("__debug__" : Str))=false:=by decide):wpAny (model X.prog X.w) X.A (eval (.Name x pos) X.env) Q E s :=
 Calls.Name_function_global I.ok.kind hg (Calls.loadGlobal_global (by rw [I.ok.glob];exact I.mod.glob.keeps I.bk) hm h) hd
theorem iX {E:Z9} {pins:Yz} {s:Shared} {σ:St} {H:Hp} {x:Str} {u:Value} {pos:Pos} {Q:Z9} (I:Inv X pins σ H s) (hg:Gl X x) (hm:X.mg x=none) (hv:bootBuiltins x=some u) (h:Q u s)
  (hn:x ≠ "__name__" := by decide) (hd:(x == ("__debug__" : Str))=false:=by decide):wpAny (model X.prog X.w) X.A (eval (.Name x pos) X.env) Q E s:=by
 obtain ⟨mb,h1,h2⟩:=I.mod.blt
 exact Calls.Name_function_global I.ok.kind hg (Calls.loadGlobal_builtin (by rw [I.ok.glob];exact I.mod.glob.keeps I.bk) hm (by rw [I.ok.blt];exact h1.keeps I.bk) ((h2 x hn).trans hv) h) hd
theorem rW {x:Str} {v:V} {u:Value} {pos:Pos} (hg:Gl X x) (hm:X.mg x=some u) (r:RelV v u) (hd:(x == ("__debug__" : Str))=false:=by decide):PE X (.Name x pos) (tC v) :=
 fun _ _ _ H _ I h=>jo I hg hm ⟨v,H,I,r,h⟩ hd
theorem tf {x:Str} {v:V} {u:Value} {pos:Pos} (hg:Gl X x) (hm:X.mg x=none) (hv:bootBuiltins x=some u) (r:RelV v u) (hn:x ≠ "__name__" := by decide) (hd:(x == ("__debug__" : Str))=false:=by decide):PE X (.Name x pos) (tC v) :=
 fun _ _ _ H _ I h=>iX I hg hm hv ⟨v,H,I,r,h⟩ hn hd
variable {a b:Expr} {ta tb:TE} {pos:Pos}
noncomputable def PC (X:Cx) (op:CmpOp) (a b:Expr) (t:TE):Prop :=
 ∀ (pins:Yz) (s:Shared) (σ:St) (H:Hp) (Q:VK),Inv X pins σ H s->t σ H Q →
  wpAny (model X.prog X.w) X.A (eval a X.env) (fun v s₁=>wpAny (model X.prog X.w) X.A (eval b X.env) (fun u s₂=>wpAny (model X.prog X.w) X.A (compareOp op v u) (EP X pins σ Q) X.xe s₂) X.xe s₁) X.xe s
theorem wA (b:Expr) {op:CmpOp} (h:op ≠ .In) (h2:op ≠ .NotIn):behindInMarks op b=false:=by
 have e1:(op == CmpOp.In)=false:=by cases op <;> first | rfl | exact absurd rfl h
 have e2:(op == CmpOp.NotIn)=false:=by cases op <;> first | rfl | exact absurd rfl h2
 cases b <;> simp [behindInMarks,e1,e2]
noncomputable def DZ (ta:TE):TE:=fun σ H Q=>ta σ H fun x H1=>Q (.bl (!decide (x=.non))) H1
theorem RelV.none_iff {x:V} {v:Value} (r:RelV x v):(v == Value.none)=decide (x=.non):=by
 cases x with
 | non=>cases r;rfl
 | bl _=>cases r;rfl
 | int _=>obtain ⟨t,rfl⟩:=r;rfl
 | str _=>obtain ⟨t,rfl⟩:=r;rfl
 | byt _=>obtain ⟨t,rfl⟩:=r;rfl
 | flt _=>obtain ⟨t,rfl⟩:=r;rfl
 | ref _=>cases r;rfl
 | ty _=>cases r;rfl
theorem yN {j pos'} (ha:PE X a ta):PC X .IsNot a (.Constant .none j pos') (DZ ta):=by
 intro pins s σ H Q I h
 refine thn (ha pins s σ H _ I h) fun v s1 ⟨x,H1,I1,r1,q1⟩=>?_
 exact Constant_none (isnot_none_gen ⟨.bl _,H1,I1,by rw [r1.none_iff];rfl,q1⟩)
noncomputable def tB (t:TE):TT:=fun σ H Q=>t σ H fun x H1=>∃ c,x=.bl c/\Q c H1
theorem CW {op:CmpOp} {t:TE} (h:PC X op a b t) (h1:behindInMarks op b=false:=by first | exact wA _ (by decide) (by decide) | rfl):PT X (.Compare a [op] [b] pos) (tB t):=by
 intro pins s σ H Q I hw
 refine wpAny_isTrue_Compare1 (thn (h pins s σ H _ I hw) fun v s1 h1=>thn h1 fun u s2 h2=>thn h2 fun c s3 ⟨x,H1,I1,r1,q1⟩=>?_) h1
 obtain ⟨d,rfl,q⟩:=q1
 cases r1
 exact Yj ⟨H1,I1,q⟩
variable {tA tB':TT} {rest:List Expr}
noncomputable def FY (t u:TT):TT:=fun σ H Q=>t σ H fun c H1=>if c=true then u σ H1 Q else Q false H1
noncomputable def tOr (t u:TT):TT:=fun σ H Q=>t σ H fun c H1=>if c=true then Q true H1 else u σ H1 Q
noncomputable def F7 (t:TT):TT:=fun σ H Q=>t σ H fun c H1=>Q (!c) H1
theorem zP (ha:PT X a tA):PW X (.BoolOp .And [a] pos) tA:=by
 intro wh pins s σ H Q I h
 refine isTrue_and (thn (ha pins s σ H Q I h) fun c s1 e=>?_)
 cases c with
 | true=>exact isTrue_and_nil e
 | false=>exact e
theorem Bj (ha:PT X a tA):PW X (.BoolOp .Or [a] pos) tA:=by
 intro wh pins s σ H Q I h
 refine isTrue_or (thn (ha pins s σ H Q I h) fun c s1 e=>?_)
 cases c with
 | false=>exact isTrue_or_nil e
 | true=>exact e
theorem CU (ha:PT X a tA) (hb:PW X (.BoolOp .And (b :: rest) pos) tB'):PW X (.BoolOp .And (a :: b :: rest) pos) (FY tA tB'):=by
 intro wh pins s σ H Q I h
 refine isTrue_and (thn (ha pins s σ H _ I h) fun c s1 ⟨H1,I1,q1⟩=>?_)
 cases c with
 | true=>exact hb wh pins s1 σ H1 Q I1 q1
 | false=>exact ⟨H1,I1,q1⟩
theorem D9 (ha:PT X a tA) (hb:PW X (.BoolOp .Or (b :: rest) pos) tB'):PW X (.BoolOp .Or (a :: b :: rest) pos) (tOr tA tB'):=by
 intro wh pins s σ H Q I h
 refine isTrue_or (thn (ha pins s σ H _ I h) fun c s1 ⟨H1,I1,q1⟩=>?_)
 cases c with
 | true=>exact ⟨H1,I1,q1⟩
 | false=>exact hb wh pins s1 σ H1 Q I1 q1
theorem Cj (ha:PT X a tA):PT X (.UnaryOp .Not a pos) (F7 tA):=by
 intro pins s σ H Q I h
 exact isTrue_not (ha pins s σ H (fun c H1=>Q (!c) H1) I h)
noncomputable def EI (ta tb:TE):TE:=fun σ H Q=>ta σ H fun x H1=>∃ c,x=.bl c/\if c=true then tb σ H1 Q else Q (.bl false) H1
noncomputable def D2 (ta:TE):TE:=fun σ H Q=>ta σ H fun x H1=>∃ c,x=.bl c/\Q (.bl (!c)) H1
theorem Cu {op} {t:TE} (h:PE X a t):PE X (.BoolOp op [a] pos) t:=fun pins s σ H Q I hw=>BoolOp_one (h pins s σ H Q I hw)
theorem BD (ha:PE X a ta) (hb:PE X (.BoolOp .And (b :: rest) pos) tb):PE X (.BoolOp .And (a :: b :: rest) pos) (EI ta tb):=by
 intro pins s σ H Q I h
 refine BoolOp_and (thn (ha pins s σ H _ I h) fun v s1 ⟨x,H1,I1,r1,q1⟩=>?_)
 obtain ⟨c,rfl,q1⟩:=q1
 cases r1
 refine Yj ?_
 cases c with
 | true=>exact hb pins s1 σ H1 Q I1 q1
 | false=>exact ⟨.bl false,H1,I1,rfl,q1⟩
theorem Cg (ha:PE X a ta):PE X (.UnaryOp .Not a pos) (D2 ta):=by
 intro pins s σ H Q I h
 refine UnaryOp_ (thn (ha pins s σ H _ I h) fun v s1 ⟨x,H1,I1,r1,q1⟩=>?_)
 obtain ⟨c,rfl,q1⟩:=q1
 cases r1
 exact not_of (Yj ⟨.bl (!c),H1,I1,rfl,q1⟩)
end
noncomputable def SqL (K:Xy) (H:Hp) (a:Addr) (xs:List V):Prop :=
 Rd H a (.lst xs) ∨
  ∃ (o:Obj) (its:Array Value) (n:Nat),K.lookup a=some o/\o.cls=.type "list" ∧ o.dict=none/\o.data=.seq its n/\its.size<=sizeLine/\aT xs its.toList
noncomputable def SqT (K:Xy) (H:Hp) (a:Addr) (xs:List V):Prop :=
 Rd H a (.tup xs) ∨
  ∃ (o:Obj) (its:Array Value) (n:Nat),K.lookup a=some o/\o.cls=.type "tuple" ∧ o.data=.seq its n/\its.size<=sizeLine/\aT xs its.toList
noncomputable def Fz:Value->Option V
 | .none=>some .non
 | .bool b=>some (.bl b)
 | .int i _=>some (.int i)
 | .str x _=>some (.str x)
 | .bytes b _=>some (.byt b)
 | .float b _=>some (.flt b)
 | .ref a=>some (.ref a)
 | .type n=>some (.ty n)
 | _=>none
theorem RelV.abs {x:V} {u:Value} (r:RelV x u):Fz u=some x:=by
 cases x with
 | non=>cases r;rfl
 | bl _=>cases r;rfl
 | int _=>obtain ⟨t,rfl⟩:=r;rfl
 | str _=>obtain ⟨t,rfl⟩:=r;rfl
 | byt _=>obtain ⟨t,rfl⟩:=r;rfl
 | flt _=>obtain ⟨t,rfl⟩:=r;rfl
 | ref _=>cases r;rfl
 | ty _=>cases r;rfl
theorem RelV.inj {x y:V} {u:Value} (r:RelV x u) (q:RelV y u):x=y:=ZK (r.abs.symm.trans q.abs)
theorem aT.inj:∀ {xs ys:List V} {us:Xg},aT xs us->aT ys us->xs=ys
 | _,_,_,.nil,.nil=>rfl
 | _,_,_,.cons r t,.cons r' t'=>by rw [r.inj r',aT.inj t t']
section
variable {X:Cx} {pins:Yz} {σ:St} {H:Hp} {s:Shared} {a:Addr} {xs ys:List V}
theorem SqL.of {K:Xy} (h:H a=some (.lst xs)):SqL K H a xs:=.inl (.inl h)
theorem SqT.of {K:Xy} (h:H a=some (.tup xs)):SqT K H a xs:=.inl (.inl h)
theorem Inv.list (I:Inv X pins σ H s) (h:SqL X.K H a xs):∃ its:Xg,aT xs its/\PlainL s.heap a its.toArray/\xs.length<=sizeLine:=by
 rcases h with h | ⟨o,its,n,hk,hc,hd,hs,hz,r⟩
 ·obtain ⟨z,its,n,r,e⟩:=h.ok I.hok
  exact ⟨its,r,⟨_,n,e,rfl,rfl,rfl⟩,z⟩
 ·refine ⟨its.toList,r,⟨o,n,I.kIn a o hk,hc,hd,by simpa using hs⟩,?_⟩
  have e:=r.length
  simp only [YZ] at e
  lia
theorem Inv.tuple (I:Inv X pins σ H s) (h:SqT X.K H a xs):∃ its:Xg,aT xs its/\IsTup s.heap a its.toArray/\xs.length<=sizeLine:=by
 rcases h with h | ⟨o,its,n,hk,hc,hs,hz,r⟩
 ·obtain ⟨z,its,r,_,p⟩:=h.ok I.hok
  exact ⟨its,r,p,z⟩
 ·refine ⟨its.toList,r,⟨o,I.kIn a o hk,hc,n,by simpa using hs⟩,?_⟩
  have e:=r.length
  simp only [YZ] at e
  lia
theorem Inv.list_inj (I:Inv X pins σ H s) (h:SqL X.K H a xs) (h':SqL X.K H a ys):xs=ys:=by
 obtain ⟨its,r,⟨o,n,e,_,_,d⟩,_⟩:=I.list h
 obtain ⟨its',r',⟨o',n',e',_,_,d'⟩,_⟩:=I.list h'
 rw [e] at e';cases e'
 rw [d] at d'
 injection d' with d1 _
 have:its=its':=by simpa using congrArg Array.toList d1
 subst this
 exact r.inj r'
theorem Inv.tuple_inj (I:Inv X pins σ H s) (h:SqT X.K H a xs) (h':SqT X.K H a ys):xs=ys:=by
 obtain ⟨its,r,⟨o,e,_,n,d⟩,_⟩:=I.tuple h
 obtain ⟨its',r',⟨o',e',_,n',d'⟩,_⟩:=I.tuple h'
 rw [e] at e';cases e'
 rw [d] at d'
 injection d' with d1 _
 have:its=its':=by simpa using congrArg Array.toList d1
 subst this
 exact r.inj r'
end
noncomputable abbrev Cx.wish (X:Cx) (E:Z9):Cx:={ X with xe:=E }
noncomputable abbrev Cx.nox (X:Cx):Cx:=X.wish fun _ _=>False
theorem Cx.Ok.wish {X:Cx} (ok:X.Ok) (E:Z9):(X.wish E).Ok :=
 ⟨ok.mod,ok.kind,ok.glob,ok.blt,ok.above,ok.inj,ok.has,ok.cab,ok.hd,ok.frames,ok.stk,ok.exf,ok.bs,ok.bsz,ok.noex,ok.exfs,ok.funs,ok.frf⟩
theorem Cx.Ok.unwish {X:Cx} {E:Z9} (ok:(X.wish E).Ok):X.Ok :=
 ⟨ok.mod,ok.kind,ok.glob,ok.blt,ok.above,ok.inj,ok.has,ok.cab,ok.hd,ok.frames,ok.stk,ok.exf,ok.bs,ok.bsz,ok.noex,ok.exfs,ok.funs,ok.frf⟩
section
variable {X:Cx} {pins:Yz} {σ:St} {H:Hp} {s:Shared} {E:Z9}
theorem Inv.wish (I:Inv X pins σ H s) (E:Z9):Inv (X.wish E) pins σ H s:=⟨I.ok.wish E,I.os,I.bare,I.base,I.loc,I.cell,I.free,I.freeC,I.pin,I.hok,I.len⟩
theorem Inv.unwish (I:Inv (X.wish E) pins σ H s):Inv X pins σ H s:=⟨I.ok.unwish,I.os,I.bare,I.base,I.loc,I.cell,I.free,I.freeC,I.pin,I.hok,I.len⟩
theorem SP.unwish {D:Ends} {f:Flow} {s':Shared} (h:SP (X.wish E) pins D f s'):SP X pins D f s':=by
 cases f with
 | next=>obtain ⟨σ',H',I,q⟩:=h;exact ⟨σ',H',I.unwish,q⟩
 | brk=>obtain ⟨σ',H',I,q⟩:=h;exact ⟨σ',H',I.unwish,q⟩
 | cont=>obtain ⟨σ',H',I,q⟩:=h;exact ⟨σ',H',I.unwish,q⟩
 | ret u=>obtain ⟨v,σ',H',I,r,q⟩:=h;exact ⟨v,σ',H',I.unwish,r,q⟩
theorem PT.nox {e:Expr} {t:TT} (h:PT X.nox e t):PT X e t:=fun pins s σ H Q I hw =>
 Yp (h pins s σ H Q (I.wish _) hw) (fun _ _ ⟨H',I',q⟩=>⟨H',I'.unwish,q⟩) fun _ _ z=>False.elim z
theorem PSs.nox {st:List Stmt} {t:TS} (h:PSs X.nox st t):PSs X st t:=fun pins s σ H D I hw =>
 Yp (h pins s σ H D (I.wish _) hw) (fun _ _ q=>q.unwish) fun _ _ z=>False.elim z
end
section
variable {X:Cx} {st:Stmt} {rest:List Stmt} {t u:TS} {e:Expr} {te:TE} {pos:Pos}
noncomputable def Dx:TS:=fun D σ H=>D.nx σ H
noncomputable def F0 (t u:TS):TS:=fun D σ H=>t { D with nx:=u D } σ H
theorem Ap:PSs X [] Dx:=fun _ _ σ H _ I h=>X4 ⟨σ,H,I,h⟩
theorem qg (h1:PS X st t) (h2:PSs X rest u):PSs X (st :: rest) (F0 t u):=by
 intro pins s σ H D I h
 refine wpAny_execs_cons (thn (h1 pins s σ H { D with nx:=u D } I h) fun f s1 q=>?_)
 cases f with
 | next =>
  obtain ⟨σ',H',I',q⟩:=q
  exact h2 pins s1 σ' H' D I' q
 | ret v=>exact q
 | brk=>exact q
 | cont=>exact q
theorem tq (h1:PS X st t):PSs X [st] t:=by
 intro pins s σ H D I h
 refine wpAny_execs_cons (thn (h1 pins s σ H D I h) fun f s1 q=>?_)
 cases f with
 | next=>exact X4 q
 | ret v=>exact q
 | brk=>exact q
 | cont=>exact q
theorem Inv.quiet {pins:Yz} {σ:St} {H:Hp} {s:Shared} (I:Inv X pins σ H s):interactive X.env=false:=by simp [interactive,I.ok.kind]
noncomputable def AU (te:TE):TS:=fun D σ H=>te σ H fun _ H1=>D.nx σ H1
theorem jx (he:PE X e te) (hs:swapsWith e none pos.line X.env=pure false:=by rfl):PS X (.Expr e pos) (AU te):=by
 intro pins s σ H D I h
 exact wpAny_Expr_any (thn (he pins s σ H _ I h) fun v s1 ⟨x,H1,I1,r1,q1⟩=>⟨σ,H1,I1,q1⟩) I.quiet hs
noncomputable def Ew (te:TE):TS:=fun D σ H=>te σ H D.rt
theorem nR (he:PE X e te):PS X (.Return (some e) pos) (Ew te):=by
 intro pins s σ H D I h
 exact wpAny_Return_some (thn (he pins s σ H _ I h) fun v s1 ⟨x,H1,I1,r1,q1⟩=>⟨x,σ,H1,I1,r1,q1⟩)
noncomputable def FV (c:TT) (t u:TS):TS:=fun D σ H=>c σ H fun b H1=>if b=true then t D σ H1 else u D σ H1
theorem AL {c:Expr} {a b:List Stmt} {tc:TT} (hc:PT X c tc) (ha:PSs X a t) (hb:PSs X b u):PS X (.If c a b pos) (FV tc t u):=by
 intro pins s σ H D I h
 refine wpAny_If (thn (hc pins s σ H _ I h) fun d s1 ⟨H1,I1,q1⟩=>?_)
 cases d with
 | true=>exact ha pins s1 σ H1 D I1 q1
 | false=>exact hb pins s1 σ H1 D I1 q1
end
noncomputable abbrev TG:=V->St->Hp->(St->Hp->Prop)->Prop
noncomputable abbrev TGs:=List V->St->Hp->(St->Hp->Prop)->Prop
noncomputable def PG (X:Cx) (target:Expr) (t:TG):Prop :=
 ∀ (pins:Yz) (s:Shared) (σ:St) (H:Hp) (v:V) (u:Value) (Q:St->Hp->Prop),Inv X pins σ H s->RelV v u->t v σ H Q →
  wpAny (model X.prog X.w) X.A (assign target X.env u) (fun _ s'=>∃ σ' H',Inv X pins σ' H' s'/\Q σ' H') X.xe s
noncomputable def PGs (X:Cx) (ts:List Expr) (t:TGs):Prop :=
 ∀ (pins:Yz) (s:Shared) (σ:St) (H:Hp) (vs:List V) (us:Xg) (Q:St->Hp->Prop),Inv X pins σ H s->aT vs us->t vs σ H Q →
  wpAny (model X.prog X.w) X.A (assignInOrder ((assignEach ts X.env).map (·.2)) us) (fun _ s'=>∃ σ' H',Inv X pins σ' H' s'/\Q σ' H') X.xe s
noncomputable abbrev Ad:=V->V->V->Hp->(Hp->Prop)->Prop
noncomputable def BY (X:Cx) (t:Ad):Prop :=
 ∀ (pins:Yz) (s:Shared) (σ:St) (H:Hp) (o i v:V) (ov iv u:Value) (Q:Hp->Prop),Inv X pins σ H s->RelV o ov->RelV i iv->RelV v u->t o i v H Q →
  wpAny (model X.prog X.w) X.A (setItem ov iv u) (fun _ s'=>∃ H',Inv X pins σ H' s'/\Q H') X.xe s
section
variable {X:Cx} {pos:Pos}
noncomputable def pQ (i:Nat):TG:=fun v σ H Q=>Q (σ.set i (some v)) H
theorem sH {i:Nat} {x:Str} (hN:X.N.Nodup) (hi:X.N[i]?=some x) (hx:Loc X.env.scope x) (hf:X.fn x=true\/X.env.scope.names.lookup x=some .local:=by first | exact .inl rfl | exact .inr rfl | assumption):PG X (.Name x pos) (pQ i):=by
 intro pins s σ H v u Q I r h
 exact wpAny_assign_Name (jJ I hN hi hx r (fun s' I'=>⟨_,H,I',h⟩) hf)
noncomputable def FZ:TGs:=fun vs σ H Q=>vs=[]/\Q σ H
noncomputable def Fb (t:TG) (u:TGs):TGs:=fun vs σ H Q=>∃ v r,vs=v :: r/\t v σ H fun σ' H'=>u r σ' H' Q
theorem yW:PGs X [] FZ:=by
 intro pins s σ H vs us Q I r h
 obtain ⟨e,h⟩:=h
 subst e
 cases r
 exact assignInOrder_nil ⟨σ,H,I,h⟩
theorem ya {e:Expr} {es:List Expr} {t:TG} {u:TGs} (h1:PG X e t) (h2:PGs X es u)
  (hs:(assignEach (e :: es) X.env).map (·.2)=assign e X.env :: (assignEach es X.env).map (·.2):=by rfl):PGs X (e :: es) (Fb t u):=by
 intro pins s σ H vs us Q I r h
 obtain ⟨v,vr,e1,h⟩:=h
 subst e1
 cases r with
 | cons r rr =>
  rw [hs]
  refine assignInOrder_cons (thn (h1 pins s σ H _ _ _ I r h) fun _ s1 ⟨σ1,H1,I1,q1⟩=>?_)
  exact h2 pins s1 σ1 H1 _ _ Q I1 rr q1
noncomputable def ja (K:Xy) (n:Nat) (t:TGs):TG:=fun v σ H Q=>∃ a xs,v=.ref a/\SqT K H a xs/\xs.length=n/\t xs σ H Q
theorem BQ {es:List Expr} {k:Nat} {t:TGs} {n:Nat} (hc:X.calm=true) (h:PGs X es t)
  (hn:(assignEach es X.env).length=n:=by rfl) (hst:(assignEach es X.env).findIdx? (·.1)=none:=by rfl):PG X (.Tuple es k pos) (ja X.K n t):=by
 intro pins s σ H v u Q I r hw
 obtain ⟨a,xs,e1,hq,hl,hw⟩:=hw
 subst e1
 cases r
 obtain ⟨its,rv,ht,hz⟩:=I.tuple hq
 refine assign_Tuple_tuple (I.ok.hd hc) ht (by simp [hn,← hl,rv.length]) hst fun h' hx=>?_
 have I1:Inv X pins σ H { s with heap:=h' }:=I.kept (t':=s.toks) fun b o e=>hx b o (Z0 (ZY e)) e
 exact h pins _ σ H xs _ Q I1 (by simpa using rv) hw
noncomputable def FX (to ti:TE) (t:Ad):TG:=fun v σ H Q=>to σ H fun o H1=>ti σ H1 fun i H2=>t o i v H2 fun H3=>Q σ H3
theorem Bt {o i:Expr} {to ti:TE} {t:Ad} (ho:PE X o to) (hi:PE X i ti) (hs:BY X t)
  (ha:∀ v,assign (.Subscript o i pos) X.env v=(do
   let ov ← holding [v] (eval o X.env)
   let iv ← holding [v,ov] (eval i X.env)
   standAt pos
   holding [v,ov,iv] (setItem ov iv v)
   release [v,ov,iv] []):=by intro _;rfl):PG X (.Subscript o i pos) (FX to ti t):=by
 intro pins s σ H v u Q I r h
 rw [ha]
 refine Zy (YN (thn (ho pins s σ H _ I h) fun ov s1 ⟨x,H1,I1,r1,q1⟩=>?_))
 refine Zy (YN (thn (hi pins s1 σ H1 _ I1 q1) fun iv s2 ⟨y,H2,I2,r2,q2⟩=>?_))
 refine Zy (wpAny_standAt (Zy (YN (thn (hs pins s2 σ H2 x y v ov iv u _ I2 r1 r2 r q2) fun _ s3 ⟨H3,I3,q3⟩=>?_))))
 exact wpAny_release ⟨σ,H3,I3,q3⟩
noncomputable def C5 (te:TE) (g:TG):TS:=fun D σ H=>te σ H fun x H1=>g x σ H1 D.nx
theorem Br {tg e:Expr} {te:TE} {g:TG} (he:PE X e te) (hg:PG X tg g) (hs:swapsWithSole [tg] e pos.line X.env=pure false:=by rfl) (hw:swappedStores [tg] e X.env=pure none:=by rfl)
  (h1:(assignEach [tg] X.env).map (·.2)=[assign tg X.env]:=by rfl):PS X (.Assign [tg] e pos) (C5 te g):=by
 intro pins s σ H D I h
 refine wpAny_Assign_stores (thn (he pins s σ H _ I h) fun v s1 ⟨x,H1,I1,r1,q1⟩=>?_) hs hw
 rw [h1]
 exact thn (hg pins s1 σ H1 x v _ I1 r1 q1) fun _ s2 q=>q
theorem qO {i:Nat} {x:Str} {e:Expr} {te:TE} {pos':Pos} (hN:X.N.Nodup) (hi:X.N[i]?=some x) (hx:Loc X.env.scope x) (he:PE X e te) (hs:swapsWith e (some (.Name x pos')) pos.line X.env=pure false:=by rfl) (hf:X.fn x=true\/X.env.scope.names.lookup x=some .local:=by first | exact .inl rfl | exact .inr rfl | assumption) :
  PS X (.Assign [.Name x pos'] e pos) (C5 te (pQ i)):=by
 intro pins s σ H D I h
 refine wpAny_Assign_Name (thn (he pins s σ H _ I h) fun v s1 ⟨y,H1,I1,r1,q1⟩=>?_) hs
 exact jJ I1 hN hi hx r1 (fun s2 I2=>⟨_,H1,I2,q1⟩) hf
end
section
variable {X:Cx} {pos:Pos}
noncomputable def Ci (c:TT) (tb:TS):TS:=fun D σ H=>∃ W:Nat->St->Hp->Prop,(∃ m,W m σ H)/\∀ m σ H,W m σ H →
 c σ H fun b H1=>if b=true then ∃ N:St->Hp->Prop,(∀ σ' H',N σ' H'->∃ m',m' < m/\W m' σ' H')/\tb { D with nx:=N,ct:=N,bk:=D.nx } σ H1 else D.nx σ H1
theorem xA {c:Expr} {body:List Stmt} {tc:TT} {tb:TS} (hp:PassesOwn (model X.prog X.w) X.A X.env X.xe) (hc:PT X c tc) (hb:PSs X body tb):PS X (.While c body [] pos) (Ci tc tb):=by
 intro pins s σ H D I h
 obtain ⟨W,⟨m0,w0⟩,turn⟩:=h
 refine wpAny_While (codeAny_whileLoop (fun n s'=>∃ σ' H',Inv X pins σ' H' s'/\W n σ' H') ?_ m0 ⟨σ,H,I,w0⟩)
 rintro n s1 ⟨σ1,H1,I1,w1⟩
 refine Xp hp (thn (hc pins s1 σ1 H1 _ I1 (turn n σ1 H1 w1)) fun b s2 ⟨H2,I2,q2⟩=>?_)
 cases b with
 | true =>
  obtain ⟨N,hN,q2⟩:=q2
  rw [Zq rfl]
  refine Xp hp (thn (hb pins s2 σ1 H2 _ I2 q2) fun f s3 q3=>?_)
  cases f with
  | next =>
   obtain ⟨σ3,H3,I3,n3⟩:=q3
   obtain ⟨m',hm,w3⟩:=hN σ3 H3 n3
   exact ⟨m',hm,σ3,H3,I3,w3⟩
  | cont =>
   obtain ⟨σ3,H3,I3,n3⟩:=q3
   obtain ⟨m',hm,w3⟩:=hN σ3 H3 n3
   exact ⟨m',hm,σ3,H3,I3,w3⟩
  | brk=>exact q3
  | ret v=>exact q3
 | false =>
  rw [Zn Zm]
  exact X4 ⟨σ1,H2,I2,q2⟩
end
structure It where
 go:Nat->Hp->Prop
 yld:Nat->Hp->V->Hp->Prop
 stop:Nat->Hp->Prop
noncomputable def iY (X:Cx) (pins:Yz) (H:Hp) (b:Addr):Prop :=
 H b=none/\b ≠ X.env.locals/\b ∉ X.fs/\(b∈X.ex\/X.s₀.heap.objs.size<=b)/\(∀ x c,X.env.cells.lookup x=some c->c ≠ b)/\∀ p∈X.pn++pins,p.1 ≠ b
theorem Inv.fpOk {X:Cx} {pins:Yz} {σ:St} {H H':Hp} {s:Shared} {b:Addr} (I:Inv X pins σ H s) (hb:s.heap.objs.size<=b) (hn:H' b=none):iY X pins H' b:=by
 refine ⟨hn,WI (ZQ I.lt hb),I.nofs hb,.inr (ZV I.sz hb),fun x c e z=>?_,fun p hp z=>?_⟩
 ·obtain ⟨v,q⟩:=I.cell x c e
  exact absurd (ZQ q.lt (by rw [z];exact hb)) (Y3 _)
 ·exact absurd (ZQ (ZY (I.pin p hp).1) (by rw [z];exact hb)) (Y3 _)
structure Turn (P:Program) (w:World) (K:Xy) (tg:Expr) (J:It) (fp:Xl) (it:Addr) (tn:Nat->Heap->Prop):Prop where
 mem:it∈fp
 obj:∀ i h,tn i h->∀ b∈fp,∃ o,h.get? b=some o/\∀ v,o.data ≠ .cell v
 keep:∀ i h h',tn i h->(∀ b∈fp,∀ o,h.get? b=some o->h'.get? b=some o)->tn i h'
 item:∀ (X:Cx),X.prog=P->X.w=w->X.K=K->X.calm=true->∀ (i:Nat) (pins:Yz) (s:Shared) (σ:St) (H:Hp) (E:Z9),Inv X pins σ H s->(∀ b∈fp,iY X pins H b)->tn i s.heap->J.go i H →
  wpAny (model P w) X.A (pyNext (.ref it)) (fun r s1=>∃ u,r=some u ∧
   wpAny (model P w) X.A (letOwnedTupleGo tg (.ref it) u) (fun _ s2=>∃ x H',Inv X pins σ H' s2/\RelV x u/\J.yld i H x H'/\tn (i+1) s2.heap/\∀ b∈fp,H' b=none) E s1) E s
 done:∀ (X:Cx),X.prog=P->X.w=w->X.K=K->X.calm=true->∀ (i:Nat) (pins:Yz) (s:Shared) (σ:St) (H:Hp) (E:Z9),Inv X pins σ H s->(∀ b∈fp,iY X pins H b)->tn i s.heap->J.stop i H →
  wpAny (model P w) X.A (pyNext (.ref it)) (fun r s1=>r=none/\Inv X pins σ H s1) E s
 self:∀ (A:Around) (i:Nat) (s:Shared) (Q:Z9) (E:Z9),tn i s.heap->Q (.ref it) s->wpAny (model P w) A (pyIter (.ref it)) Q E s
noncomputable abbrev TI:=St->Hp->(It->Hp->Prop)->Prop
noncomputable def PIE (X:Cx) (pins:Yz) (σ:St) (tg:Expr) (R:It->Hp->Prop) (itv:Value) (s2:Shared):Prop :=
 ∃ (it:Addr) (fp:Xl) (tn:Nat->Heap->Prop) (J:It) (H':Hp),itv=.ref it/\Inv X pins σ H' s2/\Turn X.prog X.w X.K tg J fp it tn/\tn 0 s2.heap/\(∀ b∈fp,iY X pins H' b)/\R J H'
noncomputable def PI (X:Cx) (tg iter:Expr) (wi:TI):Prop :=
 ∀ (pins:Yz) (s:Shared) (σ:St) (H:Hp) (R:It->Hp->Prop),Inv X pins σ H s->wi σ H R →
  wpAny (model X.prog X.w) X.A (eval iter X.env) (fun v s1=>wpAny (model X.prog X.w) X.A (pyIter v) (PIE X pins σ tg R) X.xe s1) X.xe s
theorem qy {M:Model} {A:Around} {E:Z9} {s:Shared} {tg:Expr} {it:Addr} {u:Value} {o:Obj} {n:String} {vs:Array Value} {Q:Unit->Shared->Prop} (ho:s.heap.get? it=some o) (hc:o.cls=.type n) (hd:o.data=.fields vs)
  (hn:["enumerate", "zip", "dict_itemiterator", "dict_reverseitemiterator", "odict_iterator", "itertools.zip_longest", "itertools.pairwise"].contains n=false) (hQ:Q () s):wpAny M A (letOwnedTupleGo tg (.ref it) u) Q E s:=by
 unfold letOwnedTupleGo
 cases tg <;> first
  | exact Zs hQ
  | (cases u <;> first
    | exact Zs hQ
    | (refine Zy (wpAny_load ho ?_)
       rw [hc,hd]
       show wpAny M A (if (["enumerate", "zip", "dict_itemiterator", "dict_reverseitemiterator", "odict_iterator", "itertools.zip_longest", "itertools.pairwise"].contains n && vs[0]? == some (rawInt _))=true then _ else _) Q E s
       rw [Zn (by intro h;rw [hn,Bool.false_and] at h;cases h)]
       exact Zs hQ))
noncomputable def Itl (K:Xy) (a:Addr):It :=
 ⟨fun i H=>∃ xs x,SqL K H a xs/\xs[i]?=some x,fun i H x H'=>H'=H/\∀ xs,SqL K H a xs->xs[i]?=some x,fun i H=>∃ xs,SqL K H a xs/\xs.length<=i⟩
noncomputable def Itt (K:Xy) (a:Addr):It :=
 ⟨fun i H=>∃ xs x,SqT K H a xs/\xs[i]?=some x,fun i H x H'=>H'=H/\∀ xs,SqT K H a xs->xs[i]?=some x,fun i H=>∃ xs,SqT K H a xs/\xs.length<=i⟩
noncomputable def Itr (lo:Int) (n:Nat):It:=⟨fun i _=>i < n,fun i H x H'=>H'=H/\x=.int (lo+i),fun i _=>n<=i⟩
theorem uw {P:Program} {w:World} {K:Xy} {tg:Expr} (a it:Addr):Turn P w K tg (Itl K a) [it] it (fun i h=>h.IsListIter it a i) where
 mem:=by simp
 obj:=fun i h st b hb=>by
  have e:b=it:=by simpa using hb
  subst e
  obtain ⟨o,e,c,d⟩:=st
  exact ⟨o,e,fun v z=>by rw [d] at z;cases z⟩
 keep:=fun i h h' st k=>st.at fun o e=>k it (by simp) o e
 item:=by
  intro X hP hw hK hc i pins s σ H E I hf st hg
  subst hP hw hK
  obtain ⟨xs,x,hq,hx⟩:=hg
  obtain ⟨its,rv,p,hz⟩:=I.list hq
  obtain ⟨u,hu,ru⟩:=rv.get hx
  obtain ⟨f0,f1,f2,f3,f4,f5⟩:=hf it (by simp)
  refine wpAny_pyNext_list_item st p.isList (x:=u) (by simpa using hu) fun h' st' sb=>?_
  have I1:Inv X pins σ H { s with heap:=h' }:=I.turned (t':=s.toks) (fun b o hb e=>(sb.2 b hb).trans e) f0 f1 f3 f4 f5
  obtain ⟨o,e,c,d⟩:=id st'
  exact ⟨u,rfl,qy (s:={ s with heap:=h' }) e c d (by decide) ⟨x,H,I1,ru,⟨rfl,fun ys hy=>by rw [I.list_inj hy hq];exact hx⟩,st',fun b hb=>(hf b hb).1⟩⟩
 done:=by
  intro X hP hw hK hc i pins s σ H E I hf st hg
  subst hP hw hK
  obtain ⟨xs,hq,hx⟩:=hg
  obtain ⟨its,rv,p,hz⟩:=I.list hq
  obtain ⟨f0,f1,f2,f3,f4,f5⟩:=hf it (by simp)
  have hl:=rv.length
  exact wpAny_pyNext_list_end (I.ok.hd hc) st p.isList (by simp;lia) fun h' eb=>⟨rfl,I.turned (t':=s.toks) (fun b o hb e=>eb b o hb e) f0 f1 f3 f4 f5⟩
 self:=fun _ _ _ _ _ st h=>wpAny_pyIter_listiter st h
theorem rO {P:Program} {w:World} {K:Xy} {tg:Expr} (a it:Addr):Turn P w K tg (Itt K a) [it] it (fun i h=>h.IsTupleIter it a i) where
 mem:=by simp
 obj:=fun i h st b hb=>by
  have e:b=it:=by simpa using hb
  subst e
  obtain ⟨o,e,c,d⟩:=st
  exact ⟨o,e,fun v z=>by rw [d] at z;cases z⟩
 keep:=fun i h h' st k=>st.at fun o e=>k it (by simp) o e
 item:=by
  intro X hP hw hK hc i pins s σ H E I hf st hg
  subst hP hw hK
  obtain ⟨xs,x,hq,hx⟩:=hg
  obtain ⟨its,rv,p,hz⟩:=I.tuple hq
  obtain ⟨u,hu,ru⟩:=rv.get hx
  obtain ⟨f0,f1,f2,f3,f4,f5⟩:=hf it (by simp)
  refine wpAny_pyNext_tuple_item st (show s.heap.IsTuple a its.toArray from p) (x:=u) (by simpa using hu) fun h' st' sb=>?_
  have I1:Inv X pins σ H { s with heap:=h' }:=I.turned (t':=s.toks) (fun b o hb e=>(sb.2 b hb).trans e) f0 f1 f3 f4 f5
  obtain ⟨o,e,c,d⟩:=id st'
  exact ⟨u,rfl,qy (s:={ s with heap:=h' }) e c d (by decide) ⟨x,H,I1,ru,⟨rfl,fun ys hy=>by rw [I.tuple_inj hy hq];exact hx⟩,st',fun b hb=>(hf b hb).1⟩⟩
 done:=by
  intro X hP hw hK hc i pins s σ H E I hf st hg
  subst hP hw hK
  obtain ⟨xs,hq,hx⟩:=hg
  obtain ⟨its,rv,p,hz⟩:=I.tuple hq
  obtain ⟨f0,f1,f2,f3,f4,f5⟩:=hf it (by simp)
  have hl:=rv.length
  exact wpAny_pyNext_tuple_end (I.ok.hd hc) st (show s.heap.IsTuple a its.toArray from p) (by simp;lia) fun h' eb=>⟨rfl,I.turned (t':=s.toks) (fun b o hb e=>eb b o hb e) f0 f1 f3 f4 f5⟩
 self:=fun _ _ _ _ _ st h=>wpAny_pyIter_tupleiter st h
theorem qP {P:Program} {w:World} {K:Xy} {tg:Expr} (it:Addr) (lo:Int) (n:Nat):Turn P w K tg (Itr lo n) [it] it (fun i h=>IsRangeIter h it (lo+(i:Nat) * 1) ((n:Int) - (i:Nat)) 1) where
 mem:=by simp
 obj:=fun i h st b hb=>by
  have e:b=it:=by simpa using hb
  subst e
  exact ⟨_,st,fun v z=>by
   have z':Data.fields _=Data.cell v:=z
   cases z'⟩
 keep:=fun i h h' st k=>k it (by simp) _ st
 item:=by
  intro X hP hw hK hc i pins s σ H E I hf st hg
  subst hP hw hK
  obtain ⟨f0,f1,f2,f3,f4,f5⟩:=hf it (by simp)
  have W:=Walks.range (prog:=X.prog) (w:=X.w) (I.ok.hd hc) it lo 1 n
  refine W.item i s _ _ hg st fun v h' tk hv st' kk=>?_
  obtain ⟨t,rfl⟩:=hv
  have I1:Inv X pins σ H { s with heap:=h',toks:=tk }:=I.turned (fun b o hb e=>kk b o (by simpa using hb) e) f0 f1 f3 f4 f5
  refine ⟨_,rfl,qy (s:={ s with heap:=h',toks:=tk }) (n := "range_iterator") st' rfl rfl (by decide) ⟨.int (lo+i),H,I1,⟨t,?_⟩,⟨rfl,rfl⟩,st',fun b hb=>(hf b hb).1⟩⟩
  rw [Int.mul_one]
 done:=by
  intro X hP hw hK hc i pins s σ H E I hf st hg
  subst hP hw hK
  obtain ⟨f0,f1,f2,f3,f4,f5⟩:=hf it (by simp)
  exact wpAny_pyNext_range_end (I.ok.hd hc) st (by have:n<=i:=hg;lia) fun h' eb=>⟨rfl,I.turned (t':=s.toks) (fun b o hb e=>eb b o hb e) f0 f1 f3 f4 f5⟩
 self:=fun _ _ _ _ _ st h=>wpAny_pyIter_rangeiter st h
section
variable {X:Cx} {tg:Expr}
theorem qh {pins:Yz} {σ:St} {H:Hp} {s:Shared} {R:It->Hp->Prop} {E:Z9} {lo hi:Int} {t u v:Tok} {tk:Nat} (I:Inv X pins σ H s) (h1:-(2 ^ 62)<=lo) (h2:lo < 2 ^ 62) (h3:-(2 ^ 62)<=hi) (h4:hi < 2 ^ 62)
  (q:R (Itr lo (hi - lo).toNat) H):wpAny (model X.prog X.w) X.A (pyIter (.ref s.heap.objs.size)) (PIE X pins σ tg R) E { s with heap:=s.heap.push { cls:=.type "range",data:=.fields #[.int lo t,.int hi u,.int 1 v] },toks:=tk }:=by
 refine wpAny_pyIter_range (IsRange.new ..) (small_one h1 h2 h3 h4) ?_
 have I1:Inv X pins σ H { s with heap:=s.heap.push { cls:=.type "range",data:=.fields #[.int lo t,.int hi u,.int 1 v] },toks:=tk }:=I.kept fun b o e=>Ze _ e
 refine ⟨(s.heap.push { cls:=.type "range",data:=.fields #[.int lo t,.int hi u,.int 1 v] }).objs.size,[(s.heap.push { cls:=.type "range",data:=.fields #[.int lo t,.int hi u,.int 1 v] }).objs.size],_,_,H,rfl,
  I1.kept (t':=tk) fun b o e=>Ze _ e,qP _ lo (hi - lo).toNat,?_,fun b hb=>?_,q⟩
 ·have e1:lo+((0:Nat):Int) * 1=lo:=by simp
  have e2:(((hi - lo).toNat:Nat):Int) - ((0:Nat):Int)=Builtin.Range.rangeSize lo hi 1:=by rw [rangeSize_one];split <;> lia
  show IsRangeIter _ _ (lo+((0:Nat):Int) * 1) ((((hi - lo).toNat:Nat):Int) - ((0:Nat):Int)) 1
  rw [e1,e2]
  exact ZM _ rfl
 ·have e:b=(s.heap.push { cls:=.type "range",data:=.fields #[.int lo t,.int hi u,.int 1 v] }).objs.size:=by simpa using hb
  subst e
  exact I1.fpOk (Zp _) (I1.hok.fresh (Zp _))
noncomputable def Dv (ta:TA):TI:=fun σ H R=>ta σ H fun vs H1=>∃ j:Int,vs=[.int j]/\-(2 ^ 62)<=j/\j < 2 ^ 62/\R (Itr 0 j.toNat) H1
noncomputable def Eu (ta:TA):TI:=fun σ H R=>ta σ H fun vs H1=>∃ i j:Int,vs=[.int i,.int j]/\(-(2 ^ 62)<=i/\i < 2 ^ 62/\-(2 ^ 62)<=j/\j < 2 ^ 62)/\R (Itr i (j - i).toNat) H1
theorem tQ {a:Expr} {ta:TA} {p pos:Pos} (hg:Gl X "range") (hm:X.mg "range" = none) (ha:PA X [a] ta) (hs:starEach [a] X.env=[(false,eval a X.env)]:=by rfl):PI X tg (.Call (.Name "range" p) [a] [] pos) (Dv ta):=by
 intro pins s σ H R I h
 refine Call_ (iX I hg hm boot_range (Xt (thn (ha pos pins s σ H _ I h) fun us s1 ⟨vs,H1,I1,r1,q1⟩=>?_) hs rfl))
 obtain ⟨j,e,q1,q2,q⟩:=q1
 subst e
 cases r1 with
 | cons r rr =>
  cases rr
  obtain ⟨t,rfl⟩:=r
  exact call_range_1 (qh I1 (by lia) (by lia) q1 q2 (by simpa using q))
theorem uo {a b:Expr} {ta:TA} {p pos:Pos} (hg:Gl X "range") (hm:X.mg "range" = none) (ha:PA X [a,b] ta) (hs:starEach [a,b] X.env=[(false,eval a X.env),(false,eval b X.env)]:=by rfl) (hs2:starEach [b] X.env=[(false,eval b X.env)]:=by rfl) :
  PI X tg (.Call (.Name "range" p) [a,b] [] pos) (Eu ta):=by
 intro pins s σ H R I h
 refine Call_ (iX I hg hm boot_range (Xt (thn (ha pos pins s σ H _ I h) fun us s1 ⟨vs,H1,I1,r1,q1⟩=>?_) (by rw [hs,hs2]) (by rw [hs2];rfl)))
 obtain ⟨i,j,e,⟨q1,q2,q3,q4⟩,q⟩:=q1
 subst e
 cases r1 with
 | cons r rr =>
  cases rr with
  | cons r' rr =>
   cases rr
   obtain ⟨t,rfl⟩:=r
   obtain ⟨t',rfl⟩:=r'
   exact call_range_2 (qh I1 q1 q2 q3 q4 q)
noncomputable def FR (wi:TI) (g:TG) (tb:TS):TS:=fun D σ H=>wi σ H fun J H1=>∃ W:Nat->Nat->St->Hp->Prop,(∃ m,W 0 m σ H1)/\∀ i m σ H,W i m σ H →
 (J.stop i H/\D.nx σ H)\/(J.go i H/\∃ N:St->Hp->Prop,(∀ σ' H',N σ' H'->∃ m',m' < m/\W (i+1) m' σ' H')/\∀ x H',J.yld i H x H'->g x σ H' fun σ2 H2=>tb { D with nx:=N,ct:=N,bk:=D.nx } σ2 H2)
noncomputable def ml (fp:Xl) (h:Heap):Yz:=fp.filterMap fun b=>(h.get? b).map fun o=>(b,o)
theorem gR {fp:Xl} {h:Heap} {b:Addr} {o:Obj} (hb:b∈fp) (e:h.get? b=some o):(b,o)∈ml fp h:=WQ.mpr ⟨b,hb,by rw [e];rfl⟩
theorem tF {fp:Xl} {h:Heap} {p:Addr×Obj} (hp:p∈ml fp h):p.1∈fp/\h.get? p.1=some p.2:=by
 obtain ⟨b,hb,e⟩:=WQ.mp hp
 cases q:h.get? b with
 | none=>rw [q] at e;cases e
 | some o =>
  rw [q] at e
  have e':(b,o)=p:=ZK e
  subst e'
  exact ⟨hb,q⟩
theorem Inv.pinned {pins:Yz} {σ:St} {H:Hp} {s:Shared} {fp:Xl} (I:Inv X pins σ H s) (hf:∀ b∈fp,iY X pins H b) (ho:∀ b∈fp,∃ o,s.heap.get? b=some o/\∀ v,o.data ≠ .cell v):Inv X (pins++ml fp s.heap) σ H s :=
 I.pins_of fun p hp=>(Zh.mp hp).elim (fun z=>I.pin p (ZA _ z)) fun z=>by
  obtain ⟨hb,e⟩:=tF z
  obtain ⟨f0,f1,f2,_⟩:=hf p.1 hb
  obtain ⟨o,e',d⟩:=ho p.1 hb
  rw [e] at e';cases e'
  exact ⟨e,f0,f1,f2,d⟩
theorem Inv.unpinned {pins pl:Yz} {σ:St} {H:Hp} {s:Shared} (I:Inv X (pins++pl) σ H s):Inv X pins σ H s:=I.pins_of fun p hp=>I.pin p (ZA _ (YV _ hp))
theorem B4 {iter:Expr} {body:List Stmt} {wi:TI} {g:TG} {tb:TS} {pos:Pos} (hp:PassesOwn (model X.prog X.w) X.A X.env X.xe) (hc:X.calm=true) (hi:PI X tg iter wi) (hg:PG X tg g) (hb:PSs X body tb)
  (hs:∀ x,foldedSetIterable iter X.env x=pure x:=by intro _;rfl):PS X (.For tg iter body [] pos) (FR wi g tb):=by
 intro pins s σ H D I h
 refine wpAny_For (thn (hi pins s σ H _ I h) fun v s1 h1=>thn h1 fun itv s2 h2=>?_) hs
 obtain ⟨it,fp,tn,J,H2,e,I2,T,st2,f2,W,⟨m0,w0⟩,turn⟩:=h2
 subst e
 have stat:∀ {H':Hp},(∀ b∈fp,H' b=none)->∀ b∈fp,iY X pins H' b:=fun hn b hb=>⟨hn b hb,(f2 b hb).2⟩
 refine codeAny_forLoop_any (fun n s'=>∃ i σ' H',Inv X pins σ' H' s'/\tn i s'.heap/\(∀ b∈fp,H' b=none)/\W i n σ' H') ?_ m0 ⟨0,σ,H2,I2,st2,fun b hb=>(f2 b hb).1,w0⟩
 rintro n s3 ⟨i,σ3,H3,I3,st3,fr3,w3⟩
 rcases turn i n σ3 H3 w3 with ⟨stop,qn⟩ | ⟨go,N,hN,step⟩
 ·refine Xp hp (thn (T.done X rfl rfl rfl hc i pins s3 σ3 H3 X.xe I3 (stat fr3) st3 stop) fun r s4 ⟨hr,I4⟩=>?_)
  subst hr
  exact X4 ⟨σ3,H3,I4,qn⟩
 ·refine Xp hp (thn (T.item X rfl rfl rfl hc i pins s3 σ3 H3 X.xe I3 (stat fr3) st3 go) fun r s4 ⟨u,hr,h4⟩=>?_)
  subst hr
  refine Xp hp (thn h4 fun _ s5 ⟨x,H5,I5,r5,y5,st5,fr5⟩=>?_)
  have I5':=I5.pinned (stat fr5) (T.obj _ _ st5)
  refine Xp hp (thn (hg _ s5 σ3 H5 x u _ I5' r5 (step x H5 y5)) fun _ s6 ⟨σ6,H6,I6,q6⟩=>?_)
  refine Xp hp (thn (hb _ s6 σ6 H6 _ I6 q6) fun f s7 q7=>?_)
  have again:∀ {σ7:St} {H7:Hp},Inv X (pins++ml fp s5.heap) σ7 H7 s7->N σ7 H7->∃ m,m < n/\∃ i σ' H',Inv X pins σ' H' s7/\tn i s7.heap/\(∀ b∈fp,H' b=none)/\W i m σ' H':=fun {σ7 H7} I7 n7=>by
   obtain ⟨m',hm,w7⟩:=hN σ7 H7 n7
   refine ⟨m',hm,i+1,σ7,H7,I7.unpinned,T.keep _ _ _ st5 fun b hb o e=>(I7.pin (b,o) (ZA _ (ZA _ (gR hb e)))).1,fun b hb=>?_,w7⟩
   obtain ⟨o,e,d⟩:=T.obj _ _ st5 b hb
   exact (I7.pin (b,o) (ZA _ (ZA _ (gR hb e)))).2.1
  cases f with
  | next=>obtain ⟨σ7,H7,I7,n7⟩:=q7;exact again I7 n7
  | cont=>obtain ⟨σ7,H7,I7,n7⟩:=q7;exact again I7 n7
  | brk=>obtain ⟨σ7,H7,I7,q7⟩:=q7;exact ⟨σ7,H7,I7.unpinned,q7⟩
  | ret v=>obtain ⟨x7,σ7,H7,I7,r7,q7⟩:=q7;exact ⟨x7,σ7,H7,I7.unpinned,r7,q7⟩
end
noncomputable abbrev R2:=V->V->Hp->VK->Prop
noncomputable def OpR (X:Cx) (f:Value->Value->Sem Value) (r:R2):Prop :=
 ∀ (pins:Yz) (s:Shared) (σ:St) (H:Hp) (x y:V) (v u:Value) (Q:VK),Inv X pins σ H s->RelV x v->RelV y u->r x y H Q →
  wpAny (model X.prog X.w) X.A (f v u) (EP X pins σ Q) X.xe s
noncomputable def UnR (X:Cx) (f:Value->Sem Value) (r:V->Hp->VK->Prop):Prop :=
 ∀ (pins:Yz) (s:Shared) (σ:St) (H:Hp) (x:V) (v:Value) (Q:VK),Inv X pins σ H s->RelV x v->r x H Q →
  wpAny (model X.prog X.w) X.A (f v) (EP X pins σ Q) X.xe s
noncomputable def d9 (X:Cx) (f:Value) (r:List V->Hp->VK->Prop):Prop :=
 ∀ (pins:Yz) (s:Shared) (σ:St) (H:Hp) (xs:List V) (us:Xg) (Q:VK),Inv X pins σ H s->aT xs us->r xs H Q →
  wpAny (model X.prog X.w) X.A (call f us) (EP X pins σ Q) X.xe s
noncomputable def FI (X:Cx) (r:V->Hp->(Bool->Hp->Prop)->Prop):Prop :=
 ∀ (pins:Yz) (s:Shared) (σ:St) (H:Hp) (x:V) (v:Value) (Q:Bool->Hp->Prop),Inv X pins σ H s->RelV x v->r x H Q →
  wpAny (model X.prog X.w) X.A (truthy v) (TP X pins σ Q) X.xe s
noncomputable def tOp (r:R2) (ta tb:TE):TE:=fun σ H Q=>ta σ H fun x H1=>tb σ H1 fun y H2=>r x y H2 Q
noncomputable def tUn (r:V->Hp->VK->Prop) (ta:TE):TE:=fun σ H Q=>ta σ H fun x H1=>r x H1 Q
noncomputable def rI (C:Int->Int->Prop) (g:Int->Int->V):R2:=fun x y H Q=>∃ i j,x=.int i/\y=.int j/\C i j/\Q (g i j) H
noncomputable def rI0 (g:Int->Int->V):R2:=fun x y H Q=>∃ i j,x=.int i/\y=.int j/\Q (g i j) H
noncomputable def rU (g:Int->V):V->Hp->VK->Prop:=fun x H Q=>∃ i,x=.int i/\Q (g i) H
section
variable {X:Cx} {a b c:Expr} {ta tb tc:TE} {pos:Pos}
theorem BP (ha:PE X a ta) (hb:PE X b tb) {pins:Yz} {s:Shared} {σ:St} {H:Hp} {R:V->V->Hp->Prop} (I:Inv X pins σ H s)
  (h:ta σ H fun x H1=>tb σ H1 fun y H2=>R x y H2) {Q:Z9} {f:Value->Value->Sem Value}
  (hf:∀ v u s2 x y H2,Inv X pins σ H2 s2->RelV x v->RelV y u->R x y H2->wpAny (model X.prog X.w) X.A (f v u) Q X.xe s2) :
  wpAny (model X.prog X.w) X.A (eval a X.env) (fun v s₁=>wpAny (model X.prog X.w) X.A (eval b X.env) (fun u s₂=>wpAny (model X.prog X.w) X.A (f v u) Q X.xe s₂) X.xe s₁) X.xe s:=by
 refine thn (ha pins s σ H _ I h) fun v s1 ⟨x,H1,I1,r1,q1⟩=>?_
 refine thn (hb pins s1 σ H1 _ I1 q1) fun u s2 ⟨y,H2,I2,r2,q2⟩=>?_
 exact hf v u s2 x y H2 I2 r1 r2 q2
theorem Ey {op:Operator} {r:R2} (ho:OpR X (binaryOp op) r) (ha:PE X a ta) (hb:PE X b tb):PE X (.BinOp a op b pos) (tOp r ta tb):=by
 intro pins s σ H Q I h
 exact wpAny_BinOp (BP ha hb I h fun v u s2 x y H2 I2 rx ry q=>ho pins s2 σ H2 x y v u Q I2 rx ry q)
theorem EK {op:UnaryOp} {r:V->Hp->VK->Prop} (ho:UnR X (unaryOp op) r) (ha:PE X a ta):PE X (.UnaryOp op a pos) (tUn r ta):=by
 intro pins s σ H Q I h
 exact UnaryOp_ (thn (ha pins s σ H _ I h) fun v s1 ⟨x,H1,I1,r1,q1⟩=>ho pins s1 σ H1 x v Q I1 r1 q1)
theorem opI {f:Value->Value->Sem Value} {C:Int->Int->Prop} {g:Int->Int->Int}
  (rule:∀ (i j:Int) (t u:Tok) (s:Shared) (Q:Z9) (E:Z9),C i j->Q (.int (g i j) s.toks) { s with toks:=s.toks+1 }->wpAny (model X.prog X.w) X.A (f (.int i t) (.int j u)) Q E s) :
  OpR X f (rI C fun i j=>.int (g i j)):=by
 intro pins s σ H x y v u Q I rx ry h
 obtain ⟨i,j,rfl,rfl,hc,q⟩:=h
 obtain ⟨t,rfl⟩:=rx
 obtain ⟨t',rfl⟩:=ry
 exact rule i j t t' s _ _ hc ⟨.int (g i j),H,I.tok _,⟨_,rfl⟩,q⟩
theorem Eb {f:Value->Value->Sem Value} {g:Int->Int->Int}
  (rule:∀ (i j:Int) (t u:Tok) (s:Shared) (Q:Z9) (E:Z9),Q (.int (g i j) s.toks) { s with toks:=s.toks+1 }->wpAny (model X.prog X.w) X.A (f (.int i t) (.int j u)) Q E s) :
  OpR X f (rI0 fun i j=>.int (g i j)):=by
 intro pins s σ H x y v u Q I rx ry h
 obtain ⟨i,j,rfl,rfl,q⟩:=h
 obtain ⟨t,rfl⟩:=rx
 obtain ⟨t',rfl⟩:=ry
 exact rule i j t t' s _ _ ⟨.int (g i j),H,I.tok _,⟨_,rfl⟩,q⟩
theorem yx {f:Value->Value->Sem Value} {g:Int->Int->Bool}
  (rule:∀ (i j:Int) (t u:Tok) (s:Shared) (Q:Z9) (E:Z9),Q (.bool (g i j)) s->wpAny (model X.prog X.w) X.A (f (.int i t) (.int j u)) Q E s) :
  OpR X f (rI0 fun i j=>.bl (g i j)):=by
 intro pins s σ H x y v u Q I rx ry h
 obtain ⟨i,j,rfl,rfl,q⟩:=h
 obtain ⟨t,rfl⟩:=rx
 obtain ⟨t',rfl⟩:=ry
 exact rule i j t t' s _ _ ⟨.bl (g i j),H,I,rfl,q⟩
noncomputable def D8 (i j:Int):Prop:=0 < j/\j < 1073741824
noncomputable def DR (i j:Int):Prop:=0<=j/\j<=1000000/\i.natAbs < 2 ^ 64
noncomputable def yA (i j:Int):Prop:=(-(2 ^ 64) < i/\i < 2 ^ 64)\/(-(2 ^ 64) < j/\j < 2 ^ 64)
theorem yA.ok {i j:Int} (h:yA i j):IntMulOk i j:=by
 rcases h with ⟨h1,h2⟩ | ⟨h1,h2⟩
 ·exact .of_left (intBits_le_64 h1 h2)
 ·exact .of_right (intBits_le_64 h1 h2)
theorem BX:OpR X (binaryOp .Add) (rI0 fun i j=>.int (i+j)):=Eb fun _ _ _ _ _ _ _ q=>add_int q
theorem Cv:OpR X (binaryOp .Sub) (rI0 fun i j=>.int (i - j)):=Eb fun _ _ _ _ _ _ _ q=>sub_int q
theorem CP:OpR X (binaryOp .Mult) (rI yA fun i j=>.int (i * j)):=opI fun _ _ _ _ _ _ _ hc q=>mul_int q hc.ok
theorem yw:OpR X (binaryOp .FloorDiv) (rI D8 fun i j=>.int (i / j)):=opI fun i j _ _ _ _ _ hc q=>by
 have h1:(0:Int) < j:=hc.1
 have h2:j < 1073741824:=hc.2
 exact floordiv_int (by lia) (by rw [Int.fdiv_eq_ediv_of_nonneg i (by lia)];exact q) (.inl (PyProof.noPylong_small (by omega)))
theorem BF:OpR X (binaryOp .Mod) (rI (fun _ j=>0 < j) fun i j=>.int (i % j)):=opI fun i j _ _ _ _ _ hc q=>by
 have h1:(0:Int) < j:=hc
 exact mod_int' (by lia) (by rw [Int.fmod_eq_emod_of_nonneg i (by lia)];exact q)
theorem Bn:OpR X (binaryOp .Pow) (rI DR fun i j=>.int (i ^ j.toNat)):=opI fun _ _ _ _ _ _ _ hc q=>pow_int_small hc.1 hc.2.1 hc.2.2 q
theorem unI {f:Value->Sem Value} {g:Int->Int}
  (rule:∀ (i:Int) (t:Tok) (s:Shared) (Q:Z9) (E:Z9),Q (.int (g i) s.toks) { s with toks:=s.toks+1 }->wpAny (model X.prog X.w) X.A (f (.int i t)) Q E s) :
  UnR X f (rU fun i=>.int (g i)):=by
 intro pins s σ H x v Q I rx h
 obtain ⟨i,rfl,q⟩:=h
 obtain ⟨t,rfl⟩:=rx
 exact rule i t s _ _ ⟨.int (g i),H,I.tok _,⟨_,rfl⟩,q⟩
theorem CO:UnR X (unaryOp .USub) (rU fun i=>.int (-i)):=unI fun _ _ _ _ _ q=>neg_int q
end
section
variable {X:Cx} {a b c:Expr} {ta tb tc:TE} {pos:Pos}
theorem CY {pins:Yz} {σ:St} {H:Hp} {s:Shared} {Q:VK} {k k':Bool} (I:Inv X pins σ H s) (q:Q (.bl k) H) (e:k=k'):EP X pins σ Q (.bool k') s:=by
 subst e
 exact ⟨.bl k,H,I,rfl,q⟩
theorem DW:OpR X (compareOp .Lt) (rI0 fun i j=>.bl (decide (i < j))):=yx fun _ _ _ _ _ _ _ q=>lt_int q
theorem Dp:OpR X (compareOp .LtE) (rI0 fun i j=>.bl (decide (i<=j))):=yx fun _ _ _ _ _ _ _ q=>le_int q
theorem EV:OpR X (compareOp .Gt) (rI0 fun i j=>.bl (decide (j < i))):=yx fun _ _ _ _ _ _ _ q=>gt_int q
theorem Ff:OpR X (compareOp .GtE) (rI0 fun i j=>.bl (decide (j<=i))):=yx fun _ _ _ _ _ _ _ q=>ge_int q
theorem ue:OpR X (compareOp .Lt) (fun x y H Q=>∃ i j,x=.str i/\y=.str j/\Q (.bl (decide (i.cps.toList < j.cps.toList))) H):=by
 intro pins s σ H x y v u Q I rx ry h
 obtain ⟨i,j,rfl,rfl,q⟩:=h
 obtain ⟨t,rfl⟩:=rx
 obtain ⟨t',rfl⟩:=ry
 exact lt_str (CY I q rfl)
noncomputable def isObj:HO->Bool
 | .lst _=>true
 | .ins _ _ _=>true
 | _=>false
theorem nA {pins:Yz} {s:Shared} {σ:St} {H:Hp} {a:Addr} {o:HO} (I:Inv X pins σ H s) (h:H a=some o) (p:isObj o=true):∃ ob,s.heap.get? a=some ob/\ob.cls ≠ .type "tuple" := by
 cases o with
 | lst xs =>
  obtain ⟨_,its,n,_,e⟩:xs.length<=sizeLine/\∃ (its:Xg) (n:Nat),aT xs its/\s.heap.get? a=some { cls:=.type "list",data:=.seq its.toArray n }:=I.hok a _ h
  exact ⟨_,e,(by show Value.type "list" ≠ .type "tuple";decide +kernel)⟩
 | ins C dx fs =>
  have x:=I.hok a _ h
  obtain ⟨_,_,_,e,_⟩:=x
  exact ⟨_,e,(by show Value.ref C ≠ .type "tuple";exact fun z=>by cases z)⟩
 | _=>exact absurd (show false=true from p) Zm
theorem OpR.or {f:Value->Value->Sem Value} {r r':R2} (h:OpR X f r) (h':OpR X f r'):OpR X f (fun x y H Q=>r x y H Q\/r' x y H Q):=by
 intro pins s σ H x y v u Q I rx ry q
 rcases q with q | q
 ·exact h pins s σ H x y v u Q I rx ry q
 ·exact h' pins s σ H x y v u Q I rx ry q
theorem jO (b:Expr) {op:CmpOp} (h:op ≠ .In:=by decide) (h2:op ≠ .NotIn:=by decide):behindInMarks op b=false:=by
 have e1:(op == CmpOp.In)=false:=by cases op <;> first | rfl | exact absurd rfl h
 have e2:(op == CmpOp.NotIn)=false:=by cases op <;> first | rfl | exact absurd rfl h2
 cases b <;> simp [behindInMarks,e1,e2]
theorem yu {op:CmpOp} {r:R2} (ho:OpR X (compareOp op) r) (ha:PE X a ta) (hb:PE X b tb) (hm:behindInMarks op b=false):PE X (.Compare a [op] [b] pos) (tOp r ta tb):=by
 intro pins s σ H Q I h
 exact wpAny_Compare1 (BP ha hb I h fun v u s2 x y H2 I2 rx ry q=>ho pins s2 σ H2 x y v u Q I2 rx ry q) hm
noncomputable def xx (t:TE):TT:=fun σ H Q=>t σ H fun x H'=>∃ k,x=.bl k/\Q k H'
theorem zT {op:CmpOp} {r:R2} (ho:OpR X (compareOp op) r) (ha:PE X a ta) (hb:PE X b tb) (hm:behindInMarks op b=false):PT X (.Compare a [op] [b] pos) (xx (tOp r ta tb)):=by
 intro pins s σ H Q I h
 refine wpAny_isTrue_Compare1 (thn (ha pins s σ H _ I h) fun v s1 ⟨x,H1,I1,r1,q1⟩=>thn (hb pins s1 σ H1 _ I1 q1) fun u s2 ⟨y,H2,I2,r2,q2⟩ =>
  thn (ho pins s2 σ H2 x y v u _ I2 r1 r2 q2) fun c s3 ⟨z,H3,I3,r3,k,e,q3⟩=>?_) hm
 subst e
 cases r3
 exact Yj ⟨H3,I3,q3⟩
noncomputable def wY (r r':R2) (ta tb tc:TE):TE:=fun σ H Q=>ta σ H fun x H1=>tb σ H1 fun y H2=>r x y H2 fun z H3=>∃ k,z=.bl k ∧
 (if k=true then tc σ H3 fun w' H4=>r' y w' H4 Q else Q (.bl false) H3)
theorem vz {op op':CmpOp} {r r':R2} (ho:OpR X (compareOp op) r) (ho':OpR X (compareOp op') r') (ha:PE X a ta) (hb:PE X b tb) (hc:PE X c tc)
  (hm:lastMarks [op,op'] [b,c]=false:=by with_unfolding_all rfl):PT X (.Compare a [op,op'] [b,c] pos) (xx (wY r r' ta tb tc)):=by
 intro pins s σ H Q I h
 refine isTrue_chain (thn (ha pins s σ H _ I h) fun v s1 ⟨x,H1,I1,r1,q1⟩=>test_link (thn (hb pins s1 σ H1 _ I1 q1) fun u s2 ⟨y,H2,I2,r2,q2⟩ =>
  thn (ho pins s2 σ H2 x y v u _ I2 r1 r2 q2) fun d s3 ⟨z,H3,I3,r3,k,e,q3⟩=>?_)) hm
 subst e
 cases r3
 refine Yj ?_
 cases k with
 | false =>
  obtain ⟨k',e',q'⟩:=q3
  cases e'
  exact ite_ff ⟨H3,I3,q'⟩
 | true =>
  refine ite_tt (test_last (thn (hc pins s3 σ H3 _ I3 q3) fun w' s4 ⟨z',H4,I4,r4,q4⟩=>thn (ho' pins s4 σ H4 y z' u w' _ I4 r2 r4 q4) fun d' s5 ⟨z2,H5,I5,r5,k2,e2,q5⟩=>?_))
  subst e2
  cases r5
  exact Yj ⟨H5,I5,q5⟩
noncomputable def BV (K:Xy) (x:V) (H:Hp) (k:Bool):Prop :=
 match x with
 | .non=>k=false
 | .bl b=>k=b
 | .int i=>k=(i != 0)
 | .str y=>y.length<=sizeLine/\k=((y.length:Int) != 0)
 | .byt y=>y.size<=sizeLine/\k=((y.size:Int) != 0)
 | .ref p=>(∃ xs,SqL K H p xs/\k=!xs.isEmpty)\/(∃ xs,SqT K H p xs/\k=!xs.isEmpty)\/∃ kvs,H p=some (.dK kvs)/\k=!kvs.isEmpty
 | _=>False
theorem qQ {κ:Type} {kvs:List (κ×V)} {vs:List (κ×Value)} (r:KV kvs vs):(!vs.isEmpty)=!kvs.isEmpty:=by
 cases r <;> rfl
theorem kZ {xs:List V} {its:Xg} (r:aT xs its):(!its.toArray.isEmpty)=!xs.isEmpty:=by
 cases r <;> simp
theorem jR:(sizeLine:Nat) < 2 ^ 63:=by rw [WK];decide
theorem B8:FI X (fun x H Q=>∃ k,BV X.K x H k/\Q k H):=by
 intro pins s σ H x v Q I rx h
 obtain ⟨k,e,q⟩:=h
 have hl:=jR
 have hs:sizeLine=16777216:=WK
 cases x with
 | non =>
  cases rx
  have e':k=false:=e
  subst e'
  exact truthy_none ⟨H,I,q⟩
 | bl b =>
  cases rx
  have e':k=b:=e
  subst e'
  exact Yj ⟨H,I,q⟩
 | int i =>
  obtain ⟨t,rfl⟩:=rx
  have e':k=(i != 0):=e
  subst e'
  exact PySem.P.truthy_int ⟨H,I,q⟩
 | str y =>
  obtain ⟨t,rfl⟩:=rx
  obtain ⟨hy,e'⟩:y.length<=sizeLine/\k=((y.length:Int) != 0):=e
  subst e'
  exact PySem.P.truthy_str (by lia) ⟨H,I.tok _,q⟩
 | byt y =>
  obtain ⟨t,rfl⟩:=rx
  obtain ⟨hy,e'⟩:y.size<=sizeLine/\k=((y.size:Int) != 0):=e
  subst e'
  exact PySem.W.truthy_bytes (by lia) ⟨H,I.tok _,q⟩
 | ref p =>
  cases rx
  have e':(∃ xs,SqL X.K H p xs/\k=!xs.isEmpty)\/(∃ xs,SqT X.K H p xs/\k=!xs.isEmpty)\/∃ kvs,H p=some (.dK kvs)/\k=!kvs.isEmpty:=e
  rcases e' with ⟨xs,hx,e'⟩ | ⟨xs,hx,e'⟩ | ⟨kvs,hx,e'⟩
  ·subst e'
   obtain ⟨its,r,pl,hz⟩:=I.list hx
   have hlen:=r.length
   exact wpAny_truthy_list pl.isList (by simp only [ZZ];lia) ⟨H,I.tok _,by rw [kZ r];exact q⟩
  ·subst e'
   obtain ⟨its,r,pl,hz⟩:=I.tuple hx
   have hlen:=r.length
   exact truthy_tuple pl (by simp only [ZZ];lia) ⟨H,I.tok _,by rw [kZ r];exact q⟩
  ·subst e'
   obtain ⟨hz,hS,vs,r,m⟩:kvs.length<=sizeLine/\(p == sysModules)=false/\∃ vs,KV kvs vs/\s.heap.DictOf (bU X.prog X.w) p vs:=I.hok p _ hx
   have hlen:kvs.length=vs.length:=Wf r
   exact wpAny_truthy_dict hS m (by lia) ⟨H,I.tok _,by rw [qQ r];exact q⟩
 | _=>exact (show False from e).elim
theorem xD (ha:PE X a ta) (he:∀ whole,isTrue a X.env whole=(do let v ← whole;standAt a.pos;holding [v] (truthy v))) :
  PT X a (fun σ H Q=>ta σ H fun x H'=>∃ k,BV X.K x H' k/\Q k H'):=by
 intro pins s σ H Q I h
 exact isTrue_plain (thn (ha pins s σ H _ I h) fun v s1 ⟨x,H1,I1,r1,q1⟩=>B8 pins s1 σ H1 x v Q I1 r1 q1) (he _)
theorem q9:OpR X (binaryOp .Add) (fun x y H Q=>∃ i j,x=.str i/\y=.str j/\i.length+j.length<=sizeLine/\Q (.str (i++j)) H):=by
 intro pins s σ H x y v u Q I rx ry h
 obtain ⟨i,j,rfl,rfl,hz,q⟩:=h
 obtain ⟨t,rfl⟩:=rx
 obtain ⟨t',rfl⟩:=ry
 exact add_str (fun t' tk=>⟨.str (i++j),H,I.tok _,⟨_,rfl⟩,q⟩) hz
theorem vals1 {x:V} {us:Xg} (r:aT [x] us):∃ u,us=[u]/\RelV x u:=by
 cases r with
 | cons r1 r2=>cases r2;exact ⟨_,rfl,r1⟩
theorem vals2 {x y:V} {us:Xg} (r:aT [x,y] us):∃ u w',us=[u,w']/\RelV x u/\RelV y w':=by
 cases r with
 | cons r1 r2 =>
  cases r2 with
  | cons r3 r4=>cases r4;exact ⟨_,_,rfl,r1,r3⟩
theorem uA (hc:X.calm=true):d9 X (.builtin "min") (fun xs H Q=>∃ i j,xs=[.int i,.int j]/\Q (.int (if j < i then j else i)) H):=by
 intro pins s σ H xs us Q I r h
 obtain ⟨i,j,rfl,q⟩:=h
 obtain ⟨u,w',rfl,⟨t,rfl⟩,⟨t',rfl⟩⟩:=vals2 r
 refine min_two_ints (I.ok.hd hc) fun h' tk k=>⟨_,H,I.kept k,?_,q⟩
 by_cases hj:j < i
 ·rw [Zq hj,Zq hj];exact ⟨_,rfl⟩
 ·rw [Zn hj,Zn hj];exact ⟨_,rfl⟩
noncomputable def D1 (K:Xy) (x:V) (H:Hp) (n:Nat):Prop :=
 match x with
 | .str y=>y.length<=sizeLine/\n=y.length
 | .byt y=>y.size<=sizeLine/\n=y.size
 | .ref p=>(∃ xs,SqL K H p xs/\n=xs.length)\/∃ xs,SqT K H p xs/\n=xs.length
 | _=>False
theorem vZ:d9 X (.builtin "len") (fun xs H Q=>∃ x n,xs=[x]/\D1 X.K x H n/\Q (.int n) H):=by
 intro pins s σ H xs us Q I r h
 obtain ⟨x,n,rfl,e,q⟩:=h
 obtain ⟨u,rfl,rx⟩:=vals1 r
 have hl:=jR
 have hs:sizeLine=16777216:=WK
 cases x with
 | str y =>
  obtain ⟨t,rfl⟩:=rx
  obtain ⟨hy,e'⟩:y.length<=sizeLine/\n=y.length:=e
  subst e'
  exact len_str (by lia) ⟨.int _,H,I.tok _,⟨_,rfl⟩,q⟩
 | byt y =>
  obtain ⟨t,rfl⟩:=rx
  obtain ⟨hy,e'⟩:y.size<=sizeLine/\n=y.size:=e
  subst e'
  exact PySem.W.len_bytes (by lia) ⟨.int _,H,I.tok _,⟨_,rfl⟩,q⟩
 | ref p =>
  cases rx
  have e':(∃ xs,SqL X.K H p xs/\n=xs.length)\/∃ xs,SqT X.K H p xs/\n=xs.length:=e
  rcases e' with ⟨xs,hx,e'⟩ | ⟨xs,hx,e'⟩
  ·subst e'
   obtain ⟨its,r',pl,hz⟩:=I.list hx
   have hlen:=r'.length
   exact Calls.call_len_list pl.isList (by simp only [ZZ];lia) ⟨.int xs.length,H,I.tok _,⟨_,by simp only [ZZ];rw [hlen]⟩,q⟩
  ·subst e'
   obtain ⟨its,r',pl,hz⟩:=I.tuple hx
   have hlen:=r'.length
   exact len_tuple pl (by simp only [ZZ];lia) ⟨.int xs.length,H,I.tok _,⟨_,by simp only [ZZ];rw [hlen]⟩,q⟩
 | _=>exact (show False from e).elim
end
structure ObjM (h:Heap) (x dx C:Addr) (mA:Xm):Prop where
 obj:h.get? x=some (PySem.W.instObj C dx)
 ns:h.Ns1 dx mA
 ne:dx ≠ x
theorem ud {h:Heap} {dx:Addr} {mA:Xm} (n:h.Ns1 dx mA):∃ od,h.get? dx=some od/\∀ name,PySem.W.lookIn name od=some (mA name):=by
 obtain ⟨o,es,ep,ho,hd,hk,_,hm⟩:=n
 refine ⟨o,ho,fun name=>?_⟩
 have e:=hm name
 unfold nsFind findBy at e
 rw [← Array.find?_toList] at e
 unfold PySem.W.lookIn
 rw [hd]
 dsimp only
 split
 ·rename_i y q
  rw [q] at e
  exact congrArg some e
 ·rename_i q
  rw [q] at e
  have a:es.toList.any (·.refKey)=false:=by
   rw [List.any_eq_false]
   intro y hy
   obtain ⟨z,t,hkey⟩:=hk y (Array.mem_toList_iff.mp hy)
   simp [DictEntry.refKey,hkey]
  have a':¬ es.toList.any (·.refKey)=true:=by rw [a];exact Zm
  rw [Zn a']
  exact congrArg some e
theorem ObjM.look {h:Heap} {x dx C:Addr} {mA:Xm} (I:ObjM h x dx C mA):∃ od,PySem.W.InstAt h x (PySem.W.instObj C dx) C (some od)/\∀ name,PySem.W.lookIn name od=some (mA name) :=
 let ⟨od,ho,hl⟩:=ud I.ns
 ⟨od,⟨I.obj,rfl,rfl,ho⟩,hl⟩
theorem jS.some_of {v:V} {o:Wr} (r:jS (some v) o):∃ u,o=some u/\RelV v u:=by
 cases o with
 | none=>exact (show False from r).elim
 | some u=>exact ⟨u,rfl,r⟩
section
variable {P:Program} {w:World} {H H':Hp} {h h':Heap} {a C dx:Addr} {fs fs':List (Str×V)}
theorem zK (hok:HOk P w H h) (e:H a=some (.ins C dx fs)):∃ mA,ObjM h a dx C mA/\(∀ f,jS (fs.lookup f) (mA f))/\PySem.Within mA (fs.map (·.1))/\fs.length<=1000/\H dx=some (.own a):=by
 obtain ⟨d,z,ne,ob,mA,n,r,q⟩:=(show ba P w H h a (.ins C dx fs) from hok a _ e)
 exact ⟨mA,⟨ob,n,ne⟩,r,q,z,d⟩
end
structure Cls (K:Xy) (C:Addr):Prop where
 pg:PySem.W.plainGet K C Str.empty=true
 hd:PySem.W.hasDictIn K C=true
 po:PySem.W.plainOver K C=true
 sa:PySem.W.findIn K (.ref C) "__setattr__" = some (some (.builtin "object.__setattr__"))
theorem Cls.get {K:Xy} {C:Addr} (c:Cls K C) (f:Str):PySem.W.plainGet K C f=true:=c.pg
section
variable {X:Cx} {o e value:Expr} {f:Str} {pos pos' tpos:Pos} {ta tv:TE}
noncomputable def By:V->V->Hp->VK->Prop:=fun x y H Q=>∃ i j,x=.int i/\y=.int j/\Q (.int (i+j)) H
end
section
variable {X:Cx} {pins:Yz} {σ:St} {H:Hp} {s:Shared} {A:Around} {E:Z9} {Q:Z9} {c:Value} {b:Bool}
inductive TyOf (K:Xy) (H:Hp):V->Value->Prop where
 | non:TyOf K H .non (.type "NoneType")
 | bl (x:Bool):TyOf K H (.bl x) (.type "bool")
 | int (i:Int):TyOf K H (.int i) (.type "int")
 | str (x:Str):TyOf K H (.str x) (.type "str")
 | flt (x:UInt64):TyOf K H (.flt x) (.type "float")
 | lst {a:Addr} {xs:List V} (e:H a=some (.lst xs)):TyOf K H (.ref a) (.type "list")
 | frz {a:Addr} {o:Obj} {xs:List V} (e:H a=some (.frz o (.lst xs))):TyOf K H (.ref a) (.type "list")
 | tup {a:Addr} {xs:List V} (e:H a=some (.tup xs)):TyOf K H (.ref a) (.type "tuple")
 | dK {a:Addr} {kvs:List (Key×V)} (e:H a=some (.dK kvs)):TyOf K H (.ref a) (.type "dict")
 | dT {a:Addr} {kvs:List (List Key×V)} (e:H a=some (.dT kvs)):TyOf K H (.ref a) (.type "dict")
 | ins {a C dx:Addr} {fs:List (Str×V)} (e:H a=some (.ins C dx fs)) (cl:Cls K C) (ha:PySem.W.findIn K (.ref C) "__class__" = some (some (.builtin "object.__class__")))
   (hn:PySem.W.specialIn K (.builtin "object.__class__") "__get__" = some (some (.builtin "getset_descriptor.__get__"))) (htk:PySem.W.takesIn K (.builtin "object.__class__")=some true)
   (hm:PySem.W.mroIn K C (.type "object")=some true):TyOf K H (.ref a) (.ref C)
theorem uc {x:V} {u t:Value} (I:Inv X pins σ H s) (rx:RelV x u) (ty:TyOf X.K H x t) (e:PySem.W.kitOne X.K t c=some b) (h:∀ tk,Q (.bool b) { s with toks:=tk }) :
  wpAny (model X.prog X.w) A (call (.builtin "isinstance") [u,c]) Q E s:=by
 cases ty with
 | non=>cases (show u=Value.none from rx);exact Yg PySem.W.kitx_none I.kIn True.intro e (fun z=>nomatch z) h
 | bl y=>cases (show u=Value.bool y from rx);exact Yg PySem.W.kitx_bool I.kIn True.intro e (fun z=>nomatch z) h
 | int i=>obtain ⟨t,q⟩:=(show ∃ t,u=Value.int i t from rx);cases q;exact Yg PySem.W.kitx_int I.kIn True.intro e (fun z=>nomatch z) h
 | str y=>obtain ⟨t,q⟩:=(show ∃ t,u=Value.str y t from rx);cases q;exact Yg PySem.W.kitx_str I.kIn True.intro e (fun z=>nomatch z) h
 | flt y=>obtain ⟨t,q⟩:=(show ∃ t,u=Value.float y t from rx);cases q;exact Yg PySem.W.kitx_float I.kIn True.intro e (fun z=>nomatch z) h
 | @lst a xs ea =>
  cases (show u=Value.ref a from rx)
  obtain ⟨_,_,n,_,h1⟩:=(show ba X.prog X.w H s.heap a (.lst xs) from I.hok a _ ea)
  exact Yg PySem.W.kitx_list I.kIn ⟨_,h1,rfl⟩ e (fun z=>nomatch z) h
 | @frz a ob xs ea =>
  cases (show u=Value.ref a from rx)
  obtain ⟨_,_,_,n,_,h1⟩:=(show ba X.prog X.w H s.heap a (.frz ob (.lst xs)) from I.hok a _ ea)
  exact Yg PySem.W.kitx_list I.kIn ⟨_,h1,rfl⟩ e (fun z=>nomatch z) h
 | @tup a xs ea =>
  cases (show u=Value.ref a from rx)
  obtain ⟨_,_,_,_,p⟩:=(show ba X.prog X.w H s.heap a (.tup xs) from I.hok a _ ea)
  obtain ⟨o,h1,h2,_⟩:=p
  exact Yg PySem.W.kitx_tuple I.kIn ⟨o,h1,h2⟩ e (fun z=>nomatch z) h
 | @dK a kvs ea =>
  cases (show u=Value.ref a from rx)
  obtain ⟨_,_,vs,_,p⟩:=(show ba X.prog X.w H s.heap a (.dK kvs) from I.hok a _ ea)
  obtain ⟨o,es,ep,h1,h2,_⟩:=p
  exact Yg PySem.W.kitx_dict I.kIn ⟨o,h1,h2.1⟩ e (fun z=>nomatch z) h
 | @dT a kvs ea =>
  cases (show u=Value.ref a from rx)
  obtain ⟨_,_,xs,_,o,es,ep,h1,h2,_⟩:=(show ba X.prog X.w H s.heap a (.dT kvs) from I.hok a _ ea)
  exact Yg PySem.W.kitx_dict I.kIn ⟨o,h1,h2.1⟩ e (fun z=>nomatch z) h
 | @ins a C dx fs ea cl ha hn htk hm =>
  cases (show u=Value.ref a from rx)
  obtain ⟨mA,O,_⟩:=zK I.hok ea
  obtain ⟨od,J,_⟩:=O.look
  exact Yg (PySem.W.kitx_own (cl.get _) cl.hd ha hn htk hm) I.kIn J e (fun z=>nomatch z) h
end
structure Room (k:Nat) (A:Around):Prop where
 hd:A.handled=none
 dp:A.depth+3 * k+5 < recursionLimit
 un:A.units+16 * k+200 < cLine
theorem Room.mono {j k:Nat} {A:Around} (r:Room k A) (h:j<=k):Room j A:=⟨r.hd,by have:=r.dp;lia,by have:=r.un;lia⟩
theorem Room.deeper {k:Nat} {A:Around} (r:Room (k+1) A) (env:Env):Room k (A.deeper env) :=
 ⟨r.hd,by have:=r.dp;show A.depth+1+3 * k+5 < _;lia,by have:=r.un;show A.units+3+16 * k+200 < _;lia⟩
theorem Room.in1 {k:Nat} {A:Around} (r:Room (k+1) A):Room k A.in1 :=
 ⟨r.hd,by have:=r.dp;show A.depth+3 * k+5 < _;lia,by have:=r.un;show A.units+1+16 * k+200 < _;lia⟩
theorem Room.depth {k:Nat} {A:Around} (r:Room k A):A.depth < recursionLimit:=by have:=r.dp;lia
theorem Room.units {k:Nat} {A:Around} (r:Room k A):A.units+64 < cLine:=by have:=r.un;lia
noncomputable def DH:TA:=fun _ H Q=>Q [] H
noncomputable def Bc (ta:TE) (tr:TA):TA:=fun σ H Q=>ta σ H fun x H1=>tr σ H1 fun xs H2=>Q (x :: xs) H2
section
variable {X:Cx} {e:Expr} {es:List Expr} {te:TE} {t:TA} {pos:Pos}
theorem fI:PA X [] DH:=fun _ _ _ _ H Q I h=>Calls.spliced_nil ⟨[],H,I,.nil,h⟩
theorem de (ha:PE X e te) (hr:PA X es t) (hs:starEach (e :: es) X.env=(false,eval e X.env) :: starEach es X.env:=by rfl):PA X (e :: es) (Bc te t):=by
 intro pos pins s σ H Q I h
 rw [hs]
 show wpAny _ _ (spliced ((false,eval e X.env) :: backTo pos (starEach es X.env))) _ _ s
 refine Calls.spliced_cons (thn (ha pins s σ H _ I h) fun u s1 ⟨x,H1,I1,r1,q1⟩=>?_)
 exact thn (hr pos pins s1 σ H1 _ I1 q1) fun us s2 ⟨xs,H2,I2,r2,q2⟩=>⟨x :: xs,H2,I2,.cons r1 r2,q2⟩
noncomputable def FO (t:TA):TE:=fun σ H Q=>t σ H fun xs H1=>xs.length<=sizeLine/\∀ p,H1 p=none->Q (.ref p) (upd H1 p (.tup xs))
noncomputable def FC (t:TA):TE:=fun σ H Q=>t σ H fun xs H1=>xs.length<=sizeLine/\∀ p,H1 p=none->Q (.ref p) (upd H1 p (.lst xs))
theorem Bf {x1} (h:PA X es t):PE X (.Tuple es x1 pos) (FO t):=by
 intro pins s σ H Q I hq
 refine wpAny_Tuple_spliced (thn (h pos pins s σ H _ I hq) fun us s1 ⟨xs,H1,I1,r,z,q⟩=>⟨by rw [← r.length];exact z,?_⟩)
 have hf:H1 s1.heap.objs.size=none:=I1.hok.fresh (Zp _)
 refine ⟨.ref s1.heap.objs.size,upd H1 s1.heap.objs.size (.tup xs),I1.laid (t':=s1.toks) (fun b u e=>Ze _ e) (Zp _) ?_,rfl,q _ hf⟩
 exact ⟨z,us,r,NoD.of (ZM _ rfl) rfl,⟨_,ZM _ rfl,rfl,_,rfl⟩⟩
theorem n9 (h:PA X es t):PE X (.List es pos) (FC t):=by
 intro pins s σ H Q I hq
 refine wpAny_List_spliced (thn (h pos pins s σ H _ I hq) fun us s1 ⟨xs,H1,I1,r,z,q⟩=>⟨by rw [← r.length];exact z,?_⟩)
 have hf:H1 s1.heap.objs.size=none:=I1.hok.fresh (Zp _)
 refine ⟨.ref s1.heap.objs.size,upd H1 s1.heap.objs.size (.lst xs),I1.laid (t':=s1.toks) (fun b u e=>Ze _ e) (Zp _) ?_,rfl,q _ hf⟩
 exact ⟨z,us,0,r,ZM _ rfl⟩
end
noncomputable abbrev Sp:=List V->Hp->VK->XK->Prop
noncomputable abbrev CXT:=List Env->Hp->Shared->XK->Z9
structure Env0 (P:Program) (w:World) (K:Xy) (mg:Xm) (base:Heap) (A:Around) (outer:List Env) (s:Shared) (H:Hp):Prop where
 frames:A.frames=some outer
 mod:Mod K mg base
 bs:∀ b o,base.get? b=some o->s.heap.get? b=some o/\H b=none
 bsz:base.objs.size<=s.heap.objs.size
 funs:s.heap.FunFrames base outer
 frf:∀ b∈frs outer,H b=none
 hok:HOk P w H s.heap
 bare:AllBare s.gens
noncomputable def CE (outer:List Env) (P:Program) (w:World) (H:Hp) (s:Shared) (Q:VK) (u:Value) (s':Shared):Prop :=
 ∃ v H',s'.os=s.os/\AllBare s'.gens/\Un (frs outer) [] H H' s.heap s'.heap/\HOk P w H' s'.heap/\RelV v u/\Q v H'
noncomputable def CR (CX:CXT) (outer:List Env) (P:Program) (w:World) (H:Hp) (s:Shared) (Q:VK) (E:XK) (r:Result) (s':Shared):Prop :=
 match r with
 | .ok (.ret u)=>CE outer P w H s Q u s'
 | .ok _=>False
 | .error e=>CX outer H s E e s'
structure FnOk (P:Program) (w:World) (K:Xy) (mg:Xm) (base:Heap) (CX:CXT) (k:Nat) (f:Addr) (fd:FuncData) (ps:List Str) (sp:Sp):Prop where
 len:∀ vs H Q E,sp vs H Q E->vs.length=ps.length
 run:∀ (A:Around) (outer:List Env) (s:Shared) (H:Hp) (args:Args) (us:Xg) (vs:List V) (Q:VK) (E:XK),Room k A->Env0 P w K mg base A outer s H->BindsTo s fd args (ps.zip us)->aT vs us->sp vs H Q E →
  codeAny (model P w) A (.call (.ref f) args) (CR CX outer P w H s Q E) s
theorem FnOk.imp {P:Program} {w:World} {K:Xy} {mg:Xm} {base:Heap} {CX:CXT} {k:Nat} {f:Addr} {fd:FuncData} {ps:List Str} {sp sp':Sp} (F:FnOk P w K mg base CX k f fd ps sp)
  (h:∀ vs H Q E,sp' vs H Q E->sp vs H Q E):FnOk P w K mg base CX k f fd ps sp' :=
 ⟨fun vs H Q E q=>F.len vs H Q E (h _ _ _ _ q),fun A outer s H args us vs Q E hr he hb hv hs=>F.run A outer s H args us vs Q E hr he hb hv (h _ _ _ _ hs)⟩
section
variable {X:Cx} {pins:Yz} {σ:St} {H:Hp} {s s':Shared}
theorem Inv.env0 (I:Inv X pins σ H s):Env0 X.prog X.w X.K X.mg X.base X.A X.stack s H :=
 ⟨I.ok.frames,I.ok.mod,I.bs,ZV I.ok.bsz I.sz,I.stack,I.stkFree,I.hok,I.bare⟩
theorem Inv.after {Q:VK} {u:Value} (I:Inv X pins σ H s) (h:CE X.stack X.prog X.w H s Q u s'):EP X pins σ Q u s':=by
 obtain ⟨v,H',os,bare,un,hok,r,q⟩:=h
 obtain ⟨hh,g,d,t,os'⟩:=s'
 obtain rfl:os'=s.os:=os
 exact ⟨v,H',I.call (h':=hh) (g':=g) (d':=d) (t':=t) (ch:=[]) un hok bare (fun b z=>absurd z (by simp)),r,q⟩
end
noncomputable def AJ (sp:Sp) (dvs:List V) (E:XK) (t:TA):TE:=fun σ H Q=>t σ H fun vs H1=>sp (vs++dvs) H1 Q E
noncomputable def Binds (K:Xy) (fd:FuncData) (ps:List Str) (ds:Xg):Prop :=
 ∀ (s:Shared) (us:Xg),K.In s.heap->(us++ds).length=ps.length->BindsTo s fd ⟨us,[]⟩ (ps.zip (us++ds))
theorem Binds.all {K:Xy} {fd:FuncData} {ps:List Str} (h:∀ us:Xg,us.length=ps.length->bindArgs fd ⟨us,[]⟩=pure (ps.zip us)):Binds K fd ps []:=fun s us _ hl=>by
 rw [Z7] at hl ⊢
 exact .of_eq (h us hl)
noncomputable def rg (CX:CXT) (X:Cx) (E:XK):Prop:=∀ (pins:Yz) (σ:St) (H:Hp) (s:Shared) (e:Value) (s':Shared),Inv X pins σ H s->CX X.stack H s E e s'->X.xe e s'
section
variable {X:Cx} {CX:CXT} {k:Nat} {f C:Addr} {fd:FuncData} {ps:List Str} {sp:Sp} {dvs:List V} {ds:Xg} {E:XK} {x m:Str} {p pos apos:Pos} {e o:Expr} {es:List Expr} {ta:TE} {t:TA}
theorem Bg {pins:Yz} {σ:St} {H:Hp} {s:Shared} {Q:VK} {us:Xg} {vs:List V} (F:FnOk X.prog X.w X.K X.mg X.base CX k f fd ps sp) (hr:Room k X.A) (hb:Binds X.K fd ps ds) (hd:aT dvs ds) (hx:rg CX X E)
  (I:Inv X pins σ H s) (r:aT vs us) (h:sp (vs++dvs) H Q E):wpAny (model X.prog X.w) X.A (call (.ref f) us) (EP X pins σ Q) X.xe s:=by
 have r2:aT (vs++dvs) (us++ds):=r.append hd
 have hl:(us++ds).length=ps.length:=by rw [← r2.length];exact F.len _ _ _ _ h
 refine wpAny_call (Wz (F.run X.A X.stack s H ⟨us,[]⟩ (us++ds) (vs++dvs) Q E hr I.env0 (hb s us I.kIn hl) r2 h) fun r s' hq=>?_)
 cases r with
 | error e=>exact hx pins σ H s e s' I hq
 | ok fl =>
  cases fl with
  | ret u=>exact I.after hq
  | next=>exact False.elim hq
  | brk=>exact False.elim hq
  | cont=>exact False.elim hq
theorem zg (F:FnOk X.prog X.w X.K X.mg X.base CX k f fd ps sp) (hr:Room k X.A) (hg:Gl X x) (hm:X.mg x=some (.ref f)) (hk:PySem.W.keepIn X.K (.ref f)=true) (hb:Binds X.K fd ps ds) (hd:aT dvs ds) (hx:rg CX X E)
  (ha:PA X (e :: es) t) (hdb:(x == ("__debug__" : Str))=false:=by decide) (he:starEach (e :: es) X.env=(false,eval e X.env) :: starEach es X.env:=by rfl) (hpl:(backTo pos (starEach es X.env)).any (·.1)=false:=by rfl) :
  PE X (.Call (.Name x p) (e :: es) [] pos) (AJ sp dvs E t):=by
 intro pins s σ H Q I h
 refine XQ (jo I hg hm ?_ hdb)
 refine PySem.W.callWith_K (h₀:=X.base) I.ok.mod.kin hk (thn (ha pos pins s σ H _ I h) fun us s1 ⟨vs,H1,I1,r,q⟩=>⟨I1.kIn,?_⟩) he hpl
 exact Bg F hr hb hd hx I1 r q
end
noncomputable def PK (X:Cx) (kws:List Keyword) (t:TA):Prop :=
 ∀ (pos:Pos) (pins:Yz) (s:Shared) (σ:St) (H:Hp) (Q:List V->Hp->Prop),Inv X pins σ H s->t σ H Q->wpAny (model X.prog X.w) X.A (evalAll ((backToKw pos (keywordEach kws X.env)).map (·.2))) (AP X pins σ Q) X.xe s
section
variable {X:Cx} {CX:CXT} {k:Nat} {f C:Addr} {fd:FuncData} {ps ks:List Str} {sp:Sp} {E:XK} {x m:Str} {p pos apos kpos:Pos} {e o:Expr} {es:List Expr} {kws:List Keyword} {te ta:TE} {t tk:TA} {nm:Option Str}
theorem BJ:PK X [] DH:=fun _ _ _ _ H Q I h=>wpAny_evalAll_nil ⟨[],H,I,.nil,h⟩
theorem zC (ha:PE X e te) (hr:PK X kws t):PK X (⟨nm,e,kpos⟩ :: kws) (Bc te t):=by
 intro pos pins s σ H Q I h
 show wpAny _ _ (evalAll ((do let v ← eval e X.env;standAt pos;pure v) :: (backToKw pos (keywordEach kws X.env)).map (·.2))) _ _ s
 refine wpAny_evalAll_cons (Zy (thn (ha pins s σ H _ I h) fun u s1 ⟨x,H1,I1,r1,q1⟩=>Zy (wpAny_standAt (Zs ?_))))
 exact thn (hr pos pins s1 σ H1 _ I1 q1) fun us s2 ⟨xs,H2,I2,r2,q2⟩=>⟨x :: xs,H2,I2,.cons r1 r2,q2⟩
variable {g:Xg->Xg->Xg} {gV:List V->List V->List V}
end
structure FnScope (N P:List Str) (sc:Scope):Prop where
 kind:sc.kind=.function
 co:sc.isCoroutine=false
 gen:sc.isGenerator=false
 nd:N.Nodup
 pre:N.take P.length=P
 par:∀ x∈P,sc.names.lookup x=some .local\/sc.names.lookup x=some .cell
 nofree:∀ y∈sc.names,y.2 ≠ .free
theorem mY {kindOf:Str->Option NameKind} {x:Str}:∀ {binds:List (Str×Value)} {m:Xm},(∀ v,(x,v) ∉ binds)->bindL kindOf binds m x=m x
 | [],_,_=>rfl
 | (n,v) :: r,m,h=>by
  unfold bindL
  rw [mY fun w hw=>h w (Zx _ hw)]
  split
  ·have:x ≠ n:=by rintro rfl;exact h v Zw
   simp [this]
  ·rfl
theorem mT {kindOf:Str->Option NameKind} {x:Str}:∀ {binds:List (Str×Value)} {m:Xm},(∀ v,(x,v) ∉ binds)->bindC kindOf binds m x=m x
 | [],_,_=>rfl
 | (n,v) :: r,m,h=>by
  unfold bindC
  rw [mT fun w hw=>h w (Zx _ hw)]
  split
  ·rfl
  ·have:x ≠ n:=by rintro rfl;exact h v Zw
   simp [this]
theorem nk {kindOf:Str->Option NameKind} {x:Str} {v:Value}:∀ {P:List Str} {vs:Xg} {i:Nat} {m:Xm},P.Nodup->P[i]?=some x->vs[i]?=some v->kindOf x=some .local →
  bindL kindOf (P.zip vs) m x=some v
 | [],_,_,_,_,h,_,_=>by simp at h
 | _ :: _,[],_,_,_,_,h,_=>by simp at h
 | p :: P,w :: vs,0,m,nd,h1,h2,hk=>by
  simp at h1 h2;subst h1;subst h2
  show bindL kindOf ((p,w) :: P.zip vs) m p=_
  unfold bindL
  rw [mY fun v hv=>(ZJ.mp nd).1 (Wi hv).1,Zq hk]
  simp
 | p :: P,w :: vs,i+1,m,nd,h1,h2,hk=>by
  show bindL kindOf ((p,w) :: P.zip vs) m x=_
  unfold bindL
  exact nk (i:=i) (ZJ.mp nd).2 (by simpa using h1) (by simpa using h2) hk
theorem ny {kindOf:Str->Option NameKind} {x:Str} {v:Value}:∀ {P:List Str} {vs:Xg} {i:Nat} {m:Xm},P.Nodup->P[i]?=some x->vs[i]?=some v->kindOf x ≠ some .local →
  bindC kindOf (P.zip vs) m x=some v
 | [],_,_,_,_,h,_,_=>by simp at h
 | _ :: _,[],_,_,_,_,h,_=>by simp at h
 | p :: P,w :: vs,0,m,nd,h1,h2,hk=>by
  simp at h1 h2;subst h1;subst h2
  show bindC kindOf ((p,w) :: P.zip vs) m p=_
  unfold bindC
  rw [mT fun v hv=>(ZJ.mp nd).1 (Wi hv).1,Zn hk]
  simp
 | p :: P,w :: vs,i+1,m,nd,h1,h2,hk=>by
  show bindC kindOf ((p,w) :: P.zip vs) m x=_
  unfold bindC
  exact ny (i:=i) (ZJ.mp nd).2 (by simpa using h1) (by simpa using h2) hk
noncomputable def start (N:List Str) (vs:List V):St:=vs.map some++List.replicate (N.length - vs.length) none
noncomputable def jC (CX:CXT) (P:Program) (w:World) (K:Xy) (mg:Xm) (base:Heap) (N:List Str) (qual:Str) (scope:Scope) (f:Addr) (cd:Value) (A:Around) (outer:List Env) (s:Shared) (H:Hp) (E:XK):Cx where
 prog:=P
 w:=w
 K:=K
 mg:=mg
 base:=base
 A:=A.deeper (envOfC qual scope s.heap.objs.size f cd)
 N:=N
 s₀:=s
 H₀:=H
 env:=envOfC qual scope s.heap.objs.size f cd
 outer:=outer
 stack:=envOfC qual scope s.heap.objs.size f cd :: outer
 ex:=[]
 calm:=true
 fn:=fun _=>true
 pn:=[]
 xe:=fun e s'=>wpAny (model P w) (A.deeper (envOfC qual scope s.heap.objs.size f cd)) (leaving (envOfC qual scope s.heap.objs.size f cd) e) (fun _ s''=>CX outer H s E e s'') (fun e' s''=>CX outer H s E e' s'') s'
theorem o5 {sc:Scope} {n:Nat} {x:Str} (h:sc.names.lookup x=some .cell):∃ c,(cellsFrom n sc.names []).lookup x=some c:=by
 have q:=PySem.W.cellsFrom_some sc.names n [] (.inl h)
 exact Ww.mp q
theorem ua {CX:CXT} {P:Program} {w:World} {K:Xy} {mg:Xm} {base:Heap} {N ps:List Str} {qual:Str} {scope:Scope} {f:Addr} {cd:Value} {A:Around} {outer:List Env} {s s1:Shared} {H:Hp} {E:XK} {us:Xg} {vs:List V}
  (S:FnScope N ps scope) (hd:A.handled=none) (e0:Env0 P w K mg base A outer s H) (hl:vs.length=ps.length) (r:aT vs us)
  (x:InCallC s s.heap.objs.size (bindL (envOfC qual scope s.heap.objs.size f cd).kindOf (ps.zip us) fun _=>none) (cellsFrom (s.heap.objs.size+1) scope.names []) (bindC (envOfC qual scope s.heap.objs.size f cd).kindOf (ps.zip us) fun _=>none) s1) :
  Inv (jC CX P w K mg base N qual scope f cd A outer s H E) [] (start N vs) H s1:=by
 have hpl:ps.length<=N.length:=by have:=congrArg List.length S.pre;rw [ZS] at this;lia
 obtain ⟨h1,tk,rfl,hk⟩:=x.done
 have noA:∀ b:Addr,b ∉ (jC CX P w K mg base N qual scope f cd A outer s H E).ex:=fun b z=>absurd (show b∈([]:Xl) from z) (by simp)
 refine ⟨⟨e0.mod,S.kind,rfl,rfl,Zp _,fun y z c h1 h2=>?_,fun y hy=>?_,fun y c _ h=>?_,fun _=>hd,Around.frames_deeper e0.frames,.inr ⟨rfl,rfl⟩,fun b z=>absurd z (noA b),e0.bs,e0.bsz,fun b _ _=>noA b,fun b z=>absurd z (noA b),e0.funs,e0.frf⟩,
  rfl,e0.bare,Un.kept hk,⟨_,x.toInCall.ns,fun i y v h1 h2 h3=>?_⟩,fun y c h=>⟨_,x.cell y c h⟩,e0.hok.fresh (Zp _),fun y c h=>?_,fun p hp=>absurd (show p∈([]:Yz) from hp) (by simp),e0.hok.kept hk,?_⟩
 ·exact name_of_addr x.apart (Xf h1) (Xf h2)
 ·have hy:scope.names.lookup y=some .cell\/scope.names.lookup y=some .free:=hy
  rcases hy with hy | hy
  ·exact o5 hy
  ·exact absurd rfl (S.nofree _ (Xf hy))
 ·exact ZO (x.above y c (Xf h))
 ·have hi:i < vs.length:=by
   unfold start at h2
   by_cases hi:i < vs.length
   ·exact hi
   ·rw [Yw (by simpa using hi)] at h2
    rw [Y6] at h2
    split at h2 <;> cases h2
  have ha:vs[i]?=some v:=by
   unfold start at h2
   rw [Yo (by simpa using hi),Z1] at h2
   cases e:vs[i]? with
   | none=>rw [e] at h2;cases h2
   | some a=>rw [e] at h2;cases h2;rfl
  obtain ⟨u,hu,rv⟩:=r.get ha
  have hp:ps[i]?=some y:=by
   rw [← S.pre,List.getElem?_take_of_lt (by lia)];exact h1
  have ndP:ps.Nodup:=by rw [← S.pre];exact S.nd.sublist (List.take_sublist _ _)
  refine ⟨u,rv,?_⟩
  rcases S.par y (Y0 hp) with k | k
  ·exact .inl ⟨k,nk ndP hp hu k⟩
  ·obtain ⟨c,e⟩:=o5 (n:=s.heap.objs.size+1) k
   refine .inr ⟨.inl k,c,e,?_⟩
   have q:=x.cell y c e
   rw [ny ndP hp hu (by show scope.names.lookup y ≠ _;rw [k];decide)] at q
   exact q
 ·exact e0.hok.fresh (ZO (x.above y c (Xf h)))
 ·unfold start
  show _=N.length
  rw [Zv,Zt,Xu]
  lia
theorem Bb {CX:CXT} {P:Program} {w:World} {K:Xy} {mg:Xm} {base:Heap} {k:Nat} {f:Addr} {name qual:Str} {params:Arguments} {body:List Stmt} {scope:Scope} {dV kV doc pm cdv ct oc:Value} {an od:Option Addr}
  {osl:Array (Wr)} {N ps:List Str} {sp:Sp} (lk:K.lookup f=some ⟨oc,od,.func (PySem.W.fnOf name qual params body scope dV kV doc pm an cdv ct),osl⟩) (hcd:PySem.W.codeIn K cdv qual=true) (S:FnScope N ps scope)
  (len:∀ vs H Q E,sp vs H Q E->vs.length=ps.length)
  (hbody:∀ (A:Around) (outer:List Env) (s:Shared) (H:Hp) (vs:List V) (Q:VK) (E:XK),Room k (A.deeper (envOfC qual scope s.heap.objs.size f cdv))->sp vs H Q E →
   ∃ t,PSs (jC CX P w K mg base N qual scope f cdv A outer s H E) body t/\t { nx:=fun _ H'=>Q .non H',rt:=Q } (start N vs) H) :
  FnOk P w K mg base CX (k+1) f (PySem.W.fnOf name qual params body scope dV kV doc pm an cdv ct) ps sp:=by
 refine ⟨len,fun A outer s H args us vs Q E hr e0 hb r hsp=>?_⟩
 have hl:=len _ _ _ _ hsp
 have KX:K.In s.heap:=e0.mod.kin.keeps fun b o e=>(e0.bs b o e).1
 have lim:s.heap.NoLimit:=e0.mod.nolimit.keeps fun b o e=>(e0.bs b o e).1
 have hkind:∀ y∈ps.zip us,scope.names.lookup y.1=some .local\/(scope.names.lookup y.1=some .cell/\((cellsFrom (s.heap.objs.size+1) scope.names []).lookup y.1).isSome=true):=fun ⟨n,v⟩ hy=>by
  rcases S.par n (Wi hy).1 with q | q
  ·exact .inl q
  ·exact .inr ⟨q,PySem.W.cellsFrom_some _ _ _ (.inl q)⟩
 refine codeAny_call_function hr.depth (KX _ _ lk) rfl S.co S.gen rfl (PySem.W.codeRec_of KX hcd) (hb _ _ _ _ ?_)
 refine wpAny_newFunctionEnv_cells S.kind hkind fun env he s1 x=>?_
 subst he
 refine ⟨lim.keeps x.toInCall.keep,codeAny_func ?_⟩
 obtain ⟨t,ht,hq⟩:=hbody A outer s H vs Q E (hr.deeper _) hsp
 have I:Inv (jC CX P w K mg base N qual scope f cdv A outer s H E) [] (start N vs) H s1:=ua S hr.hd e0 hl r x
 refine Yp (ht [] s1 (start N vs) H _ I hq) (fun fl s' hs=>?_) fun e s' hs=>hs
 have fin:∀ {σ':St} {H':Hp} {v:V} {u:Value},Inv (jC CX P w K mg base N qual scope f cdv A outer s H E) [] σ' H' s'->RelV v u->Q v H'->CE outer P w H s Q u s' :=
  fun {σ' H' v u} J rv q=>⟨v,H',J.os,J.bare,J.base,J.hok,rv,q⟩
 cases fl with
 | ret u =>
  obtain ⟨v,σ',H',J,rv,q⟩:=hs
  exact fin J rv q
 | next =>
  obtain ⟨σ',H',J,q⟩:=hs
  exact fin (v:=V.non) (u:=Value.none) J rfl q
 | brk =>
  obtain ⟨_,_,_,q⟩:=hs
  exact False.elim q
 | cont =>
  obtain ⟨_,_,_,q⟩:=hs
  exact False.elim q
section
variable {X:Cx} {x:Str} {p pos:Pos} {e:Expr} {es:List Expr} {t:TA} {id T:String} {r:List V->Hp->VK->Prop}
noncomputable def tCB (r:List V->Hp->VK->Prop) (t:TA):TE:=fun σ H Q=>t σ H fun vs H1=>r vs H1 Q
theorem lJ (hc:d9 X (.builtin id) r) (hg:Gl X x) (hm:X.mg x=none) (hv:bootBuiltins x=some (.builtin id)) (ha:PA X (e :: es) t) (hn:x ≠ "__name__" := by decide) (hdb:(x == ("__debug__" : Str))=false:=by decide)
  (he:starEach (e :: es) X.env=(false,eval e X.env) :: starEach es X.env:=by rfl) (hpl:(backTo pos (starEach es X.env)).any (·.1)=false:=by rfl):PE X (.Call (.Name x p) (e :: es) [] pos) (tCB r t):=by
 intro pins s σ H Q I h
 refine XQ (iX I hg hm hv ?_ hn hdb)
 exact PyProof.Rows.callWith_builtin1 (thn (ha pos pins s σ H _ I h) fun us s1 ⟨vs,H1,I1,r1,q1⟩=>hc pins s1 σ H1 vs us Q I1 r1 q1) he hpl
theorem ux (hc:d9 X (.type T) r) (hg:Gl X x) (hm:X.mg x=none) (hv:bootBuiltins x=some (.type T)) (ha:PA X (e :: es) t) (hn:x ≠ "__name__" := by decide) (hdb:(x == ("__debug__" : Str))=false:=by decide)
  (he:starEach (e :: es) X.env=(false,eval e X.env) :: starEach es X.env:=by rfl) (hpl:(backTo pos (starEach es X.env)).any (·.1)=false:=by rfl):PE X (.Call (.Name x p) (e :: es) [] pos) (tCB r t):=by
 intro pins s σ H Q I h
 refine XQ (iX I hg hm hv ?_ hn hdb)
 exact Xt (thn (ha pos pins s σ H _ I h) fun us s1 ⟨vs,H1,I1,r1,q1⟩=>hc pins s1 σ H1 vs us Q I1 r1 q1) he hpl
end
end L2
namespace HT
open PySem PyProof.Rows
section
variable {prog:Program} {w:World} {A:Around} {E:Z9} {s:Shared}
noncomputable def sIx (n d:Nat):Option Int->Nat
 | none=>d
 | some v=>if v < 0 then (v+(n:Int)).toNat else min v.toNat n
end
end HT
namespace L2
open PySem PySem.Spec PyProof.Rows
noncomputable abbrev TO:=St->Hp->(Option Int->Hp->Prop)->Prop
noncomputable def PO (X:Cx) (e:Option Expr) (t:TO):Prop :=
 ∀ (pins:Yz) (s:Shared) (σ:St) (H:Hp) (Q:Option Int->Hp->Prop),Inv X pins σ H s->t σ H Q →
  wpAny (model X.prog X.w) X.A (evalPart e X.env) (fun u s'=>∃ o H',Inv X pins σ H' s'/\IsPart u o/\Q o H') X.xe s
noncomputable def zO:TO:=fun _ H Q=>Q none H
noncomputable def E9 (t:TE):TO:=fun σ H Q=>t σ H fun x H1=>∃ i,x=.int i/\Q (some i) H1
section
variable {X:Cx} {e:Expr} {te:TE} {lo hi:Option Expr} {tl th:TO} {pos p2:Pos}
theorem Ao:PO X none zO:=by
 intro pins s σ H Q I h
 rw [evalPart_none]
 exact Zs ⟨none,H,I,.none,h⟩
theorem yD (h:PE X e te):PO X (some e) (E9 te):=by
 intro pins s σ H Q I hw
 rw [evalPart_some]
 refine thn (h pins s σ H _ I hw) fun u s1 ⟨x,H1,I1,r1,q1⟩=>?_
 obtain ⟨i,rfl,q⟩:=q1
 obtain ⟨t,rfl⟩:=r1
 exact ⟨some i,H1,I1,.int i t,q⟩
noncomputable def SlR (X:Cx) (r:V->Option Int->Option Int->Hp->VK->Prop):Prop :=
 ∀ (pins:Yz) (s:Shared) (σ:St) (H:Hp) (x:V) (v vl vu:Value) (lo hi:Option Int) (sl:Addr) (Q:VK),Inv X pins σ H s->RelV x v->s.heap.IsSliceOf sl vl vu .none->IsPart vl lo->IsPart vu hi->r x lo hi H Q →
  ∃ T id,typeLookup (.type T) "__getitem__" = pure (some (.builtin id))/\s.TypeIs v T/\wpAny (model X.prog X.w) X.A (getItem v (.ref sl)) (EP X pins σ Q) X.xe s
theorem SlR.or {r r':V->Option Int->Option Int->Hp->VK->Prop} (h:SlR X r) (h':SlR X r'):SlR X (fun x lo hi H Q=>r x lo hi H Q\/r' x lo hi H Q):=by
 intro pins s σ H x v vl vu lo hi sl Q I rx hs pl pu q
 rcases q with q | q
 ·exact h pins s σ H x v vl vu lo hi sl Q I rx hs pl pu q
 ·exact h' pins s σ H x v vl vu lo hi sl Q I rx hs pl pu q
noncomputable def tSl (r:V->Option Int->Option Int->Hp->VK->Prop) (te:TE) (tl th:TO):TE:=fun σ H Q=>te σ H fun x H1=>tl σ H1 fun l H2=>th σ H2 fun u H3=>r x l u H3 Q
theorem vK {r:V->Option Int->Option Int->Hp->VK->Prop} (hr:SlR X r) (he:PE X e te) (hl:PO X lo tl) (hu:PO X hi th):PE X (.Subscript e (.Slice lo hi none p2) pos) (tSl r te tl th):=by
 intro pins s σ H Q I h
 refine Subscript_ (thn (he pins s σ H _ I h) fun v s1 ⟨x,H1,I1,r1,q1⟩=>?_)
 refine wpAny_Slice (thn (hl pins s1 σ H1 _ I1 q1) fun vl s2 ⟨l,H2,I2,pl,q2⟩=>thn (hu pins s2 σ H2 _ I2 q2) fun vu s3 ⟨u,H3,I3,pu,q3⟩=>?_)
 rw [evalPart_none]
 refine Zs ?_
 have I4:Inv X pins σ H3 { s3 with heap:=s3.heap.push { cls:=.type "slice",data:=.fields #[vl,vu,.none] } }:=I3.kept (t':=s3.toks) fun b ob q=>Ze _ q
 obtain ⟨T,id,hT,ht,hg⟩:=hr pins { s3 with heap:=s3.heap.push { cls:=.type "slice",data:=.fields #[vl,vu,.none] } } σ H3 x v vl vu l u s3.heap.objs.size Q I4 r1 (Heap.IsSliceOf.new ..) pl pu q3
 show wpAny (model X.prog X.w) X.A (subscriptTail e (.Slice lo hi none p2) v (.ref s3.heap.objs.size)) (EP X pins σ Q) X.xe { s3 with heap:=s3.heap.push { cls:=.type "slice",data:=.fields #[vl,vu,.none] } }
 exact tail_any (ops:=[.ref s3.heap.objs.size,v]) ht hT hg (by with_unfolding_all rfl)
noncomputable def uy (xs:List V) (lo hi:Option Int):List V:=(xs.drop (HT.sIx xs.length 0 lo)).take (HT.sIx xs.length xs.length hi - HT.sIx xs.length 0 lo)
theorem oN (xs:List V) (lo hi:Option Int):(uy xs lo hi).length<=xs.length:=by
 unfold uy
 rw [ZS,ZR]
 lia
end
noncomputable def ixN (n:Nat) (i:Int):Option Nat:=if 0<=i then (if i < n then some i.toNat else none) else if -(n:Int)<=i then some (i+n).toNat else none
noncomputable def atI {α:Type} (xs:List α) (i:Int):Option α:=(ixN xs.length i).bind fun j=>xs[j]?
theorem sN {n:Nat} {i:Int} {j:Nat} (h:ixN n i=some j):seqIndex? i n=some j/\j < n/\-(n:Int)<=i/\i < n:=by
 unfold ixN at h
 by_cases h0:0<=i
 ·rw [Zq h0] at h
  by_cases h1:i < n
  ·rw [Zq h1] at h
   have e:i.toNat=j:=ZK h
   exact ⟨by rw [seqIndex_of h0 h1,e],by lia,by lia,h1⟩
  ·rw [Zn h1] at h;cases h
 ·rw [Zn h0] at h
  by_cases h1:-(n:Int)<=i
  ·rw [Zq h1] at h
   have e:(i+n).toNat=j:=ZK h
   exact ⟨by rw [seqIndex_neg (by lia) h1,e],by lia,h1,by lia⟩
  ·rw [Zn h1] at h;cases h
theorem oM {α:Type} {xs:List α} {i:Int} {v:α} (h:atI xs i=some v):∃ j,seqIndex? i xs.length=some j/\xs[j]?=some v/\j < xs.length/\-(xs.length:Int)<=i/\i < xs.length:=by
 unfold atI at h
 cases e:ixN xs.length i with
 | none=>rw [e] at h;cases h
 | some j =>
  rw [e] at h
  obtain ⟨h1,h2,h3,h4⟩:=sN e
  exact ⟨j,h1,h,h2,h3,h4⟩
noncomputable def gQ (b:Expr):Prop:=∀ o i,subscripted b false o i=operate [o,i] (getItem o i)
noncomputable def IxR (X:Cx) (r:R2):Prop :=
 ∀ (value slice:Expr) (pins:Yz) (s:Shared) (σ:St) (H:Hp) (x y:V) (v u:Value) (Q:VK),Inv X pins σ H s->RelV x v->RelV y u->r x y H Q →
  subscripted slice false v u=operate [v,u] (getItem v u)->wpAny (model X.prog X.w) X.A (subscriptTail value slice v u) (EP X pins σ Q) X.xe s
noncomputable def MtR (X:Cx) (id:String) (r:V->List V->Hp->VK->Prop):Prop :=
 ∀ (pins:Yz) (s:Shared) (σ:St) (H:Hp) (x:V) (xs:List V) (v:Value) (us:Xg) (Q:VK),Inv X pins σ H s->RelV x v->aT xs us->r x xs H Q →
  wpAny (model X.prog X.w) X.A (call (.builtin id) (v :: us)) (EP X pins σ Q) X.xe s
section
variable {X:Cx} {a b:Expr} {ta tb:TE} {pos:Pos}
theorem IxR.or {r r':R2} (h:IxR X r) (h':IxR X r'):IxR X (fun x y H Q=>r x y H Q\/r' x y H Q):=by
 intro value slice pins s σ H x y v u Q I rx ry q hs
 rcases q with q | q
 ·exact h value slice pins s σ H x y v u Q I rx ry q hs
 ·exact h' value slice pins s σ H x y v u Q I rx ry q hs
theorem vP {r:R2} (hr:IxR X r) (ha:PE X a ta) (hb:PE X b tb) (hs:gQ b):PE X (.Subscript a b pos) (tOp r ta tb):=by
 intro pins s σ H Q I h
 exact Subscript_ (BP ha hb I h fun v u s2 x y H2 I2 rx ry q=>hr a b pins s2 σ H2 x y v u Q I2 rx ry q (hs _ _))
noncomputable def Ek (K:Xy):R2:=fun x y H Q=>∃ p xs i v,x=.ref p/\y=.int i/\SqL K H p xs/\atI xs i=some v/\Q v H
noncomputable def EA (K:Xy):R2:=fun x y H Q=>∃ p xs i v,x=.ref p/\y=.int i/\SqT K H p xs/\atI xs i=some v/\Q v H
noncomputable def E3:R2:=fun x y H Q=>∃ z i c,x=.str z/\y=.int i/\z.length<=sizeLine/\atI z.cps.toList i=some c/\Q (.str ⟨#[c]⟩) H
theorem zm:IxR X (Ek X.K):=by
 intro value slice pins s σ H x y v u Q I rx ry h hs
 obtain ⟨p,xs,i,z,rfl,rfl,hq,he,q⟩:=h
 cases rx
 obtain ⟨t,rfl⟩:=ry
 obtain ⟨its,r,pl,hz⟩:=I.list hq
 obtain ⟨j,h1,h2,h3,h4,h5⟩:=oM he
 obtain ⟨w,ew,rw'⟩:=r.get h2
 have hl:=r.length
 have hn:=jR
 have fin:EP X pins σ Q w s:=⟨z,H,I,rw',q⟩
 by_cases h0:0<=i
 ·have hj:i.toNat=j:=by
   rw [seqIndex_of h0 h5] at h1
   exact ZK h1
  exact item_listR pl.isList h0 (by lia) (by rw [hj];simpa using ew) fin hs
 ·have hj:(i+(its.toArray.size:Int)).toNat=j:=by
   rw [seqIndex_neg (by lia) h4] at h1
   rw [ZZ,← hl]
   exact ZK h1
  exact subscriptTail_builtinR (x:=w) pl.isList.typeIs slot_list_getitem.lookup
   (wpAny_getItem_list_neg (Q:=fun r s'=>r=w/\EP X pins σ Q r s') pl.isList (by lia) (by rw [ZZ] <;> lia) (by lia) (by rw [hj];simpa using ew) ⟨rfl,fin⟩) hs
theorem Cf:IxR X (EA X.K):=by
 intro value slice pins s σ H x y v u Q I rx ry h hs
 obtain ⟨p,xs,i,z,rfl,rfl,hq,he,q⟩:=h
 cases rx
 obtain ⟨t,rfl⟩:=ry
 obtain ⟨its,r,pl,hz⟩:=I.tuple hq
 obtain ⟨j,h1,h2,h3,h4,h5⟩:=oM he
 obtain ⟨w,ew,rw'⟩:=r.get h2
 have hl:=r.length
 have hn:=jR
 have fin:EP X pins σ Q w s:=⟨z,H,I,rw',q⟩
 exact subscriptTail_builtinR (x:=w) pl.typeIs slot_tuple_getitem.lookup
  (getItem_tuple (j:=j) (Q:=fun r s'=>r=w/\EP X pins σ Q r s') pl (by lia) (by lia) (by rw [ZZ,← hl];exact h1) (by simpa using ew) ⟨rfl,fin⟩) hs
theorem BZ:IxR X E3:=by
 intro value slice pins s σ H x y v u Q I rx ry h hs
 obtain ⟨z,i,c,rfl,rfl,hz,he,q⟩:=h
 obtain ⟨t,rfl⟩:=rx
 obtain ⟨t',rfl⟩:=ry
 obtain ⟨j,h1,h2,h3,h4,h5⟩:=oM he
 have hl:z.cps.toList.length=z.length:=by simp [Str.length]
 rw [hl] at h1 h4 h5
 have hn:=jR
 exact tail_any (typeIs_str s z t) slot_str_getitem.lookup (getItem_str (c:=c) (by
  have e1:decide (i < -(2 ^ 63:Int))=false:=ZL (by lia)
  have e2:decide (i ≥ 2 ^ 63)=false:=ZL (by lia)
  rw [e1,e2,Bool.or_false]) (by rw [h1];simpa using h2) ⟨.str ⟨#[c]⟩,H,I.tok _,⟨_,rfl⟩,q⟩) hs
noncomputable def rIx (K:Xy):R2:=fun x y H Q=>Ek K x y H Q\/EA K x y H Q\/E3 x y H Q
theorem xp:IxR X (rIx X.K):=zm.or (Cf.or BZ)
theorem qT (its:Xg) (n j:Nat) (u:Value):Obj.mapSeq (·.setIfInBounds j u) { cls:=.type "list",data:=.seq its.toArray n }={ cls:=.type "list",data:=.seq (its.set j u).toArray n }:=by
 simp [Obj.mapSeq]
theorem Inv.lst {pins:Yz} {σ:St} {H:Hp} {s:Shared} {p:Addr} {xs:List V} (I:Inv X pins σ H s) (h:H p=some (.lst xs)) :
  ∃ (its:Xg) (n:Nat),aT xs its/\s.heap.get? p=some { cls:=.type "list",data:=.seq its.toArray n }/\xs.length<=sizeLine:=by
 obtain ⟨z,its,n,r,e⟩:=I.hok p _ h
 exact ⟨its,n,r,e,z⟩
theorem Inv.lstUpd {pins:Yz} {σ:St} {H:Hp} {s:Shared} {p:Addr} {xs ys:List V} {its its':Xg} {n n':Nat} {f:Obj->Obj} (I:Inv X pins σ H s) (h:H p=some (.lst xs))
  (ho:s.heap.get? p=some { cls:=.type "list",data:=.seq its.toArray n }) (hf:f { cls:=.type "list",data:=.seq its.toArray n }={ cls:=.type "list",data:=.seq its'.toArray n' }) (r:aT ys its') (hz:ys.length<=sizeLine) (t:Nat) :
  Inv X pins σ (upd H p (.lst ys)) { s with heap:=s.heap.update p f,toks:=t }:=by
 have e:(s.heap.update p f).get? p=some { cls:=.type "list",data:=.seq its'.toArray n' }:=by
  rw [Y2 f ho (by rw [hf] <;> rfl),hf]
 refine I.write (x:=p) (e:=p) (by rw [h];trivial) (.inl rfl) (fun b u hb q=>(Yq _ _ (YI hb)).trans q) ⟨_,e⟩ ?_
 exact ⟨hz,its',n',r,e⟩
noncomputable def AQ:V->V->V->Hp->(Hp->Prop)->Prop:=fun o i v H Q=>∃ p xs k j,o=.ref p/\i=.int k/\H p=some (.lst xs)/\ixN xs.length k=some j/\Q (upd H p (.lst (xs.set j v)))
theorem set_list:BY X AQ:=by
 intro pins s σ H o i v ov iv u Q I ro ri rv h
 obtain ⟨p,xs,k,j,rfl,rfl,hp,hj,q⟩:=h
 cases ro
 obtain ⟨t,rfl⟩:=ri
 obtain ⟨its,n,r,ho,hz⟩:=I.lst hp
 obtain ⟨h1,h2,h3,h4⟩:=sN hj
 have hl:=r.length
 have hn:=jR
 have I':Inv X pins σ (upd H p (.lst (xs.set j v))) { s with heap:=s.heap.update p (Obj.mapSeq (·.setIfInBounds j u)) } :=
  I.lstUpd hp ho (qT its n j u) (r.set rv j) (by rw [Xv];exact hz) s.toks
 by_cases h0:0<=k
 ·have hk:k.toNat=j:=by
   rw [seqIndex_of h0 h4] at h1
   exact ZK h1
  exact PySem.W.ki_setAt ho h0 (by lia) (by rw [ZZ,← hl];exact h4) (by rw [hk];exact ⟨_,I',q⟩)
 ·have hk:(k+(its.toArray.size:Int)).toNat=j:=by
   rw [seqIndex_neg (by lia) h3] at h1
   rw [ZZ,← hl]
   exact ZK h1
  exact PySem.W.ki_setBack ho (by lia) (by rw [ZZ,← hl];exact h3) (by lia) (by rw [hk];exact ⟨_,I',q⟩)
theorem nU (lo hi:Option Int) (n:Nat):(sliceBounds lo hi none n).1=((HT.sIx n 0 lo:Nat):Int)/\(sliceBounds lo hi none n).2.1=((HT.sIx n n hi:Nat):Int)/\(sliceBounds lo hi none n).2.2=1:=by
 refine ⟨?_,?_,rfl⟩
 ·cases lo with
  | none=>simp [sliceBounds,HT.sIx]
  | some i =>
   simp only [sliceBounds,HT.sIx,W2,show (1:Int) > 0 by decide,if_true]
   by_cases h:i < 0
   ·simp only [h,if_true] <;> lia
   ·simp only [h,if_false] <;> lia
 ·cases hi with
  | none=>simp [sliceBounds,HT.sIx]
  | some i =>
   simp only [sliceBounds,HT.sIx,W2,show (1:Int) > 0 by decide,if_true]
   by_cases h:i < 0
   ·simp only [h,if_true] <;> lia
   ·simp only [h,if_false] <;> lia
theorem mF (its:Xg) (lo hi:Option Int):slicePick its.toArray lo hi none=((its.drop (HT.sIx its.length 0 lo)).take (HT.sIx its.length its.length hi - HT.sIx its.length 0 lo)).toArray:=by
 obtain ⟨h1,h2,h3⟩:=nU lo hi its.toArray.size
 unfold slicePick
 rw [h1,h2,h3]
 simp only [sliceRange_one,pick_run,ZZ] <;> rfl
noncomputable def Ef (K:Xy):V->Option Int->Option Int->Hp->VK->Prop:=fun x lo hi H Q=>∃ a xs,x=.ref a/\SqL K H a xs/\∀ p,H p=none->Q (.ref p) (upd H p (.lst (uy xs lo hi)))
theorem Aa:SlR X (Ef X.K):=by
 intro pins s σ H x v vl vu lo hi sl Q I rx hs pl pu h
 obtain ⟨a,xs,rfl,hx,q⟩:=h
 cases rx
 obtain ⟨its,r,ht,hz⟩:=I.list hx
 have hlen:=r.length
 refine ⟨"list",_,slot_list_getitem.lookup,ht.isList.typeIs,?_⟩
 refine wpAny_getItem_list_slice ht.isList hs pl pu .none (by simp) ?_ (by rw [ZZ] <;> lia)
 rw [mF,← hlen]
 refine ⟨.ref s.heap.objs.size,_,I.laid (t':=s.toks) (o:=.lst (uy xs lo hi)) (fun b ob q=>Ze _ q) (Zp _) ?_,rfl,q _ (I.hok.fresh (Zp _))⟩
 exact ⟨ZV (oN xs lo hi) hz,_,0,(r.drop (HT.sIx xs.length 0 lo)).take (HT.sIx xs.length xs.length hi - HT.sIx xs.length 0 lo),ZM _ rfl⟩
noncomputable def fg:V->Bool
 | .non=>true
 | .bl _=>true
 | .int _=>true
 | .str _=>true
 | _=>false
noncomputable def eqV:V->V->Bool
 | .non,.non=>true
 | .bl a,.bl b=>a == b
 | .bl a,.int b=>(if a then 1 else 0) == b
 | .int a,.bl b=>a == (if b then 1 else 0)
 | .int a,.int b=>a == b
 | .str a,.str b=>a == b
 | _,_=>false
theorem Dd {A:Around} {s:Shared} {y x:V} {u v:Value} (ry:RelV y u) (rx:RelV x v) (fy:fg y=true) (fx:fg x=true):SeqAt.EqAt A s u v (eqV y x):=by
 cases y with
 | non =>
  cases ry
  cases x with
  | non=>cases rx;exact SeqAt.EqAt.same _
  | bl b=>cases rx;exact SeqAt.EqAt.none_bool b
  | int b=>obtain ⟨t,rfl⟩:=rx;exact SeqAt.EqAt.none_int b t
  | str b=>obtain ⟨t,rfl⟩:=rx;exact SeqAt.EqAt.none_str b t
  | _=>exact absurd (show false=true from fx) Zm
 | bl a =>
  cases ry
  cases x with
  | non=>cases rx;exact SeqAt.EqAt.bool_none a
  | bl b=>cases rx;exact SeqAt.EqAt.bool_bool a b
  | int b=>obtain ⟨t,rfl⟩:=rx;exact SeqAt.EqAt.bool_int a b t
  | str b=>obtain ⟨t,rfl⟩:=rx;exact SeqAt.EqAt.bool_str a b t
  | _=>exact absurd (show false=true from fx) Zm
 | int a =>
  obtain ⟨t',rfl⟩:=ry
  cases x with
  | non=>cases rx;exact SeqAt.EqAt.int_none a t'
  | bl b=>cases rx;exact SeqAt.EqAt.int_bool a t' b
  | int b=>obtain ⟨t,rfl⟩:=rx;exact SeqAt.EqAt.int_int a t' b t
  | str b=>obtain ⟨t,rfl⟩:=rx;exact SeqAt.EqAt.int_str a t' b t
  | _=>exact absurd (show false=true from fx) Zm
 | str a =>
  obtain ⟨t',rfl⟩:=ry
  cases x with
  | non=>cases rx;exact SeqAt.EqAt.str_none a t'
  | bl b=>cases rx;exact SeqAt.EqAt.str_bool a t' b
  | int b=>obtain ⟨t,rfl⟩:=rx;exact SeqAt.EqAt.str_int a t' b t
  | str b=>obtain ⟨t,rfl⟩:=rx;exact SeqAt.EqAt.str_str a t' b t
  | _=>exact absurd (show false=true from fx) Zm
 | _=>exact absurd (show false=true from fy) Zm
noncomputable def eqU (x:V) (u:Value):Bool:=match u with
 | .none=>eqV .non x
 | .bool b=>eqV (.bl b) x
 | .int i _=>eqV (.int i) x
 | .str z _=>eqV (.str z) x
 | _=>false
theorem yi {x y:V} {u:Value} (r:RelV y u) (f:fg y=true):eqU x u=eqV y x:=by
 cases y with
 | non=>cases r;rfl
 | bl b=>cases r;rfl
 | int i=>obtain ⟨t,rfl⟩:=r;rfl
 | str z=>obtain ⟨t,rfl⟩:=r;rfl
 | _=>exact absurd (show false=true from f) Zm
theorem oz {x:V}:∀ {xs:List V} {us:Xg},aT xs us->xs.all fg=true->us.any (eqU x)=xs.any fun y=>eqV y x
 | _,_,.nil,_=>rfl
 | y :: xs,u :: us,.cons r t,f=>by
  rw [Wv,Z3] at f
  rw [YE,YE,yi r f.1,oz t f.2]
theorem lA {A:Around} {s:Shared} {x:V} {v:Value} (rx:RelV x v) (fx:fg x=true):∀ {xs:List V} {us:Xg},aT xs us->xs.all fg=true->∀ u∈us,SeqAt.EqAt A s u v (eqU x u)
 | _,_,.nil,_=>fun u hu=>by cases hu
 | y :: xs,u :: us,.cons r t,f=>fun u' hu=>by
  rw [Wv,Z3] at f
  rcases Zr.mp hu with rfl | hu
  ·rw [yi r f.1];exact Dd r rx f.1 fx
  ·exact lA rx fx t f.2 u' hu
noncomputable def inV (x:V) (xs:List V):Bool:=xs.any fun y=>eqV y x
noncomputable def rIn (K:Xy) (neg:Bool):R2:=fun x y H Q=>∃ p xs,y=.ref p/\(SqL K H p xs\/SqT K H p xs)/\fg x=true/\xs.all fg=true/\Q (.bl (if neg then !inV x xs else inV x xs)) H
theorem uL:OpR X (compareOp .In) (rIn X.K false):=by
 intro pins s σ H x y v u Q I rx ry h
 obtain ⟨p,xs,rfl,hq,fx,fs,q⟩:=h
 cases ry
 rcases hq with hq | hq
 ·obtain ⟨its,r,pl,hz⟩:=I.list hq
  refine SeqAt.in_listAt (eqU x) pl.isList (fun w hw=>lA rx fx r fs w (by simpa using hw)) ⟨.bl _,H,I,rfl,?_⟩
  rw [show its.toArray.any (eqU x)=its.any (eqU x) by simp,oz r fs]
  exact q
 ·obtain ⟨its,r,pl,hz⟩:=I.tuple hq
  refine SeqAt.in_tupleAt (eqU x) pl (fun w hw=>lA rx fx r fs w (by simpa using hw)) ⟨.bl _,H,I,rfl,?_⟩
  rw [show its.toArray.any (eqU x)=its.any (eqU x) by simp,oz r fs]
  exact q
theorem d9.or {f:Value} {r r':List V->Hp->VK->Prop} (h:d9 X f r) (h':d9 X f r'):d9 X f (fun xs H Q=>r xs H Q\/r' xs H Q):=by
 intro pins s σ H xs us Q I rs q
 rcases q with q | q
 ·exact h pins s σ H xs us Q I rs q
 ·exact h' pins s σ H xs us Q I rs q
theorem oK:d9 X (.type "list") (fun xs H Q=>∃ p ys,xs=[.ref p]/\(SqL X.K H p ys\/SqT X.K H p ys)/\∀ l,H l=none->Q (.ref l) (upd H l (.lst ys))):=by
 intro pins s σ H xs us Q I r h
 obtain ⟨p,ys,rfl,hq,q⟩:=h
 obtain ⟨u,rfl,rx⟩:=vals1 r
 cases rx
 have fin:∀ (its:Xg),aT ys its->ys.length<=sizeLine->∀ (h':Heap) (c':Nat),(∀ b o',s.heap.get? b=some o'->h'.get? b=some o') →
   h'.get? s.heap.objs.size=some { cls:=.type "list",dict:=none,data:=.seq its.toArray c',slots:=#[] }->EP X pins σ Q (.ref s.heap.objs.size) { s with heap:=h' }:=fun its r' hz h' c' kp e =>
  ⟨.ref s.heap.objs.size,_,I.laid (t':=s.toks) kp (Zp _) (show ba X.prog X.w _ h' _ (.lst ys) from ⟨hz,its,c',r',e⟩),rfl,q _ (I.hok.fresh (Zp _))⟩
 rcases hq with hq | hq
 ·obtain ⟨its,r',pl,hz⟩:=I.list hq
  have hlen:=r'.length
  obtain ⟨o,ho,hc,n,hd⟩:=pl.isList
  exact call_list_seq p (.inl rfl) ho hc hd (fun h' c' kp e=>fin its r' hz h' c' kp e) (by simp only [ZZ] <;> lia)
 ·obtain ⟨its,r',pl,hz⟩:=I.tuple hq
  have hlen:=r'.length
  obtain ⟨o,ho,hc,n,hd⟩:=pl
  exact call_list_seq p (.inr rfl) ho hc hd (fun h' c' kp e=>fin its r' hz h' c' kp e) (by simp only [ZZ] <;> lia)
theorem mG:d9 X (.type "tuple") (fun xs H Q=>∃ p ys,xs=[.ref p]/\((SqL X.K H p ys/\∀ l,H l=none->Q (.ref l) (upd H l (.tup ys)))\/(SqT X.K H p ys/\Q (.ref p) H))):=by
 intro pins s σ H xs us Q I r h
 obtain ⟨p,ys,rfl,h⟩:=h
 obtain ⟨u,rfl,rx⟩:=vals1 r
 cases rx
 rcases h with ⟨hq,q⟩ | ⟨hq,q⟩
 ·obtain ⟨its,r',pl,hz⟩:=I.list hq
  have hlen:=r'.length
  refine call_tuple_list pl.isList (fun h' kp=>?_) (by simp only [ZZ] <;> lia)
  have I1:Inv X pins σ H { s with heap:=h' }:=I.kept (t':=s.toks) kp
  have I2:Inv X pins σ (upd H h'.objs.size (.tup ys)) { s with heap:=h'.push { cls:=.type "tuple",data:=.seq its.toArray } } :=
   I1.laid (t':=s.toks) (fun b o e=>Ze _ e) (Zp _) (show ba X.prog X.w _ _ _ (.tup ys) from ⟨hz,its,r',NoD.new _ _,IsTup.new _ _⟩)
  exact ⟨.ref h'.objs.size,_,I2,rfl,q _ (I1.hok.fresh (Zp _))⟩
 ·obtain ⟨its,r',pl,hz⟩:=I.tuple hq
  exact call_tuple_same pl ⟨.ref p,H,I,rfl,q⟩
noncomputable def tyV (K:Xy) (T:String) (x:V) (H:Hp):Prop:=match x with
 | .str _=>T = "str"
 | .int _=>T = "int"
 | .ref p=>(T = "list" ∧ ∃ xs,SqL K H p xs)\/(T = "tuple" ∧ ∃ o,K.lookup p=some o/\o.cls=.type "tuple" ∧ o.dict=none) ∨
   (T = "dict" ∧ ((∃ kvs,H p=some (.dK kvs))\/∃ kvs,H p=some (.dT kvs)))\/(T = "set" ∧ ∃ S n,H p=some (.set S n))
 | _=>False
theorem Cd {pins:Yz} {σ:St} {H:Hp} {s:Shared} {T:String} {x:V} {v:Value} (I:Inv X pins σ H s) (r:RelV x v) (ty:tyV X.K T x H) :
  s.TypeIs v T/\∀ a,v=.ref a->∃ ob,s.heap.get? a=some ob/\ob.dict=none:=by
 cases x with
 | str z =>
  obtain ⟨t,rfl⟩:=r
  cases (show T = "str" from ty)
  exact ⟨typeIs_str s z t,fun _ e=>nomatch e⟩
 | int i =>
  obtain ⟨t,rfl⟩:=r
  cases (show T = "int" from ty)
  exact ⟨typeIs_int s i t,fun _ e=>nomatch e⟩
 | ref p =>
  cases r
  rcases ty with ⟨rfl,xs,hq⟩ | ⟨rfl,o,hk,hc,hd⟩ | ⟨rfl,hk⟩ | ⟨rfl,S,n,hk⟩
  ·obtain ⟨its,_,pl,_⟩:=I.list hq
   refine ⟨pl.isList.typeIs,fun a e=>?_⟩
   cases e
   obtain ⟨o,n,e,c,hd,_⟩:=pl
   exact ⟨o,e,hd⟩
  ·refine ⟨⟨o,I.kIn p o hk,hc⟩,fun a e=>?_⟩
   cases e
   exact ⟨o,I.kIn _ o hk,hd⟩
  ·have z:∃ o,s.heap.get? p=some o/\o.ExactDict:=by
    rcases hk with ⟨kvs,hk⟩ | ⟨kvs,hk⟩
    ·obtain ⟨_,_,_,_,o,_,_,e,ex,_⟩:=I.hok p _ hk
     exact ⟨o,e,ex⟩
    ·obtain ⟨_,_,_,_,o,_,_,e,ex,_⟩:=I.hok p _ hk
     exact ⟨o,e,ex⟩
   obtain ⟨o,e,ex⟩:=z
   refine ⟨⟨o,e,ex.1⟩,fun a e2=>?_⟩
   cases e2
   exact ⟨o,e,ex.2.1⟩
  ·obtain ⟨o,_,_,_,e,ex,_⟩:=I.hok p _ hk
   refine ⟨⟨o,e,ex.1⟩,fun a e2=>?_⟩
   cases e2
   exact ⟨o,e,ex.2.1⟩
 | _=>exact False.elim ty
noncomputable def tBM (K:Xy) (T:String) (r:V->List V->Hp->VK->Prop) (to:TE) (t:TA):TE:=fun σ H Q=>to σ H fun x H1=>tyV K T x H1/\t σ H1 fun xs H2=>r x xs H2 Q
variable {o e:Expr} {es:List Expr} {to:TE} {t:TA} {name:Str} {apos cpos:Pos} {T id:String} {r:V->List V->Hp->VK->Prop}
theorem tu (pa:PlainAttrs T) (slot:Slot T name id) (hty:typeOf (.builtin id)=pure (.type "method_descriptor")) (hm:MtR X id r) (ho:PE X o to) (ha:PA X (e :: es) t)
  (hbase:attributeBase o name X.env (eval o X.env)=eval o X.env:=by rfl)
  (hfew:((backTo cpos (starEach (e :: es) X.env)).all (fun x=>!x.1) && (backToKw cpos (keywordEach [] X.env)).all (fun x=>x.1.isSome)
   && decide ((e :: es).length+([]:List Keyword).length+(if ([]:List Keyword).isEmpty then 0 else 1) < 30))=true:=by rfl)
  (hline:(apos.endLine == cpos.line)=true:=by rfl) (hs:starEach (e :: es) X.env=(false,eval e X.env) :: starEach es X.env:=by rfl) (hplain:(backTo cpos (starEach es X.env)).any (·.1)=false:=by rfl) :
  PE X (.Call (.Attribute o name apos) (e :: es) [] cpos) (tBM X.K T r to t):=by
 intro pins s σ H Q I h
 refine wpAny_Call_method_late hbase hfew hline rfl (thn (ho pins s σ H _ I h) fun v s1 ⟨x,H1,I1,r1,ty,q1⟩=>?_)
 obtain ⟨h1,h2⟩:=Cd I1 r1 ty
 refine ⟨T,id,pa,slot,hty,h1,h2,?_⟩
 have hA:=ha cpos pins s1 σ H1 _ I1 q1
 rw [hs] at hA ⊢
 refine Calls.callWith_builtin (by show (false || (backTo cpos (starEach es X.env)).any (·.1))=false;rw [hplain] <;> rfl) (WB ?_)
 exact thn hA fun us s2 ⟨vs,H2,I2,r2,q2⟩=>hm pins s2 σ H2 x vs v us Q I2 r1 r2 q2
end
noncomputable def MtM (X:Cx) (id:String) (r:V->List V->Hp->VK->Prop):Prop :=
 ∀ (pins:Yz) (s:Shared) (σ:St) (H:Hp) (x:V) (xs:List V) (v:Value) (us:Xg) (Q:VK),Inv X pins σ H s->RelV x v->aT xs us->r x xs H Q →
  wpAny (model X.prog X.w) X.A (call (.builtin id) (v :: us)) (EP X pins σ Q) X.xe s
theorem aT.nil_inv {us:Xg} (h:aT [] us):us=[]:=by
 cases h
 rfl
theorem aT.cons_inv {x:V} {xs:List V} {us:Xg} (h:aT (x :: xs) us):∃ u vs,us=u :: vs/\RelV x u/\aT xs vs:=by
 cases h with
 | cons r t=>exact ⟨_,_,rfl,r,t⟩
theorem aT.one {x:V} {us:Xg} (h:aT [x] us):∃ u,us=[u]/\RelV x u:=by
 obtain ⟨u,vs,rfl,r,t⟩:=h.cons_inv
 rw [t.nil_inv]
 exact ⟨_,rfl,r⟩
theorem aT.two {x y:V} {us:Xg} (h:aT [x,y] us):∃ u v,us=[u,v]/\RelV x u/\RelV y v:=by
 obtain ⟨u,vs,rfl,r,t⟩:=h.cons_inv
 obtain ⟨v,rfl,q⟩:=t.one
 exact ⟨_,_,rfl,r,q⟩
section
variable {X:Cx} {pins:Yz} {σ:St} {H:Hp} {s:Shared} {l b:Addr} {xs ys zs:List V}
theorem Inv.lset {its its':Xg} {n:Nat} {f:Array Value->Array Value} {t':Nat} (I:Inv X pins σ H s) (hH:H l=some (.lst xs))
  (e:s.heap.get? l=some { cls:=.type "list",data:=.seq its.toArray n }) (hf:f its.toArray=its'.toArray) (hv:aT ys its') (hz:ys.length<=sizeLine) :
  Inv X pins σ (upd H l (.lst ys)) { s with heap:=s.heap.update l (Obj.mapSeq f),toks:=t' }:=by
 have q:=PySem.IsL.update e f
 rw [hf] at q
 refine I.write (x:=l) (e:=l) (by rw [hH];exact trivial) (.inl rfl) (fun b' u hb hu=>(Yq s.heap (Obj.mapSeq f) (YI hb)).trans hu) ⟨_,q⟩ ?_
 exact ⟨hz,its',_,hv,q⟩
theorem Inv.lnew {its:Xg} {t':Nat} (I:Inv X pins σ H s) (hv:aT ys its) (hz:ys.length<=sizeLine) :
  Inv X pins σ (upd H s.heap.objs.size (.lst ys)) { s with heap:=s.heap.push { cls:=.type "list",data:=.seq its.toArray },toks:=t' } :=
 I.laid (fun _ _ q=>Ze _ q) (Zp _) ⟨hz,its,0,hv,ZM _ rfl⟩
theorem Inv.fresh (I:Inv X pins σ H s):H s.heap.objs.size=none:=I.hok.fresh (Zp _)
theorem Inv.lstM (I:Inv X pins σ H s) (hH:H l=some (.lst xs)):xs.length<=sizeLine/\∃ (its:Xg) (n:Nat),aT xs its/\xs.length=its.length/\s.heap.get? l=some { cls:=.type "list",data:=.seq its.toArray n }:=by
 obtain ⟨z,its,n,r,e⟩:=I.hok l _ hH
 exact ⟨z,its,n,r,r.length,e⟩
theorem pq {n:Nat} (h:n<=sizeLine):Builtin.List.listTooLong n=false:=by
 unfold Builtin.List.listTooLong
 exact ZL (by exact W3 h)
end
section
variable {X:Cx}
noncomputable def kQ:V->List V->Hp->VK->Prop:=fun x vs H Q=>∃ l xs y,x=.ref l/\vs=[y]/\H l=some (.lst xs)/\xs.length < sizeLine/\Q .non (upd H l (.lst (xs++[y])))
theorem iL:MtM X "list.append" kQ:=by
 intro pins s σ H x vs v us Q I rx rv h
 obtain ⟨l,xs,y,rfl,rfl,hH,hz,q⟩:=h
 cases rx
 obtain ⟨u,rfl,ru⟩:=rv.one
 obtain ⟨z,its,n,r,hl,e⟩:=I.lstM hH
 refine call_meets F.slot_list_append ⟨_,e,rfl⟩ F.entry_list_append (F.args_list_append_2 _ _) (PySem.list_append l its.toArray n u (by rw [ZZ];lia)) ⟨e,?_⟩
 refine ⟨.non,_,I.lset (its':=its++[u]) hH e (by simp) (r.append (.cons ru .nil)) ?_,rfl,q⟩
 rw [Zv,ZX]
 exact Nat.succ_le_of_lt hz
noncomputable def Dy:R2:=fun x y H Q=>∃ l b xs zs,x=.ref l/\y=.ref b/\H l=some (.lst xs)/\H b=some (.lst zs)/\xs.length+zs.length<=sizeLine/\∀ p,H p=none->Q (.ref p) (upd H p (.lst (xs++zs)))
theorem BO:OpR X (binaryOp .Add) Dy:=by
 intro pins s σ H x y v u Q I rx ry h
 obtain ⟨l,b,xs,zs,rfl,rfl,hH,hB,hz,q⟩:=h
 cases rx
 cases ry
 obtain ⟨z,its,n,r,hl,e⟩:=I.lstM hH
 obtain ⟨z2,its2,n2,r2,hl2,e2⟩:=I.lstM hB
 refine PySem.P.add_list e e2 ?_ (by rw [ZZ,ZZ];lia)
 have ea:its.toArray++its2.toArray=(its++its2).toArray:=by simp
 rw [ea]
 exact ⟨.ref _,_,I.lnew (t':=s.toks) (r.append r2) (by rw [Zv];omega),rfl,q _ I.fresh⟩
end
section
variable {prog:Program} {w:World} {A:Around} {E:Z9} {s:Shared}
theorem rB {a c n:Nat} (hac:a<=c) (hc:c<=n):sliceBounds (some (a:Int)) (some (c:Int)) none n=((a:Int),(c:Int),1):=by
 simp only [sliceBounds,W2]
 have h1:¬ ((a:Int) < 0):=by lia
 have h2:¬ ((c:Int) < 0):=by lia
 simp only [h1,h2,if_false,show (1:Int) > 0 by decide,if_true]
 congr 1
 ·lia
 ·congr 1;lia
set_option maxRecDepth 100000 in
theorem yj {l b sl:Addr} {items new:Array Value} {n n2:Nat} {vl vu:Value} {a c:Nat} {Q:Unit->Shared->Prop}
  (e:s.heap.get? l=some { cls:=.type "list",data:=.seq items n }) (e2:s.heap.get? b=some { cls:=.type "list",data:=.seq new n2 }) (hne:l ≠ b)
  (hs:s.heap.IsSliceOf sl vl vu .none) (pl:IsPart vl (some (a:Int))) (pu:IsPart vu (some (c:Int))) (hac:a<=c) (hc:c<=items.size)
  (hsz:items.size+new.size<=sizeLine) (h:Q () { s with heap:=s.heap.update l (Obj.mapSeq fun xs=>xs.extract 0 a++new++xs.extract c xs.size) }) :
  wpAny (model prog w) A (setItem (.ref l) (.ref sl) (.ref b)) Q E s:=by
 have hl:s.heap.IsList l items:=PySem.IsL.isList e
 have hb:s.heap.IsList b new:=PySem.IsL.isList e2
 obtain ⟨os,hos,hcs,hds⟩:=id hs
 have hTs:s.TypeIs (.ref sl) "slice" := ⟨os,hos,hcs⟩
 have hstep:¬ ((rawPart none == rawInt 0)=true):=Zm
 have hsame:Builtin.List.listSameRef (.ref l) (.ref b)=false:=by
  unfold Builtin.List.listSameRef
  exact beq_eq_false_iff_ne.mpr hne
 have hmax:(max (a:Int) (c:Int)).toNat=c:=by lia
 have hz':((fun xs:Array Value=>xs.extract 0 a++new++xs.extract c xs.size) items).size<=sizeLine+1:=by
  simp only [Array.size_append,Array.size_extract]
  lia
 unfold setItem
 try with_reducible refine YN ?_
 first | refine Zy (Zs ?_) | skip
 refine Zy (wpAny_sequenceKey hl.typeIs (by decide) ?_)
 refine Zy (wpAny_callSpecial?_slot (name:=Str.ofString "__setitem__") hl.typeIs slot_list_setitem
  (XZ slot_list_setitem hl.typeIs entry_list_setitem ?_ (args_list_setitem _ _ _)))
 show wpAny _ _ (Builtin.List.listSubscript? (.ref sl) >>= _) _ _ s
 refine Zy ?_
 unfold Builtin.List.listSubscript?
 refine Zy (Xq hTs slice_no_index ?_)
 simp only [Option.isNone_none,if_true]
 refine Zs ?_
 show wpAny _ _ (typeOf (.ref sl) >>= _) _ _ s
 refine Zy (WX hTs ?_)
 first
  | rw [Zn (by decide)]
  | refine WT (by decide) ?_
 rw [listSliceParts_eq]
 refine Zy (Zy (XO hos hds (x:=.none) rfl (Zy (wpAny_listPart .none ?_))))
 rw [Zn hstep]
 refine Zy (XO hos hds (x:=vl) rfl (Zy (wpAny_listPart pl ?_)))
 refine Zy (XO hos hds (x:=vu) rfl (Zy (wpAny_listPart pu (Zs ?_))))
 first
  | simp only [hsame,ZC,if_false]
  | refine WT hsame ?_
  | (dsimp only
     rw [Zn (by rw [hsame];exact Zm)])
 refine Zy (m:=Builtin.List.listAllItems (.ref b) "must assign iterable to extended slice") ?_
 unfold Builtin.List.listAllItems
 refine Zy (WX hb.typeIs ?_)
 first
  | refine PySem.W.KFB.if_so (by decide) ?_
  | rw [Zq (by decide)]
  | simp only [beq_self_eq_true,Bool.true_or,if_true]
 unfold Builtin.List.listItems
 refine Zy (WM e2 rfl (Zs ?_))
 refine Zy (Zy (WM e rfl (Zs ?_)))
 refine Zy (wpAny_of_eq ((sliceIndices_raw (some (a:Int)) (some (c:Int)) none items.size (by simp)).trans (congrArg (pure:Int×Int×Int->Sem (Int×Int×Int)) (rB hac hc))) ?_)
 show wpAny _ _ (if ((1:Int) == 1)=true then _ else _) _ _ s
 rw [Zq (by decide)]
 refine Zy (XB ?_)
 first
  | simp only [pq hsz,ZC,if_false]
  | refine WT (pq hsz) ?_
 first | refine Zy (Zs ?_) | skip
 show wpAny _ _ (updateSeq l (fun xs=>xs.extract 0 ((a:Int)).toNat++new++xs.extract (max (a:Int) (c:Int)).toNat xs.size) >>= _) _ _ s
 rw [hmax,X8]
 refine Zy (wpAny_updateSeq (hz:=ZV (ZI _ _) hsz) (_hz':=hz') e rfl ?_)
 refine Zy (wpAny_letGo ?_)
 first
  | exact Zy (Zs (Zs ⟨.none,rfl,Zs h⟩))
  | exact Zs ⟨.none,rfl,Zs h⟩
end
section
variable {κ:Type} [DecidableEq κ]
noncomputable def cz (kvs:List (κ×V)) (k:κ):Option V:=(kvs.find? fun kv=>decide (kv.1=k)).map (·.2)
noncomputable def putK (kvs:List (κ×V)) (k:κ) (v:V):List (κ×V) :=
 if (kvs.any fun kv=>decide (kv.1=k))=true then kvs.map (fun kv=>if kv.1=k then (kv.1,v) else kv) else kvs++[(k,v)]
noncomputable def Ga (kvs:List (κ×V)) (k:κ):List (κ×V):=kvs.filter fun kv=>decide (kv.1 ≠ k)
theorem b7 {p:κ×V} {r:List (κ×V)} {k:κ} (e:p.1=k):cz (p :: r) k=some p.2:=by simp [cz,Z6,e]
theorem cP {p:κ×V} {r:List (κ×V)} {k:κ} (e:¬ p.1=k):cz (p :: r) k=cz r k:=by simp [cz,Z6,e]
theorem ie (k:κ):∀ kvs:List (κ×V),(kvs.any fun kv=>decide (kv.1=k))=(cz kvs k).isSome
 | []=>rfl
 | p :: r=>by
  rw [YE]
  by_cases e:p.1=k
  ·simp only [b7 e,decide_eq_true e,Bool.true_or,Option.isSome_some]
  ·rw [cP e,ZL e,Bool.false_or];exact ie k r
theorem qB (k j:κ) (y:V):∀ kvs:List (κ×V),cz (kvs.map fun kv=>if kv.1=k then (kv.1,y) else kv) j=(cz kvs j).map fun x=>if j=k then y else x
 | []=>rfl
 | p :: r=>by
  have ih:=qB k j y r
  rw [Zu]
  by_cases h:p.1=k
  ·rw [Zq h]
   by_cases e:p.1=j
   ·rw [b7 (p:=(p.1,y)) e,b7 e,YO,Zq (e.symm.trans h)]
   ·rw [cP (p:=(p.1,y)) e,cP e,ih]
  ·rw [Zn h]
   by_cases e:p.1=j
   ·rw [b7 (p:=p) e,b7 e,YO,Zn (fun z=>h (e.trans z))]
   ·rw [cP (p:=p) e,cP e,ih]
theorem mP (k j:κ) (y:V):∀ kvs:List (κ×V),cz kvs k=none->cz (kvs++[(k,y)]) j=if j=k then some y else cz kvs j
 | [],_=>by
  by_cases e:k=j
  ·rw [Zq e.symm];exact b7 (p:=(k,y)) e
  ·rw [Zn (fun z=>e z.symm)];exact cP (p:=(k,y)) e
 | p :: r,hn=>by
  rw [List.cons_append]
  have hk:¬ p.1=k:=fun z=>by rw [b7 z] at hn;cases hn
  rw [cP hk] at hn
  have ih:=mP k j y r hn
  by_cases e:p.1=j
  ·rw [b7 e,b7 e,Zn (fun z=>hk (e.trans z))]
  ·rw [cP e,cP e,ih]
theorem vi (kvs:List (κ×V)) (k j:κ) (y:V):cz (putK kvs k y) j=if j=k then some y else cz kvs j:=by
 unfold putK
 by_cases a:(kvs.any fun kv=>decide (kv.1=k))=true
 ·rw [Zq a,qB]
  rw [ie] at a
  by_cases e:j=k
  ·obtain ⟨x,hx⟩:=Ww.mp a
   rw [Zq e,e,hx,YO,Zq rfl]
  ·rw [Zn e]
   cases cz kvs j with
   | none=>rfl
   | some x=>rw [YO,Zn e]
 ·rw [Zn a]
  refine mP k j y kvs ?_
  rw [ie] at a
  cases q:cz kvs k with
  | none=>rfl
  | some x=>rw [q] at a;exact (a rfl).elim
theorem fZ (kvs:List (κ×V)) (k:κ) (v:V):(putK kvs k v).length<=kvs.length+1:=by
 unfold putK
 split
 ·rw [Zt];exact ZI _ _
 ·rw [Zv,Zi,Yd];exact Zp _
theorem jS.isSome_eq {o:Option V} {u:Wr} (r:jS o u):o.isSome=u.isSome:=by
 cases o with
 | none=>cases u with
  | none=>rfl
  | some _=>exact (show False from r).elim
 | some _=>cases u with
  | none=>exact (show False from r).elim
  | some _=>rfl
theorem KV.val {kvs:List (κ×V)} {vs:List (κ×Value)} (r:KV kvs vs) (k:κ):jS (cz kvs k) (valueAt vs k):=by
 unfold KV at r
 induction r with
 | nil=>exact True.intro
 | @cons p q ps qs h t ih =>
  obtain ⟨h1,h2⟩:=h
  by_cases e:p.1=k
  ·have e':q.1=k:=h1.symm.trans e
   have b:valueAt (q :: qs) k=some q.2:=by simp [valueAt,Z6,e']
   rw [b7 e,b];exact h2
  ·have e':¬ q.1=k:=fun z=>e (h1.trans z)
   have b:valueAt (q :: qs) k=valueAt qs k:=by simp [valueAt,Z6,e']
   rw [cP e,b];exact ih
theorem KV.any {kvs:List (κ×V)} {vs:List (κ×Value)} (r:KV kvs vs) (k:κ):(kvs.any fun kv=>decide (kv.1=k))=vs.any fun kv=>decide (kv.1=k):=by
 unfold KV at r
 induction r with
 | nil=>rfl
 | cons h t ih=>rw [YE,YE,ih,h.1]
theorem KV.repl {kvs:List (κ×V)} {vs:List (κ×Value)} (r:KV kvs vs) (k:κ) {y:V} {u:Value} (ry:RelV y u) :
  KV (kvs.map fun kv=>if kv.1=k then (kv.1,y) else kv) (vs.map fun kv=>if kv.1=k then (kv.1,u) else kv):=by
 unfold KV at r ⊢
 induction r with
 | nil=>exact .nil
 | @cons p q ps qs h t ih =>
  rw [Zu,Zu]
  refine .cons ?_ ih
  obtain ⟨h1,h2⟩:=h
  by_cases e:p.1=k
  ·rw [Zq e,Zq (h1.symm.trans e)];exact ⟨h1,ry⟩
  ·rw [Zn e,Zn (fun z=>e (h1.trans z))];exact ⟨h1,h2⟩
theorem KV.put {kvs:List (κ×V)} {vs:List (κ×Value)} (r:KV kvs vs) (k:κ) {y:V} {u:Value} (ry:RelV y u):KV (putK kvs k y) (stored vs k u):=by
 unfold putK stored
 rw [r.any k]
 by_cases e:(vs.any fun kv=>decide (kv.1=k))=true
 ·rw [Zq e,Zq e];exact r.repl k ry
 ·rw [Zn e,Zn e];exact Paired.snoc r ⟨rfl,ry⟩
theorem KV.keys {kvs:List (κ×V)} {vs:List (κ×Value)} (r:KV kvs vs):kvs.map (·.1)=vs.map (·.1):=by
 unfold KV at r
 induction r with
 | nil=>rfl
 | cons h t ih=>rw [Zu,Zu,ih,h.1]
theorem KV.length {kvs:List (κ×V)} {vs:List (κ×Value)} (r:KV kvs vs):kvs.length=vs.length:=Wf r
end
theorem mS {P:Program} {w:World} {k:Key} {u:Value} (r:RelV (kV k) u):(bU P w).is k u=true:=by
 cases k with
 | inl i=>obtain ⟨t,e⟩:=(show ∃ t,u=Value.int i t from r);subst e;exact o7 P w i t
 | inr x=>obtain ⟨t,e⟩:=(show ∃ t,u=Value.str x t from r);subst e;exact qd P w x t
theorem m7 {P:Program} {w:World}:∀ {ks:List Key} {us:Xg},aT (ks.map kV) us->ItemsAre (bU P w) ks us
 | [],_,r=>by rw [YR] at r;cases r;exact .nil
 | k :: ks,_,r=>by
  rw [Zu] at r
  cases r with
  | cons h t=>exact .cons (mS h) (m7 t)
noncomputable abbrev KT (H:Hp):List (List Key×V)->List (List Key×Addr×Value)->Prop:=Paired fun p q=>p.1=q.1/\H q.2.1=some (.tup (p.1.map kV))/\RelV p.2 q.2.2
theorem KT.val {H:Hp} {kvs:List (List Key×V)} {xs:List (List Key×Addr×Value)} (r:KT H kvs xs) (k:List Key):jS (cz kvs k) ((atKey xs k).map (·.2)):=by
 induction r with
 | nil=>exact True.intro
 | @cons p q ps qs h t ih =>
  obtain ⟨h1,_,h2⟩:=h
  by_cases e:p.1=k
  ·have e':q.1=k:=h1.symm.trans e
   have b:atKey (q :: qs) k=some q.2:=by simp [atKey,Z6,e']
   rw [b7 e,b];exact h2
  ·have e':¬ q.1=k:=fun z=>e (h1.trans z)
   have b:atKey (q :: qs) k=atKey qs k:=by simp [atKey,Z6,e']
   rw [cP e,b];exact ih
theorem KT.repl {H:Hp} {kvs:List (List Key×V)} {xs:List (List Key×Addr×Value)} (r:KT H kvs xs) (k:List Key) {y:V} {u:Value} (ry:RelV y u) :
  KT H (kvs.map fun kv=>if kv.1=k then (kv.1,y) else kv) (xs.map (putAt k u)):=by
 induction r with
 | nil=>exact .nil
 | @cons p q ps qs h t ih =>
  rw [Zu,Zu]
  refine .cons ?_ ih
  obtain ⟨h1,h2,h3⟩:=h
  unfold putAt
  by_cases e:p.1=k
  ·rw [Zq e,Zq (h1.symm.trans e)];exact ⟨h1,h2,ry⟩
  ·rw [Zn e,Zn (fun z=>e (h1.trans z))];exact ⟨h1,h2,h3⟩
theorem KT.put {H:Hp} {kvs:List (List Key×V)} {xs:List (List Key×Addr×Value)} (r:KT H kvs xs) (k:List Key) {b:Addr} {y:V} {u:Value} (hb:H b=some (.tup (k.map kV))) (ry:RelV y u) :
  KT H (putK kvs k y) (storedH xs k b u):=by
 have e:(kvs.any fun kv=>decide (kv.1=k))=(atKey xs k).isSome:=by
  rw [ie,(r.val k).isSome_eq,Option.isSome_map]
 unfold putK storedH
 rw [e]
 by_cases q:(atKey xs k).isSome=true
 ·rw [Zq q,Zq q];exact r.repl k ry
 ·rw [Zn q,Zn q];exact Paired.snoc r ⟨rfl,hb,ry⟩
theorem KT.keeps {H H':Hp} {kvs:List (List Key×V)} {xs:List (List Key×Addr×Value)} (r:KT H kvs xs) (ht:∀ b ys,H b=some (.tup ys)->H' b=some (.tup ys)):KT H' kvs xs :=
 Paired.mapP r fun _ _ z=>⟨z.1,ht _ _ z.2.1,z.2.2⟩
section
variable {P:Program} {w:World} {H:Hp} {h:Heap} {a:Addr}
theorem A7 {u:HO} (ok:HOk P w H h) (e:Rd H a u):ba P w H h a u:=e.ok ok
theorem oQ {kvs:List (Key×V)} (ok:HOk P w H h) (e:Rd H a (.dK kvs)):kvs.length<=sizeLine/\(a == sysModules)=false/\∃ vs,KV kvs vs/\h.DictOf (bU P w) a vs :=
 show ba P w H h a (.dK kvs) from A7 ok e
theorem si {kvs:List (Key×V)} (ok:HOk P w H h) (e:H a=some (.dK kvs)):kvs.length<=sizeLine/\(a == sysModules)=false/\∃ vs,KV kvs vs/\h.DictOf (bU P w) a vs:=oQ ok (.inl e)
theorem gZ {ks:List Key} (ok:HOk P w H h) (e:H a=some (.tup (ks.map kV))):(tupleKind (bU P w)).is h ks a:=by
 obtain ⟨_,its,r,_,o,h1,h2,n,h3⟩:=(show ba P w H h a (.tup (ks.map kV)) from ok a _ e)
 exact ⟨o,its.toArray,n,h1,h2,h3,by simpa using m7 r⟩
theorem rX {kvs:List (List Key×V)} (ok:HOk P w H h) (e:Rd H a (.dT kvs)):kvs.length<=sizeLine/\(a == sysModules)=false ∧
  ∃ xs,KT H kvs xs/\h.DictOfH (tupleKind (bU P w)) a xs:=by
 obtain ⟨z,y,xs,r,o,es,ep,h1,h2,h3,h4,h5⟩:=(show ba P w H h a (.dT kvs) from A7 ok e)
 refine ⟨z,y,xs,r,o,es,ep,h1,h2,h3,h4,fun x hx=>?_,h5⟩
 have all:∀ {l:List (List Key×V)} {m:List (List Key×Addr×Value)},KT H l m->∀ x∈m,(tupleKind (bU P w)).is h x.1 x.2.1:=by
  intro l m q
  induction q with
  | nil=>intro x hx;exact nomatch hx
  | @cons p q ps qs hq t ih =>
   intro x hx
   rcases Zr.mp hx with e | hx
   ·subst e
    exact gZ ok (by rw [← hq.1];exact hq.2.1)
   ·exact ih x hx
 exact all r x hx
theorem DI {kvs:List (List Key×V)} (ok:HOk P w H h) (e:H a=some (.dT kvs)):kvs.length<=sizeLine/\(a == sysModules)=false ∧
  ∃ xs,KT H kvs xs/\h.DictOfH (tupleKind (bU P w)) a xs:=rX ok (.inl e)
end
noncomputable def kD (H:Hp) (a:Addr) (y:V) (r:Option V):Prop :=
 (∃ kvs k,Rd H a (.dK kvs)/\y=kV k/\r=cz kvs k)\/∃ kvs k b,Rd H a (.dT kvs)/\y=.ref b/\H b=some (.tup (k.map kV))/\r=cz kvs k
noncomputable def wF (H:Hp) (a:Addr) (y v:V) (H':Hp):Prop :=
 (∃ kvs k,H a=some (.dK kvs)/\y=kV k/\kvs.length < sizeLine/\H'=upd H a (.dK (putK kvs k v))) ∨
 ∃ kvs k b,H a=some (.dT kvs)/\y=.ref b/\H b=some (.tup (k.map kV))/\kvs.length < sizeLine/\H'=upd H a (.dT (putK kvs k v))
theorem kD.k {H:Hp} {a:Addr} {kvs:List (Key×V)} {k:Key} (e:H a=some (.dK kvs)):kD H a (kV k) (cz kvs k):=.inl ⟨kvs,k,.inl e,rfl,rfl⟩
theorem wF.k {H:Hp} {a:Addr} {kvs:List (Key×V)} {k:Key} {v:V} (e:H a=some (.dK kvs)) (hl:kvs.length < sizeLine):wF H a (kV k) v (upd H a (.dK (putK kvs k v))):=.inl ⟨kvs,k,e,rfl,hl,rfl⟩
section
variable {X:Cx} {pins:Yz} {σ:St} {H:Hp} {s:Shared} {a:Addr} {y v:V} {u r:Value} {o:Option V} {A:Around} {E:Z9}
theorem Inv.big (I:Inv X pins σ H s):sysModules < s.heap.objs.size:=by
 have h:mainGlobals < s.heap.objs.size:=(I.mod.glob.keeps I.bk).lt
 exact Nat.lt_trans (by decide) h
theorem tM {Q:Z9} (hu:A.units+1 < cLine) (I:Inv X pins σ H s) (g:kD H a y (some v)) (ry:RelV y u) (h:∀ w' s',Inv X pins σ H s'->RelV v w'->Q w' s') :
  wpAny (model X.prog X.w) A (getItem (.ref a) u) Q E s:=by
 rcases g with ⟨kvs,k,e,ey,l⟩ | ⟨kvs,k,b,e,ey,eb,l⟩
 ·subst ey
  obtain ⟨z,hd,vs,rel,dd⟩:=oQ I.hok e
  obtain ⟨w',hw,rw'⟩:=jS.some_of (v:=v) (o:=valueAt vs k) (by rw [l];exact rel.val k)
  exact wpAny_getItem_of (mS ry) dd.mapOf hw (h w' _ (I.tok _) rw')
 ·subst ey
  cases (show u=Value.ref b from ry)
  obtain ⟨z,hd,xs,rel,dd⟩:=rX I.hok e
  obtain ⟨w',hw,rw'⟩:=jS.some_of (v:=v) (o:=(atKey xs k).map (·.2)) (by rw [l];exact rel.val k)
  obtain ⟨p,hp,hp2⟩:=Zo.mp hw
  refine wpAny_getItem_heap (tupleKind_room_in1 hu) (gZ I.hok eb) dd hp ?_
  rw [hp2]
  exact h w' _ (I.tok _) rw'
theorem FW {Q:Z9} (hu:A.units+1 < cLine) (I:Inv X pins σ H s) (g:kD H a y o) (ry:RelV y u) (h:∀ s',Inv X pins σ H s'->Q (.bool o.isSome) s') :
  wpAny (model X.prog X.w) A (compareOp .In u (.ref a)) Q E s:=by
 rcases g with ⟨kvs,k,e,ey,l⟩ | ⟨kvs,k,b,e,ey,eb,l⟩
 ·subst ey
  obtain ⟨z,hd,vs,rel,dd⟩:=oQ I.hok e
  refine wpAny_in_of (mS ry) hd dd.mapOf ?_
  rw [← (rel.val k).isSome_eq,← l]
  exact h _ (I.tok _)
 ·subst ey
  cases (show u=Value.ref b from ry)
  obtain ⟨z,hd,xs,rel,dd⟩:=rX I.hok e
  refine wpAny_in_heap (tupleKind_room_in1 hu) (gZ I.hok eb) hd dd ?_
  have q:=(rel.val k).isSome_eq
  rw [Option.isSome_map] at q
  rw [← q,← l]
  exact h _ (I.tok _)
theorem iE {h':Heap} {t':Nat} {ob:HO} (I:Inv X pins σ H s) (mu:Mut (H a)) (hs:Heap.SameBut a s.heap h') (he:∃ q,h'.get? a=some q) (new:ba X.prog X.w (upd H a ob) h' a ob) :
  Inv X pins σ (upd H a ob) { s with heap:=h',toks:=t' } :=
 I.write (x:=a) (e:=a) mu (.inl rfl) (fun b q hb z=>(hs.2 b hb).trans z) he new
theorem rN {P:Program} {w:World} {H':Hp} {h':Heap} {kvs:List (Key×V)} {vs:List (Key×Value)} (z:kvs.length<=sizeLine) (hd:(a == sysModules)=false) (rel:KV kvs vs) (dd:h'.DictOf (bU P w) a vs) :
  ba P w H' h' a (.dK kvs):=⟨z,hd,vs,rel,dd⟩
theorem ur {H':Hp} {Q:Unit->Shared->Prop} (hu:A.units+1 < cLine) (I:Inv X pins σ H s) (g:wF H a y v H') (ry:RelV y u) (rv:RelV v r) (h:∀ s',Inv X pins σ H' s'->Q () s') :
  wpAny (model X.prog X.w) A (setItem (.ref a) u r) Q E s:=by
 rcases g with ⟨kvs,k,e,ey,l,eH⟩ | ⟨kvs,k,b,e,ey,eb,l,eH⟩
 ·subst ey eH
  obtain ⟨z,hd,vs,rel,dd⟩:=si I.hok e
  have hz:vs.length<=sizeLine:=by rw [← rel.length];exact z
  have hl:(putK kvs k v).length<=sizeLine:=by have:=fZ kvs k v;lia
  refine wpAny_setItem_pairs (hsz:=hz) (mS ry) dd fun h' dd' hs=>h _ ?_
  have he:∃ q,h'.get? a=some q:=let ⟨q,_,_,hq,_⟩:=dd';⟨q,hq⟩
  exact iE I (by rw [e];exact True.intro) hs he (rN hl hd (rel.put k rv) dd')
 ·subst ey eH
  cases (show u=Value.ref b from ry)
  obtain ⟨z,hd,xs,rel,dd⟩:=DI I.hok e
  have hz:xs.length<=sizeLine:=by rw [← Wf rel];exact z
  have hl:(putK kvs k v).length<=sizeLine:=by have:=fZ kvs k v;lia
  refine wpAny_setItem_heap (hsz:=hz) (tupleKind_room_in1 hu) (gZ I.hok eb) dd fun h' dd' hs=>h _ ?_
  obtain ⟨q,es,ep,hq,h2,h3,h4,_,h5⟩:=dd'
  refine iE I (by rw [e];exact True.intro) hs ⟨q,hq⟩ ⟨hl,hd,_,(rel.put k eb rv).keeps fun c ys ec=>?_,q,es,ep,hq,h2,h3,h4,h5⟩
  rw [aw (Dr ec e (fun z=>nomatch z))]
  exact ec
end
section
variable {X:Cx} {pins:Yz} {σ:St} {H:Hp} {s:Shared} {a:Addr} {kvs:List (Key×V)} {k:Key} {u:Value} {A:Around} {E:Z9}
theorem DV {Q:Z9} (I:Inv X pins σ H s) (e:Rd H a (.dK kvs)) (h:∀ t s',Inv X pins σ H s'->Q (.int kvs.length t) s'):wpAny (model X.prog X.w) A (call (.builtin "len") [.ref a]) Q E s:=by
 obtain ⟨z,hd,vs,rel,dd⟩:=oQ I.hok e
 refine call_len_dict hd dd (by rw [← rel.length];rw [WK] at z;lia) ?_
 rw [← rel.length]
 exact h _ _ (I.tok _)
end
theorem qf {X:Cx} {pins:Yz} {σ:St} {H:Hp} {s:Shared} {a:Addr} {y:V} {o:Option V} (I:Inv X pins σ H s) (g:kD H a y o):s.TypeIs (.ref a) "dict" := by
 rcases g with ⟨kvs,k,e,_,_⟩ | ⟨kvs,k,b,e,_,_,_⟩
 ·obtain ⟨_,_,vs,_,dd⟩:=oQ I.hok e
  exact dd.typeIs
 ·obtain ⟨_,_,xs,_,dd⟩:=rX I.hok e
  exact dd.typeIs
theorem oZ {P:Program} {w:World} {H:Hp} (h:Heap) (hb:sysModules < h.objs.size):ba P w H (h.push { cls:=.type "dict",data:=.dict #[] }) h.objs.size (.dK []) :=
 ⟨ZU _,beq_eq_false_iff_ne.mpr (YI (Z0 hb)),[],.nil,Heap.DictOf.new h⟩
noncomputable def CZ:TE:=fun _ H Q=>∀ p,H p=none->Q (.ref p) (upd H p (.dK []))
section
variable {X:Cx} {pos:Pos}
theorem w6:PE X (.Dict [] [] pos) CZ:=fun pins s σ H Q I h =>
 wpAny_Dict_empty ⟨.ref s.heap.objs.size,_,I.laid (a:=s.heap.objs.size) (o:=.dK []) (t':=s.toks) (fun _ _ q=>Ze _ q) (Zp _) (oZ s.heap I.big),rfl,h _ (I.hok.fresh (Zp _))⟩
end
noncomputable def rh:List (TE×TE)->St->Hp->(List (V×V)->Hp->Prop)->Prop
 | [],_,H,Q=>Q [] H
 | (tk,tv) :: r,σ,H,Q=>tk σ H fun x H1=>tv σ H1 fun y H2=>rh r σ H2 fun ps H3=>Q ((x,y) :: ps) H3
noncomputable abbrev VV:List (V×V)->List (Value×Value)->Prop:=Paired fun p q=>RelV p.1 q.1/\RelV p.2 q.2
noncomputable def PPs (X:Cx) (pos:Pos) (keys:List (Option Expr)) (values:List Expr) (trs:List (TE×TE)):Prop :=
 ∀ (pins:Yz) (s:Shared) (σ:St) (H:Hp) (Q:List (V×V)->Hp->Prop),Inv X pins σ H s->rh trs σ H Q →
  wpAny (model X.prog X.w) X.A (evalPairs (pairTrees keys values X.env pos)) (fun vs s'=>∃ ps H',Inv X pins σ H' s'/\VV ps vs/\Q ps H') X.xe s
theorem Aj {X:Cx} {pos:Pos}:PPs X pos [] [] []:=fun pins s σ H Q I h=>pairTrees_nil_walk ⟨[],H,I,.nil,h⟩
theorem wu {X:Cx} {pos:Pos} {k v:Expr} {ks:List (Option Expr)} {vs:List Expr} {tk tv:TE} {trs:List (TE×TE)} (hk:PE X k tk) (hv:PE X v tv) (hr:PPs X pos ks vs trs) :
  PPs X pos (some k :: ks) (v :: vs) ((tk,tv) :: trs):=fun pins s σ H Q I h =>
 pairTrees_cons_walk (thn (hk pins s σ H _ I h) fun u s1 ⟨x,H1,I1,rx,q1⟩=>thn (hv pins s1 σ H1 _ I1 q1) fun w2 s2 ⟨y,H2,I2,ry,q2⟩ =>
  thn (hr pins s2 σ H2 _ I2 q2) fun ws s3 ⟨ps,H3,I3,rel,q3⟩=>⟨(x,y) :: ps,H3,I3,.cons ⟨rx,ry⟩ rel,q3⟩)
noncomputable def ke (kvs more:List (Key×V)):List (Key×V):=more.foldl (fun acc kv=>putK acc kv.1 kv.2) kvs
theorem KV.merge:∀ {more:List (Key×V)} {rs:List (Key×Value)} {kvs:List (Key×V)} {vs:List (Key×Value)},KV more rs->KV kvs vs->KV (ke kvs more) (merged vs rs):=by
 intro more rs kvs vs r
 unfold KV at r
 induction r generalizing kvs vs with
 | nil=>intro q;exact q
 | @cons p q ps qs h t ih =>
  intro r0
  have e:KV (putK kvs p.1 p.2) (stored vs q.1 q.2):=by
   have:=r0.put p.1 h.2
   rw [← h.1];exact this
  exact ih e
theorem iS:∀ (more kvs:List (Key×V)),(ke kvs more).length<=kvs.length+more.length
 | [],kvs=>by show kvs.length<=kvs.length+0;exact ZI _ _
 | p :: r,kvs=>by
  have h1:=iS r (putK kvs p.1 p.2)
  have h2:=fZ kvs p.1 p.2
  show (ke (putK kvs p.1 p.2) r).length<=_
  rw [Zi];lia
theorem lE {P:Program} {w:World}:∀ {kvs:List (Key×V)} {ws:List (Value×Value)},VV (kvs.map fun kv=>(kV kv.1,kv.2)) ws->∃ rs,Carries (bU P w) ws rs/\KV kvs rs
 | [],_,r=>by rw [YR] at r;cases r;exact ⟨[],True.intro,.nil⟩
 | p :: kvs,_,r=>by
  rw [Zu] at r
  cases r with
  | @cons a b as bs h t =>
   obtain ⟨rs,c,q⟩:=lE (P:=P) (w:=w) t
   obtain ⟨b1,b2⟩:=b
   exact ⟨(p.1,b2) :: rs,⟨mS h.1,rfl,c⟩,.cons ⟨rfl,h.2⟩ q⟩
noncomputable def Dz (trs:List (TE×TE)):TE:=fun σ H Q=>∀ p,H p=none->rh trs σ (upd H p (.dK [])) fun ps H2=>H2 p=some (.dK [])/\∃ kvs:List (Key×V),ps=kvs.map (fun kv=>(kV kv.1,kv.2))/\kvs.length<=15/\Q (.ref p) (upd H2 p (.dK (ke [] kvs)))
theorem yt {X:Cx} {pos:Pos} {keys:List (Option Expr)} {values:List Expr} {trs:List (TE×TE)} (h:PPs X pos keys values trs) (hall:keys.all (·.isSome)=true) (hl:keys.length=values.length) (h0:keys ≠ [])
  (h15:keys.length<=15):PE X (.Dict keys values pos) (Dz trs):=by
 intro pins s σ H Q I q
 have hn:=I.hok.fresh (Zp s.heap.objs.size)
 have I1:=I.laid (a:=s.heap.objs.size) (o:=.dK []) (h':=s.heap.push { cls:=.type "dict",data:=.dict #[] }) (t':=s.toks) (fun _ _ q=>Ze _ q) (Zp _) (oZ s.heap I.big)
 refine wpAny_Dict_walk (knd:=bU X.prog X.w) hall hl h0 h15 (thn (h pins _ σ _ _ I1 (q _ hn)) fun ws s2 ⟨ps,H2,I2,rel,e,kvs,ep,lk,q2⟩=>?_)
 subst ep
 obtain ⟨rs,c,rk⟩:=lE (P:=X.prog) (w:=X.w) rel
 obtain ⟨z,hd,vs0,r0,dd⟩:=si I2.hok e
 cases r0
 refine ⟨rs,c,dd,fun h' dd' hs=>⟨.ref s.heap.objs.size,_,?_,rfl,q2⟩⟩
 have hz:(ke [] kvs).length<=sizeLine:=by
  have h1:=iS kvs []
  rw [Yd] at h1
  rw [WK];lia
 have he:∃ q,h'.get? s.heap.objs.size=some q:=let ⟨q,_,_,hq,_⟩:=dd';⟨q,hq⟩
 exact iE I2 (by rw [e];exact True.intro) hs he (rN hz hd (rk.merge .nil) dd')
end L2
namespace Att
open PySem PySem.W PySem.Calls PyProof.Rows
theorem kH {P:Params} {h:Heap}:∀ (ns:Vz) (vs:Xg),WellAll P h vs (ns.map WData.int)->IntsAre vs ns:=by
 intro ns
 induction ns with
 | nil =>
  intro vs w
  rw [YR] at w
  cases w
  exact .nil
 | cons n ns ih =>
  intro vs w
  rw [Zu] at w
  cases w with
  | cons a b =>
   cases a
   exact .cons _ _ (ih _ b)
theorem uu {l:OpenLaw} {n:Nat} (hn:l.most=some n) {P:Params} {h:Heap} {args:List WData} {vals:Xg}
  (hpre:l.row.toRowW.claim.pre args=true) (hwl:WellAll P h vals args) :
  ∃ a vs ns,vals=[Value.ref a]/\args=[WData.list (ns.map WData.int)]/\h.get? a=some { cls:=.type "list",data:=.seq vs.toArray }/\IntsAre vs ns/\ns.length<=n:=by
 have hsh:WShape.hasAll [] args [.list .int]=true:=(pre_splitW hpre).1
 have hc:l.pre.holds [] { args:=args }=true:=(pre_splitW hpre).2
 obtain ⟨d,r,rfl,h1,h2⟩:=hasAllW_cons hsh
 obtain rfl:=hasAllW_nil h2
 obtain ⟨xs,rfl,h3⟩:=hasW_list h1
 obtain ⟨ns,rfl⟩:=items_int h3
 have hlen:ns.length<=n:=by
  unfold OpenLaw.pre at hc
  have h4:(WTm.not (.lt (.lit (.int (n:Int))) (.len (.arg 0)))).holds [] { args:=[.list (ns.map .int)] }=true:=by
   have h4:=(holds_andW hc).1
   rw [hn] at h4
   exact h4
  have h5:=condW_of h4 (w_not (w_lt w_lit (w_len_list (w_arg rfl))))
  rw [Zt] at h5
  refine Xj fun q=>?_
  have q':(n:Int) < ((ns.length:Nat):Int):=by omega
  first
   | (rw [decide_eq_true q'] at h5;exact absurd h5 (by decide))
   | (simp at h5;omega)
 cases hwl with
 | cons w1 w2 =>
  cases w2
  cases w1 with
  | list ho hall=>exact ⟨_,_,ns,rfl,rfl,ho,kH ns _ hall,hlen⟩
theorem uf (l:OpenLaw) (args:List WData):l.row.toRowW.claim.post args (.bool true) args=true :=
 postW_of (r:=l.row.toRowW) (X:=(true == true))
  (show WShape.has [] (.bool true) .bool=true by first | rfl | decide | simp [WShape.has,WShape.arms,WShape.armsAll])
  (show (WTm.eq .res (.lit (.bool true))).value [] { args:=args,res:=some (.bool true),after:=args }=some (.bool (true == true)) from w_eq_bool (w_res rfl) w_lit) rfl
theorem oW {l:OpenLaw} {n:Nat} {q:Program} {loose:List Str} {XP:(Xm)->Heap->Prop} {YP:World->Heap->Prop} {d:DefRec}
  (hn:l.most=some n) (hdf:d.params.defaults=[])
  (call:∀ (w:World) (s₀ s₁:Shared) (mg mb:Xm) (fa:Addr) (o:Obj) (pm cd doc:Value) (a:Addr) (vs:Xg) (ns:Vz),
   Ground q loose [] XP w s₀ mg mb s₁.heap->YP w s₁.heap →
   s₁.heap.get? fa=some o->o.data=.func (docDef d.name d.params d.body d.scope pm cd doc)->s₁.heap.CodeRec cd d.name->mg d.name=some (.ref fa) →
   s₁.heap.get? a=some { cls:=.type "list",data:=.seq vs.toArray }->IntsAre vs ns->ns.length<=n->s₁.gens=#[] →
   codeAny (model l.prog w) callerA (.call (.ref fa) ⟨[.ref a],[]⟩) (fun r s'=>r=.ok (.ret (.bool true))/\OldK s₁.heap s'.heap/\s'.os=s₁.os/\AllBare s'.gens) s₁) :
  WalkO q loose XP YP l.row.toRowW d [] (fun f vs=>PySem.call f vs):=by
 intro w s₀ s₁ mg mb G Y fa o pm cd doc dV kV ho hd hcd hD hmg hg args vals as hpre hlay hrd hwl hlo
 obtain rfl:dV=.none:=Dflts.none hD hdf
 obtain rfl:kV=.none:=Dflts.noKw hD
 obtain ⟨a,vs,ns,rfl,rfl,hobj,hints,hlen⟩:=uu hn hpre hwl
 refine enter_call (Wz (call w s₀ s₁ mg mb fa o pm cd doc a vs ns G Y ho (fd_plain hd) hcd hmg hobj hints hlen hg) fun r s' hq=>?_)
 obtain ⟨rfl,h2,h3,h4⟩:=hq
 exact ⟨.inl ⟨.bool true,.bool true,[],rfl,fun _=>rfl,.bool true,uf l _,fun _=>⟨List.Pairwise.nil,fun _ hm=>(nomatch hm)⟩⟩,h2,h3,h4⟩
end Att
namespace L2
open PySem PySem.Spec PyProof.Rows
theorem nz:∀ {vs:Xg} {ns:Vz},IntsAre vs ns->aT (ns.map V.int) vs
 | _,_,.nil=>.nil
 | _,_,.cons n t h=>.cons ⟨t,rfl⟩ (nz h)
noncomputable def wd (H:Hp):Prop:=∀ b,H b=none\/∃ o xs,H b=some (.frz o (.lst xs))
theorem ve {P:Program} {w:World} {K:Xy} {mg mb:Xm} {CX:CXT} {k:Nat} {fa a:Addr} {fd:FuncData} {x:Str} {sp:Sp} {s₁:Shared} {vs:Xg} {ns:Vz}
  (KX:K.In s₁.heap) (hns:s₁.heap.Ns mainGlobals mg) (hb:s₁.heap.Ns builtinsNs mb) (hbb:∀ x:Str,x ≠ "__name__" → mb x=bootBuiltins x) (hlim:s₁.heap.NoLimit) (hg:s₁.gens=#[])
  (ha:s₁.heap.get? a=some { cls:=.type "list",data:=.seq vs.toArray }) (hi:IntsAre vs ns) (hl:ns.length<=sizeLine) (hr:Room k callerA)
  (F:∀ base:Heap,K.In base->base.Ns mainGlobals mg->FnOk P w K mg base CX k fa fd [x] sp) (hbind:∀ (s:Shared) (u:Value),BindsTo s fd ⟨[u],[]⟩ [(x,u)])
  (hsp:∀ H:Hp,wd H->SqL K H a (ns.map V.int)->sp [.ref a] H (fun v _=>v=.bl true) fun _ _ _=>False)
  (hCX:∀ H e s',CX [] H s₁ (fun _ _ _=>False) e s'->False) :
  codeAny (model P w) callerA (.call (.ref fa) ⟨[.ref a],[]⟩) (fun r s'=>r=.ok (.ret (.bool true))/\OldK s₁.heap s'.heap/\s'.os=s₁.os/\AllBare s'.gens) s₁:=by
 have rv:=nz hi
 have lenV:=hi.length
 have core:∀ H:Hp,wd H->SqL K H a (ns.map V.int)->HOk P w H s₁.heap->(∀ b,H b ≠ none->b=a)->(H a ≠ none->K.lookup a=none) →
   codeAny (model P w) callerA (.call (.ref fa) ⟨[.ref a],[]⟩) (fun r s'=>r=.ok (.ret (.bool true))/\OldK s₁.heap s'.heap/\s'.os=s₁.os/\AllBare s'.gens) s₁:=by
  intro H hO hS hok hA hK
  have base_of:∀ {b:Addr} {o:Obj},s₁.heap.get? b=some o->H b=none->(oo s₁.heap H).get? b=some o:=fun e n=>xj e n
  have noA:∀ {b:Addr} {o:Obj} {es:Array DictEntry} {ep:Nat},s₁.heap.get? b=some o->o.data=.dict es ep->H b=none:=fun {b o es ep} e d=>by
   cases q:H b with
   | none=>rfl
   | some u =>
    have e':b=a:=hA b (by rw [q];simp)
    subst e'
    rw [ha] at e;cases e
    have d':Data.seq vs.toArray _=Data.dict es ep:=d
    cases d'
  have nsK:∀ {b:Addr} {m:Xm},s₁.heap.Ns b m->(oo s₁.heap H).Ns b m:=fun {b m} ⟨o,es,ep,e,d,r⟩=>⟨o,es,ep,base_of e (noA e d),d,r⟩
  have hKb:K.In (oo s₁.heap H):=fun b o e=>base_of (KX b o e) (by
   cases q:H b with
   | none=>rfl
   | some u =>
    have e':b=a:=hA b (by rw [q];simp)
    subst e'
    rw [hK (by rw [q];simp)] at e;cases e)
  have hM:Mod K mg (oo s₁.heap H):=⟨hKb,nsK hns,⟨mb,nsK hb,hbb⟩,let ⟨mc,h1,h2⟩:=hlim;⟨mc,nsK h1,h2⟩⟩
  have e0:Env0 P w K mg (oo s₁.heap H) callerA [] s₁ H:=⟨rfl,hM,fun b o e=>zd e,Wk (tW _ _),trivial,fun b hb=>absurd (show b∈([]:Xl) from hb) (by simp),hok,.of_eq hg⟩
  refine Wz ((F _ hKb (nsK hns)).run callerA [] s₁ H ⟨[.ref a],[]⟩ [.ref a] [.ref a] _ _ hr e0 (hbind s₁ (.ref a)) (.cons rfl .nil) (hsp H hO hS)) fun r s' h=>?_
  cases r with
  | error e=>exact (hCX H e s' h).elim
  | ok fl =>
   cases fl with
   | next=>exact False.elim h
   | brk=>exact False.elim h
   | cont=>exact False.elim h
   | ret u =>
    obtain ⟨v,H',os,bare,un,hok',r',q⟩:=h
    have q':v=.bl true:=q
    subst q'
    obtain rfl:u=Value.bool true:=r'
    refine ⟨rfl,OldK.of_keep fun b o e=>?_,os,bare⟩
    cases q:H b with
    | none=>exact un.keep b o e q (by intro z;exact absurd (show b∈([]:Xl) from z) (by simp)) (by simp)
    | some u =>
     rcases hO b with z | ⟨ob,xs,z⟩
     ·rw [q] at z;cases z
     ·have z2:=un.frzs b ob _ z
      obtain ⟨e1,_⟩:=hok b _ z
      obtain ⟨e2,_⟩:=hok' b _ z2
      rw [e] at e1;cases e1
      exact e2
 cases hk:K.lookup a with
 | some o =>
  have e:=KX a o hk
  rw [ha] at e
  cases e
  refine core (fun _=>none) (fun _=>.inl rfl) (.inr ⟨_,vs.toArray,_,hk,rfl,rfl,rfl,by rw [ZZ,lenV];exact hl,by simpa using rv⟩) (fun b u z=>by have z':(none:Option HO)=some u:=z;cases z') (fun b z=>absurd rfl z) fun z=>absurd rfl z
 | none =>
  refine core (fun b=>if b=a then some (.frz { cls:=.type "list",data:=.seq vs.toArray } (.lst (ns.map V.int))) else none) (fun b=>?_) (.inl (.inr ⟨{ cls:=.type "list",data:=.seq vs.toArray },Zq rfl⟩)) (fun b u z=>?_) (fun b z=>?_) fun _=>hk
  ·by_cases hb:b=a
   ·exact .inr ⟨_,_,Zq hb⟩
   ·exact .inl (Zn hb)
  ·by_cases hb:b=a
   ·have z':=(Zq hb).symm.trans z
    cases z'
    subst hb
    exact ⟨ha,by rw [Zt];exact hl,vs,_,rv,ha⟩
   ·have z':=(Zn hb).symm.trans z
    cases z'
  ·by_cases hb:b=a
   ·exact hb
   ·exact absurd (Zn hb) z
theorem yq {l:PySem.W.OpenLaw} {n k:Nat} {q:Program} {loose:List Str} {XP:(Xm)->Heap->Prop} {YP:World->Heap->Prop} {d:DefRec} {K:Params->Xy} {CX:World->CXT} {sp:World->Sp} {x:Str}
  (hn:l.most=some n) (hn2:n<=sizeLine) (hdf:d.params.defaults=[]) (hr:Room k callerA)
  (hY:∀ (w:World) (h:Heap),YP w h->(K w.params).In h)
  (F:∀ (w:World) (mg:Xm) (fa:Addr) (h:Heap),(K w.params).In h->h.Ns mainGlobals mg->mg d.name=some (.ref fa) →
   ∃ fd:FuncData,(∀ (s:Shared) (u:Value),BindsTo s fd ⟨[u],[]⟩ [(x,u)]) ∧
    ∀ base:Heap,(K w.params).In base->base.Ns mainGlobals mg->FnOk l.prog w (K w.params) mg base (CX w) k fa fd [x] (sp w))
  (hsp:∀ (w:World) (H:Hp) (a:Addr) (ns:Vz),ns.length<=n->wd H->SqL (K w.params) H a (ns.map V.int)->sp w [.ref a] H (fun v _=>v=.bl true) fun _ _ _=>False)
  (hCX:∀ (w:World) (H:Hp) (s:Shared) (e:Value) (s':Shared),CX w [] H s (fun _ _ _=>False) e s'->False) :
  PySem.W.WalkO q loose XP YP l.row.toRowW d [] (fun f vs=>PySem.call f vs):=by
 refine Att.oW hn hdf fun w s₀ s₁ mg mb fa o pm cd doc a vs ns G Y ho hd hcd hmg hobj hints hlen hg=>?_
 have KX:=hY w _ Y
 obtain ⟨fd,hb,hF⟩:=F w mg fa _ KX G.T.g hmg
 exact ve KX G.T.g G.T.b G.T.builtins G.T.nolimit hg hobj hints (ZV hlen hn2) hr hF hb (fun H hO hS=>hsp w H a ns hlen hO hS) fun H e s'=>hCX w H s₁ e s'
noncomputable def aR (s:Stmt):Arguments:=match s with
 | .FunctionDef _ a _ _ _ _ _ _ _ _=>a
 | _=>{ posonlyargs:=[],args:=[],vararg:=none,kwonlyargs:=[],kw_defaults:=[],kwarg:=none,defaults:=[] }
noncomputable def aK (s:Stmt):List Stmt:=match s with
 | .FunctionDef _ _ b _ _ _ _ _ _ _=>b
 | _=>[]
noncomputable def ao (s:Stmt):Scope:=match s with
 | .FunctionDef _ _ _ _ _ _ sc _ _ _=>sc
 | _=>{ kind:=.function,names:=[],isGenerator:=false,isCoroutine:=false }
noncomputable abbrev CX0:CXT:=fun _ _ _ _ _ _=>False
noncomputable abbrev E0:XK:=fun _ _ _=>False
theorem DS {X:Cx}:rg CX0 X E0:=fun _ _ _ _ _ _ _ h=>h.elim
structure Fun (K:Xy) (x qual:Str) (st:Stmt) (f:Addr) (fd:FuncData):Prop where
 ex:∃ (oc:Value) (od:Option Addr) (kV doc pm:Value) (an:Option Addr) (cdv ct:Value) (osl:Array (Wr)),
  fd=PySem.W.fnOf x qual (aR st) (aK st) (ao st) .none kV doc pm an cdv ct/\K.lookup f=some ⟨oc,od,.func fd,osl⟩/\PySem.W.codeIn K cdv qual=true
 kp:PySem.W.keepIn K (.ref f)=true
section
variable {P:Program} {w:World} {K:Xy} {mg:Xm} {base:Heap}
theorem Fun.ok {x qual:Str} {st:Stmt} {f:Addr} {fd:FuncData} {N ps:List Str} {k:Nat} {sp:Sp} (F:Fun K x qual st f fd) (S:FnScope N ps (ao st)) (len:∀ vs H Q E,sp vs H Q E->vs.length=ps.length)
  (hbody:∀ (cdv:Value) (A:Around) (outer:List Env) (s:Shared) (H:Hp) (vs:List V) (Q:VK) (E:XK),Room k (A.deeper (envOfC qual (ao st) s.heap.objs.size f cdv))->sp vs H Q E →
   ∃ t,PSs (jC CX0 P w K mg base N qual (ao st) f cdv A outer s H E).nox (aK st) t/\t { nx:=fun _ H'=>Q .non H',rt:=Q } (start N vs) H):FnOk P w K mg base CX0 (k+1) f fd ps sp:=by
 obtain ⟨oc,od,kV,doc,pm,an,cdv,ct,osl,rfl,lk,hcd⟩:=F.ex
 refine Bb lk hcd S len fun A outer s H vs Q E hr hsp=>?_
 obtain ⟨t,h,q⟩:=hbody cdv A outer s H vs Q E hr hsp
 exact ⟨t,h.nox,q⟩
theorem Fun.binds {x qual:Str} {st:Stmt} {f:Addr} {fd:FuncData} {ps:List Str} (F:Fun K x qual st f fd)
  (h:∀ (kV doc pm:Value) (an:Option Addr) (cdv ct:Value) (us:Xg),us.length=ps.length->bindArgs (PySem.W.fnOf x qual (aR st) (aK st) (ao st) .none kV doc pm an cdv ct) ⟨us,[]⟩=pure (ps.zip us)):Binds K fd ps []:=by
 obtain ⟨oc,od,kV,doc,pm,an,cdv,ct,osl,rfl,lk,hcd⟩:=F.ex
 exact .all (h kV doc pm an cdv ct)
theorem bL {x qual:Str} {st:Stmt} {f:Addr} {oc:Value} {od an:Option Addr} {osl:Array (Wr)} {kV doc pm cdv ct:Value} (l:K.lookup f=some ⟨oc,od,.func (PySem.W.fnOf x qual (aR st) (aK st) (ao st) .none kV doc pm an cdv ct),osl⟩)
  (c:PySem.W.codeIn K cdv qual=true) (k:PySem.W.keepIn K (.ref f)=true):Fun K x qual st f (PySem.W.fnOf x qual (aR st) (aK st) (ao st) .none kV doc pm an cdv ct):=⟨⟨oc,od,kV,doc,pm,an,cdv,ct,osl,rfl,l,c⟩,k⟩
end
theorem vQ {A:Around} {k:Nat} (hr:Room k A):A.units+1 < cLine:=WR (Nat.add_le_add_left (by decide:1<=64) _) hr.units
section
variable {X:Cx}
theorem pv (i:Nat) {x:Str} {pos:Pos} (hN:X.N[i]?=some x:=by rfl) (hv:Vis X.env.scope x:=by first | exact Or.inl rfl | exact Or.inr (Or.inl rfl) | exact Or.inr (Or.inr rfl)) (hd:(x == ("__debug__" : Str))=false:=by decide)
  (hcd:(x == ("__classdict__" : Str))=false:=by decide):PE X (.Name x pos) (uG i):=gu hN hv hd hcd
end
theorem xI {A B:Prop} (h:B):if false=true then A else B:=by
 rw [Zn Zm]
 exact h
theorem xC {A B:Prop} (h:A):if true=true then A else B:=by
 rw [Zq rfl]
 exact h
noncomputable def aU (H H':Hp):Prop:=∀ b o,H b=some o->H' b=some o
theorem aU.refl (H:Hp):aU H H:=fun _ _ h=>h
theorem aU.trans {H H1 H2:Hp} (a:aU H H1) (b:aU H1 H2):aU H H2:=fun c o h=>b c o (a c o h)
theorem aU.free {H H':Hp} (e:aU H H') {l:Addr} (h:H' l=Option.none):H l=Option.none:=by
 cases q:H l with
 | none=>rfl
 | some o =>
  rw [e l o q] at h
  cases h
end L2
end
section
namespace NK
open PySem PySem.Spec PyProof.Rows
variable {prog:Program} {w:World} {K:Type} [DecidableEq K] {knd:KeyKind prog w K} {A:Around} {E:Z9} {s:Shared}
inductive Its (knd:KeyKind prog w K) (h:Heap):List (List K)->Xg->Prop
 | nil:Its knd h [] []
 | cons {k:List K} {b:Addr} {ks:List (List K)} {vs:Xg}:IsTupleKey knd h k b->Its knd h ks vs->Its knd h (k :: ks) (.ref b :: vs)
noncomputable def IsN (knd:KeyKind prog w K) (h:Heap) (ks:List (List K)) (a:Addr):Prop:=∃ o items n,h.get? a=some o/\o.cls=.type "tuple" ∧ o.data=.seq items n/\Its knd h ks items.toList
theorem Its.fn {h:Heap} {x y:List (List K)} {vs:Xg} (hx:Its knd h x vs):Its knd h y vs->x=y:=by
 induction hx generalizing y with
 | nil=>intro hy;cases hy;rfl
 | cons h1 _ ih =>
  intro hy
  cases hy with
  | cons h2 t=>rw [h1.inj h2,ih t]
theorem IsN.ty {ks:List (List K)} {a:Addr} (x:IsN knd s.heap ks a):s.TypeIs (.ref a) "tuple" := let ⟨o,_,_,g,c,_⟩:=x;⟨o,g,c⟩
theorem IsN.fn {h:Heap} {a:Addr} {x y:List (List K)} (hx:IsN knd h x a) (hy:IsN knd h y a):x=y:=by
 obtain ⟨o,its,n,g,_,d,i⟩:=hx
 obtain ⟨o',its',n',g',_,d',i'⟩:=hy
 rw [g] at g'
 cases g'
 rw [d] at d'
 cases d'
 exact i.fn i'
theorem Its.keeps {h h':Heap} {ks:List (List K)} {vs:Xg} {d:Addr} {o:Obj} {es ep} (x:Its knd h ks vs) (ho:h.get? d=some o) (hd:o.data=.dict es ep) (hs:Heap.SameBut d h h'):Its knd h' ks vs:=by
 induction x with
 | nil=>exact .nil
 | cons h1 _ ih=>exact .cons (h1.keeps ho hd hs) ih
theorem IsN.keeps {h h':Heap} {ks:List (List K)} {a d:Addr} {o:Obj} {es ep} (x:IsN knd h ks a) (ho:h.get? d=some o) (hd:o.data=.dict es ep) (hs:Heap.SameBut d h h'):IsN knd h' ks a:=by
 obtain ⟨o',its,n,g,c,d',i⟩:=x
 refine ⟨o',its,n,(hs.2 a fun z=>?_).trans g,c,d',i.keeps ho hd hs⟩
 subst z
 rw [ho] at g
 cases g
 rw [hd] at d'
 cases d'
noncomputable def wx (knd:KeyKind prog w K) (ks:List (List K)):Int:=reduceHash (Builtin.Tuple.tupleHashOf (ks.map (tupleKeyHash knd)))
noncomputable def rH (ks:List (List K)):Nat:=(ks.map fun k=>k.length+1).sum+1
theorem yr {ks:List (List K)} {a:Addr} {Q:Int->Shared->Prop} (hu:A.units+1 < cLine) (hk:IsN knd s.heap ks a) (q:Q (wx knd ks) { s with toks:=s.toks+rH ks }):wpAny (model prog w) A (pyHash (.ref a)) Q E s:=by
 have ty:=hk.ty
 obtain ⟨o,its,n,g,_,d,i⟩:=hk
 unfold pyHash
 first | unfold pyHashByItsType | skip
 first | refine Zy (wpAny_cRoomFor_or (.inr (YA hu)) ?_) | skip
 refine Zy (Xq ty Wh.lookup ?_)
 refine (show wpAny _ _ (if (some (Value.builtin "tuple.__hash__") == some Value.none)=true then _ else _) Q E s from ?_)
 rw [Zn (fun z=>by rw [beq_builtin_none] at z;cases z)]
 refine Zy (Xq ty Wh.lookup (Zy (wpAny_callSpecialIfBoundUnlessNone?_slot ty Wh (XZ Wh ty F.entry_tuple_hash (Zy (m:=Builtin.Tuple.tupleItemsOf (.ref a)) (wpAny_tupleItemsOf g d (Zy ?_))) (F.args_tuple_hash_1 _)))))
 rw [← X3]
 refine Xa _ (fun rest (b:Array Int) s'=>∃ x y,ks=x++y/\Its knd s.heap y rest/\b.toList=x.map (tupleKeyHash knd)/\s'={ s with toks:=s.toks+(x.map fun k=>k.length+1).sum }) _ ?turn ?fin _ _ ⟨[],ks,rfl,i,rfl,rfl⟩
 case turn =>
  rintro v rest b s' ⟨x,y,rfl,hi,hb,rfl⟩
  cases hi with
  | @cons k c ks' _ h1 h2 =>
   refine Zy (wpAny_pyHash_tuple (s:={ s with toks:=s.toks+(x.map fun k=>k.length+1).sum }) (by show A.in1.units < cLine;exact hu) h1 ?_)
   first
    | exact Zs ⟨x++[k],ks',by simp,h2,by simp [hb],by simp [Xd]⟩
    | exact Zy (Zs (Zs ⟨x++[k],ks',by simp,h2,by simp [hb],by simp [Xd]⟩))
 case fin =>
  rintro b s' ⟨x,y,rfl,hi,hb,rfl⟩
  cases hi
  rw [Z7] at q
  refine (show wpAny _ _ (retInt (Builtin.Tuple.tupleHashOf b.toList)) _ _ _ from ?_)
  rw [hb]
  refine wpAny_ret_mkInt ?_
  unfold wx reduceHash rH at q
  refine (show wpAny _ _ (if (decide (-(2:Int) ^ 63<=Builtin.Tuple.tupleHashOf (x.map (tupleKeyHash knd))) && decide (Builtin.Tuple.tupleHashOf (x.map (tupleKeyHash knd)) < 2 ^ 63))=true then _ else _) Q E _ from ?_)
  by_cases hr:(decide (-(2:Int) ^ 63<=Builtin.Tuple.tupleHashOf (x.map (tupleKeyHash knd))) && decide (Builtin.Tuple.tupleHashOf (x.map (tupleKeyHash knd)) < 2 ^ 63))=true
  ·rw [Zq hr] at q ⊢
   exact Zs (by simpa [Xd] using q)
  ·rw [Zn hr] at q ⊢
   exact Zy (XB (Zs (by simpa [Xd] using q)))
theorem zV {x y:List (List K)} {a b:Addr} {P:PySem.Fin->Shared->Prop} (hu:A.units < cLine) (hx:IsN knd s.heap x a) (hy:IsN knd s.heap y b) (q:P (.done (.ret (.bool (decide (x=y))))) s):wpAny (model prog w) A (Builtin.«tuple.__eq__» ⟨[.ref a,.ref b],[]⟩) P E s:=by
 have ty:=hy.ty
 obtain ⟨oa,xs,na,ga,_,da,ia⟩:=hx
 obtain ⟨ob,ys,nb,gb,_,db,ib⟩:=hy
 refine (show wpAny _ _ (isInstance (.ref b) (.type "tuple") >>= _) _ _ s from Zy (Wb ty WU ?_))
 simp only [Xc,ZC,↓reduceIte]
 refine Zy (wpAny_tupleItemsOf ga da (Zy (wpAny_tupleItemsOf gb db (Zy ?_))))
 refine Xa _ (fun rest r s'=>r.1=none/\s'=s/\∃ x' y' xs' ys',rest=List.zip xs' ys'/\Its knd s.heap x' xs'/\Its knd s.heap y' ys'/\decide (x'=y')=decide (x=y)/\(xs'.length == ys'.length)=(xs.size == ys.size)) _ ?turn ?fin _ _ ⟨rfl,rfl,x,y,xs.toList,ys.toList,rfl,ia,ib,rfl,by simp⟩
 case turn =>
  rintro ⟨u,v⟩ rest r s' ⟨hr,rfl,x',y',xs',ys',hz,hx',hy',hdec,hlen⟩
  cases hx' with
  | nil=>simp at hz
  | @cons k1 c1 x2 xs2 h1 t1 =>
   cases hy' with
   | nil=>simp at hz
   | @cons k2 c2 y2 ys2 h2 t2 =>
    simp only [ZG,YF,Prod.mk.injEq] at hz
    obtain ⟨⟨rfl,rfl⟩,rfl⟩:=hz
    refine Zy (wpAny_eqBool_tuple hu h1 h2 ?_)
    by_cases hk:k1=k2
    ·subst hk
     rw [decide_eq_true rfl]
     simp only [Xc,ZC,↓reduceIte]
     refine Zs ⟨rfl,rfl,x2,y2,xs2,ys2,rfl,t1,t2,?_,by simpa using hlen⟩
     rw [← hdec]
     by_cases hxy:x2=y2 <;> simp [hxy]
    ·rw [ZL hk]
     simp only [Bool.not_false,↓reduceIte]
     have hf:decide (x=y)=false:=by rw [← hdec];simp [hk]
     rw [hf] at q
     exact Zy (Zs (Zs (Zs q)))
 case fin =>
  rintro ⟨r1,r2⟩ s' ⟨hr,rfl,x',y',xs',ys',hz,hx',hy',hdec,hlen⟩
  simp only at hr
  subst hr
  have hfin:(xs.size == ys.size)=decide (x=y):=by
   rw [← hdec,← hlen]
   cases hx' with
   | nil=>cases hy' <;> simp
   | cons _ _ =>
    cases hy' with
    | nil=>simp
    | cons _ _=>simp at hz
  refine Zs (show P (.done (.ret (.bool (xs.size == ys.size)))) s' from ?_)
  rw [hfin]
  exact q
theorem Dw {x y:List (List K)} {a b:Addr} {Q:Bool->Shared->Prop} (hu:A.units+1 < cLine) (hx:IsN knd s.heap x a) (hy:IsN knd s.heap y b) (q:Q (decide (x=y)) s):wpAny (model prog w) A (eqBool (.ref a) (.ref b)) Q E s:=by
 unfold eqBool
 try with_reducible refine YN ?_
 refine (show wpAny _ _ (if (Value.ref a == Value.ref b)=true then _ else _) Q E s from ?_)
 by_cases hab:(Value.ref a == Value.ref b)=true
 ·rw [Zq hab]
  have e:a=b:=by have:=eq_of_beq hab;injection this
  subst e
  obtain rfl:=hx.fn hy
  exact Zy (XB (Zs (by simpa using q)))
 ·rw [Zn hab]
  exact Zy (wpAny_richCompare_same_room (op:=.Eq) hx.ty hy.ty WV (XZ WV hx.ty F.entry_tuple_eq (zV (by show A.in1.units < cLine;exact hu) hx hy ⟨_,rfl,(fun e=>nomatch e),Yj q⟩) (F.args_tuple_eq_2 _ _)) (YA hu))
theorem uJ {ks:List K} {n:Nat} {a:Addr} {Q:Bool->Shared->Prop} (hk:IsTupleKey knd s.heap ks a) (q:Q true s):wpAny (model prog w) A (eqIsQuiet (n+1) (.ref a)) Q E s:=by
 have ty:=hk.typeIs
 obtain ⟨o,its,m,g,_,d,i⟩:=hk
 unfold eqIsQuiet
 refine Zy (Xq ty WV.lookup (show wpAny _ _ (isInstance (.ref a) (.type "tuple") >>= _) _ _ s from Zy (Wb ty WU ?_)))
 simp only [Xc,ZC,↓reduceIte]
 refine Zy (WM g d (Zy (show wpAny _ _ (forIn its _ _) _ _ s from ?_)))
 rw [← X3]
 refine Xa _ (fun rest r s'=>r.1=none/\s'=s/\∀ v∈rest,carriedByValue v=true) _ ?turn ?fin _ _ ⟨rfl,rfl,i.byValue⟩
 case turn =>
  rintro v rest r s' ⟨hr,rfl,hall⟩
  rw [eqIsQuiet_byValue _ (hall v Zw)]
  refine Zy (Zs ?_)
  simp only [Xc,ZC,↓reduceIte]
  exact Zs ⟨rfl,rfl,fun u hu=>hall u (Zx _ hu)⟩
 case fin =>
  rintro ⟨r1,r2⟩ s' ⟨hr,rfl,_⟩
  simp only at hr
  subst hr
  exact Zs q
theorem vD {ks:List (List K)} {a:Addr} {Q:Bool->Shared->Prop} (hk:IsN knd s.heap ks a) (q:Q true s):wpAny (model prog w) A (eqIsQuiet 8 (.ref a)) Q E s:=by
 have ty:=hk.ty
 obtain ⟨o,its,m,g,_,d,i⟩:=hk
 unfold eqIsQuiet
 refine Zy (Xq ty WV.lookup (show wpAny _ _ (isInstance (.ref a) (.type "tuple") >>= _) _ _ s from Zy (Wb ty WU ?_)))
 simp only [Xc,ZC,↓reduceIte]
 refine Zy (WM g d (Zy (show wpAny _ _ (forIn its _ _) _ _ s from ?_)))
 rw [← X3]
 refine Xa _ (fun rest r s'=>r.1=none/\s'=s/\∃ ks',Its knd s.heap ks' rest) _ ?turn ?fin _ _ ⟨rfl,rfl,ks,i⟩
 case turn =>
  rintro v rest r s' ⟨hr,rfl,ks',hi⟩
  cases hi with
  | cons h1 h2 =>
   refine Zy (uJ h1 ?_)
   simp only [Xc,ZC,↓reduceIte]
   exact Zs ⟨rfl,rfl,_,h2⟩
 case fin =>
  rintro ⟨r1,r2⟩ s' ⟨hr,rfl,_⟩
  simp only at hr
  subst hr
  exact Zs q
noncomputable def nest (knd:KeyKind prog w K):HeapKind prog w (List (List K)) where
 is:=IsN knd
 hash:=wx knd
 draws:=rH
 room:=fun A=>A.units+1 < cLine
 inj:=fun hx hy=>hx.fn hy
 keeps:=fun x ho hd hs=>x.keeps ho hd hs
 pyHash:=fun hu hk q=>yr hu hk q
 eqBool:=fun hu hx hy q=>Dw hu hx hy q
 quiet:=fun hk q=>vD hk q
end NK
end
section
namespace L2
open PySem PySem.Spec PyProof.Rows
noncomputable abbrev bj:=List (Vz)
noncomputable def hN (k:bj):Int:=reduceHash (Builtin.Tuple.tupleHashOf (k.map fun x=>reduceHash (Builtin.Tuple.tupleHashOf (x.map hashInt))))
noncomputable def ES (x:bj×Addr×Value):DictEntry:=⟨hN x.1,.ref x.2.1,x.2.2⟩
noncomputable abbrev KN:List (bj×Addr×V)->List (bj×Addr×Value)->Prop:=Paired fun p q=>p.1=q.1/\p.2.1=q.2.1/\RelV p.2.2 q.2.2
noncomputable def DN (a:Addr) (kvs:List (bj×Addr×V)):HO:=.ext fun h=>kvs.length<=sizeLine/\(a == sysModules)=false/\∃ xs:List (bj×Addr×Value),KN kvs xs ∧
 ∃ o es ep,h.get? a=some o/\o.ExactDict/\o.data=.dict es ep/\es.toList=xs.map ES/\(xs.map (·.1)).Nodup
noncomputable def NAt (H:Hp) (k:bj) (b:Addr):Prop:=∃ cs:Xl,H b=some (.tup (cs.map V.ref))/\Paired (fun (x:Vz) (c:Addr)=>H c=some (.tup (x.map V.int))) k cs
theorem NAt.mono {H H':Hp} {k:bj} {b:Addr} (x:NAt H k b) (t:∀ a xs,H a=some (.tup xs)->H' a=some (.tup xs)):NAt H' k b:=by
 obtain ⟨cs,h,r⟩:=x
 exact ⟨cs,t _ _ h,Paired.mapP r fun _ _ z=>t _ _ z⟩
section
variable {P:Program} {w:World} {H:Hp} {h:Heap} {a b:Addr}
theorem items_int:∀ {ks:Vz} {us:Xg},aT (ks.map V.int) us->ItemsAre (intKind P w) ks us
 | [],_,r=>by rw [YR] at r;cases r;exact .nil
 | k :: ks,_,r=>by
  rw [Zu] at r
  cases r with
  | @cons _ u _ _ h t =>
   refine .cons ?_ (items_int t)
   obtain ⟨q,rfl⟩:=(show ∃ q,u=Value.int k q from h)
   show Value.isInt k (.int k q)=true
   simp [Value.isInt]
theorem NAt.is {k:bj} (ok:HOk P w H h) (x:NAt H k b):NK.IsN (intKind P w) h k b:=by
 obtain ⟨cs,e,r⟩:=x
 obtain ⟨z0,its,v,_,o,h1,h2,n,h3⟩:=(show ba P w H h b (.tup (cs.map V.ref)) from ok b _ e)
 refine ⟨o,its.toArray,n,h1,h2,h3,?_⟩
 rw [List.toList_toArray]
 clear e h1 h2 h3 z0
 induction r generalizing its with
 | nil =>
  rw [YR] at v
  cases v
  exact .nil
 | @cons x c xs cs' hx _ ih =>
  rw [Zu] at v
  cases v with
  | @cons _ u _ _ hu t =>
   obtain rfl:=(show u=Value.ref c from hu)
   obtain ⟨_,its2,v2,_,o2,g1,g2,n2,g3⟩:=(show ba P w H h c (.tup (x.map V.int)) from ok c _ hx)
   exact .cons ⟨o2,its2.toArray,n2,g1,g2,g3,by simpa using items_int v2⟩ (ih _ t)
theorem D4 {kvs:List (bj×Addr×V)} (ok:HOk P w H h) (e:H a=some (DN a kvs)) (ks:∀ p∈kvs,NAt H p.1 p.2.1):kvs.length<=sizeLine/\(a == sysModules)=false ∧
  ∃ xs,KN kvs xs/\h.DictOfH (NK.nest (intKind P w)) a xs:=by
 obtain ⟨⟨z,y,xs,r,o,es,ep,h1,h2,h3,h4,h5⟩,_⟩:=(show ba P w H h a (DN a kvs) from ok a _ e)
 refine ⟨z,y,xs,r,o,es,ep,h1,h2,h3,h4,fun x hx=>?_,h5⟩
 have all:∀ {l:List (bj×Addr×V)} {m:List (bj×Addr×Value)},KN l m->(∀ p∈l,NAt H p.1 p.2.1)->∀ x∈m,NK.IsN (intKind P w) h x.1 x.2.1:=by
  intro l m q
  induction q with
  | nil=>intro _ x hx;exact nomatch hx
  | @cons p q ps qs hq t ih =>
   intro hl x hx
   rcases Zr.mp hx with e | hx
   ·subst e
    rw [← hq.1,← hq.2.1]
    exact (hl p Zw).is ok
   ·exact ih (fun p hp=>hl p (Zx _ hp)) x hx
 exact all r ks x hx
theorem vo {H':Hp} {h':Heap} {kvs:List (bj×Addr×V)} {xs:List (bj×Addr×Value)} (z:kvs.length<=sizeLine) (hd:(a == sysModules)=false) (rel:KN kvs xs) (dd:h'.DictOfH (NK.nest (intKind P w)) a xs) :
  ba P w H' h' a (DN a kvs):=by
 obtain ⟨o,es,ep,h1,h2,h3,h4,_,h5⟩:=dd
 refine ⟨⟨z,hd,xs,rel,o,es,ep,h1,h2,h3,h4,h5⟩,⟨o,h1⟩,?_⟩
 rintro g1 g2 ⟨z,hd,xs,rel,o,es,ep,h1,h2,h3,h4,h5⟩ k
 exact ⟨z,hd,xs,rel,o,es,ep,k _ h1,h2,h3,h4,h5⟩
theorem KN.length {l:List (bj×Addr×V)} {m:List (bj×Addr×Value)} (r:KN l m):l.length=m.length:=Wf r
noncomputable def atN (kvs:List (bj×Addr×V)) (k:bj):Option V:=(kvs.find? fun x=>decide (x.1=k)).map (·.2.2)
theorem KN.at {l:List (bj×Addr×V)} {m:List (bj×Addr×Value)} (r:KN l m) (k:bj):jS (atN l k) ((atKey m k).map (·.2)):=by
 unfold atN atKey
 induction r with
 | nil=>exact (show jS none none from trivial)
 | @cons p q ps qs hq t ih =>
  rw [Z6,Z6,← hq.1]
  by_cases e:p.1=k
  ·simp only [e,decide_true,YO]
   exact hq.2.2
  ·simp only [e,decide_false]
   exact ih
theorem KN.add {l:List (bj×Addr×V)} {m:List (bj×Addr×Value)} (r:KN l m) {p:bj×Addr×V} {q:bj×Addr×Value} (x:p.1=q.1/\p.2.1=q.2.1/\RelV p.2.2 q.2.2):KN (l++[p]) (m++[q]):=by
 induction r with
 | nil=>exact .cons x .nil
 | cons h _ ih=>exact .cons h ih
end
section
variable {prog:Program} {w:World} {K:Type} [DecidableEq K] {knd:HeapKind prog w K} {A:Around} {E:Z9} {s:Shared}
theorem qz {d a:Addr} {xs:List (K×Addr×Value)} {k:K} {v:Value} {Q:Z9} (hu:knd.room A) (hkey:knd.is s.heap k a) (hm:s.heap.DictOfH knd d xs) (hsz:xs.length<=sizeLine)
  (q1:∀ p,atKey xs k=some p->Q p.2 { s with toks:=s.toks+knd.draws k })
  (q2:atKey xs k=none->∀ h',h'.DictOfH knd d (xs++[(k,a,v)])->Heap.SameBut d s.heap h'->Q v { s with heap:=h',toks:=s.toks+knd.draws k }) :
  wpAny (model prog w) A (dictSetDefault d (.ref a) v) Q E s:=by
 obtain ⟨o,es,ep,ho,hc,hd,he,his,hn⟩:=hm
 unfold dictSetDefault
 try with_reducible refine YN ?_
 refine Zy (knd.pyHash hu hkey (Zy (wpAny_dictFind_heap (s:={ s with toks:=s.toks+knd.draws k }) hu hkey ho hd he his hn (fun hno=>?_) fun j p hj=>?_)))
 ·have at0:=atKey_none_of_get hno
  have hnot:k ∉ xs.map (·.1):=not_mem_keys_of_get hno
  refine Zy (XB (Zy (wpAny_updateDictKeys (hz:=by have e:=size_of_entries he;lia) (s:={ s with toks:=s.toks+knd.draws k }) ho hd (Zs (q2 at0 _ ⟨_,_,ep+1,Y2 _ ho (Obj.isFreed_of_dict (Obj.data_mapDictKeys hd _)),
   hc.mapDictKeys _,Obj.data_mapDictKeys hd _,by simp [he,entryOfKey],fun x hx=>?_,?_⟩ (X9 ..))))))
  ·rcases Zh.mp hx with hx | hx
   ·exact knd.keeps (his x hx) ho hd (X9 ..)
   ·obtain rfl:=Zg.mp hx
    exact knd.keeps hkey ho hd (X9 ..)
  ·rw [Ym,ZD]
   refine ⟨hn,by simp,fun x hx y hy e=>hnot ?_⟩
   simp only [Zu,YR,Zg] at hy
   exact hy ▸ e ▸ hx
 ·refine Zy (wpAny_dictEntries (s:={ s with toks:=s.toks+knd.draws k }) ho hd ?_)
  rw [entry_at he j,hj]
  exact Zy (XB (Zs (q1 p (atKey_of_get hn hj))))
theorem oH (knd:HeapKind prog w K) {k:K} {a:Addr} (d:Addr) (hd:(d == sysModules)=false) (v:Value) :
  MeetsIn prog w (Builtin.«dict.setdefault» ⟨[.ref d,.ref a,v],[]⟩) (fun A R s=>knd.room A.in1/\knd.is s.heap k a/\∃ xs,s.heap.DictOfH knd d xs/\xs.length<=sizeLine ∧
   (∀ p,atKey xs k=some p->R (.ok (.ret p.2)) { s with toks:=s.toks+knd.draws k }) ∧
   (atKey xs k=none->∀ h',h'.DictOfH knd d (xs++[(k,a,v)])->Heap.SameBut d s.heap h'->R (.ok (.ret v)) { s with heap:=h',toks:=s.toks+knd.draws k })) :=
 .of_wp fun A R s hq=>by
  obtain ⟨hu,hkey,xs,hm,hz,q1,q2⟩:=hq
  unfold Builtin.«dict.setdefault»
  refine Zy ?_
  unfold Builtin.Dict.keyAndDefault
  refine Zy (wpAny_notOrdered_dict hm.typeIs (show wpAny _ _ (pure (d,Value.ref a,some v)) _ _ s from Zs ?_))
  show wpAny _ _ (if (d == sysModules)=true then _ else (dictSetDefault d (.ref a) v >>= _)) _ _ s
  rw [Zn (by rw [hd];simp)]
  exact Zy (qz hu hkey hm hz (fun p hp=>Zs ⟨_,rfl,q1 p hp⟩) fun hn h' hm' hs'=>Zs ⟨_,rfl,q2 hn h' hm' hs'⟩)
end
section
variable {X:Cx}
noncomputable def v9:V->List V->Hp->VK->Prop:=fun x vs H Q=>∃ (a b:Addr) (kvs:List (bj×Addr×V)) (k:bj) (y:V),x=.ref a/\vs=[.ref b,y]/\H a=some (DN a kvs)/\(∀ p∈kvs,NAt H p.1 p.2.1)/\NAt H k b/\kvs.length < sizeLine ∧
 (∀ v,atN kvs k=some v->Q v H)/\(atN kvs k=none->Q y (upd H a (DN a (kvs++[(k,b,y)]))))
theorem qV (hu:X.A.units+2 < cLine):MtR X "dict.setdefault" v9:=by
 intro pins s σ H x vs v us Q I rx rv h
 obtain ⟨a,b,kvs,k,y,rfl,rfl,e,hks,hk,hl,q1,q2⟩:=h
 cases rx
 obtain ⟨u,u2,rfl,ru,ru2⟩:=rv.two
 obtain rfl:=(show u=Value.ref b from ru)
 obtain ⟨z,hd,xs,rel,dd⟩:=D4 I.hok e hks
 have hz:xs.length<=sizeLine:=by rw [← rel.length];exact z
 have hval:=rel.at k
 refine call_meetsIn Xw dd.typeIs PySem.F.entry_dict_setdefault (W1 _ _ _) (oH (NK.nest (intKind X.prog X.w)) (k:=k) (a:=b) a hd u2) ⟨by show X.A.in1.units+1 < cLine;show X.A.units+1+1 < cLine;omega,hk.is I.hok,xs,dd,hz,fun p hv=>?_,fun hn h' dd' hs=>?_⟩
 ·rw [hv] at hval
  cases hx:atN kvs k with
  | none=>rw [hx] at hval;cases hval
  | some w =>
   rw [hx] at hval
   exact ⟨w,H,I.tok _,hval,q1 w hx⟩
 ·rw [hn] at hval
  have hx:atN kvs k=none:=by
   cases hx:atN kvs k with
   | none=>rfl
   | some w=>rw [hx] at hval;cases hval
  have he:∃ q,h'.get? a=some q:=let ⟨q,_,_,hq,_⟩:=dd';⟨q,hq⟩
  exact ⟨y,_,iE I (by rw [e];exact True.intro) hs he (vo (by rw [Zv];exact hl) hd (rel.add ⟨rfl,rfl,ru2⟩) dd'),ru2,q2 hx⟩
end
end L2
end
section
namespace VS
open PySem PySem.Spec PyProof.Rows L2
noncomputable def sx (s:Tx):Str:=⟨s.toArray⟩
noncomputable def iP (s:Tx):Prop:=s.length<=g9/\∀ c∈s,c < 1114112
structure Gx where
 K:Xy
 ct:Nat->Addr×(Nat->Str)
noncomputable def aS:Key->T
 | .inl i=>.int i
 | .inr x=>.str x.cps.toList
noncomputable def nkT (k:bj):T:=.tup (k.map fun x=>T.tup (x.map T.int))
noncomputable def km (K:Xy) (H:Hp) (a:Addr) (ns:Vz):Prop :=
 (∃ o,H a=some (.frz o (.lst (ns.map V.int)))) ∨
  ∃ (o:Obj) (its:Array Value) (n:Nat),K.lookup a=some o/\o.cls=.type "list" ∧ o.dict=none/\o.data=.seq its n/\its.size<=sizeLine/\aT (ns.map V.int) its.toList
mutual
inductive Rp (G:Gx) (H:Hp):V->T->Xl->Prop
 | non:Rp G H .non .non []
 | bl (b:Bool):Rp G H (.bl b) (.bl b) []
 | int (i:Int):Rp G H (.int i) (.int i) []
 | str (s:Tx):iP s->Rp G H (.str (sx s)) (.str s) []
 | scr {a:Addr} {ns:Vz}:km G.K H a ns->Rp G H (.ref a) (.scr ns) []
 | tup {a:Addr} {vs:List V} {ts:Vu} {Fs:Yk}:H a=some (.tup vs)->RpL G H vs ts Fs->Rp G H (.ref a) (.tup ts) Fs.flatten
 | lst {a:Addr} {vs:List V} {ts:Vu} {Fs:Yk}:H a=some (.lst vs)->RpL G H vs ts Fs->Rp G H (.ref a) (.lst ts) (a :: Fs.flatten)
 | dct {a:Addr} {ks:List Key} {vs:List V} {ts:Vu} {Fs:Yk}:H a=some (.dK (ks.zip vs))->ks.length=vs.length->RpL G H vs ts Fs->Rp G H (.ref a) (.dct 0 ((ks.map aS).zip ts)) (a :: Fs.flatten)
 | dctT {a:Addr} {ks:List (List Key)} {vs:List V} {ts:Vu} {Fs:Yk}:H a=some (.dT (ks.zip vs))->ks.length=vs.length->RpL G H vs ts Fs->Rp G H (.ref a) (.dct 1 ((ks.map fun k=>T.tup (k.map aS)).zip ts)) (a :: Fs.flatten)
 | dctN {a:Addr} {ks:List (bj×Addr)} {vs:List V} {ts:Vu} {Fs:Yk}:H a=some (DN a ((ks.zip vs).map fun p=>(p.1.1,p.1.2,p.2)))->ks.length=vs.length->(∀ p∈ks,NAt H p.1 p.2)->RpL G H vs ts Fs->Rp G H (.ref a) (.dct 2 ((ks.map fun p=>nkT p.1).zip ts)) (a :: Fs.flatten)
 | exc {c:Nat} {a:Addr} {o:Obj}:H a=some (.frz o (.own a))->(o.cls=.ref (G.ct c).1/\o.dict=none/\∃ vs,o.data=.fields vs)->Rp G H (.ref a) (.obj c []) []
inductive RpL (G:Gx) (H:Hp):List V->Vu->Yk->Prop
 | nil:RpL G H [] [] []
 | cons {v:V} {t:T} {F:Xl} {vs:List V} {ts:Vu} {Fs:Yk}:Rp G H v t F->RpL G H vs ts Fs->RpL G H (v :: vs) (t :: ts) (F :: Fs)
end
structure Kept (H H':Hp):Prop where
 tup:∀ a xs,H a=some (.tup xs)->H' a=some (.tup xs)
 frz:∀ a o u,H a=some (.frz o u)->H' a=some (.frz o u)
theorem Kept.refl (H:Hp):Kept H H:=⟨fun _ _ h=>h,fun _ _ _ h=>h⟩
theorem Kept.trans {H H1 H2:Hp} (a:Kept H H1) (b:Kept H1 H2):Kept H H2:=⟨fun c x h=>b.tup c x (a.tup c x h),fun c o u h=>b.frz c o u (a.frz c o u h)⟩
theorem Kept.of {H H':Hp} (e:aU H H'):Kept H H':=⟨fun a _ h=>e a _ h,fun a _ _ h=>e a _ h⟩
theorem Kept.upd {H:Hp} {a:Addr} {o:HO} (mu:Mut (H a)\/H a=none):Kept H (upd H a o):=by
 have ne:∀ b u,H b=some u->¬ Mut (some u)->b ≠ a:=fun b u h nm e=>by
  subst e
  rcases mu with m | m
  ·rw [h] at m;exact nm m
  ·rw [h] at m;cases m
 exact ⟨fun b xs h=>by rw [aw (ne b _ h fun z=>z)];exact h,fun b o u h=>by rw [aw (ne b _ h fun z=>z)];exact h⟩
theorem km.kept {K:Xy} {H H':Hp} {a:Addr} {ns:Vz} (h:km K H a ns) (k:Kept H H'):km K H' a ns:=by
 rcases h with ⟨o,e⟩ | h
 ·exact .inl ⟨o,k.frz _ _ _ e⟩
 ·exact .inr h
theorem km.seq {K:Xy} {H:Hp} {a:Addr} {ns:Vz} (h:km K H a ns):SqL K H a (ns.map V.int):=by
 rcases h with ⟨o,e⟩ | h
 ·exact .inl (.inr ⟨o,e⟩)
 ·exact .inr h
theorem sf {H H':Hp} {a:Addr} {F:Xl} (f:∀ b∈a :: F,∀ o,H b=some o->H' b=some o):∀ b∈F,∀ o,H b=some o->H' b=some o:=fun b m=>f b (Zx _ m)
theorem sk {H H':Hp} {F:Xl} {Fs:Yk} (f:∀ b∈(F :: Fs).flatten,∀ o,H b=some o->H' b=some o):(∀ b∈F,∀ o,H b=some o->H' b=some o)/\∀ b∈Fs.flatten,∀ o,H b=some o->H' b=some o:=by
 rw [Zf] at f
 exact ⟨fun b m=>f b (YV _ m),fun b m=>f b (ZA _ m)⟩
theorem Rp.keep {G:Gx} {H H':Hp} (k:Kept H H') {v:V} {t:T} {F:Xl} (r:Rp G H v t F):(∀ a∈F,∀ o,H a=some o->H' a=some o)->Rp G H' v t F :=
 Rp.rec (motive_1:=fun v t F _=>(∀ a∈F,∀ o,H a=some o->H' a=some o)->Rp G H' v t F) (motive_2:=fun vs ts Fs _=>(∀ a∈Fs.flatten,∀ o,H a=some o->H' a=some o)->RpL G H' vs ts Fs)
  (fun _=>.non) (fun b _=>.bl b) (fun i _=>.int i) (fun s h _=>.str s h) (fun h _=>.scr (h.kept k)) (fun h _ ih f=>.tup (k.tup _ _ h) (ih f)) (fun h _ ih f=>.lst (f _ Zw _ h) (ih (sf f))) (fun h l _ ih f=>.dct (f _ Zw _ h) l (ih (sf f))) (fun h l _ ih f=>.dctT (f _ Zw _ h) l (ih (sf f)))
  (fun h l n _ ih f=>.dctN (f _ Zw _ h) l (fun p m=>(n p m).mono k.tup) (ih (sf f))) (fun h hc _=>.exc (k.frz _ _ _ h) hc) (fun _=>.nil) (fun _ _ i1 i2 f=>.cons (i1 (sk f).1) (i2 (sk f).2)) r
theorem RpL.keep {G:Gx} {H H':Hp} (k:Kept H H'):∀ {vs:List V} {ts:Vu} {Fs:Yk},RpL G H vs ts Fs->(∀ a∈Fs.flatten,∀ o,H a=some o->H' a=some o)->RpL G H' vs ts Fs
 | _,_,_,.nil,_=>.nil
 | _,_,_,.cons r q,f=>.cons (r.keep k (sk f).1) (RpL.keep k q (sk f).2)
theorem Rp.same {G:Gx} {H H':Hp} (e:aU H H') {v:V} {t:T} {F:Xl} (r:Rp G H v t F):Rp G H' v t F:=r.keep (Kept.of e) fun a _ o h=>e a o h
theorem RpL.same {G:Gx} {H H':Hp} (e:aU H H') {v:List V} {t:Vu} {F:Yk} (r:RpL G H v t F):RpL G H' v t F:=r.keep (Kept.of e) fun a _ o h=>e a o h
theorem Am {H:Hp} {a:Addr} {F:Xl} (h:Mut (H a)) (ih:∀ b∈F,Mut (H b)):∀ b∈a :: F,Mut (H b):=fun b m=>(Zr.mp m).elim (fun e=>e ▸ h) (ih b)
theorem zv {H:Hp} {a:Addr} {o:HO} (h:H a=some o) (m:Mut (some o)):Mut (H a):=by rw [h];exact m
theorem DG {H:Hp} {F:Xl} {Fs:Yk} (h1:∀ b∈F,Mut (H b)) (h2:∀ b∈Fs.flatten,Mut (H b)):∀ b∈(F :: Fs).flatten,Mut (H b):=fun b m=>by
 rw [Zf] at m
 exact (Zh.mp m).elim (h1 b) (h2 b)
theorem Rp.dom {G:Gx} {H:Hp} {v:V} {t:T} {F:Xl} (r:Rp G H v t F):∀ a∈F,Mut (H a) :=
 Rp.rec (motive_1:=fun v t F _=>∀ a∈F,Mut (H a)) (motive_2:=fun vs ts Fs _=>∀ a∈Fs.flatten,Mut (H a))
  (fun _ m=>nomatch m) (fun _ _ m=>nomatch m) (fun _ _ m=>nomatch m) (fun _ _ _ m=>nomatch m) (fun _ _ m=>nomatch m) (fun _ _ ih=>ih) (fun h _ ih=>Am (zv h True.intro) ih) (fun h _ _ ih=>Am (zv h True.intro) ih) (fun h _ _ ih=>Am (zv h True.intro) ih)
  (fun h _ _ _ ih=>Am (zv h True.intro) ih) (fun _ _ _ m=>nomatch m) (fun _ m=>nomatch m) (fun _ _ i1 i2=>DG i1 i2) r
theorem RpL.dom {G:Gx} {H:Hp}:∀ {vs:List V} {ts:Vu} {Fs:Yk},RpL G H vs ts Fs->∀ a∈Fs.flatten,Mut (H a)
 | _,_,_,.nil=>fun _ m=>nomatch m
 | _,_,_,.cons r q=>DG r.dom (RpL.dom q)
theorem Mut.ne_none {o:Option HO} (m:Mut o):o ≠ none:=fun e=>by subst e;exact m
theorem Es {F:Xl} {Fs:Yk} {t:T} {ts:Vu} (h1:VS.imm t=true->F=[]) (h2:VS.fN ts=true->Fs.flatten=[]) (i:VS.fN (t :: ts)=true):(F :: Fs).flatten=[]:=by
 simp only [VS.fN,Z3] at i
 rw [Zf,h1 i.1,h2 i.2]
 rfl
theorem Rp.imm {G:Gx} {H:Hp} {v:V} {t:T} {F:Xl} (r:Rp G H v t F):VS.imm t=true->F=[] :=
 Rp.rec (motive_1:=fun v t F _=>VS.imm t=true->F=[]) (motive_2:=fun vs ts Fs _=>VS.fN ts=true->Fs.flatten=[])
  (fun _=>rfl) (fun _ _=>rfl) (fun _ _=>rfl) (fun _ _ _=>rfl) (fun _ _=>rfl) (fun _ _ ih i=>ih (by simpa [VS.imm] using i)) (fun _ _ _ i=>absurd (show false=true from i) Zm) (fun _ _ _ _ i=>absurd (show false=true from i) Zm) (fun _ _ _ _ i=>absurd (show false=true from i) Zm)
  (fun _ _ _ _ _ i=>absurd (show false=true from i) Zm) (fun _ _ _=>rfl) (fun _=>rfl) (fun _ _ i1 i2 i=>Es i1 i2 i) r
theorem RpL.imm {G:Gx} {H:Hp}:∀ {vs:List V} {ts:Vu} {Fs:Yk},RpL G H vs ts Fs->VS.fN ts=true->Fs.flatten=[]
 | _,_,_,.nil,_=>rfl
 | _,_,_,.cons r q,i=>Es r.imm (RpL.imm q) i
theorem RpL.len {G:Gx} {H:Hp}:∀ {vs:List V} {ts:Vu} {Fs:Yk},RpL G H vs ts Fs->vs.length=ts.length/\Fs.length=ts.length
 | _,_,_,.nil=>⟨rfl,rfl⟩
 | _,_,_,.cons _ q=>by
  have:=RpL.len q
  simp only [Zi]
  lia
theorem RpL.get {G:Gx} {H:Hp}:∀ {vs:List V} {ts:Vu} {Fs:Yk} (i:Nat) {t:T},RpL G H vs ts Fs->ts[i]?=some t->∃ v F,vs[i]?=some v/\Fs[i]?=some F/\Rp G H v t F
 | _,_,_,_,_,.nil,e=>by simp at e
 | _,_,_,0,_,.cons r _,e=>by
  simp at e
  subst e
  exact ⟨_,_,rfl,rfl,r⟩
 | _,_,_,i+1,_,.cons _ q,e=>by
  obtain ⟨v,F,h1,h2,h3⟩:=RpL.get i q (by simpa using e)
  exact ⟨v,F,by simpa using h1,by simpa using h2,h3⟩
theorem RpL.append {G:Gx} {H:Hp}:∀ {vs:List V} {ts:Vu} {Fs:Yk} {us:List V} {rs:Vu} {Gs:Yk},RpL G H vs ts Fs->RpL G H us rs Gs->RpL G H (vs++us) (ts++rs) (Fs++Gs)
 | _,_,_,_,_,_,.nil,s=>s
 | _,_,_,_,_,_,.cons r q,s=>.cons r (RpL.append q s)
theorem RpL.take {G:Gx} {H:Hp}:∀ {vs:List V} {ts:Vu} {Fs:Yk} (n:Nat),RpL G H vs ts Fs->RpL G H (vs.take n) (ts.take n) (Fs.take n)
 | _,_,_,0,_=>by simpa using RpL.nil
 | _,_,_,n+1,.nil=>.nil
 | _,_,_,n+1,.cons r q=>.cons r (RpL.take n q)
theorem RpL.drop {G:Gx} {H:Hp}:∀ {vs:List V} {ts:Vu} {Fs:Yk} (n:Nat),RpL G H vs ts Fs->RpL G H (vs.drop n) (ts.drop n) (Fs.drop n)
 | _,_,_,0,q=>q
 | _,_,_,n+1,.nil=>.nil
 | _,_,_,n+1,.cons r q=>RpL.drop n q
noncomputable def kA:Cell->T
 | .pu t=>t
 | .ow t=>t
noncomputable abbrev Fps:=Nat->Xl
structure SR (G:Gx) (Φ:Fps) (η:VS.Env) (σ:L2.St) (H:Hp):Prop where
 len:η.length=σ.length
 rp:∀ i c,η[i]?=some (some c)->∃ v,σ[i]?=some (some v)/\Rp G H v (kA c) (Φ i)
 nd:∀ i t,η[i]?=some (some (.ow t))->(Φ i).Nodup
 sep:∀ i j t c,η[i]?=some (some (.ow t))->η[j]?=some (some c)->i ≠ j->∀ a∈Φ i,a ∉ Φ j
noncomputable def dE (Φ:Fps) (η:VS.Env) (a:Addr):Prop:=∃ j t,η[j]?=some (some (.pu t))/\a∈Φ j
noncomputable def bZ (Φ:Fps) (η:VS.Env) (a:Addr):Prop:=∃ j t,η[j]?=some (some (.ow t))/\a∈Φ j
noncomputable def Fp (Φ:Fps) (η:VS.Env) (H:Hp):Md->Xl->Prop
 | .fr,F=>F.Nodup/\∀ a∈F,H a=none
 | .pu,F=>∀ a∈F,H a=none\/dE Φ η a
 | .bo,F=>∀ a∈F,H a=none\/dE Φ η a\/bZ Φ η a
theorem SR.same {G:Gx} {Φ:Fps} {η:VS.Env} {σ:L2.St} {H H':Hp} (s:SR G Φ η σ H) (e:aU H H'):SR G Φ η σ H' :=
 ⟨s.len,fun i c h=>let ⟨v,h1,h2⟩:=s.rp i c h;⟨v,h1,h2.same e⟩,s.nd,s.sep⟩
theorem SR.pu_dom {G:Gx} {Φ:Fps} {η:VS.Env} {σ:L2.St} {H:Hp} {a:Addr} (s:SR G Φ η σ H) (h:dE Φ η a):Mut (H a):=by
 obtain ⟨j,t,h1,h2⟩:=h
 obtain ⟨v,_,r⟩:=s.rp j _ h1
 exact r.dom a h2
theorem SR.ow_dom {G:Gx} {Φ:Fps} {η:VS.Env} {σ:L2.St} {H:Hp} {a:Addr} (s:SR G Φ η σ H) (h:bZ Φ η a):Mut (H a):=by
 obtain ⟨j,t,h1,h2⟩:=h
 obtain ⟨v,_,r⟩:=s.rp j _ h1
 exact r.dom a h2
theorem Fp.nil {Φ:Fps} {η:VS.Env} {H:Hp} {m:Md}:Fp Φ η H m []:=by
 cases m
 ·exact ⟨List.nodup_nil,fun a h=>by simp at h⟩
 ·exact fun a h=>by simp at h
 ·exact fun a h=>by simp at h
theorem Fp.bo {Φ:Fps} {η:VS.Env} {H:Hp} {F:Xl}:∀ {m:Md},Fp Φ η H m F->Fp Φ η H .bo F
 | .fr,h=>fun a m=>.inl (h.2 a m)
 | .pu,h=>fun a m=>(h a m).elim .inl fun z=>.inr (.inl z)
 | .bo,h=>h
theorem Fp.pu {Φ:Fps} {η:VS.Env} {H:Hp} {F:Xl}:∀ {m:Md},m ≠ .bo->Fp Φ η H m F->Fp Φ η H .pu F
 | .fr,_,h=>fun a m=>.inl (h.2 a m)
 | .pu,_,h=>h
 | .bo,n,_=>absurd rfl n
theorem Fp.back {Φ:Fps} {η:VS.Env} {H H':Hp} (e:aU H H') {F:Xl}:∀ {m:Md},Fp Φ η H' m F->Fp Φ η H m F
 | .fr,h=>⟨h.1,fun a m=>e.free (h.2 a m)⟩
 | .pu,h=>fun a m=>(h a m).imp e.free id
 | .bo,h=>fun a m=>(h a m).imp e.free id
theorem Fp.up {G:Gx} {Φ:Fps} {η:VS.Env} {H H':Hp} {m:Md} {v:V} {t:T} {F:Xl} (f:Fp Φ η H m F) (r:Rp G H' v t F):Fp Φ η H (VS.up m t).1 F:=by
 unfold VS.up
 by_cases h:VS.imm t=true
 ·rw [r.imm h]
  exact Fp.nil
 ·simp only [h,if_false,ZC]
  exact f
noncomputable def tE (G:Gx) (c:Ex):TE:=fun σ H Q=>∃ Φ η m r,SR G Φ η σ H/\c η=some (m,r)/\∀ v H' F,aU H H'->Rp G H' v r F->Fp Φ η H m F->Q v H'
noncomputable def PV (G:Gx) (X:Cx) (e:Expr) (c:Ex):Prop:=PE X e (tE G c)
theorem PE.weak {X:Cx} {e:Expr} {t t':TE} (h:PE X e t) (w:∀ σ H Q,t' σ H Q->t σ H Q):PE X e t':=fun pins s σ H Q I q=>h pins s σ H Q I (w σ H Q q)
theorem PT.weak {X:Cx} {e:Expr} {t t':TT} (h:PT X e t) (w:∀ σ H Q,t' σ H Q->t σ H Q):PT X e t':=fun pins s σ H Q I q=>h pins s σ H Q I (w σ H Q q)
theorem PA.weak {X:Cx} {e:List Expr} {t t':TA} (h:PA X e t) (w:∀ σ H Q,t' σ H Q->t σ H Q):PA X e t':=fun pos pins s σ H Q I q=>h pos pins s σ H Q I (w σ H Q q)
noncomputable def tT (G:Gx) (c:Ex):TT:=fun σ H Q=>∃ Φ η m r b,SR G Φ η σ H/\c η=some (m,r)/\tru r=some b/\∀ H',aU H H'->Q b H'
noncomputable def PVT (G:Gx) (X:Cx) (e:Expr) (c:Ex):Prop:=PT X e (tT G c)
noncomputable def frs (l:Vw) (Fs:Yk):Xl:=match l,Fs with
 | v :: l,F :: Fs=>match v.1 with
  | .fr=>F++frs l Fs
  | _=>frs l Fs
 | _,_=>[]
structure FpL (Φ:Fps) (η:VS.Env) (H:Hp) (l:Vw) (Fs:Yk):Prop where
 each:∀ (i:Nat) v F,l[i]?=some v->Fs[i]?=some F->Fp Φ η H v.1 F
 nd:(frs l Fs).Nodup
noncomputable def tEs (G:Gx) (c:Exs):TA:=fun σ H Q=>∃ Φ η l,SR G Φ η σ H/\c η=some l/\∀ vs H' Fs,aU H H'->RpL G H' vs (trees l) Fs->FpL Φ η H l Fs->Q vs H'
noncomputable def PVs (G:Gx) (X:Cx) (es:List Expr) (c:Exs):Prop:=PA X es (tEs G c)
section
variable {G:Gx} {X:Cx} {a b c:Expr} {ca cb cc:Ex} {pos:Pos}
theorem C8 {i j pos}:PV G X (.Constant (.int i) j pos) (eC (.int i)):=PE.weak yg fun σ H Q hq=>by
 obtain ⟨Φ,η,m,r,s,e,k⟩:=hq
 cases (show some (Md.fr,T.int i)=some (m,r) from e)
 exact k _ _ _ (aU.refl _) (.int i) Fp.nil
theorem E1 {i j pos}:PV G X (.Constant (.bool i) j pos) (eC (.bl i)):=PE.weak D0 fun σ H Q hq=>by
 obtain ⟨Φ,η,m,r,s,e,k⟩:=hq
 cases (show some (Md.fr,T.bl i)=some (m,r) from e)
 exact k _ _ _ (aU.refl _) (.bl i) Fp.nil
theorem CA {j pos}:PV G X (.Constant .none j pos) (eC .non):=PE.weak BN fun σ H Q hq=>by
 obtain ⟨Φ,η,m,r,s,e,k⟩:=hq
 cases (show some (Md.fr,T.non)=some (m,r) from e)
 exact k _ _ _ (aU.refl _) .non Fp.nil
theorem CQ {x:Str} {t:Tx} {j pos} (h:x=sx t:=by decide +kernel) (hl:iP t:=by decide):PV G X (.Constant (.str x) j pos) (eC (.str t)):=PE.weak xB fun σ H Q hq=>by
 obtain ⟨Φ,η,m,r,s,e,k⟩:=hq
 cases (show some (Md.fr,T.str t)=some (m,r) from e)
 subst h
 exact k _ _ _ (aU.refl _) (.str t hl) Fp.nil
theorem Dm (i:Nat) {x:Str} {pos:Pos} (hN:X.N[i]?=some x:=by rfl) (hv:Vis X.env.scope x:=by first | exact Or.inl rfl | exact Or.inr (Or.inl rfl) | exact Or.inr (Or.inr rfl)) (hd:(x == ("__debug__" : Str))=false:=by decide)
  (hcd:(x == ("__classdict__" : Str))=false:=by decide):PV G X (.Name x pos) (aj i):=PE.weak (gu hN hv hd hcd) fun σ H Q hq=>by
 obtain ⟨Φ,η,m,r,s,e,k⟩:=hq
 unfold aj at e
 split at e
 ·rename_i t h
  obtain ⟨v,h1,h2⟩:=s.rp _ _ h
  have e':VS.up .pu t=(m,r):=ZK e
  have er:t=r:=congrArg Prod.snd e'
  have em:(VS.up .pu t).1=m:=congrArg Prod.fst e'
  rw [← er,← em] at k
  refine ⟨v,h1,k v H (Φ i) (aU.refl _) h2 ?_⟩
  have f:Fp Φ η H .pu (Φ i):=fun a ha=>.inr ⟨i,_,h,ha⟩
  exact f.up h2
 ·rename_i t h
  obtain ⟨v,h1,h2⟩:=s.rp _ _ h
  cases e
  exact ⟨v,h1,k v H (Φ i) (aU.refl _) h2 fun a ha=>.inr (.inr ⟨i,_,h,ha⟩)⟩
 ·cases e
structure Two (G:Gx) (Φ:Fps) (η:VS.Env) (H0 H:Hp) (x y:Val) (u w:V) (F1 F2:Xl):Prop where
 same:aU H0 H
 r1:Rp G H u x.2 F1
 r2:Rp G H w y.2 F2
 f1:Fp Φ η H0 x.1 F1
 f2:Fp Φ η H0 y.1 F2
 nd:x.1=.fr->y.1=.fr->(F1++F2).Nodup
noncomputable def gp (G:Gx) (r:R2) (f:Val->Val->Vv):Prop:=∀ (Φ:Fps) (η:VS.Env) (H0 H:Hp) (x y:Val) (u w:V) (F1 F2:Xl) (m:Md) (t:T) (Q:VK),Two G Φ η H0 H x y u w F1 F2->f x y=some (m,t) →
 (∀ v H' F,aU H H'->Rp G H' v t F->Fp Φ η H0 m F->Q v H')->r u w H Q
theorem wU {σ:L2.St} {H:Hp} {Q:V->V->Hp->Prop} {Φ:Fps} {η:VS.Env} {x y:Val} (s:SR G Φ η σ H) (ea:ca η=some x) (eb:cb η=some y)
  (k:∀ u w H2 F1 F2,Two G Φ η H H2 x y u w F1 F2->Q u w H2):tE G ca σ H fun u H1=>tE G cb σ H1 fun w H2=>Q u w H2:=by
 refine ⟨Φ,η,x.1,x.2,s,ea,fun u H1 F1 e1 r1 f1=>⟨Φ,η,y.1,y.2,s.same e1,eb,fun w H2 F2 e2 r2 f2=>k u w H2 F1 F2 ⟨e1.trans e2,r1.same e2,r2,f1,f2.back e1,fun hx hy=>?_⟩⟩⟩
 rw [hx] at f1
 rw [hy] at f2
 refine ZD.mpr ⟨f1.1,f2.1,fun a ha b hb z=>?_⟩
 subst z
 exact Mut.ne_none (r1.dom a ha) (f2.2 a hb)
theorem mw {r:R2} {f:Val->Val->Vv} (ok:gp G r f) {σ:L2.St} {H:Hp} {Q:VK} (h:tE G (e2 f ca cb) σ H Q):tOp r (tE G ca) (tE G cb) σ H Q:=by
 obtain ⟨Φ,η,m,t,s,e,k⟩:=h
 unfold e2 at e
 obtain ⟨x,ea,e⟩:=Zz.mp e
 obtain ⟨y,eb,e⟩:=Zz.mp e
 exact wU s ea eb fun u w H2 F1 F2 tw=>ok Φ η H H2 x y u w F1 F2 m t Q tw e fun v H' F e1 r1 f1=>k v H' F (tw.same.trans e1) r1 f1
theorem nr {op:Operator} {r:R2} {f:Val->Val->Vv} (ho:OpR X (binaryOp op) r) (ok:gp G r f) (ha:PV G X a ca) (hb:PV G X b cb):PV G X (.BinOp a op b pos) (e2 f ca cb) :=
 PE.weak (Ey ho ha hb) fun σ H Q h=>mw ok h
theorem CF {op:CmpOp} {r:R2} {f:Val->Val->Vv} (ho:OpR X (compareOp op) r) (ok:gp G r f) (ha:PV G X a ca) (hb:PV G X b cb) (hm:behindInMarks op b=false):PV G X (.Compare a [op] [b] pos) (e2 f ca cb) :=
 PE.weak (yu ho ha hb hm) fun σ H Q h=>mw ok h
noncomputable def Tells (f:Val->Val->Vv):Prop:=∀ x y m t,f x y=some (m,t)->∃ b,t=.bl b
theorem Rp.bl_inv {H:Hp} {v:V} {b:Bool} {F:Xl} (r:Rp G H v (.bl b) F):v=.bl b:=by cases r;rfl
theorem Rp.int_inv {H:Hp} {v:V} {b:Int} {F:Xl} (r:Rp G H v (.int b) F):v=.int b:=by cases r;rfl
theorem Rp.str_inv {H:Hp} {v:V} {b:Tx} {F:Xl} (r:Rp G H v (.str b) F):v=.str (sx b)/\iP b:=by cases r with | str _ h=>exact ⟨rfl,h⟩
theorem ql {c:Ex} {t:TE} {σ:L2.St} {H:Hp} {Q:Bool->Hp->Prop} (h:tT G c σ H Q) (ht:∀ η m r,c η=some (m,r)->∃ b,r=.bl b) (w:∀ Q,tE G c σ H Q->t σ H Q):xx t σ H Q:=by
 obtain ⟨Φ,η,m,r,b,s,e,eb,k⟩:=h
 refine w _ ⟨Φ,η,m,r,s,e,fun v H' F e1 r1 f1=>?_⟩
 obtain ⟨b',er⟩:=ht η m r e
 rw [er] at eb r1
 cases (show some b'=some b from eb)
 exact ⟨_,r1.bl_inv,k H' e1⟩
theorem iI {op:CmpOp} {r:R2} {f:Val->Val->Vv} (ho:OpR X (compareOp op) r) (ok:gp G r f) (ht:Tells f) (ha:PV G X a ca) (hb:PV G X b cb) (hm:behindInMarks op b=false):PVT G X (.Compare a [op] [b] pos) (e2 f ca cb) :=
 PT.weak (zT ho ha hb hm) fun σ H Q h=>ql h (fun η m r e=>by
  unfold e2 at e
  obtain ⟨x,_,e⟩:=Zz.mp e
  obtain ⟨y,_,e⟩:=Zz.mp e
  exact ht x y m r e) fun Q h=>mw ok h
theorem bC {Φ:Fps} {η:VS.Env} {H0 H:Hp} {m:Md} {t:T} {v:V} {Q:VK} (k:∀ v H' F,aU H H'->Rp G H' v t F->Fp Φ η H0 m F->Q v H') (r:Rp G H v t []):Q v H:=k v H [] (aU.refl _) r Fp.nil
theorem dw {H:Hp} {p:Addr} {o:HO} (h:H p=none):aU H (upd H p o):=fun b o' e=>by rw [aw (bI e h)];exact e
theorem Fp.new {Φ:Fps} {η:VS.Env} {H0:Hp} {p:Addr} {F:Xl} (h0:H0 p=none) (hp:p ∉ F):∀ {m:Md},Fp Φ η H0 m F->Fp Φ η H0 m (p :: F)
 | .fr,f=>⟨ZJ.mpr ⟨hp,f.1⟩,fun a m=>(Zr.mp m).elim (fun e=>by rw [e];exact h0) (f.2 a)⟩
 | .pu,f=>fun a m=>(Zr.mp m).elim (fun e=>by rw [e];exact .inl h0) (f a)
 | .bo,f=>fun a m=>(Zr.mp m).elim (fun e=>by rw [e];exact .inl h0) (f a)
theorem nJ {mj m:Md} {l:Vu} {t:T} (e:mkL mj l=some (m,t)):t=.lst l/\l.length<=g9/\m=(if fN l then .fr else mj):=by
 unfold mkL at e
 split at e
 ·rename_i h
  cases e
  exact ⟨rfl,h,rfl⟩
 ·cases e
theorem iB {Φ:Fps} {η:VS.Env} {H0 H:Hp} {mj m:Md} {l:Vu} {t:T} {vs:List V} {Fs:Yk} {Q:VK} (same:aU H0 H) (e:mkL mj l=some (m,t)) (r:RpL G H vs l Fs) (f:Fp Φ η H0 mj Fs.flatten)
  (k:∀ v H' F,aU H H'->Rp G H' v t F->Fp Φ η H0 m F->Q v H'):∀ p,H p=none->Q (.ref p) (upd H p (.lst vs)):=by
 intro p hp
 obtain ⟨rfl,hl,rfl⟩:=nJ e
 refine k _ _ _ (dw hp) (.lst aH (r.same (dw hp))) ?_
 have np:p ∉ Fs.flatten:=fun m=>Mut.ne_none (r.dom p m) hp
 by_cases hi:fN l=true
 ·rw [hi,Zq rfl]
  rw [r.imm hi] at np ⊢
  exact Fp.nil.new (same.free hp) np
 ·rw [Zn hi]
  exact f.new (same.free hp) np
theorem Two.join {Φ:Fps} {η:VS.Env} {H0 H:Hp} {x y:Val} {u w:V} {F1 F2:Xl} (tw:Two G Φ η H0 H x y u w F1 F2) {F:Xl} (hF:F.Sublist (F1++F2)):Fp Φ η H0 (x.1.join y.1) F:=by
 obtain ⟨same,r1,r2,f1,f2,nd⟩:=tw
 have split:∀ a∈F,a∈F1\/a∈F2:=fun a ha=>Zh.mp (hF.subset ha)
 obtain ⟨m1,x⟩:=x
 obtain ⟨m2,y⟩:=y
 have both:∀ {P:Addr->Prop},(∀ a∈F1,P a)->(∀ a∈F2,P a)->∀ a∈F,P a:=fun h1 h2 a ha=>(split a ha).elim (h1 a) (h2 a)
 cases m1 <;> cases m2
 ·exact ⟨(nd rfl rfl).sublist hF,both f1.2 f2.2⟩
 ·exact both (fun a ha=>.inl (f1.2 a ha)) f2
 ·exact both (fun a ha=>.inl (f1.2 a ha)) f2
 ·exact both f1 (fun a ha=>.inl (f2.2 a ha))
 ·exact both f1 f2
 ·exact both (f1.bo) f2
 ·exact both f1 (fun a ha=>.inl (f2.2 a ha))
 ·exact both f1 (f2.bo)
 ·exact both f1 f2
theorem fR:g9=sizeLine:=rfl
theorem eZ (s:Tx):(sx s).length=s.length:=rfl
theorem BM (s t:Tx):sx s++sx t=sx (s++t):=by
 show Str.append (sx s) (sx t)=_
 simp [sx,Str.append]
theorem Rp.lst_inv {H:Hp} {v:V} {l:Vu} {F:Xl} (r:Rp G H v (.lst l) F):∃ a vs Fs,v=.ref a/\F=a :: Fs.flatten/\H a=some (.lst vs)/\RpL G H vs l Fs:=by
 cases r with
 | lst h q=>exact ⟨_,_,_,rfl,rfl,h,q⟩
theorem Rp.tup_inv {H:Hp} {v:V} {l:Vu} {F:Xl} (r:Rp G H v (.tup l) F):∃ a vs Fs,v=.ref a/\F=Fs.flatten/\H a=some (.tup vs)/\RpL G H vs l Fs:=by
 cases r with
 | tup h q=>exact ⟨_,_,_,rfl,rfl,h,q⟩
theorem Rp.scr_inv {H:Hp} {v:V} {l:Vz} {F:Xl} (r:Rp G H v (.scr l) F):∃ a,v=.ref a/\F=[]/\km G.K H a l:=by
 cases r with
 | scr h=>exact ⟨_,rfl,rfl,h⟩
end
section
variable {G:Gx} {X:Cx}
noncomputable def By:R2:=fun x y H Q=>rI0 (fun i j=>.int (i+j)) x y H Q\/(∃ i j,x=.str i/\y=.str j/\i.length+j.length<=sizeLine/\Q (.str (i++j)) H)\/Dy x y H Q
theorem zE:OpR X (binaryOp .Add) By:=BX.or (q9.or BO)
theorem B9:gp G By bR:=by
 intro Φ η H0 H x y u w F1 F2 m t Q tw e k
 have jn:=fun {F:Xl} (h:List.Sublist F (F1++F2))=>tw.join h
 obtain ⟨m1,x⟩:=x
 obtain ⟨m2,y⟩:=y
 obtain ⟨same,r1,r2,f1,f2,nd⟩:=tw
 unfold bR at e
 split at e
 ·rename_i i _ j e1 e2
  cases e1
  cases e2
  cases e
  exact .inl ⟨_,_,r1.int_inv,r2.int_inv,bC k (.int _)⟩
 ·rename_i s _ s' e1 e2
  cases e1
  cases e2
  split at e
  ·rename_i hl
   cases e
   refine .inr (.inl ⟨_,_,r1.str_inv.1,r2.str_inv.1,by rw [eZ,eZ,← fR];exact hl,?_⟩)
   rw [BM]
   exact bC k (.str _ ⟨by rw [Zv];exact hl,fun c hc=>(Zh.mp hc).elim (r1.str_inv.2.2 c) (r2.str_inv.2.2 c)⟩)
  ·cases e
 ·rename_i s _ s' e1 e2
  cases e1
  cases e2
  obtain ⟨a,vs,Fs,rfl,rfl,ha,ra⟩:=r1.lst_inv
  obtain ⟨b,us,Gs,rfl,rfl,hb,rb⟩:=r2.lst_inv
  obtain ⟨_,hl,_⟩:=nJ e
  refine .inr (.inr ⟨a,b,vs,us,rfl,rfl,ha,hb,?_,iB same e (ra.append rb) (jn ?_) k⟩)
  ·rw [Zv] at hl
   rw [ra.len.1,rb.len.1,← fR]
   exact hl
  ·rw [Z2]
   exact (YS _ _).append (YS _ _)
 ·cases e
theorem Cb:gp G (rI0 fun i j=>.int (i - j)) kJ:=by
 intro Φ η H0 H x y u w F1 F2 m t Q tw e k
 obtain ⟨m1,x⟩:=x
 obtain ⟨m2,y⟩:=y
 obtain ⟨same,r1,r2,f1,f2,nd⟩:=tw
 unfold kJ at e
 split at e
 ·rename_i e1 e2
  cases e1
  cases e2
  cases e
  exact ⟨_,_,r1.int_inv,r2.int_inv,bC k (.int _)⟩
 ·cases e
theorem zJ:gp G (rI D8 fun i j=>.int (i / j)) fz:=by
 intro Φ η H0 H x y u w F1 F2 m t Q tw e k
 obtain ⟨m1,x⟩:=x
 obtain ⟨m2,y⟩:=y
 obtain ⟨same,r1,r2,f1,f2,nd⟩:=tw
 unfold fz at e
 split at e
 ·rename_i e1 e2
  cases e1
  cases e2
  split at e
  ·rename_i h
   cases e
   exact ⟨_,_,r1.int_inv,r2.int_inv,h,bC k (.int _)⟩
  ·cases e
 ·cases e
theorem Dg:gp G (rI (fun _ j=>0 < j) fun i j=>.int (i % j)) oMod:=by
 intro Φ η H0 H x y u w F1 F2 m t Q tw e k
 obtain ⟨m1,x⟩:=x
 obtain ⟨m2,y⟩:=y
 obtain ⟨same,r1,r2,f1,f2,nd⟩:=tw
 unfold oMod at e
 split at e
 ·rename_i e1 e2
  cases e1
  cases e2
  split at e
  ·rename_i h
   cases e
   exact ⟨_,_,r1.int_inv,r2.int_inv,h,bC k (.int _)⟩
  ·cases e
 ·cases e
theorem lD:∀ (s t:Tx),ltx s t=decide (s < t)
 | [],[]=>by simp [ltx]
 | [],_ :: _=>by simp [ltx]
 | _ :: _,[]=>by simp [ltx]
 | a :: s,b :: t=>by
  unfold ltx
  rw [lD s t]
  by_cases h1:a < b
  ·simp [h1,Wd]
  ·by_cases h2:b < a
   ·have:¬ a=b:=by exact WI h2
    simp [h1,h2,Wd,this]
   ·have:a=b:=by lia
    subst this
    simp [Wd]
noncomputable def rLt:R2:=fun x y H Q=>rI0 (fun i j=>.bl (decide (i < j))) x y H Q\/(∃ i j,x=.str i/\y=.str j/\Q (.bl (decide (i.cps.toList < j.cps.toList))) H)
theorem xW:OpR X (compareOp .Lt) rLt:=DW.or ue
theorem AV:gp G rLt oLt:=by
 intro Φ η H0 H x y u w F1 F2 m t Q tw e k
 obtain ⟨m1,x⟩:=x
 obtain ⟨m2,y⟩:=y
 obtain ⟨same,r1,r2,f1,f2,nd⟩:=tw
 unfold oLt at e
 split at e
 ·rename_i e1 e2
  cases e1
  cases e2
  cases e
  exact .inl ⟨_,_,r1.int_inv,r2.int_inv,bC k (.bl _)⟩
 ·rename_i s _ s' e1 e2
  cases e1
  cases e2
  cases e
  refine .inr ⟨_,_,r1.str_inv.1,r2.str_inv.1,?_⟩
  have:decide ((sx s).cps.toList < (sx s').cps.toList)=ltx s s':=by rw [lD];exact decide_eq_decide.mpr (by simp [sx])
  rw [this]
  exact bC k (.bl _)
 ·cases e
theorem lq:Tells oLt:=by
 intro x y m t e
 unfold oLt at e
 split at e <;> first | (cases e;exact ⟨_,rfl⟩) | cases e
theorem Cs:B64=2 ^ 64:=rfl
theorem Cc:gp G (rI yA fun i j=>.int (i * j)) eI:=by
 intro Φ η H0 H x y u w F1 F2 m t Q tw e k
 obtain ⟨m1,x⟩:=x
 obtain ⟨m2,y⟩:=y
 obtain ⟨same,r1,r2,f1,f2,nd⟩:=tw
 unfold eI at e
 split at e
 ·rename_i e1 e2
  cases e1
  cases e2
  split at e
  ·rename_i h
   cases e
   refine ⟨_,_,r1.int_inv,r2.int_inv,?_,bC k (.int _)⟩
   rw [Cs] at h
   exact h
  ·cases e
 ·cases e
theorem uN:OpR X (compareOp .LtE) (fun x y H Q=>∃ i j,x=.str i/\y=.str j/\Q (.bl (!decide (j.cps.toList < i.cps.toList))) H):=by
 intro pins s σ H x y v u Q I rx ry h
 obtain ⟨i,j,rfl,rfl,q⟩:=h
 obtain ⟨t,rfl⟩:=rx
 obtain ⟨t',rfl⟩:=ry
 exact PySem.P.le_str ⟨.bl _,H,I,rfl,q⟩
noncomputable def rLe:R2:=fun x y H Q=>rI0 (fun i j=>.bl (decide (i<=j))) x y H Q\/(∃ i j,x=.str i/\y=.str j/\Q (.bl (!decide (j.cps.toList < i.cps.toList))) H)
theorem Bv:OpR X (compareOp .LtE) rLe:=Dp.or uN
theorem EF:gp G rLe oLe:=by
 intro Φ η H0 H x y u w F1 F2 m t Q tw e k
 obtain ⟨m1,x⟩:=x
 obtain ⟨m2,y⟩:=y
 obtain ⟨same,r1,r2,f1,f2,nd⟩:=tw
 unfold oLe at e
 split at e
 ·rename_i e1 e2
  cases e1
  cases e2
  cases e
  exact .inl ⟨_,_,r1.int_inv,r2.int_inv,bC k (.bl _)⟩
 ·rename_i s _ s' e1 e2
  cases e1
  cases e2
  cases e
  refine .inr ⟨_,_,r1.str_inv.1,r2.str_inv.1,?_⟩
  have:decide ((sx s').cps.toList < (sx s).cps.toList)=ltx s' s:=by rw [lD];exact decide_eq_decide.mpr (by simp [sx])
  rw [this]
  exact bC k (.bl _)
 ·cases e
theorem wg:Tells oLe:=by
 intro x y m t e
 unfold oLe at e
 split at e <;> first | (cases e;exact ⟨_,rfl⟩) | cases e
theorem CT {n:Nat} {i:Int}:ixP n i=ixN n i:=by
 unfold ixP ixN
 by_cases h:0<=i
 ·rw [Zq h,Zq h]
 ·rw [Zn h,Zn h]
  by_cases h2:0<=i+n
  ·rw [Zq h2,Zq (by lia)]
  ·rw [Zn h2,Zn (by lia)]
theorem oG {α:Type} {l:List α} {i:Int} {k:Nat} {x:α} (h1:ixP l.length i=some k) (h2:l[k]?=some x):atI l i=some x:=by
 unfold atI
 rw [← CT,h1]
 exact h2
theorem gy {Fs:Yk} {F:Xl} {i:Nat} (h:Fs[i]?=some F):F.Sublist Fs.flatten:=by
 obtain ⟨hi,rfl⟩:=Zb.mp h
 exact List.sublist_flatten_of_mem (Xh hi)
theorem Fp.sub {Φ:Fps} {η:VS.Env} {H:Hp} {F F':Xl} (h:F.Sublist F'):∀ {m:Md},Fp Φ η H m F'->Fp Φ η H m F
 | .fr,f=>⟨f.1.sublist h,fun a ha=>f.2 a (h.subset ha)⟩
 | .pu,f=>fun a ha=>f a (h.subset ha)
 | .bo,f=>fun a ha=>f a (h.subset ha)
theorem vT:gp G (rIx G.K) aV:=by
 intro Φ η H0 H x y u w F1 F2 m t Q tw e k
 obtain ⟨m1,x⟩:=x
 obtain ⟨m2,y⟩:=y
 obtain ⟨same,r1,r2,f1,f2,nd⟩:=tw
 unfold aV at e
 split at e
 ·rename_i m3 l m4 i e1 e2
  cases e1
  cases e2
  obtain ⟨j,h1,e⟩:=Zz.mp e
  obtain ⟨x,h2,e⟩:=Zo.mp e
  obtain ⟨a,vs,Fs,rfl,rfl,ha,ra⟩:=r1.lst_inv
  obtain ⟨v,F,g1,g2,g3⟩:=ra.get j h2
  refine .inl ⟨a,vs,i,v,rfl,r2.int_inv,SqL.of ha,oG (by rw [ra.len.1];exact h1) g1,?_⟩
  have f:=((f1.sub (YS _ _)).sub (gy g2)).up g3
  unfold VS.sub at e
  rw [e] at f
  have et:x=t:=congrArg Prod.snd e
  rw [et] at g3
  exact k v H F (aU.refl _) g3 f
 ·rename_i m3 l m4 i e1 e2
  cases e1
  cases e2
  obtain ⟨j,h1,e⟩:=Zz.mp e
  obtain ⟨x,h2,e⟩:=Zo.mp e
  obtain ⟨a,vs,Fs,rfl,rfl,ha,ra⟩:=r1.tup_inv
  obtain ⟨v,F,g1,g2,g3⟩:=ra.get j h2
  refine .inr (.inl ⟨a,vs,i,v,rfl,r2.int_inv,SqT.of ha,oG (by rw [ra.len.1];exact h1) g1,?_⟩)
  have f:=(f1.sub (gy g2)).up g3
  unfold VS.sub at e
  rw [e] at f
  have et:x=t:=congrArg Prod.snd e
  rw [et] at g3
  exact k v H F (aU.refl _) g3 f
 ·rename_i m3 l m4 i e1 e2
  cases e1
  cases e2
  obtain ⟨j,h1,e⟩:=Zz.mp e
  obtain ⟨x,h2,e⟩:=Zo.mp e
  cases e
  obtain ⟨a,rfl,rfl,sa⟩:=r1.scr_inv
  refine .inl ⟨a,l.map V.int,i,.int x,rfl,r2.int_inv,sa.seq,oG (by rw [Zt];exact h1) (by rw [Z1,h2];rfl),bC k (.int _)⟩
 ·rename_i m3 l m4 i e1 e2
  cases e1
  cases e2
  obtain ⟨j,h1,e⟩:=Zz.mp e
  obtain ⟨x,h2,e⟩:=Zo.mp e
  cases e
  obtain ⟨rfl,hl⟩:=r1.str_inv
  refine .inr (.inr ⟨sx l,i,x,rfl,r2.int_inv,by rw [eZ,← fR];exact hl.1,oG (k:=j) (by simpa [sx] using h1) (by simpa [sx] using h2),?_⟩)
  exact bC k (.str [x] ⟨by show 1<=g9;decide,fun c hc=>by rw [Zg.mp hc];exact hl.2 x (Y0 h2)⟩)
 ·cases e
end
section
variable {G:Gx} {X:Cx} {a b c e:Expr} {es:List Expr} {ca cb cc:Ex} {cs:Exs} {pos p:Pos}
theorem sJ {x:Addr}:∀ {l:Vw} {Fs:Yk},x∈frs l Fs->∃ (i:Nat) (v:Val) (F:Xl),l[i]?=some v/\v.1=.fr/\Fs[i]?=some F/\x∈F
 | [],_,h=>by simp [frs] at h
 | _ :: _,[],h=>by simp [frs] at h
 | v :: l,F :: Fs,h=>by
  have go:x∈frs l Fs->∃ (i:Nat) (u:Val) (F':Xl),(v :: l)[i]?=some u/\u.1=.fr/\(F :: Fs)[i]?=some F'/\x∈F':=fun m=>by
   obtain ⟨i,u,F',h1,h2,h3,h4⟩:=sJ m
   exact ⟨i+1,u,F',by simpa using h1,h2,by simpa using h3,h4⟩
  unfold frs at h
  split at h
  ·rename_i hv
   rcases Zh.mp h with h | h
   ·exact ⟨0,v,F,rfl,hv,rfl,h⟩
   ·exact go h
  ·exact go h
theorem Ax:PVs G X [] aA:=PA.weak fI fun σ H Q hq=>by
 obtain ⟨Φ,η,l,s,e,k⟩:=hq
 cases (show some ([]:Vw)=some l from e)
 exact k [] H [] (aU.refl _) .nil ⟨fun i v F h=>by simp at h,by simp [frs]⟩
theorem wz (ha:PV G X e ca) (hr:PVs G X es cs) (hs:starEach (e :: es) X.env=(false,eval e X.env) :: starEach es X.env:=by rfl):PVs G X (e :: es) (ah ca cs):=PA.weak (de ha hr hs) fun σ H Q hq=>by
 obtain ⟨Φ,η,l,s,e,k⟩:=hq
 unfold ah at e
 obtain ⟨x,ea,e⟩:=Zz.mp e
 obtain ⟨xs,er,e⟩:=Zz.mp e
 cases e
 refine ⟨Φ,η,x.1,x.2,s,ea,fun v H1 F e1 r1 f1=>⟨Φ,η,xs,s.same e1,er,fun vs H2 Fs e2 r2 f2=>k (v :: vs) H2 (F :: Fs) (e1.trans e2) (.cons (r1.same e2) r2) ⟨fun i u F' h1 h2=>?_,?_⟩⟩⟩
 ·cases i with
  | zero =>
   cases (show some x=some u from h1)
   cases (show some F=some F' from h2)
   exact f1
  | succ i=>exact (f2.each i u F' (by simpa using h1) (by simpa using h2)).back e1
 ·unfold frs
  split
  ·rename_i hx
   rw [hx] at f1
   refine ZD.mpr ⟨f1.1,f2.nd,fun y hy z hz q=>?_⟩
   subst q
   obtain ⟨i,u,F',h1,h2,h3,h4⟩:=sJ hz
   have f:=f2.each i u F' h1 h3
   rw [h2] at f
   exact Mut.ne_none (r1.dom y hy) (f.2 y h4)
  ·exact f2.nd
theorem jK:∀ {l:Vw},bX l=.fr->∀ v∈l,v.1=.fr
 | [],_,v,h=>by simp at h
 | (m,t) :: r,e,v,h=>by
  have e':m.join (bX r)=.fr:=e
  have h1:m=.fr:=by
   revert e'
   cases m <;> cases bX r <;> simp [Md.join]
  have h2:bX r=.fr:=by
   revert e'
   cases m <;> cases bX r <;> simp [Md.join]
  rcases Zr.mp h with rfl | h
  ·exact h1
  ·exact jK h2 v h
theorem jL:∀ {l:Vw},bX l ≠ .bo->∀ v∈l,v.1 ≠ .bo
 | [],_,v,h=>by simp at h
 | (m,t) :: r,e,v,h=>by
  have e':m.join (bX r) ≠ .bo:=e
  have h1:m ≠ .bo:=by
   revert e'
   cases m <;> cases bX r <;> simp [Md.join]
  have h2:bX r ≠ .bo:=by
   revert e'
   cases m <;> cases bX r <;> simp [Md.join]
  rcases Zr.mp h with rfl | h
  ·exact h1
  ·exact jL h2 v h
theorem rS:∀ {l:Vw} {Fs:Yk},l.length=Fs.length->(∀ v∈l,v.1=.fr)->frs l Fs=Fs.flatten
 | [],[],_,_=>rfl
 | [],_ :: _,h,_=>by simp at h
 | _ :: _,[],h,_=>by simp at h
 | v :: l,F :: Fs,h,q=>by
  unfold frs
  rw [q v Zw,rS (by simpa using h) fun u hu=>q u (Zx _ hu)]
  rfl
theorem fH {x:Addr} {Fs:Yk} (h:x∈Fs.flatten):∃ (i:Nat) (F:Xl),Fs[i]?=some F/\x∈F:=by
 obtain ⟨F,hF,hx⟩:=W6.mp h
 obtain ⟨i,hi⟩:=List.mem_iff_getElem?.mp hF
 exact ⟨i,F,hi,hx⟩
theorem FpL.join {Φ:Fps} {η:VS.Env} {H:Hp} {l:Vw} {Fs:Yk} (f:FpL Φ η H l Fs) (hl:l.length=Fs.length):Fp Φ η H (bX l) Fs.flatten:=by
 have at':∀ x∈Fs.flatten,∃ v F,v∈l/\x∈F/\Fp Φ η H v.1 F:=fun x hx=>by
  obtain ⟨i,F,hi,hxF⟩:=fH hx
  have:i < l.length:=by
   have:=(Zb.mp hi).1
   lia
  exact ⟨l[i],F,Xh this,hxF,f.each i _ F (Za this) hi⟩
 cases e:bX l with
 | fr =>
  have al:=jK e
  refine ⟨by rw [← rS hl al];exact f.nd,fun x hx=>?_⟩
  obtain ⟨v,F,hv,hxF,q⟩:=at' x hx
  rw [al v hv] at q
  exact q.2 x hxF
 | pu =>
  have al:=jL (l:=l) (by rw [e];decide)
  intro x hx
  obtain ⟨v,F,hv,hxF,q⟩:=at' x hx
  exact Fp.pu (al v hv) q x hxF
 | bo =>
  intro x hx
  obtain ⟨v,F,hv,hxF,q⟩:=at' x hx
  exact q.bo x hxF
structure Args (G:Gx) (Φ:Fps) (η:VS.Env) (H0 H:Hp) (l:Vw) (vs:List V) (Fs:Yk):Prop where
 same:aU H0 H
 rp:RpL G H vs (trees l) Fs
 fp:FpL Φ η H0 l Fs
theorem Args.len {Φ:Fps} {η:VS.Env} {H0 H:Hp} {l:Vw} {vs:List V} {Fs:Yk} (A:Args G Φ η H0 H l vs Fs):l.length=Fs.length:=by
 have:=A.rp.len.2
 simp [trees] at this
 exact Eq.symm this
noncomputable def gM (G:Gx) (r:List V->Hp->VK->Prop) (f:Vw->Vv):Prop:=∀ (Φ:Fps) (η:VS.Env) (H0 H:Hp) (l:Vw) (vs:List V) (Fs:Yk) (m:Md) (t:T) (Q:VK),Args G Φ η H0 H l vs Fs->f l=some (m,t) →
 (∀ v H' F,aU H H'->Rp G H' v t F->Fp Φ η H0 m F->Q v H')->r vs H Q
theorem AK {r:List V->Hp->VK->Prop} {f:Vw->Vv} (ok:gM G r f) {σ:L2.St} {H:Hp} {Q:VK} {η:VS.Env} {Φ:Fps} {l:Vw} {m:Md} {t:T} (s:SR G Φ η σ H) (el:cs η=some l) (e:f l=some (m,t))
  (k:∀ v H' F,aU H H'->Rp G H' v t F->Fp Φ η H m F->Q v H'):tEs G cs σ H fun vs H1=>r vs H1 Q :=
 ⟨Φ,η,l,s,el,fun vs H' Fs e1 r1 f1=>ok Φ η H H' l vs Fs m t Q ⟨e1,r1,f1⟩ e fun v H2 F e2 r2 f2=>k v H2 F (e1.trans e2) r2 f2⟩
theorem kY {r:List V->Hp->VK->Prop} {f:Vw->Vv} {id:String} {x:Str} (hc:d9 X (.builtin id) r) (ok:gM G r f) (hg:Gl X x) (hm:X.mg x=none) (hv:bootBuiltins x=some (.builtin id)) (ha:PVs G X (e :: es) cs)
  (hn:x ≠ "__name__" := by decide) (hdb:(x == ("__debug__" : Str))=false:=by decide)
  (he:starEach (e :: es) X.env=(false,eval e X.env) :: starEach es X.env:=by rfl) (hpl:(backTo pos (starEach es X.env)).any (·.1)=false:=by rfl):PV G X (.Call (.Name x p) (e :: es) [] pos) (eN f cs) :=
 PE.weak (lJ hc hg hm hv ha hn hdb he hpl) fun σ H Q hq=>by
  obtain ⟨Φ,η,m,t,s,e,k⟩:=hq
  unfold eN at e
  obtain ⟨l,el,e⟩:=Zz.mp e
  exact AK ok s el e k
theorem nu {r:List V->Hp->VK->Prop} {f:Vw->Vv} {Ty:String} {x:Str} (hc:d9 X (.type Ty) r) (ok:gM G r f) (hg:Gl X x) (hm:X.mg x=none) (hv:bootBuiltins x=some (.type Ty)) (ha:PVs G X (e :: es) cs)
  (hn:x ≠ "__name__" := by decide) (hdb:(x == ("__debug__" : Str))=false:=by decide)
  (he:starEach (e :: es) X.env=(false,eval e X.env) :: starEach es X.env:=by rfl) (hpl:(backTo pos (starEach es X.env)).any (·.1)=false:=by rfl):PV G X (.Call (.Name x p) (e :: es) [] pos) (eN f cs) :=
 PE.weak (ux hc hg hm hv ha hn hdb he hpl) fun σ H Q hq=>by
  obtain ⟨Φ,η,m,t,s,e,k⟩:=hq
  unfold eN at e
  obtain ⟨l,el,e⟩:=Zz.mp e
  exact AK ok s el e k
theorem CK (h:PVs G X es cs):PV G X (.List es pos) (gr cs):=PE.weak (n9 h) fun σ H Q hq=>by
 obtain ⟨Φ,η,m,t,s,e,k⟩:=hq
 unfold gr at e
 obtain ⟨l,el,e⟩:=Zz.mp e
 refine ⟨Φ,η,l,s,el,fun vs H' Fs e1 r1 f1=>?_⟩
 have A:Args G Φ η H H' l vs Fs:=⟨e1,r1,f1⟩
 obtain ⟨_,hl,_⟩:=nJ e
 refine ⟨by rw [r1.len.1,← fR];exact hl,iB e1 e r1 (f1.join A.len) fun v H2 F e2 r2 f2=>k v H2 F (e1.trans e2) r2 f2⟩
theorem CM {x1} (h:PVs G X es cs):PV G X (.Tuple es x1 pos) (kI cs):=PE.weak (Bf h) fun σ H Q hq=>by
 obtain ⟨Φ,η,m,t,s,e,k⟩:=hq
 unfold kI at e
 obtain ⟨l,el,e⟩:=Zz.mp e
 refine ⟨Φ,η,l,s,el,fun vs H' Fs e1 r1 f1=>?_⟩
 have A:Args G Φ η H H' l vs Fs:=⟨e1,r1,f1⟩
 unfold pS at e
 split at e
 ·rename_i hl
  cases e
  refine ⟨by rw [r1.len.1,← fR,trees,Zt];exact hl,fun q hq=>?_⟩
  have r2:Rp G (upd H' q (.tup vs)) (.ref q) (.tup (trees l)) Fs.flatten:=.tup aH (r1.same (dw hq))
  exact k _ _ _ (e1.trans (dw hq)) r2 (Fp.up (f1.join A.len) r2)
 ·cases e
theorem yT {H:Hp} {v:V} {t:T} {F:Xl} {k:Bool} (r:Rp G H v t F) (h:tru t=some k):BV G.K v H k:=by
 cases r with
 | non=>cases h;rfl
 | bl b=>cases h;rfl
 | int i=>cases h;rfl
 | str s hl =>
  cases h
  refine ⟨by rw [eZ,← fR];exact hl.1,?_⟩
  rw [eZ]
  cases s with
  | nil=>rfl
  | cons a r =>
   have:((List.length (a :: r):Int) != 0)=true:=by simp;lia
   rw [this]
   rfl
 | scr h'=>cases h
 | tup h' q =>
  cases h
  refine .inr (.inl ⟨_,SqT.of h',?_⟩)
  have:=q.len.1
  rename_i vs ts _
  cases vs <;> cases ts <;> simp_all
 | lst h' q =>
  cases h
  refine .inl ⟨_,SqL.of h',?_⟩
  have:=q.len.1
  rename_i vs ts _
  cases vs <;> cases ts <;> simp_all
 | dct h' hl q =>
  cases h
  refine .inr (.inr ⟨_,h',?_⟩)
  have:=q.len.1
  rename_i ks vs ts _
  cases ks <;> cases vs <;> cases ts <;> simp_all
 | dctT h' hl q=>cases h
 | dctN h' hl n q=>cases h
 | exc _ _=>cases h
theorem zu (h:PV G X a ca) (hK:X.K=G.K:=by rfl) (he:∀ whole,isTrue a X.env whole=(do let v ← whole;standAt a.pos;holding [v] (truthy v)):=by intro _;rfl):PVT G X a ca :=
 PT.weak (xD h he) fun σ H Q ⟨Φ,η,m,r,b,s,e,eb,k⟩=>⟨Φ,η,m,r,s,e,fun v H' F e1 r1 f1=>⟨b,by rw [hK];exact yT r1 eb,k H' e1⟩⟩
noncomputable def PVW (G:Gx) (X:Cx) (e:Expr) (c:Ex):Prop:=PW X e (tT G c)
theorem PW.weak {X:Cx} {e:Expr} {t t':TT} (h:PW X e t) (w:∀ σ H Q,t' σ H Q->t σ H Q):PW X e t':=fun wh pins s σ H Q I q=>h wh pins s σ H Q I (w σ H Q q)
theorem PVW.pvt (h:PVW G X e ca):PVT G X e ca:=PW.pt h
variable {rest:List Expr}
theorem vR (ha:PVT G X a ca):PVW G X (.BoolOp .And [a] pos) ca:=zP ha
theorem zi (ha:PVT G X a ca):PVW G X (.BoolOp .Or [a] pos) ca:=Bj ha
theorem oU {η:VS.Env} {m:Md} {r:T} (e:i0 ca cb η=some (m,r)):(∃ n,ca η=some (n,.bl true)/\cb η=some (m,r))\/(∃ n,ca η=some (n,.bl false)/\m=.fr/\r=.bl false):=by
 unfold i0 at e
 obtain ⟨⟨n,x⟩,ea,e⟩:=Zz.mp e
 split at e
 ·rename_i h
  cases (show x=.bl true from h)
  exact .inl ⟨n,ea,e⟩
 ·rename_i h
  cases (show x=.bl false from h)
  cases e
  exact .inr ⟨n,ea,rfl,rfl⟩
 ·cases e
theorem AH {η:VS.Env} {m:Md} {r:T} (e:eOr ca cb η=some (m,r)):(∃ n,ca η=some (n,.bl false)/\cb η=some (m,r))\/(∃ n,ca η=some (n,.bl true)/\m=.fr/\r=.bl true):=by
 unfold eOr at e
 obtain ⟨⟨n,x⟩,ea,e⟩:=Zz.mp e
 split at e
 ·rename_i h
  cases (show x=.bl true from h)
  cases e
  exact .inr ⟨n,ea,rfl,rfl⟩
 ·rename_i h
  cases (show x=.bl false from h)
  exact .inl ⟨n,ea,e⟩
 ·cases e
theorem Ab (ha:PVT G X a ca) (hb:PVW G X (.BoolOp .And (b :: rest) pos) cb):PVW G X (.BoolOp .And (a :: b :: rest) pos) (i0 ca cb) :=
 PW.weak (CU ha hb) fun σ H Q hq=>by
  obtain ⟨Φ,η,m,r,k,s,e,eb,q⟩:=hq
  rcases oU e with ⟨n,ea,e2⟩ | ⟨n,ea,rfl,rfl⟩
  ·refine ⟨Φ,η,n,_,true,s,ea,rfl,fun H' e1=>?_⟩
   refine xC ?_
   exact ⟨Φ,η,m,r,k,s.same e1,e2,eb,fun H2 e2=>q H2 (e1.trans e2)⟩
  ·refine ⟨Φ,η,n,_,false,s,ea,rfl,fun H' e1=>?_⟩
   refine xI ?_
   cases eb
   exact q H' e1
theorem Bq (ha:PVT G X a ca) (hb:PVW G X (.BoolOp .Or (b :: rest) pos) cb):PVW G X (.BoolOp .Or (a :: b :: rest) pos) (eOr ca cb) :=
 PW.weak (D9 ha hb) fun σ H Q hq=>by
  obtain ⟨Φ,η,m,r,k,s,e,eb,q⟩:=hq
  rcases AH e with ⟨n,ea,e2⟩ | ⟨n,ea,rfl,rfl⟩
  ·refine ⟨Φ,η,n,_,false,s,ea,rfl,fun H' e1=>?_⟩
   refine xI ?_
   exact ⟨Φ,η,m,r,k,s.same e1,e2,eb,fun H2 e2=>q H2 (e1.trans e2)⟩
  ·refine ⟨Φ,η,n,_,true,s,ea,rfl,fun H' e1=>?_⟩
   refine xC ?_
   cases eb
   exact q H' e1
theorem pY {η:VS.Env} {m:Md} {r:T} (e:gO ca η=some (m,r)):∃ n b,ca η=some (n,.bl b)/\m=.fr/\r=.bl (!b):=by
 unfold gO at e
 obtain ⟨⟨n,x⟩,ea,e⟩:=Zz.mp e
 split at e
 ·rename_i b h
  cases (show x=.bl b from h)
  cases e
  exact ⟨n,b,ea,rfl,rfl⟩
 ·cases e
theorem yH (ha:PVT G X a ca):PVT G X (.UnaryOp .Not a pos) (gO ca):=PT.weak (Cj ha) fun σ H Q hq=>by
 obtain ⟨Φ,η,m,r,k,s,e,eb,q⟩:=hq
 obtain ⟨n,b,ea,rfl,rfl⟩:=pY e
 cases eb
 exact ⟨Φ,η,n,_,b,s,ea,rfl,fun H' e1=>q H' e1⟩
theorem CL (ha:PV G X a ca):PV G X (.UnaryOp .Not a pos) (gO ca):=PE.weak (Cg ha) fun σ H Q hq=>by
 obtain ⟨Φ,η,m,r,s,e,q⟩:=hq
 obtain ⟨n,b,ea,rfl,rfl⟩:=pY e
 exact ⟨Φ,η,n,_,s,ea,fun v H' F e1 r1 f1=>⟨b,r1.bl_inv,q _ H' _ e1 (.bl _) Fp.nil⟩⟩
theorem CH {op} (h:PV G X a ca):PV G X (.BoolOp op [a] pos) ca:=Cu h
theorem CJ (ha:PV G X a ca) (hb:PV G X (.BoolOp .And (b :: rest) pos) cb):PV G X (.BoolOp .And (a :: b :: rest) pos) (i0 ca cb) :=
 PE.weak (BD ha hb) fun σ H Q hq=>by
  obtain ⟨Φ,η,m,r,s,e,q⟩:=hq
  rcases oU e with ⟨n,ea,e2⟩ | ⟨n,ea,rfl,rfl⟩
  ·refine ⟨Φ,η,n,_,s,ea,fun v H' F e1 r1 f1=>⟨true,r1.bl_inv,?_⟩⟩
   refine xC ?_
   exact ⟨Φ,η,m,r,s.same e1,e2,fun v H2 F e2 r2 f2=>q v H2 F (e1.trans e2) r2 (f2.back e1)⟩
  ·refine ⟨Φ,η,n,_,s,ea,fun v H' F e1 r1 f1=>⟨false,r1.bl_inv,?_⟩⟩
   refine xI ?_
   exact q _ H' _ e1 (.bl _) Fp.nil
theorem yL {H:Hp} {v:V} {t:T} {F:Xl} (r:Rp G H v t F):decide (v=.non)=isN t:=by
 cases r <;> simp [isN]
theorem EN {t:TE} {c:Ex} {σ:L2.St} {H:Hp} {Q:Bool->Hp->Prop} (h:tT G c σ H Q) (ht:∀ η m r,c η=some (m,r)->∃ b,r=.bl b) (w:∀ Q,tE G c σ H Q->t σ H Q):tB t σ H Q:=by
 obtain ⟨Φ,η,m,r,b,s,e,eb,k⟩:=h
 refine w _ ⟨Φ,η,m,r,s,e,fun v H' F e1 r1 f1=>?_⟩
 obtain ⟨b',er⟩:=ht η m r e
 rw [er] at eb r1
 cases (show some b'=some b from eb)
 exact ⟨_,r1.bl_inv,k H' e1⟩
end
section
variable {G:Gx} {X:Cx} {a b c e:Expr} {es:List Expr} {ca cb cc:Ex} {cs:Exs} {pos p:Pos}
theorem RpL.one {H:Hp} {vs:List V} {t:T} {Fs:Yk} (r:RpL G H vs [t] Fs):∃ v F,vs=[v]/\Fs=[F]/\Rp G H v t F:=by
 cases r with
 | cons r q=>cases q;exact ⟨_,_,rfl,rfl,r⟩
theorem RpL.two {H:Hp} {vs:List V} {t t':T} {Fs:Yk} (r:RpL G H vs [t,t'] Fs):∃ v v' F F',vs=[v,v']/\Fs=[F,F']/\Rp G H v t F/\Rp G H v' t' F':=by
 cases r with
 | cons r q =>
  obtain ⟨v',F',rfl,rfl,r'⟩:=q.one
  exact ⟨_,_,_,_,rfl,rfl,r,r'⟩
noncomputable def D5 (K:Xy):List V->Hp->VK->Prop:=fun xs H Q=>(∃ x n,xs=[x]/\D1 K x H n/\Q (.int n) H)\/(∃ a kvs,xs=[V.ref a]/\H a=some (.dK kvs)/\Q (.int kvs.length) H)
theorem rE:d9 X (.builtin "len") (fun xs H Q=>∃ a kvs,xs=[V.ref a]/\H a=some (.dK kvs)/\Q (.int kvs.length) H):=by
 intro pins s σ H xs us Q I r h
 obtain ⟨a,kvs,rfl,ha,q⟩:=h
 obtain ⟨u,rfl,ru⟩:=vals1 r
 cases ru
 exact DV I (.inl ha) fun t s' I'=>⟨.int kvs.length,H,I',⟨t,rfl⟩,q⟩
theorem tL:d9 X (.builtin "len") (D5 X.K):=vZ.or rE
theorem B3:gM G (D5 G.K) d8:=by
 intro Φ η H0 H l vs Fs m t Q A e k
 refine L2.gC fun P_ k_=>?_
 unfold d8 at e
 split at e
 ·rename_i x
  obtain ⟨mx,x⟩:=x
  obtain ⟨n,en,e⟩:=Zo.mp e
  cases e
  obtain ⟨v,F,rfl,rfl,r⟩:=(show RpL G H vs [x] Fs from A.rp).one
  have fin:Q (.int (n:Int)) H:=bC k (.int _)
  cases r with
  | non=>cases en
  | bl b=>cases en
  | int i=>cases en
  | str s hl =>
   cases en
   refine k_ ?_
   exact .inl ⟨_,_,rfl,⟨by rw [eZ,← fR];exact hl.1,rfl⟩,by rw [eZ];exact fin⟩
  | scr h =>
   cases en
   refine k_ ?_
   refine .inl ⟨_,_,rfl,.inl ⟨_,h.seq,rfl⟩,?_⟩
   rw [Zt]
   exact fin
  | tup h q =>
   cases en
   refine k_ ?_
   refine .inl ⟨_,_,rfl,.inr ⟨_,SqT.of h,rfl⟩,?_⟩
   rw [q.len.1]
   exact fin
  | lst h q =>
   cases en
   refine k_ ?_
   refine .inl ⟨_,_,rfl,.inl ⟨_,SqL.of h,rfl⟩,?_⟩
   rw [q.len.1]
   exact fin
  | dct h hl q =>
   cases en
   refine k_ ?_
   refine .inr ⟨_,_,rfl,h,?_⟩
   rename_i ks ws ts _
   have e1:=q.len.1
   rw [Ye,Zt] at fin
   rw [Ye,e1]
   exact fin
  | dctT h hl q=>cases en
  | dctN h hl n q=>cases en
  | exc _ _=>cases en
 ·cases e
theorem zF:gM G (fun xs H Q=>∃ i j,xs=[.int i,.int j]/\Q (.int (if j < i then j else i)) H) nc:=by
 intro Φ η H0 H l vs Fs m t Q A e k
 unfold nc at e
 split at e
 ·rename_i _ i _ j
  cases e
  obtain ⟨v,v',F,F',rfl,rfl,r,r'⟩:=(show RpL G H vs [.int i,.int j] Fs from A.rp).two
  exact ⟨i,j,by rw [r.int_inv,r'.int_inv],bC k (.int _)⟩
 ·cases e
noncomputable def A9 (K:Xy):List V->Hp->VK->Prop:=fun xs H Q=>∃ p ys,xs=[.ref p]/\(SqL K H p ys\/SqT K H p ys)/\∀ l,H l=none->Q (.ref l) (upd H l (.lst ys))
theorem sA:gM G (A9 G.K) Bd:=by
 intro Φ η H0 H l vs Fs m t Q A e k
 unfold Bd at e
 split at e
 ·rename_i mx x
  obtain ⟨v,F,rfl,rfl,rx⟩:=(show RpL G H vs [.lst x] Fs from A.rp).one
  obtain ⟨a,ys,Gs,rfl,rfl,ha,ra⟩:=rx.lst_inv
  have f:=A.fp.each 0 _ _ rfl rfl
  exact ⟨a,ys,rfl,.inl (SqL.of ha),iB A.same e ra (f.sub (YS _ _)) k⟩
 ·rename_i mx x
  obtain ⟨v,F,rfl,rfl,rx⟩:=(show RpL G H vs [.tup x] Fs from A.rp).one
  obtain ⟨a,ys,Gs,rfl,rfl,ha,ra⟩:=rx.tup_inv
  have f:=A.fp.each 0 _ _ rfl rfl
  exact ⟨a,ys,rfl,.inr (SqT.of ha),iB A.same e ra f k⟩
 ·cases e
noncomputable def tO (G:Gx) (c:Option Ex):TO:=fun σ H Q=>∃ Φ η o,SR G Φ η σ H/\xJ c η=some o/\∀ H',aU H H'->Q o H'
noncomputable def PVO (G:Gx) (X:Cx) (e:Option Expr) (c:Option Ex):Prop:=PO X e (tO G c)
theorem PO.weak {X:Cx} {e:Option Expr} {t t':TO} (h:PO X e t) (w:∀ σ H Q,t' σ H Q->t σ H Q):PO X e t':=fun pins s σ H Q I q=>h pins s σ H Q I (w σ H Q q)
theorem vy:PVO G X none none:=PO.weak Ao fun σ H Q hq=>by
 obtain ⟨Φ,η,o,s,e,k⟩:=hq
 cases (show some (none:Option Int)=some o from e)
 exact k H (aU.refl _)
theorem vp (h:PV G X a ca):PVO G X (some a) (some ca):=PO.weak (yD h) fun σ H Q hq=>by
 obtain ⟨Φ,η,o,s,e,k⟩:=hq
 obtain ⟨⟨m,y⟩,ea,e⟩:=Zz.mp (show (ca η).bind (fun y=>(int? y.2).map some)=some o from e)
 obtain ⟨i,ei,e⟩:=Zo.mp e
 cases e
 refine ⟨Φ,η,m,y,s,ea,fun v H' F e1 r1 f1=>?_⟩
 cases y with
 | int j =>
  cases ei
  exact ⟨_,r1.int_inv,k H' e1⟩
 | _=>cases ei
theorem jP {α:Type} (l:List α) (lo hi:Option Int):cut l lo hi=(l.drop (HT.sIx l.length 0 lo)).take (HT.sIx l.length l.length hi - HT.sIx l.length 0 lo):=by
 unfold cut
 cases lo <;> cases hi <;> rfl
theorem vq (lo hi:Option Int) (n:Nat):Builtin.Str.strSliceIndices lo hi 1 n=Builtin.Str.strSliceIndices (some ((min (HT.sIx n 0 lo) n:Nat):Int)) (some ((min (HT.sIx n n hi) n:Nat):Int)) 1 n:=by
 have e1:∀ k:Nat,¬ ((k:Int) < 0):=fun k=>by lia
 unfold Builtin.Str.strSliceIndices
 simp only [show (1:Int) > 0 by decide,if_true,e1,if_false]
 congr 1
 ·cases lo with
  | none=>simp only [HT.sIx];lia
  | some i =>
   simp only [HT.sIx]
   by_cases h:i < 0
   ·simp only [h,if_true];lia
   ·simp only [h,if_false];lia
 ·cases hi with
  | none=>simp only [HT.sIx];lia
  | some i =>
   simp only [HT.sIx]
   by_cases h:i < 0
   ·simp only [h,if_true];lia
   ·simp only [h,if_false];lia
theorem mL (s:Tx) (lo hi:Option Int):PySem.StrLaws.sliceText (sx s) lo hi=sx (cut s lo hi):=by
 have key:PySem.StrLaws.sliceText (sx s) lo hi=PySem.StrLaws.sliceText (sx s) (some ((min (HT.sIx s.length 0 lo) s.length:Nat):Int)) (some ((min (HT.sIx s.length s.length hi) s.length:Nat):Int)):=by
  unfold PySem.StrLaws.sliceText
  rw [eZ,vq]
 rw [key]
 have hd:∀ a:Nat,s.drop (min a s.length)=s.drop a:=fun a=>by
  by_cases h:a<=s.length
  ·rw [Yf h]
  ·rw [Wp (by exact Xi h),Y9 (Zp _),Y9 (by exact Xi h)]
 by_cases h:min (HT.sIx s.length 0 lo) s.length<=min (HT.sIx s.length s.length hi) s.length
 ·rw [PySem.StrLaws.sliceText_nat (sx s) h (by rw [eZ];exact Nat.min_le_right _ _),jP]
  show (⟨_⟩:Str)=⟨_⟩
  congr 2
  show ((sx s).cps.toList.drop _).take _=_
  have:(sx s).cps.toList=s:=rfl
  rw [this,hd]
  by_cases h2:HT.sIx s.length 0 lo<=s.length
  ·rw [Yf h2]
   by_cases h3:HT.sIx s.length s.length hi<=s.length
   ·rw [Yf h3]
   ·rw [Wp (by exact Xi h3),Z5 (by rw [ZR];exact Zp _),Z5 (by rw [ZR];lia)]
  ·rw [Y9 (by exact Xi h2)]
   simp
 ·have e0:cut s lo hi=[]:=by
   rw [jP]
   have:HT.sIx s.length s.length hi - HT.sIx s.length 0 lo=0:=by omega
   rw [this,List.take_zero]
  rw [e0]
  unfold PySem.StrLaws.sliceText
  have e2:Builtin.Str.strSliceIndices (some ((min (HT.sIx s.length 0 lo) s.length:Nat):Int)) (some ((min (HT.sIx s.length s.length hi) s.length:Nat):Int)) 1 (sx s).length=[]:=by
   have e1:∀ k:Nat,¬ ((k:Int) < 0):=fun k=>by lia
   unfold Builtin.Str.strSliceIndices sliceRange
   simp only [show (1:Int) > 0 by decide,if_true,e1,if_false,eZ]
   rw [Zn (by omega)]
   rfl
  rw [e2]
  have:¬ ((1:Int) == 1 && ([]:W9).length == (sx s).length)=true:=by
   rw [eZ]
   simp
   lia
  rw [Zn this]
  rfl
noncomputable def Ec:V->Option Int->Option Int->Hp->VK->Prop:=fun x lo hi H Q=>∃ z,x=.str z/\z.length<=sizeLine/\Q (.str (PySem.StrLaws.sliceText z lo hi)) H
theorem part_of {v:Value} {o:Option Int} (h:IsPart v o):∃ q:Option (Int×Tok),v=partValue q/\o=q.map (·.1):=by
 cases h with
 | none=>exact ⟨none,rfl,rfl⟩
 | int i t=>exact ⟨some (i,t),rfl,rfl⟩
theorem oE {α β:Type} (f:α->Option β) (l:List α):(l.filterMap f).length<=l.length:=List.length_filterMap_le f l
theorem Ay (lo hi:Option Int) (n:Nat):(Builtin.Str.strSliceIndices lo hi 1 n).length<=n:=by
 rw [vq]
 by_cases h:min (HT.sIx n 0 lo) n<=min (HT.sIx n n hi) n
 ·rw [PySem.StrLaws.strSliceIndices_plain h (by exact Nat.min_le_right _ _),Zt,Yt]
  lia
 ·have e1:∀ k:Nat,¬ ((k:Int) < 0):=fun k=>by lia
  unfold Builtin.Str.strSliceIndices sliceRange
  simp only [show (1:Int) > 0 by decide,if_true,e1,if_false]
  rw [Zn (by omega)]
  simp
theorem De:SlR X Ec:=by
 intro pins s σ H x v vl vu lo hi sl Q I rx hs pl pu h
 obtain ⟨z,rfl,hz,q⟩:=h
 obtain ⟨t,rfl⟩:=rx
 obtain ⟨l,rfl,rfl⟩:=part_of pl
 obtain ⟨u,rfl,rfl⟩:=part_of pu
 refine ⟨"str",_,F.slot_str_getitem.lookup,typeIs_str s z t,wpAny_getItem_str_slice (l:=l) (u:=u) (st:=none) hs rfl ?_⟩
 unfold sliceMade
 split
 ·rename_i hc
  refine ⟨.str z,H,I,⟨t,rfl⟩,?_⟩
  have e:PySem.StrLaws.sliceText z (l.map (·.1)) (u.map (·.1))=z:=by
   unfold PySem.StrLaws.sliceText
   exact Zq hc
  rw [e] at q
  exact q
 ·rename_i hc
  refine ⟨ZV ?_ hz,.str _,H,I.tok _,⟨_,rfl⟩,?_⟩
  ·show (List.filterMap _ _).toArray.size<=_
   rw [ZZ]
   exact ZV (oE _ _) (Ay _ _ _)
  ·have e:PySem.StrLaws.sliceText z (l.map (·.1)) (u.map (·.1))=⟨((slicePicked z l u none).filterMap (z.cps[·]?)).toArray⟩:=by
    unfold PySem.StrLaws.sliceText
    exact Zn hc
   rw [e] at q
   exact q
noncomputable def rSl (K:Xy):V->Option Int->Option Int->Hp->VK->Prop:=fun x lo hi H Q=>Ec x lo hi H Q\/Ef K x lo hi H Q
theorem FD:SlR X (rSl X.K):=De.or Aa
theorem AC {α:Type} (l:List α) (lo hi:Option Int):(cut l lo hi).length<=l.length:=by
 rw [jP,ZS,ZR]
 lia
theorem RpL.cut {H:Hp} {vs:List V} {ts:Vu} {Fs:Yk} (r:RpL G H vs ts Fs) (lo hi:Option Int):RpL G H (uy vs lo hi) (VS.cut ts lo hi) (VS.cut Fs lo hi):=by
 have h:=r.len
 rw [jP,jP,h.2]
 unfold uy
 rw [h.1]
 exact (r.drop _).take _
theorem rQ {α:Type} (l:List α) (lo hi:Option Int):(VS.cut l lo hi).Sublist l:=by
 rw [jP]
 exact (List.take_sublist _ _).trans (List.drop_sublist _ _)
theorem wG {F G:Yk} (h:F.Sublist G):F.flatten.Sublist G.flatten:=by
 induction h with
 | slnil=>exact X7 _
 | cons a _ ih=>rw [Zf];exact ih.trans (List.sublist_append_right _ _)
 | cons_cons a _ ih=>rw [Zf,Zf];exact (X7 _).append ih
theorem wX {lo hi:Option Expr} {cl ch:Option Ex} {p2:Pos} (ha:PV G X a ca) (hl:PVO G X lo cl) (hh:PVO G X hi ch) (hK:X.K=G.K:=by rfl):PV G X (.Subscript a (.Slice lo hi none p2) pos) (eSl ca cl ch) :=
 PE.weak (vK FD ha hl hh) fun σ H Q hq=>by
  obtain ⟨Φ,η,m,t,s,e,k⟩:=hq
  unfold eSl at e
  obtain ⟨⟨mx,x⟩,ea,e'⟩:=Zz.mp e
  obtain ⟨l,el,e''⟩:=Zz.mp e'
  obtain ⟨h,eh,e4⟩:=Zz.mp e''
  clear e e' e''
  refine ⟨Φ,η,mx,x,s,ea,fun v H1 F e1 r1 f1=>⟨Φ,η,l,s.same e1,el,fun H2 e2=>⟨Φ,η,h,(s.same e1).same e2,eh,fun H3 e3=>?_⟩⟩⟩
  have e03:aU H H3:=(e1.trans e2).trans e3
  have r3:=(r1.same e2).same e3
  unfold oSl at e4
  split at e4
  ·rename_i m' z q
   cases q
   cases e4
   obtain ⟨rfl,hl⟩:=r3.str_inv
   refine .inl ⟨_,rfl,by rw [eZ,← fR];exact hl.1,?_⟩
   rw [mL]
   exact k _ H3 _ e03 (.str _ ⟨ZV (AC _ _ _) hl.1,fun c hc=>hl.2 c ((rQ _ _ _).subset hc)⟩) Fp.nil
  ·rename_i m' z q
   cases q
   obtain ⟨a',vs,Fs,rfl,rfl,ha',ra⟩:=r3.lst_inv
   refine .inr ⟨a',vs,rfl,by rw [hK];exact SqL.of ha',iB e03 e4 (ra.cut l h) ((f1.sub (YS _ _)).sub (wG (rQ _ _ _))) fun v H4 F e5 r4 f4=>k v H4 F (e03.trans e5) r4 f4⟩
  ·cases e4
noncomputable def tyS:Ty->String
 | .int => "int"
 | .str => "str"
 | .bool => "bool"
 | .list => "list"
 | .tuple => "tuple"
 | .dict => "dict"
noncomputable def rIs (K:Xy):List V->Hp->VK->Prop:=fun vs H Q=>∃ x c t b,vs=[x,.ty c]/\TyOf K H x t/\PySem.W.kitOne K t (.type c)=some b/\Q (.bl b) H
theorem zj:d9 X (.builtin "isinstance") (rIs X.K):=by
 intro pins s σ H xs us Q I r h
 obtain ⟨x,c,t,b,rfl,ty,e,q⟩:=h
 obtain ⟨u,w',rfl,r1,r2⟩:=vals2 r
 cases r2
 exact uc I r1 ty e fun tk=>⟨.bl b,H,I.tok _,rfl,q⟩
theorem Al (K:Xy) (ty:Ty):(PySem.W.kitOne K (.type "NoneType") (.type (tyS ty))=some false)/\(PySem.W.kitOne K (.type "bool") (.type (tyS ty))=some (p9 ty (.bl true)))/\(PySem.W.kitOne K (.type "int") (.type (tyS ty))=some (p9 ty (.int 0))) ∧
  (PySem.W.kitOne K (.type "str") (.type (tyS ty))=some (p9 ty (.str [])))/\(PySem.W.kitOne K (.type "list") (.type (tyS ty))=some (p9 ty (.lst [])))/\(PySem.W.kitOne K (.type "tuple") (.type (tyS ty))=some (p9 ty (.tup [])))/\(PySem.W.kitOne K (.type "dict") (.type (tyS ty))=some (p9 ty (.dct 0 []))):=by
 cases ty <;> refine ⟨?_,?_,?_,?_,?_,?_,?_⟩ <;> kernel_rfl
theorem DX {H:Hp} {v:V} {t:T} {F:Xl} (ty:Ty) (r:Rp G H v t F) (h:sS t=true):∃ t',TyOf G.K H v t'/\PySem.W.kitOne G.K t' (.type (tyS ty))=some (p9 ty t):=by
 obtain ⟨k1,k2,k3,k4,k5,k6,k7⟩:=Al G.K ty
 cases r with
 | non=>exact ⟨_,.non,by rw [k1];cases ty <;> rfl⟩
 | bl b=>exact ⟨_,.bl b,by rw [k2];cases ty <;> rfl⟩
 | int i=>exact ⟨_,.int i,by rw [k3];cases ty <;> rfl⟩
 | str s _=>exact ⟨_,.str _,by rw [k4];cases ty <;> rfl⟩
 | scr _=>cases h
 | tup h' q=>exact ⟨_,.tup h',by rw [k6];cases ty <;> rfl⟩
 | lst h' q=>exact ⟨_,.lst h',by rw [k5];cases ty <;> rfl⟩
 | dct h' l q=>exact ⟨_,.dK h',by rw [k7];cases ty <;> rfl⟩
 | dctT h' l q=>exact ⟨_,.dT h',by rw [k7];cases ty <;> rfl⟩
 | dctN h' l n q=>simp at h
 | exc _ _=>cases h
theorem DO (ty:Ty) {x:Str} {p1 p2:Pos} (ha:PV G X a ca) (hg:Gl X "isinstance") (hm:X.mg "isinstance" = none) (hg2:Gl X x) (hm2:X.mg x=none) (hv:bootBuiltins x=some (.type (tyS ty))) (hK:X.K=G.K:=by rfl)
  (hn:x ≠ "__name__" := by decide) (hdb:(x == ("__debug__" : Str))=false:=by decide) (hs:starEach [a,.Name x p2] X.env=(false,eval a X.env) :: starEach [.Name x p2] X.env:=by rfl)
  (hs2:starEach [.Name x p2] X.env=(false,eval (.Name x p2) X.env) :: starEach [] X.env:=by rfl) (hpl:(backTo pos (starEach [Expr.Name x p2] X.env)).any (·.1)=false:=by rfl) :
  PV G X (.Call (.Name "isinstance" p1) [a,.Name x p2] [] pos) (eIs ty ca) :=
 PE.weak (lJ zj hg hm boot_isinstance (de ha (de (tf (v:=.ty (tyS ty)) hg2 hm2 hv rfl hn hdb) fI hs2) hs) (by decide) rfl hs hpl) fun σ H Q hq=>by
  obtain ⟨Φ,η,m,t,s,e,k⟩:=hq
  unfold eIs at e
  obtain ⟨⟨mx,y⟩,ea,e'⟩:=Zz.mp e
  split at e'
  ·rename_i hk
   cases e'
   refine ⟨Φ,η,mx,y,s,ea,fun v H' F e1 r1 f1=>?_⟩
   obtain ⟨t',h1,h2⟩:=DX ty r1 hk
   exact ⟨v,tyS ty,t',_,rfl,by rw [hK];exact h1,by rw [hK];exact h2,k _ H' _ e1 (.bl _) Fp.nil⟩
  ·cases e'
end
end VS
end
section
namespace VS
@[simp] noncomputable def oIx (x y:Val):Vv:=match x.2 with
 | .dct 0 l=>if ki y.2 then (dq l y.2).map (sub x.1) else none
 | _=>aV x y
@[simp] noncomputable def flat:T->Bool
 | .non=>true
 | .bl _=>true
 | .int _=>true
 | .str _=>true
 | _=>false
@[simp] noncomputable def lV (x y:Val):Vv:=match y.2 with
 | .dct 0 l=>if ki x.2 then some (.fr,.bl (dq l x.2).isSome) else none
 | .lst l=>if flat x.2 && l.all flat then some (.fr,.bl (l.any fun y=>eqT y x.2)) else none
 | .tup l=>if flat x.2 && l.all flat then some (.fr,.bl (l.any fun y=>eqT y x.2)) else none
 | _=>none
@[simp] noncomputable def Fm (x y:Val):Vv:=match lV x y with
 | some (_,.bl b)=>some (.fr,.bl (!b))
 | _=>none
noncomputable def pm {α:Type} (f:T->Option (T×α)):List Ky->T->Option (T×α)
 | [],t=>f t
 | .fld k :: r,.obj c fs=>(fs.findIdx? fun p=>p.1 == k).bind fun i=>(fs[i]?).bind fun p=>(pm f r p.2).map fun z=>(.obj c (fs.set i (p.1,z.1)),z.2)
 | .at (.int i) :: r,.lst l=>(ixP l.length i).bind fun j=>(l[j]?).bind fun x=>(pm f r x).map fun z=>(.lst (l.set j z.1),z.2)
 | .at k :: r,.dct 0 l=>if ki k then (l.findIdx? fun p=>eqT p.1 k).bind fun i=>(l[i]?).bind fun p=>(pm f r p.2).map fun z=>(.dct 0 (l.set i (p.1,z.1)),z.2) else none
 | _,_=>none
end VS
end
section
namespace VS
open PySem PySem.Spec PyProof.Rows L2
section
variable {G:Gx} {X:Cx} {a b c e:Expr} {es:List Expr} {ca cb cc:Ex} {cs:Exs} {pos p:Pos}
mutual
noncomputable def toP:T->PyData
 | .non=>.none
 | .bl b=>.bool b
 | .int i=>.int i
 | .str s=>.str (sx s)
 | .tup l=>.tuple (lK l)
 | .lst l=>.list (lK l)
 | _=>.none
noncomputable def lK:Vu->List PyData
 | []=>[]
 | t :: r=>toP t :: lK r
end
theorem EX {s:Tx} (h:iP s):PyData.strOk (sx s)=true:=by
 unfold PyData.strOk sx
 simp only [Array.all_eq_true,decide_eq_true_eq]
 intro i hi
 have:s.toArray[i]∈s:=by simp
 have:=h.2 _ this
 simpa using this
theorem wk {s t:Tx}:(sx s == sx t)=(s == t):=by
 rw [Bool.eq_iff_iff,beq_iff_eq,beq_iff_eq]
 constructor
 ·intro h
  have:(sx s).cps=(sx t).cps:=by rw [h]
  simpa [sx] using this
 ·intro h
  rw [h]
mutual
theorem nM:∀ (n k:Nat) (t u:T),eqD n t=true->eqD k u=true->PyData.eqv (toP t) (toP u)=eqT t u
 | n,k,t,u,h1,h2=>by
  cases t with
  | scr _=>cases n <;> simp at h1
  | dct _ _=>cases n <;> simp at h1
  | obj _ _=>cases n <;> simp at h1
  | tup l =>
   cases n with
   | zero=>simp at h1
   | succ n =>
    cases u with
    | tup r =>
     cases k with
     | zero=>simp at h2
     | succ k =>
      simp only [toP,PyData.eqv,eqT]
      exact lI n k l r (by simpa using h1) (by simpa using h2)
    | scr _=>cases k <;> simp at h2
    | dct _ _=>cases k <;> simp at h2
    | obj _ _=>cases k <;> simp at h2
    | _=>simp [toP,PyData.eqv,eqT]
  | lst l =>
   cases n with
   | zero=>simp at h1
   | succ n =>
    cases u with
    | lst r =>
     cases k with
     | zero=>simp at h2
     | succ k =>
      simp only [toP,PyData.eqv,eqT]
      exact lI n k l r (by simpa using h1) (by simpa using h2)
    | scr _=>cases k <;> simp at h2
    | dct _ _=>cases k <;> simp at h2
    | obj _ _=>cases k <;> simp at h2
    | _=>simp [toP,PyData.eqv,eqT]
  | str s =>
   cases u with
   | str r=>simp only [toP,PyData.eqv,eqT];exact wk
   | scr _=>cases k <;> simp at h2
   | dct _ _=>cases k <;> simp at h2
   | obj _ _=>cases k <;> simp at h2
   | _=>simp [toP,PyData.eqv,eqT]
  | _ =>
   cases u with
   | scr _=>cases k <;> simp at h2
   | dct _ _=>cases k <;> simp at h2
   | obj _ _=>cases k <;> simp at h2
   | _=>simp [toP,PyData.eqv,eqT]
theorem lI:∀ (n k:Nat) (l r:Vu),(∀ t∈l,eqD n t=true)->(∀ t∈r,eqD k t=true)->PyData.eqvAll (lK l) (lK r)=mI l r
 | _,_,[],[],_,_=>rfl
 | _,_,[],_ :: _,_,_=>rfl
 | _,_,_ :: _,[],_,_=>rfl
 | n,k,t :: l,u :: r,h1,h2=>by
  simp only [lK,PyData.eqvAll,mI]
  rw [nM n k t u (h1 t Zw) (h2 u Zw),lI n k l r (fun x hx=>h1 x (Zx _ hx)) fun x hx=>h2 x (Zx _ hx)]
end
theorem Rp.tup_inv5 {H:Hp} {v:V} {ts:Vu} {F:Xl} (r:Rp G H v (.tup ts) F):∃ b vs Fs,v=.ref b/\H b=some (.tup vs)/\RpL G H vs ts Fs:=by
 cases r with
 | tup h q=>exact ⟨_,_,_,rfl,h,q⟩
theorem Rp.lst_inv5 {H:Hp} {v:V} {ts:Vu} {F:Xl} (r:Rp G H v (.lst ts) F):∃ b vs Fs,v=.ref b/\H b=some (.lst vs)/\RpL G H vs ts Fs:=by
 cases r with
 | lst h q=>exact ⟨_,_,_,rfl,h,q⟩
theorem jW {H:Hp} {s:Shared} {n:Nat} (rd:∀ {v:V} {t:T} {F:Xl} {u:Value},Rp G H v t F->RelV v u->eqD n t=true->∃ as,Reads s.heap u (toP t) as/\(toP t).canLay0=true/\(toP t).depth<=n):∀ {vs:List V} {ts:Vu} {Fs:Yk} {us:Xg},RpL G H vs ts Fs->aT vs us->(∀ t∈ts,eqD n t=true) →
  ∃ as,ReadsAll s.heap us (lK ts) as/\PyData.canLayAll0 (lK ts)=true/\PyData.depthAll (lK ts)<=n
 | _,_,_,_,.nil,r,_=>by cases r;exact ⟨_,.nil,rfl,ZU _⟩
 | _,_,_,_,.cons p q,r,h=>by
  cases r with
  | cons r1 r2 =>
   obtain ⟨as,h1,h2,h3⟩:=rd p r1 (h _ Zw)
   obtain ⟨bs,g1,g2,g3⟩:=jW rd q r2 fun t ht=>h t (Zx _ ht)
   exact ⟨_,.cons h1 g1,by simp only [lK,PyData.canLayAll0,h2,g2,Bool.and_self],by simp only [lK,PyData.depthAll];lia⟩
theorem ly {h:Heap} {H:Hp} {v:V} {t:T} {F:Xl} {u:Value} {n:Nat} (r:Rp G H v t F) (ru:RelV v u) (hf:flat t=true):∃ as,Reads h u (toP t) as/\(toP t).canLay0=true/\(toP t).depth<=n:=by
 cases r with
 | non=>cases ru;exact ⟨_,.none,rfl,ZU _⟩
 | bl b=>cases ru;exact ⟨_,.bool b,rfl,ZU _⟩
 | int i=>obtain ⟨t,rfl⟩:=ru;exact ⟨_,.int i t,rfl,ZU _⟩
 | str s h=>obtain ⟨t,rfl⟩:=ru;exact ⟨_,.str _ t,EX h,ZU _⟩
 | _=>cases hf
theorem jz {H:Hp} {pins:Yz} {σ:L2.St} {s:Shared} (I:Inv X pins σ H s) (n:Nat):∀ {v:V} {t:T} {F:Xl} {u:Value},Rp G H v t F->RelV v u->eqD n t=true->∃ as,Reads s.heap u (toP t) as/\(toP t).canLay0=true/\(toP t).depth<=n:=by
 induction n with
 | zero =>
  intro v t F u r ru h
  refine ly r ru ?_
  cases t <;> first | rfl | exact h
 | succ n ih =>
  intro v t F u r ru h
  cases t with
  | tup l =>
   obtain ⟨b,vs,Fs,rfl,e,q⟩:=Rp.tup_inv5 r
   cases ru
   obtain ⟨its,rv,tp,hz⟩:=I.tuple (SqT.of e)
   obtain ⟨as,h1,h2,h3⟩:=jW ih q rv (by simpa using h)
   obtain ⟨o,ho,hc,n',hd⟩:=tp
   exact ⟨_,.tuple ho hc hd (by simpa using h1),h2,by simp only [toP,PyData.depth];exact Y4 h3⟩
  | lst l =>
   obtain ⟨b,vs,Fs,rfl,e,q⟩:=Rp.lst_inv5 r
   cases ru
   obtain ⟨its,rv,pl,hz⟩:=I.list (SqL.of e)
   obtain ⟨as,h1,h2,h3⟩:=jW ih q rv (by simpa using h)
   obtain ⟨o,ho,hc,n',hd⟩:=pl.isList
   exact ⟨_,.list ho hc hd (by simpa using h1),h2,by simp only [toP,PyData.depth];exact Y4 h3⟩
  | scr _=>simp at h
  | dct _ _=>simp at h
  | obj _ _=>simp at h
  | _=>exact ly r ru rfl
noncomputable def yZ (G:Gx) (neg:Bool):R2:=fun x y H Q=>∃ t u F F',Rp G H x t F/\Rp G H y u F'/\eqD 60 t=true/\eqD 60 u=true/\Q (.bl (if neg then !eqT t u else eqT t u)) H
theorem iG {d:PyData} (h:d.canLay0=true) (h2:d.depth<=60):SeqAt.shaped d=true:=by
 unfold SeqAt.shaped
 rw [h,Bool.true_and]
 exact decide_eq_true (by lia)
theorem wZ (hu:X.A.units+64 < cLine):OpR X (compareOp .Eq) (yZ G false):=by
 intro pins s σ H x y v u Q I rx ry h
 obtain ⟨t,w,F,F',r1,r2,h1,h2,q⟩:=h
 obtain ⟨as,a1,a2,a3⟩:=jz I 60 r1 rx h1
 obtain ⟨bs,b1,b2,b3⟩:=jz I 60 r2 ry h2
 refine eq_dataH a1 b1 (iG a2 a3) (iG b2 b3) hu ⟨.bl _,H,I,rfl,?_⟩
 rw [nM 60 60 t w h1 h2]
 exact q
theorem Cn (hu:X.A.units+64 < cLine):OpR X (compareOp .NotEq) (yZ G true):=by
 intro pins s σ H x y v u Q I rx ry h
 obtain ⟨t,w,F,F',r1,r2,h1,h2,q⟩:=h
 obtain ⟨as,a1,a2,a3⟩:=jz I 60 r1 rx h1
 obtain ⟨bs,b1,b2,b3⟩:=jz I 60 r2 ry h2
 refine ne_dataH a1 b1 (iG a2 a3) (iG b2 b3) hu ⟨.bl _,H,I,rfl,?_⟩
 rw [nM 60 60 t w h1 h2]
 exact q
theorem Ba:gp G (yZ G false) oEq:=by
 intro Φ η H0 H x y u w F1 F2 m t Q tw e k
 unfold oEq at e
 split at e
 ·rename_i h
  cases e
  exact ⟨_,_,_,_,tw.r1,tw.r2,h.1,h.2,bC k (.bl _)⟩
 ·cases e
theorem Ej:gp G (yZ G true) oNe:=by
 intro Φ η H0 H x y u w F1 F2 m t Q tw e k
 unfold oNe at e
 split at e
 ·rename_i h
  cases e
  exact ⟨_,_,_,_,tw.r1,tw.r2,h.1,h.2,bC k (.bl _)⟩
 ·cases e
theorem tells_eq:Tells oEq:=by
 intro x y m t e
 unfold oEq at e
 split at e <;> first | (cases e;exact ⟨_,rfl⟩) | cases e
theorem wj:Tells oNe:=by
 intro x y m t e
 unfold oNe at e
 split at e <;> first | (cases e;exact ⟨_,rfl⟩) | cases e
end
structure Frm (Φ:Fps) (η:VS.Env) (H:Hp) (Φ':Fps) (η':VS.Env) (H':Hp):Prop where
 keep:∀ a o,H a=some o->¬ bZ Φ η a->H' a=some o/\¬ bZ Φ' η' a
 dom:∀ a,H a ≠ none->H' a ≠ none
 ow:∀ a,bZ Φ' η' a->bZ Φ η a\/H a=none
 pu:∀ a,dE Φ' η' a->dE Φ η a\/bZ Φ η a\/H a=none
 kept:Kept H H'
theorem Frm.refl (Φ:Fps) (η:VS.Env) (H:Hp):Frm Φ η H Φ η H:=⟨fun a o h n=>⟨h,n⟩,fun _ h=>h,fun _ h=>.inl h,fun _ h=>.inl h,Kept.refl H⟩
theorem Frm.none {Φ Φ':Fps} {η η':VS.Env} {H H':Hp} (f:Frm Φ η H Φ' η' H') {a:Addr} (h:H' a=none):H a=none:=by
 cases e:H a with
 | none=>rfl
 | some o=>exact absurd h (f.dom a (by rw [e];exact fun z=>nomatch z))
theorem Frm.trans {Φ Φ1 Φ2:Fps} {η η1 η2:VS.Env} {H H1 H2:Hp} (f:Frm Φ η H Φ1 η1 H1) (g:Frm Φ1 η1 H1 Φ2 η2 H2):Frm Φ η H Φ2 η2 H2 where
 keep:=fun a o h n=>let ⟨h1,n1⟩:=f.keep a o h n;g.keep a o h1 n1
 dom:=fun a h=>g.dom a (f.dom a h)
 ow:=fun a h=>by
  rcases g.ow a h with h | h
  ·exact f.ow a h
  ·exact .inr (f.none h)
 pu:=fun a h=>by
  rcases g.pu a h with h | h | h
  ·exact f.pu a h
  ·rcases f.ow a h with h | h
   ·exact .inr (.inl h)
   ·exact .inr (.inr h)
  ·exact .inr (.inr (f.none h))
 kept:=f.kept.trans g.kept
theorem Frm.same {Φ:Fps} {η:VS.Env} {H H':Hp} (e:aU H H'):Frm Φ η H Φ η H' :=
 ⟨fun a o h n=>⟨e a o h,n⟩,fun a h z=>h (e.free z),fun _ h=>.inl h,fun _ h=>.inl h,Kept.of e⟩
noncomputable def qw (Φ:Fps) (η:VS.Env) (H:Hp):Md->Xl->Prop
 | .fr,F=>F.Nodup/\∀ a∈F,H a=none\/bZ Φ η a
 | _,F=>∀ a∈F,H a=none\/dE Φ η a\/bZ Φ η a
theorem qw.back {Φ Φ1:Fps} {η η1:VS.Env} {H H1:Hp} (f:Frm Φ η H Φ1 η1 H1) {F:Xl}:∀ {m:Md},qw Φ1 η1 H1 m F->qw Φ η H m F
 | .fr,h=>⟨h.1,fun a ha=>(h.2 a ha).elim (fun z=>.inl (f.none z)) fun z=>(f.ow a z).elim .inr .inl⟩
 | .pu,h=>fun a ha=>by
  rcases h a ha with z | z | z
  ·exact .inl (f.none z)
  ·rcases f.pu a z with z | z | z
   ·exact .inr (.inl z)
   ·exact .inr (.inr z)
   ·exact .inl z
  ·exact (f.ow a z).elim (fun z=>.inr (.inr z)) .inl
 | .bo,h=>fun a ha=>by
  rcases h a ha with z | z | z
  ·exact .inl (f.none z)
  ·rcases f.pu a z with z | z | z
   ·exact .inr (.inl z)
   ·exact .inr (.inr z)
   ·exact .inl z
  ·exact (f.ow a z).elim (fun z=>.inr (.inr z)) .inl
noncomputable def Nx (G:Gx) (Φ:Fps) (η:VS.Env) (H:Hp) (η':VS.Env) (k:L2.St->Hp->Prop):Prop:=∀ Φ' σ' H',SR G Φ' η' σ' H'->Frm Φ η H Φ' η' H'->k σ' H'
noncomputable def ng (G:Gx) (Φ:Fps) (η:VS.Env) (H:Hp) (D:Ends):Out->Prop
 | .nx η'=>Nx G Φ η H η' D.nx
 | .bk η'=>Nx G Φ η H η' D.bk
 | .ct η'=>Nx G Φ η H η' D.ct
 | .rt v η'=>∀ u H' F Φ' σ',SR G Φ' η' σ' H'->Frm Φ η H Φ' η' H'->Rp G H' u v.2 F->qw Φ η H v.1 F->D.rt u H'
noncomputable def tS (G:Gx) (c:Sx):TS:=fun D σ H=>∃ Φ η o,SR G Φ η σ H/\c η=some o/\ng G Φ η H D o
noncomputable def PSV (G:Gx) (X:Cx) (st:Stmt) (c:Sx):Prop:=PS X st (tS G c)
noncomputable def dS (G:Gx) (X:Cx) (st:List Stmt) (c:Sx):Prop:=PSs X st (tS G c)
theorem PS.weak {X:Cx} {e:Stmt} {t t':TS} (h:PS X e t) (w:∀ D σ H,t' D σ H->t D σ H):PS X e t':=fun pins s σ H D I q=>h pins s σ H D I (w D σ H q)
theorem PSs.weak {X:Cx} {e:List Stmt} {t t':TS} (h:PSs X e t) (w:∀ D σ H,t' D σ H->t D σ H):PSs X e t':=fun pins s σ H D I q=>h pins s σ H D I (w D σ H q)
theorem ng.back {G:Gx} {Φ Φ1:Fps} {η η1:VS.Env} {H H1:Hp} {D:Ends} (f:Frm Φ η H Φ1 η1 H1):∀ {o:Out},ng G Φ η H D o->ng G Φ1 η1 H1 D o
 | .nx η',h=>fun Φ' σ' H' s g=>h Φ' σ' H' s (f.trans g)
 | .bk η',h=>fun Φ' σ' H' s g=>h Φ' σ' H' s (f.trans g)
 | .ct η',h=>fun Φ' σ' H' s g=>h Φ' σ' H' s (f.trans g)
 | .rt v η',h=>fun u H' F Φ' σ' s g r q=>h u H' F Φ' σ' s (f.trans g) r (q.back f)
section
variable {G:Gx} {X:Cx} {st:Stmt} {sts:List Stmt} {c c1 c2:Sx} {pos:Pos} {e:Expr} {ce:Ex}
theorem yB:dS G X [] ic:=PSs.weak Ap fun D σ H hq=>by
 obtain ⟨Φ,η,o,s,e,k⟩:=hq
 cases (show some (Out.nx η)=some o from e)
 exact k Φ σ H s (Frm.refl _ _ _)
theorem xV (h1:PSV G X st c1) (h2:dS G X sts c2):dS G X (st :: sts) (av c1 c2):=PSs.weak (qg h1 h2) fun D σ H hq=>by
 obtain ⟨Φ,η,o,s,e,k⟩:=hq
 unfold av at e
 obtain ⟨o1,e1,e2⟩:=Zz.mp e
 refine ⟨Φ,η,o1,s,e1,?_⟩
 cases o1 with
 | nx η1=>exact fun Φ' σ' H' s' f=>⟨Φ',η1,o,s',e2,k.back f⟩
 | rt v η1=>cases e2;exact k
 | bk η1=>cases e2;exact k
 | ct η1=>cases e2;exact k
theorem Av (h1:PSV G X st c1):dS G X [st] c1:=tq h1
theorem Dl {t:Expr} {ct:Ex} {a b:List Stmt} (hc:PVT G X t ct) (ha:dS G X a c1) (hb:dS G X b c2):PSV G X (.If t a b pos) (sIf ct c1 c2):=PS.weak (AL hc ha hb) fun D σ H hq=>by
 obtain ⟨Φ,η,o,s,e,k⟩:=hq
 unfold sIf at e
 obtain ⟨⟨m,x⟩,ec,e1⟩:=Zz.mp e
 obtain ⟨b',eb,e2⟩:=Zz.mp e1
 refine ⟨Φ,η,m,x,b',s,ec,eb,fun H' e3=>?_⟩
 cases b' with
 | true =>
  rw [Zq rfl] at e2
  exact xC ⟨Φ,η,o,s.same e3,e2,k.back (Frm.same e3)⟩
 | false =>
  rw [Zn Zm] at e2
  exact xI ⟨Φ,η,o,s.same e3,e2,k.back (Frm.same e3)⟩
theorem Fp.ret {Φ:Fps} {η:VS.Env} {H:Hp} {F:Xl}:∀ {m:Md},Fp Φ η H m F->qw Φ η H (match m with | .bo=>.pu | m=>m) F
 | .fr,f=>⟨f.1,fun a ha=>.inl (f.2 a ha)⟩
 | .pu,f=>fun a ha=>(f a ha).elim .inl fun z=>.inr (.inl z)
 | .bo,f=>f
theorem rV (he:PV G X e ce):PSV G X (.Return (some e) pos) (dj ce):=PS.weak (nR he) fun D σ H hq=>by
 obtain ⟨Φ,η,o,s,e,k⟩:=hq
 unfold dj at e
 obtain ⟨⟨m,x⟩,ec,e1⟩:=Zz.mp e
 cases e1
 exact ⟨Φ,η,m,x,s,ec,fun v H' F e1 r1 f1=>k v H' F Φ σ (s.same e1) (Frm.same e1) r1 f1.ret⟩
theorem bY {η:VS.Env} {i j:Nat} {c:Cell} (h:(η.set i none)[j]?=some (some c)):j ≠ i/\η[j]?=some (some c):=by
 rw [List.getElem?_set] at h
 split at h
 ·split at h <;> cases h
 ·rename_i n
  exact ⟨fun z=>n z.symm,h⟩
theorem SR.drop {Φ:Fps} {η:VS.Env} {σ:L2.St} {H:Hp} (s:SR G Φ η σ H) (i:Nat):SR G Φ (η.set i none) σ H :=
 ⟨by rw [Xv];exact s.len,fun j c h=>s.rp j c (bY h).2,fun j t h=>s.nd j t (bY h).2,fun j k t c h1 h2 n=>s.sep j k t c (bY h1).2 (bY h2).2 n⟩
theorem Frm.drop {Φ:Fps} {η:VS.Env} {H:Hp} (i:Nat):Frm Φ η H Φ (η.set i Option.none) H :=
 ⟨fun a o h n=>⟨h,fun ⟨j,t,h1,h2⟩=>n ⟨j,t,(bY h1).2,h2⟩⟩,fun _ h=>h,fun a ⟨j,t,h1,h2⟩=>.inl ⟨j,t,(bY h1).2,h2⟩,fun a ⟨j,t,h1,h2⟩=>.inl ⟨j,t,(bY h1).2,h2⟩,Kept.refl H⟩
theorem vf (i:Nat) {x:Str} {p:Pos} (hN:X.N[i]?=some x:=by rfl) (hv:Vis X.env.scope x:=by first | exact Or.inl rfl | exact Or.inr (Or.inl rfl) | exact Or.inr (Or.inr rfl)) (hd:(x == ("__debug__" : Str))=false:=by decide)
  (hcd:(x == ("__classdict__" : Str))=false:=by decide):PSV G X (.Return (some (.Name x p)) pos) (iT i):=PS.weak (nR (gu hN hv hd hcd)) fun D σ H hq=>by
 obtain ⟨Φ,η,o,s,e,k⟩:=hq
 unfold iT at e
 split at e
 ·rename_i t h
  obtain ⟨v,h1,h2⟩:=s.rp _ _ h
  cases e
  exact ⟨v,h1,k v H (Φ i) Φ σ (s.drop i) (Frm.drop i) h2 ⟨s.nd i t h,fun a ha=>.inr ⟨i,t,h,ha⟩⟩⟩
 ·rename_i t h
  obtain ⟨v,h1,h2⟩:=s.rp _ _ h
  cases e
  refine ⟨v,h1,k v H (Φ i) Φ σ s (Frm.refl _ _ _) h2 ?_⟩
  have f:Fp Φ η H .pu (Φ i):=fun a ha=>.inr ⟨i,t,h,ha⟩
  have f2:=(f.up h2).ret
  have:(match (VS.up .pu (kA (.pu t))).1 with | .bo=>Md.pu | m=>m)=(VS.up .pu t).1:=by
   show (match (VS.up .pu t).1 with | .bo=>Md.pu | m=>m)=_
   unfold VS.up
   split <;> (rename_i q;revert q;split <;> simp)
  rw [this] at f2
  exact f2
 ·cases e
noncomputable def hJ (Φ:Fps) (i:Nat) (F:Xl):Fps:=fun j=>if j=i then F else Φ j
theorem fX {Φ:Fps} {i:Nat} {F:Xl}:hJ Φ i F i=F:=Zq rfl
theorem fU {Φ:Fps} {i j:Nat} {F:Xl} (h:j ≠ i):hJ Φ i F j=Φ j:=Zn h
theorem gL {η:VS.Env} {i j:Nat} {c c':Cell} (h:(η.set i (some c))[j]?=some (some c')):(j=i/\c'=c)\/(j ≠ i/\η[j]?=some (some c')):=by
 rw [List.getElem?_set] at h
 split at h
 ·rename_i e
  split at h
  ·exact .inl ⟨e.symm,(ZK (ZK h)).symm⟩
  ·cases h
 ·rename_i n
  exact .inr ⟨fun z=>n z.symm,h⟩
theorem SR.put {Φ:Fps} {η:VS.Env} {σ:L2.St} {H H':Hp} {i:Nat} {v:V} {c:Cell} {F:Xl} (s:SR G Φ η σ H) (hi:i < η.length) (r:Rp G H' v (kA c) F)
  (hk:∀ j c',j ≠ i->η[j]?=some (some c')->∀ w,Rp G H w (kA c') (Φ j)->Rp G H' w (kA c') (Φ j))
  (hnd:∀ t,c=.ow t->F.Nodup) (hown:∀ t,c=.ow t->∀ j c',j ≠ i->η[j]?=some (some c')->∀ a∈F,a ∉ Φ j) (hpu:∀ j t,j ≠ i->η[j]?=some (some (.ow t))->∀ a∈Φ j,a ∉ F) :
  SR G (hJ Φ i F) (η.set i (some c)) (σ.set i (some v)) H' where
 len:=by rw [Xv,Xv];exact s.len
 rp:=fun j c' h=>by
  rcases gL h with ⟨rfl,rfl⟩ | ⟨n,h⟩
  ·exact ⟨v,by rw [Yc (by rw [← s.len];exact hi)],by rw [fX];exact r⟩
  ·obtain ⟨w,h1,h2⟩:=s.rp j c' h
   exact ⟨w,by rw [YU (YI n)];exact h1,by rw [fU n];exact hk j c' n h w h2⟩
 nd:=fun j t h=>by
  rcases gL h with ⟨rfl,e⟩ | ⟨n,h⟩
  ·rw [fX];exact hnd t e.symm
  ·rw [fU n];exact s.nd j t h
 sep:=fun j k t c' h1 h2 n=>by
  rcases gL h1 with ⟨rfl,e⟩ | ⟨n1,g1⟩
  ·rcases gL h2 with ⟨rfl,e2⟩ | ⟨n2,g2⟩
   ·exact absurd rfl n
   ·rw [fX,fU n2]
    exact hown t e.symm k c' n2 g2
  ·rcases gL h2 with ⟨rfl,e2⟩ | ⟨n2,g2⟩
   ·rw [fX,fU n1]
    exact hpu j t n1 g1
   ·rw [fU n1,fU n2]
    exact s.sep j k t c' g1 g2 n
theorem jc {Φ:Fps} {η:VS.Env} {i:Nat} {c:Cell} {F:Xl} {a:Addr} (h:bZ (hJ Φ i F) (η.set i (some c)) a):(∃ t,c=.ow t/\a∈F)\/bZ Φ η a:=by
 obtain ⟨j,t,h1,h2⟩:=h
 rcases gL h1 with ⟨rfl,e⟩ | ⟨n,h1⟩
 ·rw [fX] at h2;exact .inl ⟨t,e.symm,h2⟩
 ·rw [fU n] at h2;exact .inr ⟨j,t,h1,h2⟩
theorem oC {Φ:Fps} {η:VS.Env} {i:Nat} {c:Cell} {F:Xl} {a:Addr} (h:dE (hJ Φ i F) (η.set i (some c)) a):(∃ t,c=.pu t/\a∈F)\/dE Φ η a:=by
 obtain ⟨j,t,h1,h2⟩:=h
 rcases gL h1 with ⟨rfl,e⟩ | ⟨n,h1⟩
 ·rw [fX] at h2;exact .inl ⟨t,e.symm,h2⟩
 ·rw [fU n] at h2;exact .inr ⟨j,t,h1,h2⟩
theorem SR.ow_pu {Φ:Fps} {η:VS.Env} {σ:L2.St} {H:Hp} (s:SR G Φ η σ H) {a:Addr} (h:bZ Φ η a) (h':dE Φ η a):False:=by
 obtain ⟨j,t,h1,h2⟩:=h
 obtain ⟨k,u,g1,g2⟩:=h'
 have n:j ≠ k:=fun e=>by subst e;rw [h1] at g1;cases g1
 exact s.sep j k t _ h1 g1 n a h2 g2
theorem SR.val {Φ:Fps} {η:VS.Env} {σ:L2.St} {H H':Hp} {i:Nat} {v:V} {t:T} {m:Md} {F:Xl} {c:Cell} (s:SR G Φ η σ H) (hi:i < η.length) (e:aU H H') (r:Rp G H' v t F) (f:Fp Φ η H m F)
  (hc:(c=.pu t/\m ≠ .bo)\/(c=.ow t/\m=.fr)):SR G (hJ Φ i F) (η.set i (some c)) (σ.set i (some v)) H'/\Frm Φ η H (hJ Φ i F) (η.set i (some c)) H':=by
 have dom:∀ {a},H a=none->∀ j c',η[j]?=some (some c')->a ∉ Φ j:=fun {a} h j c' hj ha=>by
  obtain ⟨w,_,q⟩:=s.rp j c' hj
  exact Mut.ne_none (q.dom a ha) h
 have ct:kA c=t:=by rcases hc with ⟨rfl,_⟩ | ⟨rfl,_⟩ <;> rfl
 have fpu:∀ a∈F,H a=none\/dE Φ η a:=fun a ha=>by
  rcases hc with ⟨_,n⟩ | ⟨_,n⟩
  ·exact f.pu n a ha
  ·rw [n] at f;exact .inl (f.2 a ha)
 constructor
 ·refine s.put hi (by rw [ct];exact r) (fun j c' n hj w q=>q.same e) (fun u hu=>?_) (fun u hu j c' n hj a ha=>?_) fun j u n hj a ha hF=>?_
  ·rcases hc with ⟨h,_⟩ | ⟨_,h⟩
   ·rw [h] at hu;cases hu
   ·rw [h] at f;exact f.1
  ·rcases hc with ⟨h,_⟩ | ⟨_,h⟩
   ·rw [h] at hu;cases hu
   ·rw [h] at f;exact dom (f.2 a ha) j c' hj
  ·rcases fpu a hF with z | z
   ·exact dom z j _ hj ha
   ·exact s.ow_pu ⟨j,u,hj,ha⟩ z
 ·refine ⟨fun a o h n=>⟨e a o h,fun z=>?_⟩,fun a h z=>h (e.free z),fun a h=>?_,fun a h=>?_,Kept.of e⟩
  ·rcases jc z with ⟨u,hu,ha⟩ | z
   ·rcases hc with ⟨h',_⟩ | ⟨_,h'⟩
    ·rw [h'] at hu;cases hu
    ·rw [h'] at f
     rw [f.2 a ha] at h;cases h
   ·exact n z
  ·rcases jc h with ⟨u,hu,ha⟩ | z
   ·rcases hc with ⟨h',_⟩ | ⟨_,h'⟩
    ·rw [h'] at hu;cases hu
    ·rw [h'] at f
     exact .inr (f.2 a ha)
   ·exact .inl z
  ·rcases oC h with ⟨u,hu,ha⟩ | z
   ·exact (fpu a ha).elim (fun z=>.inr (.inr z)) .inl
   ·exact .inl z
theorem yO {i:Nat} {x:Str} {pos':Pos} (he:PV G X e ce) (hN:X.N.Nodup) (hi:X.N[i]?=some x:=by rfl) (hx:Loc X.env.scope x:=by first | exact Or.inl rfl | exact Or.inr rfl)
  (hs:swapsWith e (some (.Name x pos')) pos.line X.env=pure false:=by rfl) (hf:X.fn x=true\/X.env.scope.names.lookup x=some .local:=by first | exact .inl rfl | exact .inr rfl) :
  PSV G X (.Assign [.Name x pos'] e pos) (kE i ce):=PS.weak (qO hN hi hx he hs hf) fun D σ H hq=>by
 obtain ⟨Φ,η,o,s,e,k⟩:=hq
 unfold kE at e
 obtain ⟨⟨m,t⟩,ec,e1⟩:=Zz.mp e
 obtain ⟨c,eC,e2⟩:=Zz.mp e1
 split at e2
 ·rename_i hl
  cases e2
  refine ⟨Φ,η,m,t,s,ec,fun v H' F e3 r3 f3=>?_⟩
  obtain ⟨q1,q2⟩:=s.val (c:=c) hl e3 r3 f3 (by
   unfold cellOf at eC
   cases m with
   | fr =>
    simp only [Option.some.injEq] at eC
    split at eC
    ·exact .inr ⟨eC.symm,rfl⟩
    ·exact .inl ⟨eC.symm,by decide⟩
   | pu=>cases eC;exact .inl ⟨rfl,by decide⟩
   | bo=>cases eC)
  exact k _ _ H' q1 q2
 ·cases e2
theorem pZ {i:Nat} {x:Str} {pos':Pos} (he:PV G X e ce) (hN:X.N.Nodup) (hi:X.N[i]?=some x:=by rfl) (hx:Loc X.env.scope x:=by first | exact Or.inl rfl | exact Or.inr rfl)
  (hs:swapsWith e (some (.Name x pos')) pos.line X.env=pure false:=by rfl) (hf:X.fn x=true\/X.env.scope.names.lookup x=some .local:=by first | exact .inl rfl | exact .inr rfl) :
  PSV G X (.Assign [.Name x pos'] e pos) (aN i ce):=PS.weak (qO hN hi hx he hs hf) fun D σ H hq=>by
 obtain ⟨Φ,η,o,s,e,k⟩:=hq
 unfold aN at e
 obtain ⟨⟨m,t⟩,ec,e1⟩:=Zz.mp e
 split at e1
 ·cases e1
 ·rename_i hm
  split at e1
  ·rename_i hl
   cases e1
   refine ⟨Φ,η,m,t,s,ec,fun v H' F e3 r3 f3=>?_⟩
   obtain ⟨q1,q2⟩:=s.val (c:=.pu t) hl e3 r3 f3 (.inl ⟨rfl,hm⟩)
   exact k _ _ H' q1 q2
  ·cases e1
theorem SR.frz {Φ:Fps} {η:VS.Env} {σ:L2.St} {H:Hp} {i:Nat} {t:T} (s:SR G Φ η σ H) (h:η[i]?=some (some (.ow t))):SR G Φ (η.set i (some (.pu t))) σ H/\Frm Φ η H Φ (η.set i (some (.pu t))) H:=by
 have back:∀ {j c},(η.set i (some (.pu t)))[j]?=some (some c)->∃ c',η[j]?=some (some c')/\kA c'=kA c/\∀ u,c=.ow u->c'=.ow u:=fun {j c} hj=>by
  rcases gL hj with ⟨rfl,rfl⟩ | ⟨n,hj⟩
  ·exact ⟨.ow t,h,rfl,fun u hu=>nomatch hu⟩
  ·exact ⟨c,hj,rfl,fun u hu=>hu⟩
 refine ⟨⟨by rw [Xv];exact s.len,fun j c hj=>?_,fun j u hj=>?_,fun j k u c h1 h2 n=>?_⟩,⟨fun a o ha n=>⟨ha,fun ⟨j,u,h1,h2⟩=>?_⟩,fun _ h=>h,fun a ⟨j,u,h1,h2⟩=>?_,fun a ⟨j,u,h1,h2⟩=>?_,Kept.refl H⟩⟩
 ·obtain ⟨c',h1,h2,_⟩:=back hj
  obtain ⟨v,g1,g2⟩:=s.rp j c' h1
  exact ⟨v,g1,by rw [← h2];exact g2⟩
 ·obtain ⟨c',h1,_,h3⟩:=back hj
  rw [h3 u rfl] at h1
  exact s.nd j u h1
 ·obtain ⟨c1,g1,_,g3⟩:=back h1
  obtain ⟨c2,k1,_,_⟩:=back h2
  rw [g3 u rfl] at g1
  exact s.sep j k u c2 g1 k1 n
 ·obtain ⟨c1,g1,_,g3⟩:=back h1
  rw [g3 u rfl] at g1
  exact n ⟨j,u,g1,h2⟩
 ·obtain ⟨c1,g1,_,g3⟩:=back h1
  rw [g3 u rfl] at g1
  exact .inl ⟨j,u,g1,h2⟩
 ·rcases gL h1 with ⟨rfl,_⟩ | ⟨n,h1⟩
  ·exact .inr (.inl ⟨j,t,h,h2⟩)
  ·exact .inl ⟨j,u,h1,h2⟩
theorem zy (i:Nat) (h:dS G X sts c):dS G X sts (av (wJ i) c):=PSs.weak h fun D σ H hq=>by
 obtain ⟨Φ,η,o,s,e,k⟩:=hq
 unfold av at e
 obtain ⟨o1,e1,e2⟩:=Zz.mp e
 unfold wJ at e1
 split at e1
 ·rename_i t ht
  cases e1
  obtain ⟨q1,q2⟩:=s.frz ht
  exact ⟨Φ,_,o,q1,e2,k.back q2⟩
 ·cases e1
  exact ⟨Φ,η,o,s,e2,k⟩
 ·cases e1
end
section
variable {G:Gx} {X:Cx} {st:Stmt} {sts:List Stmt} {c c1 c2:Sx} {pos:Pos} {e:Expr} {es:List Expr} {ce:Ex} {cs:Exs}
structure Chg (G:Gx) (H:Hp) (v:V) (F:Xl) (t':T) (H2:Hp) (F':Xl):Prop where
 kept:Kept H H2
 keep:∀ b o,b ∉ F->H b=some o->H2 b=some o
 dom:∀ b,H b ≠ none->H2 b ≠ none
 rp:Rp G H2 v t' F'
 nd:F'.Nodup
 sub:∀ a∈F',a∈F\/H a=none
theorem SR.mut {Φ:Fps} {η:VS.Env} {σ:L2.St} {H H2:Hp} {i:Nat} {v:V} {t t':T} {F':Xl} (s:SR G Φ η σ H) (hi:η[i]?=some (some (.ow t))) (hv:σ[i]?=some (some v)) (g:Chg G H v (Φ i) t' H2 F') :
  SR G (hJ Φ i F') (η.set i (some (.ow t'))) σ H2/\Frm Φ η H (hJ Φ i F') (η.set i (some (.ow t'))) H2:=by
 have hl:i < η.length:=(Zb.mp hi).1
 have off:∀ j c',j ≠ i->η[j]?=some (some c')->∀ a∈Φ j,a ∉ Φ i:=fun j c' n hj a ha ha'=>s.sep i j t c' hi hj (YI n) a ha' ha
 have es:σ.set i (some v)=σ:=by
  obtain ⟨h,e⟩:=Zb.mp hv
  rw [← e]
  exact List.set_getElem_self h
 have new:∀ a∈F',∀ j c',j ≠ i->η[j]?=some (some c')->a ∉ Φ j:=fun a ha j c' n hj ha'=>by
  rcases g.sub a ha with z | z
  ·exact off j c' n hj a ha' z
  ·obtain ⟨w,_,q⟩:=s.rp j c' hj
   exact Mut.ne_none (q.dom a ha') z
 constructor
 ·have:=s.put (c:=.ow t') (F:=F') (H':=H2) (v:=v) hl g.rp (fun j c' n hj w q=>q.keep g.kept fun a ha o ho=>g.keep a o (off j c' n hj a ha) ho) (fun _ _=>g.nd) (fun u hu j c' n hj a ha=>new a ha j c' n hj) fun j u n hj a ha ha'=>new a ha' j _ n hj ha
  rw [es] at this
  exact this
 ·refine ⟨fun a o h n=>⟨g.keep a o (fun z=>n ⟨i,t,hi,z⟩) h,fun z=>?_⟩,g.dom,fun a h=>?_,fun a h=>?_,g.kept⟩
  ·rcases jc z with ⟨u,_,ha⟩ | z
   ·rcases g.sub a ha with z | z
    ·exact n ⟨i,t,hi,z⟩
    ·rw [z] at h;cases h
   ·exact n z
  ·rcases jc h with ⟨u,_,ha⟩ | z
   ·rcases g.sub a ha with z | z
    ·exact .inl ⟨i,t,hi,z⟩
    ·exact .inr z
   ·exact .inl z
  ·rcases oC h with ⟨u,hu,ha⟩ | z
   ·cases hu
   ·exact .inl z
noncomputable def AZ (G:Gx) (r:V->List V->Hp->VK->Prop) (f:T->Vw->Option (T×Val)):Prop:=∀ (Φ:Fps) (η:VS.Env) (H H1:Hp) (v:V) (t t':T) (F:Xl) (l:Vw) (vs:List V) (Fs:Yk) (x:Val) (Q:VK),
 Rp G H v t F->F.Nodup->Args G Φ η H H1 l vs Fs->f t l=some (t',x)->(∀ u H2 F',Chg G H v F t' H2 F'->Q u H2)->r v vs H1 Q
theorem xR {T' id:String} {name x:Str} {r:V->List V->Hp->VK->Prop} {f:T->Vw->Option (T×Val)} {apos cpos p1:Pos} (i:Nat) (pa:PlainAttrs T') (slot:Slot T' name id) (hty:typeOf (.builtin id)=pure (.type "method_descriptor")) (hm:MtR X id r) (ok:AZ G r f)
  (hT:∀ H v t F l z,Rp G H v t F->f t l=some z->tyV G.K T' v H) (ha:PVs G X (e :: es) cs) (hK:X.K=G.K:=by rfl)
  (hN:X.N[i]?=some x:=by rfl) (hv:Vis X.env.scope x:=by first | exact Or.inl rfl | exact Or.inr (Or.inl rfl) | exact Or.inr (Or.inr rfl)) (hd:(x == ("__debug__" : Str))=false:=by decide)
  (hcd:(x == ("__classdict__" : Str))=false:=by decide)
  (hbase:attributeBase (.Name x p1) name X.env (eval (.Name x p1) X.env)=eval (.Name x p1) X.env:=by rfl)
  (hfew:((backTo cpos (starEach (e :: es) X.env)).all (fun x=>!x.1) && (backToKw cpos (keywordEach [] X.env)).all (fun x=>x.1.isSome)
   && decide ((e :: es).length+([]:List Keyword).length+(if ([]:List Keyword).isEmpty then 0 else 1) < 30))=true:=by rfl)
  (hline:(apos.endLine == cpos.line)=true:=by rfl) (hs:starEach (e :: es) X.env=(false,eval e X.env) :: starEach es X.env:=by rfl) (hplain:(backTo cpos (starEach es X.env)).any (·.1)=false:=by rfl)
  (hsw:swapsWith (.Call (.Attribute (.Name x p1) name apos) (e :: es) [] cpos) none pos.line X.env=pure false:=by rfl) :
  PSV G X (.Expr (.Call (.Attribute (.Name x p1) name apos) (e :: es) [] cpos) pos) (sX (lz i [] f cs)) :=
 PS.weak (jx (tu pa slot hty hm (gu hN hv hd hcd) ha hbase hfew hline hs hplain) hsw) fun D σ H hq=>by
  obtain ⟨Φ,η,o,s,e,k⟩:=hq
  unfold sX lz at e
  obtain ⟨⟨x',η'⟩,e1,e2⟩:=Zo.mp e
  split at e1
  ·rename_i t ht
   obtain ⟨ks,ek,e3⟩:=Zz.mp e1
   cases (show some ([]:List Ky)=some ks from ek)
   obtain ⟨l,el,e4⟩:=Zz.mp e3
   obtain ⟨⟨t',x2⟩,e5,e6⟩:=Zo.mp e4
   cases e6
   cases e2
   obtain ⟨v,h1,h2⟩:=s.rp _ _ ht
   have e7:f t l=some (t',x'):=e5
   refine ⟨v,h1,by rw [hK];exact hT H v t _ l _ h2 e7,Φ,η,l,s,el,fun vs H' Fs q1 q2 q3=>?_⟩
   refine ok Φ η H H' v t t' (Φ i) l vs Fs x' _ h2 (s.nd i t ht) ⟨q1,q2,q3⟩ e7 fun u H2 F' g=>?_
   obtain ⟨w1,w2⟩:=s.mut ht h1 g
   exact k _ σ H2 w1 w2
  ·cases e1
theorem Chg.upd {H H1:Hp} {v:V} {F:Xl} {a:Addr} {o:HO} {t':T} {F':Xl} (e:aU H H1) (ha:a∈F) (hm:Mut (H1 a)) (r:Rp G (upd H1 a o) v t' F') (nd:F'.Nodup) (sub:∀ a∈F',a∈F\/H a=none):Chg G H v F t' (upd H1 a o) F' :=
 ⟨(Kept.of e).trans (Kept.upd (.inl hm)),fun b o' hb h=>by rw [aw (fun z=>hb (by rw [z];exact ha))];exact e b o' h,
  fun b h z=>by
   by_cases q:b=a
   ·subst q;rw [aH] at z;cases z
   ·rw [aw q] at z;exact h (e.free z),r,nd,sub⟩
theorem RpL.off {H:Hp} {vs:List V} {ts:Vu} {Fs:Yk} {a:Addr} {o:HO} (r:RpL G H vs ts Fs) (hm:Mut (H a)) (h:a ∉ Fs.flatten):RpL G (upd H a o) vs ts Fs :=
 r.keep (Kept.upd (.inl hm)) fun b hb o' ho=>by rw [aw (fun z=>h (by rw [← z];exact hb))];exact ho
theorem yV {v:Val} {t:T} (h:fit v=some t):v=(.fr,t):=by
 obtain ⟨m,x⟩:=v
 unfold fit at h
 cases m <;> first | (cases h;rfl) | cases h
theorem j9:AZ G kQ bg:=by
 intro Φ η H H1 v t t' F l vs Fs x Q r nd A e k
 unfold bg at e
 split at e
 ·rename_i ts y
  obtain ⟨z,ez,e1⟩:=Zz.mp e
  have ey:=yV ez
  subst ey
  split at e1
  ·rename_i hl
   cases e1
   obtain ⟨a,us,Gs,rfl,rfl,ha,ra⟩:=r.lst_inv
   obtain ⟨w,Fw,rfl,rfl,rw'⟩:=(show RpL G H1 vs [z] Fs from A.rp).one
   have fw:Fp Φ η H .fr Fw:=A.fp.each 0 _ _ rfl rfl
   have ha1:H1 a=some (.lst us):=A.same a _ ha
   have m1:Mut (H1 a):=by rw [ha1];exact True.intro
   have na:a ∉ Gs.flatten:=(ZJ.mp nd).1
   have nw:a ∉ Fw:=fun z=>by rw [fw.2 a z] at ha;cases ha
   refine ⟨a,us,w,rfl,rfl,ha1,by rw [ra.len.1];exact hl,k _ _ (a :: (Gs++[Fw]).flatten) ?_⟩
   have off:∀ b∈Gs.flatten,b ∉ Fw:=fun b hb hw=>Mut.ne_none (ra.dom b hb) (fw.2 b hw)
   refine Chg.upd A.same Zw m1 (.lst aH (((ra.same A.same).off m1 na).append (.cons (rw'.keep (Kept.upd (.inl m1)) fun b hb o ho=>by rw [aw (fun z=>nw (by rw [← z];exact hb))];exact ho) .nil))) ?_ ?_
   ·rw [Z2]
    refine ZJ.mpr ⟨fun m=>?_,ZD.mpr ⟨(ZJ.mp nd).2,by simpa using fw.1,fun b hb c hc z=>?_⟩⟩
    ·rcases Zh.mp m with m | m
     ·exact na m
     ·exact nw (by simpa using m)
    ·subst z;exact off b hb (by simpa using hc)
   ·intro b hb
    rcases Zr.mp hb with rfl | hb
    ·exact .inl Zw
    ·rw [Z2] at hb
     rcases Zh.mp hb with hb | hb
     ·exact .inl (Zx _ hb)
     ·exact .inr (fw.2 b (by simpa using hb))
  ·cases e1
 ·cases e
theorem u5 {H:Hp} {v:V} {ts:Vu} {F:Xl} (r:Rp G H v (.lst ts) F):tyV G.K "list" v H:=by
 obtain ⟨a,us,Gs,rfl,rfl,ha,ra⟩:=r.lst_inv
 exact .inl ⟨rfl,_,SqL.of ha⟩
theorem iq {H:Hp} {v:V} {t:T} {F:Xl} {l:Vw} {z:T×Val} (r:Rp G H v t F) (h:bg t l=some z):tyV G.K "list" v H:=by
 unfold bg at h
 split at h
 ·exact u5 r
 ·cases h
end
structure ItOk (G:Gx) (J:It) (l:Vu) (C:Xl) (H:Hp):Prop where
 run:∀ H2,Kept H H2->(∀ a∈C,∀ o,H a=some o->H2 a=some o) →
  (∀ (i:Nat) (t:T),l[i]?=some t->J.go i H2/\∀ x H3,J.yld i H2 x H3->aU H2 H3/\∃ F,Rp G H3 x t F/\∀ a∈F,a∈C\/H2 a=none)/\∀ (i:Nat),l.length<=i->J.stop i H2
 dom:∀ a∈C,H a ≠ none
noncomputable def FpC (Φ:Fps) (η:VS.Env) (H:Hp) (m:Md) (C:Xl):Prop:=∀ a∈C,H a=none\/dE Φ η a\/(m=.bo/\bZ Φ η a)
theorem Fp.c {Φ:Fps} {η:VS.Env} {H:Hp} {F:Xl}:∀ {m:Md},Fp Φ η H m F->FpC Φ η H m F
 | .fr,f=>fun a ha=>.inl (f.2 a ha)
 | .pu,f=>fun a ha=>(f a ha).imp id .inl
 | .bo,f=>fun a ha=>(f a ha).imp id fun z=>z.imp id fun z=>⟨rfl,z⟩
noncomputable def tI (G:Gx) (c:Its):TI:=fun σ H R=>∃ Φ η m l,SR G Φ η σ H/\c η=some (m,l)/\∀ J H' C,aU H H'->ItOk G J l C H'->FpC Φ η H m C->R J H'
noncomputable def PVI (G:Gx) (X:Cx) (tg iter:Expr) (c:Its):Prop:=PI X tg iter (tI G c)
theorem PI.weak {X:Cx} {tg e:Expr} {t t':TI} (h:PI X tg e t) (w:∀ σ H Q,t' σ H Q->t σ H Q):PI X tg e t':=fun pins s σ H Q I q=>h pins s σ H Q I (w σ H Q q)
section
variable {G:Gx} {X:Cx} {tg e a b:Expr} {es:List Expr} {ca cb:Ex} {cs:Exs} {pos p:Pos}
theorem pM (H:Hp) (lo:Int) (n:Nat):ItOk G (Itr lo n) (rng lo n) [] H:=by
 refine ⟨fun H2 _ _=>⟨fun i t h=>?_,fun i h=>(by simpa [rng] using h:n<=i)⟩,fun a h=>by simp at h⟩
 unfold rng at h
 rw [Z1] at h
 obtain ⟨k,hk,e⟩:=Zo.mp h
 obtain ⟨hlt,e2⟩:=Zb.mp hk
 rw [Yt] at hlt
 have ek:i=k:=by simpa using e2
 subst ek
 refine ⟨hlt,fun x H3 ⟨e3,e4⟩=>?_⟩
 subst e3
 subst e4
 rw [← e]
 exact ⟨aU.refl _,[],.int _,fun a h=>by simp at h⟩
theorem rK (ha:PV G X a ca) (hg:Gl X "range") (hm:X.mg "range" = none) (hs:starEach [a] X.env=(false,eval a X.env) :: starEach [] X.env:=by rfl) (hs':starEach [a] X.env=[(false,eval a X.env)]:=by rfl):PVI G X tg (.Call (.Name "range" p) [a] [] pos) (cw ca) :=
 PI.weak (tQ hg hm (de ha fI hs) hs') fun σ H R hq=>by
  obtain ⟨Φ,η,m,l,s,e,k⟩:=hq
  unfold cw at e
  obtain ⟨⟨mx,x⟩,ea,e1⟩:=Zz.mp e
  obtain ⟨j,ej,e2⟩:=Zz.mp e1
  split at e2
  ·rename_i hj
   cases e2
   refine ⟨Φ,η,mx,x,s,ea,fun v H' F e3 r3 f3=>?_⟩
   cases x with
   | int j' =>
    cases ej
    refine ⟨j,by rw [r3.int_inv],?_,?_,k _ H' [] e3 (pM H' 0 j.toNat) fun a h=>by simp at h⟩
    ·have:=hj.1;unfold B62 at this;lia
    ·have:=hj.2;unfold B62 at this;lia
   | _=>cases ej
  ·cases e2
theorem qS (ha:PV G X a ca) (hb:PV G X b cb) (hg:Gl X "range") (hm:X.mg "range" = none) (hs:starEach [a,b] X.env=(false,eval a X.env) :: starEach [b] X.env:=by rfl) (hs':starEach [a,b] X.env=[(false,eval a X.env),(false,eval b X.env)]:=by rfl) (hs1:starEach [b] X.env=(false,eval b X.env) :: starEach [] X.env:=by rfl) (hs2:starEach [b] X.env=[(false,eval b X.env)]:=by rfl) :
  PVI G X tg (.Call (.Name "range" p) [a,b] [] pos) (kT ca cb) :=
 PI.weak (uo hg hm (de ha (de hb fI hs1) hs) hs' hs2) fun σ H R hq=>by
  obtain ⟨Φ,η,m,l,s,e,k⟩:=hq
  unfold kT at e
  obtain ⟨⟨mx,x⟩,ea,e1⟩:=Zz.mp e
  obtain ⟨⟨my,y⟩,eb,e1⟩:=Zz.mp e1
  obtain ⟨i,ei,e2⟩:=Zz.mp e1
  obtain ⟨j,ej,e2⟩:=Zz.mp e2
  split at e2
  ·rename_i hj
   cases e2
   refine ⟨Φ,η,mx,x,s,ea,fun v H' F e3 r3 f3=>⟨Φ,η,my,y,s.same e3,eb,fun w H2 F2 e4 r4 f4=>?_⟩⟩
   cases x with
   | int i' =>
    cases ei
    cases y with
    | int j' =>
     cases ej
     refine ⟨i,j,by rw [r3.int_inv,r4.int_inv],?_,k _ H2 [] (e3.trans e4) (pM H2 i (j - i).toNat) fun a h=>by simp at h⟩
     unfold B62 at hj
     omega
    | _=>cases ej
   | _=>cases ei
  ·cases e2
theorem fD {Fs:Yk} {i:Nat} {F:Xl} (h:Fs[i]?=some F) {a:Addr} (ha:a∈F):a∈Fs.flatten:=(gy h).subset ha
theorem AB {H:Hp} {a:Addr} {vs:List V} {ts:Vu} {Fs:Yk} (K:Xy) (ha:H a=some (.lst vs)) (r:RpL G H vs ts Fs):ItOk G (Itl K a) ts (a :: Fs.flatten) H:=by
 refine ⟨fun H2 k c=>?_,fun b hb=>?_⟩
 ·have ha2:H2 a=some (.lst vs):=c a Zw _ ha
  have r2:RpL G H2 vs ts Fs:=r.keep k fun b hb o ho=>c b (Zx _ hb) o ho
  refine ⟨fun i t h=>?_,fun i h=>⟨vs,SqL.of ha2,by rw [r.len.1];exact h⟩⟩
  obtain ⟨v,F,h1,h2,h3⟩:=r2.get i h
  refine ⟨⟨vs,v,SqL.of ha2,h1⟩,fun x H3 ⟨e1,e2⟩=>?_⟩
  subst e1
  have ex:=e2 vs (SqL.of ha2)
  rw [h1] at ex
  cases ex
  exact ⟨aU.refl _,F,h3,fun b hb=>.inl (Zx _ (fD h2 hb))⟩
 ·rcases Zr.mp hb with rfl | hb
  ·rw [ha];exact fun z=>nomatch z
  ·exact Mut.ne_none (r.dom b hb)
theorem Bp {H:Hp} {a:Addr} {vs:List V} {ts:Vu} {Fs:Yk} (K:Xy) (ha:H a=some (.tup vs)) (r:RpL G H vs ts Fs):ItOk G (Itt K a) ts Fs.flatten H:=by
 refine ⟨fun H2 k c=>?_,fun b hb=>Mut.ne_none (r.dom b hb)⟩
 have ha2:H2 a=some (.tup vs):=k.tup a _ ha
 have r2:RpL G H2 vs ts Fs:=r.keep k fun b hb o ho=>c b hb o ho
 refine ⟨fun i t h=>?_,fun i h=>⟨vs,SqT.of ha2,by rw [r.len.1];exact h⟩⟩
 obtain ⟨v,F,h1,h2,h3⟩:=r2.get i h
 refine ⟨⟨vs,v,SqT.of ha2,h1⟩,fun x H3 ⟨e1,e2⟩=>?_⟩
 subst e1
 have ex:=e2 vs (SqT.of ha2)
 rw [h1] at ex
 cases ex
 exact ⟨aU.refl _,F,h3,fun b hb=>.inl (fD h2 hb)⟩
noncomputable def tG (G:Gx) (g:Tg):TG:=fun v σ H Q=>∃ Φ η t F η',SR G Φ η σ H/\Rp G H v t F/\(∀ a∈F,¬ bZ Φ η a)/\g t η=some η' ∧
 ∀ Φ' σ',SR G Φ' η' σ' H->(∀ a,bZ Φ' η' a->bZ Φ η a)->(∀ a,dE Φ' η' a->dE Φ η a\/a∈F)->Q σ' H
noncomputable def tGs (G:Gx) (gs:List Tg):TGs:=fun vs σ H Q=>∃ Φ η ts Fs η',SR G Φ η σ H/\RpL G H vs ts Fs/\(∀ a∈Fs.flatten,¬ bZ Φ η a)/\lY gs ts η=some η' ∧
 ∀ Φ' σ',SR G Φ' η' σ' H->(∀ a,bZ Φ' η' a->bZ Φ η a)->(∀ a,dE Φ' η' a->dE Φ η a\/a∈Fs.flatten)->Q σ' H
noncomputable def PVG (G:Gx) (X:Cx) (e:Expr) (g:Tg):Prop:=PG X e (tG G g)
noncomputable def oO (G:Gx) (X:Cx) (e:List Expr) (g:List Tg):Prop:=PGs X e (tGs G g)
theorem PG.weak {X:Cx} {e:Expr} {t t':TG} (h:PG X e t) (w:∀ v σ H Q,t' v σ H Q->t v σ H Q):PG X e t':=fun pins s σ H v u Q I r q=>h pins s σ H v u Q I r (w v σ H Q q)
theorem PGs.weak {X:Cx} {e:List Expr} {t t':TGs} (h:PGs X e t) (w:∀ v σ H Q,t' v σ H Q->t v σ H Q):PGs X e t':=fun pins s σ H v u Q I r q=>h pins s σ H v u Q I r (w v σ H Q q)
theorem ye (i:Nat) {x:Str} (hN:X.N.Nodup) (hi:X.N[i]?=some x:=by rfl) (hx:Loc X.env.scope x:=by first | exact Or.inl rfl | exact Or.inr rfl)
  (hf:X.fn x=true\/X.env.scope.names.lookup x=some .local:=by first | exact .inl rfl | exact .inr rfl):PVG G X (.Name x pos) (bE i):=PG.weak (sH hN hi hx hf) fun v σ H Q hq=>by
 obtain ⟨Φ,η,t,F,η',s,r,no,e,k⟩:=hq
 unfold bE at e
 split at e
 ·rename_i hl
  cases e
  refine k (hJ Φ i F) (σ.set i (some v)) (s.put (c:=.pu t) hl r (fun j c' n hj w q=>q) (fun u hu=>nomatch hu) (fun u hu=>nomatch hu) fun j u n hj a ha ha'=>no a ha' ⟨j,u,hj,ha⟩) (fun a h=>?_) fun a h=>?_
  ·rcases jc h with ⟨u,hu,_⟩ | z
   ·cases hu
   ·exact z
  ·rcases oC h with ⟨u,hu,ha⟩ | z
   ·exact .inr ha
   ·exact .inl z
 ·cases e
theorem vO:oO G X [] []:=PGs.weak yW fun v σ H Q hq=>by
 obtain ⟨Φ,η,ts,Fs,η',s,r,no,e,k⟩:=hq
 cases r with
 | nil =>
  cases (show some η=some η' from e)
  exact ⟨rfl,k Φ σ s (fun _ h=>h) fun _ h=>.inl h⟩
 | cons r q=>cases (show (none:Option VS.Env)=some η' from e)
theorem ub {g:Tg} {gs:List Tg} (h1:PVG G X e g) (h2:oO G X es gs) (hs:(assignEach (e :: es) X.env).map (·.2)=assign e X.env :: (assignEach es X.env).map (·.2):=by rfl):oO G X (e :: es) (g :: gs) :=
 PGs.weak (ya h1 h2 hs) fun v σ H Q hq=>by
  obtain ⟨Φ,η,ts,Fs,η',s,r,no,e,k⟩:=hq
  cases r with
  | nil=>cases (show (none:Option VS.Env)=some η' from e)
  | cons r q =>
   rename_i v' t' F' vs' ts' Fs'
   obtain ⟨η1,e1,e2⟩:=Zz.mp e
   refine ⟨_,_,rfl,Φ,η,_,_,η1,s,r,fun a ha=>no a (by rw [Zf];exact YV _ ha),e1,fun Φ1 σ1 s1 o1 p1=>?_⟩
   refine ⟨Φ1,η1,_,_,η',s1,q,fun a ha z=>no a (by rw [Zf];exact ZA _ ha) (o1 a z),e2,fun Φ2 σ2 s2 o2 p2=>k Φ2 σ2 s2 (fun a h=>o1 a (o2 a h)) fun a h=>?_⟩
   rcases p2 a h with h | h
   ·rcases p1 a h with h | h
    ·exact .inl h
    ·exact .inr (by rw [Zf];exact YV _ h)
   ·exact .inr (by rw [Zf];exact ZA _ h)
theorem qq:∀ {gs:List Tg} {ts:Vu} {η η':VS.Env},lY gs ts η=some η'->ts.length=gs.length
 | [],[],_,_,_=>rfl
 | [],_ :: _,_,_,h=>by simp [lY] at h
 | _ :: _,[],_,_,h=>by simp [lY] at h
 | g :: gs,t :: ts,η,η',h=>by
  obtain ⟨η1,_,e2⟩:=Zz.mp (show (g t η).bind (fun η'=>lY gs ts η')=some η' from h)
  simp [qq e2]
theorem zG {gs:List Tg} {k:Nat} (hc:X.calm=true) (h:oO G X es gs) (hn:(assignEach es X.env).length=gs.length:=by rfl) (hst:(assignEach es X.env).findIdx? (·.1)=none:=by rfl) (hK:X.K=G.K:=by rfl):PVG G X (.Tuple es k pos) (ja gs) :=
 PG.weak (BQ (n:=gs.length) hc h hn hst) fun v σ H Q hq=>by
  obtain ⟨Φ,η,t,F,η',s,r,no,e,q⟩:=hq
  unfold ja at e
  split at e
  ·rename_i l
   obtain ⟨a',vs,Fs,rfl,rfl,ha',ra⟩:=r.tup_inv
   exact ⟨a',vs,rfl,SqT.of ha',by rw [ra.len.1];exact qq e,Φ,η,l,Fs,η',s,ra,no,e,q⟩
  ·cases e
theorem nq {tgt:Tg} {body:Sx} {l:Vu} {η:VS.Env} {i:Nat} {t:T} (h:l[i]?=some t):l.drop i=t :: l.drop (i+1):=by
 obtain ⟨hi,e⟩:=Zb.mp h
 rw [← e]
 exact Ya hi
theorem Ah {iter:Expr} {body:List Stmt} {ci:Its} {g:Tg} {cb:Sx} (hp:PassesOwn (model X.prog X.w) X.A X.env X.xe) (hc:X.calm=true) (hi:PVI G X tg iter ci) (hg:PVG G X tg g) (hb:dS G X body cb)
  (hs:∀ x,foldedSetIterable iter X.env x=pure x:=by intro _;rfl):PSV G X (.For tg iter body [] pos) (eW g ci cb):=PS.weak (B4 hp hc hi hg hb hs) fun D σ H hq=>by
 obtain ⟨Φ,η,o,s,e,k⟩:=hq
 unfold eW at e
 obtain ⟨⟨m,l⟩,el,e1⟩:=Zz.mp e
 dsimp only at e1
 split at e1
 ·rename_i hm
  have hm':m ≠ .bo:=fun z=>by rw [z] at hm;cases hm
  refine ⟨Φ,η,m,l,s,el,fun J H' C e2 ok fc=>?_⟩
  have cno:∀ a∈C,¬ bZ Φ η a:=fun a ha z=>by
   rcases fc a ha with q | q | q
   ·exact Mut.ne_none (s.ow_dom z) q
   ·exact s.ow_pu z q
   ·exact hm' q.1
  refine ⟨fun i n σ2 H2=>n=l.length - i/\∃ Φ2 η2,SR G Φ2 η2 σ2 H2/\Frm Φ η H Φ2 η2 H2/\Kept H' H2/\(∀ a∈C,∀ o,H' a=some o->H2 a=some o/\¬ bZ Φ2 η2 a)/\forL g cb (l.drop i) η2=some o,
   ⟨l.length - 0,rfl,Φ,η,s.same e2,Frm.same e2,Kept.refl _,fun a ha o' ho=>⟨ho,cno a ha⟩,by rw [XT];exact e1⟩,?_⟩
  rintro i n σ2 H2 ⟨rfl,Φ2,η2,s2,f2,kp,con,e3⟩
  obtain ⟨go,stop⟩:=ok.run H2 kp fun a ha o' ho=>(con a ha o' ho).1
  cases hit:l[i]? with
  | none =>
   have hl:l.length<=i:=YM.mp hit
   left
   rw [Y9 hl] at e3
   cases (show some (Out.nx η2)=some o from e3)
   exact ⟨stop i hl,k Φ2 σ2 H2 s2 f2⟩
  | some t =>
   have hl:i < l.length:=(Zb.mp hit).1
   right
   obtain ⟨g1,y1⟩:=go i t hit
   rw [nq (tgt:=g) (body:=cb) (η:=η2) hit] at e3
   obtain ⟨η3,e4,e5⟩:=Zz.mp (show (g t η2).bind (fun η1=>(cb η1).bind fun o=>match o with
    | .nx η2=>forL g cb (l.drop (i+1)) η2
    | .ct η2=>forL g cb (l.drop (i+1)) η2
    | .bk η2=>some (.nx η2)
    | .rt v η2=>some (.rt v η2))=some o from e3)
   obtain ⟨o',e6,e7⟩:=Zz.mp e5
   refine ⟨g1,fun σ4 H4=>∃ Φ4 η4,SR G Φ4 η4 σ4 H4/\Frm Φ η H Φ4 η4 H4/\Kept H' H4/\(∀ a∈C,∀ o,H' a=some o->H4 a=some o/\¬ bZ Φ4 η4 a)/\forL g cb (l.drop (i+1)) η4=some o,fun σ4 H4 ⟨Φ4,η4,q⟩=>⟨l.length - (i+1),by omega,rfl,Φ4,η4,q⟩,fun x H3 yl=>?_⟩
   obtain ⟨e8,F,rF,hF⟩:=y1 x H3 yl
   have s3:=s2.same e8
   have noF:∀ a∈F,¬ bZ Φ2 η2 a:=fun a ha z=>by
    rcases hF a ha with q | q
    ·have hne:=ok.dom a q
     cases ho:H' a with
     | none=>exact hne ho
     | some o''=>exact (con a q o'' ho).2 z
    ·exact Mut.ne_none (s2.ow_dom z) q
   refine ⟨Φ2,η2,t,F,η3,s3,rF,noF,e4,fun Φ3 σ3 s4 o3 p3=>?_⟩
   have f3:Frm Φ η H Φ3 η3 H3:=⟨fun a o' h n=>let ⟨h1,n1⟩:=f2.keep a o' h n;⟨e8 a o' h1,fun z=>n1 (o3 a z)⟩,fun a h z=>f2.dom a h (e8.free z),fun a h=>f2.ow a (o3 a h),fun a h=>by
    rcases p3 a h with h | h
    ·exact f2.pu a h
    ·rcases hF a h with q | q
     ·rcases fc a q with q | q | q
      ·exact .inr (.inr q)
      ·exact .inl q
      ·exact .inr (.inl q.2)
     ·exact .inr (.inr (f2.none q)),f2.kept.trans (Kept.of e8)⟩
   have next:∀ {Φ4 η4 H4},Frm Φ3 η3 H3 Φ4 η4 H4->Kept H' H4/\∀ a∈C,∀ o,H' a=some o->H4 a=some o/\¬ bZ Φ4 η4 a:=fun fb =>
    ⟨(kp.trans (Kept.of e8)).trans fb.kept,fun a ha o' ho=>by
     obtain ⟨h1,n1⟩:=con a ha o' ho
     exact fb.keep a o' (e8 a o' h1) fun z=>n1 (o3 a z)⟩
   refine ⟨Φ3,η3,o',s4,e6,?_⟩
   cases o' with
   | nx η4=>exact fun Φ4 σ4 H4 s5 fb=>⟨Φ4,η4,s5,f3.trans fb,(next fb).1,(next fb).2,e7⟩
   | ct η4=>exact fun Φ4 σ4 H4 s5 fb=>⟨Φ4,η4,s5,f3.trans fb,(next fb).1,(next fb).2,e7⟩
   | bk η4 =>
    cases (show some (Out.nx η4)=some o from e7)
    exact fun Φ4 σ4 H4 s5 fb=>k Φ4 σ4 H4 s5 (f3.trans fb)
   | rt v η4 =>
    cases (show some (Out.rt v η4)=some o from e7)
    exact fun u H4 F4 Φ4 σ4 s5 fb r5 q5=>k u H4 F4 Φ4 σ4 s5 (f3.trans fb) r5 (q5.back f3)
 ·cases e1
end
noncomputable def Fh (H:Hp) (Fs:Yk):Md->Xl->Prop
 | .fr,F=>F.Nodup/\∀ a∈F,H a=none
 | _,F=>∀ a∈F,H a=none\/a∈Fs.flatten
noncomputable def spF (G:Gx) (g:Fn):Sp:=fun vs H Q _=>∃ ts Fs m r,RpL G H vs ts Fs/\g ts=some (m,r)/\∀ v H' F,aU H H'->Rp G H' v r F->Fh H Fs m F->Q v H'
section
variable {G:Gx} {X:Cx} {k:Nat} {f:Addr} {fd:FuncData} {ps:List Str} {x:Str} {p pos:Pos} {e:Expr} {es:List Expr} {cs:Exs} {g:Fn}
theorem call_of {σ:L2.St} {H:Hp} {Q:VK} {E:XK} (h:tE G (aZ g cs) σ H Q):AJ (spF G g) [] E (tEs G cs) σ H Q:=by
 obtain ⟨Φ,η,m,t,s,e,kk⟩:=h
 unfold aZ at e
 obtain ⟨l,el,e1⟩:=Zz.mp e
 obtain ⟨⟨n,r⟩,er,e2⟩:=Zz.mp e1
 refine ⟨Φ,η,l,s,el,fun vs H1 Fs q1 q2 q3=>?_⟩
 have A:Args G Φ η H H1 l vs Fs:=⟨q1,q2,q3⟩
 have jn:=q3.join A.len
 show spF G g (vs++[]) H1 Q E
 rw [Z7]
 refine ⟨trees l,Fs,n,r,q2,er,fun v H' F q4 q5 q6=>?_⟩
 have wide:(∀ a∈F,H1 a=none\/a∈Fs.flatten)->Fp Φ η H ((Md.pu).join (bX l)) F:=fun h=>by
  cases ej:bX l with
  | fr =>
   rw [ej] at jn
   exact fun a ha=>.inl ((h a ha).elim q1.free (jn.2 a))
  | pu =>
   rw [ej] at jn
   exact fun a ha=>(h a ha).elim (fun z=>.inl (q1.free z)) (jn a)
  | bo =>
   rw [ej] at jn
   exact fun a ha=>(h a ha).elim (fun z=>.inl (q1.free z)) (jn a)
 cases n with
 | fr =>
  cases e2
  exact kk v H' F (q1.trans q4) q5 ⟨q6.1,fun a ha=>q1.free (q6.2 a ha)⟩
 | pu =>
  cases e2
  exact kk v H' F (q1.trans q4) q5 (wide q6)
 | bo =>
  cases e2
  exact kk v H' F (q1.trans q4) q5 (wide q6)
theorem AA (F:FnOk X.prog X.w X.K X.mg X.base CX0 k f fd ps (spF G g)) (hr:Room k X.A) (hg:Gl X x) (hm:X.mg x=some (.ref f)) (hk:PySem.W.keepIn X.K (.ref f)=true) (hb:Binds X.K fd ps [])
  (ha:PVs G X (e :: es) cs) (hdb:(x == ("__debug__" : Str))=false:=by decide) (he:starEach (e :: es) X.env=(false,eval e X.env) :: starEach es X.env:=by rfl) (hpl:(backTo pos (starEach es X.env)).any (·.1)=false:=by rfl) :
  PV G X (.Call (.Name x p) (e :: es) [] pos) (aZ g cs) :=
 PE.weak (zg F hr hg hm hk hb .nil DS ha hdb he hpl) fun σ H Q h=>call_of h
theorem pX {H:Hp} {vs:List V} {ts:Vu} {Fs:Yk} (r:RpL G H vs ts Fs) (n nv:Nat) (hv:nv=vs.length):SR G (fun i=>Fs.getD i []) (ts.map (fun t=>some (.pu t))++List.replicate (n - ts.length) none) (vs.map some++List.replicate (n - nv) none) H:=by
 subst hv
 have hl:=r.len
 have back:∀ {i:Nat} {c:Cell},(ts.map (fun t=>some (Cell.pu t))++List.replicate (n - ts.length) none)[i]?=some (some c)->∃ t,ts[i]?=some t/\c=.pu t:=fun {i c} h=>by
  by_cases hi:i < ts.length
  ·rw [Yo (by rw [Zt];exact hi),Z1] at h
   obtain ⟨t,h1,h2⟩:=Zo.mp h
   exact ⟨t,h1,(ZK h2).symm⟩
  ·rw [Yw (by rw [Zt];exact Xj hi),Y6] at h
   split at h <;> cases h
 refine ⟨by simp;lia,fun i c h=>?_,fun i t h=>?_,fun i j t c h=>?_⟩
 ·obtain ⟨t,h1,rfl⟩:=back h
  obtain ⟨v,F,g1,g2,g3⟩:=r.get i h1
  refine ⟨v,?_,?_⟩
  ·have:i < vs.length:=(Zb.mp g1).1
   rw [Yo (by rw [Zt];exact this),Z1,g1]
   rfl
  ·show Rp G H v t (Fs.getD i [])
   rw [ZE,g2]
   exact g3
 ·obtain ⟨t',_,h2⟩:=back h
  cases h2
 ·obtain ⟨t',_,h2⟩:=back h
  cases h2
theorem cM {ts:Vu} {n:Nat} {Φ:Fps} {a:Addr}:¬ bZ Φ (ts.map (fun t=>some (Cell.pu t))++List.replicate n none) a:=by
 rintro ⟨i,t,h,_⟩
 by_cases hi:i < ts.length
 ·rw [Yo (by rw [Zt];exact hi),Z1] at h
  obtain ⟨t',_,h2⟩:=Zo.mp h
  cases h2
 ·rw [Yw (by rw [Zt];exact Xj hi),Y6] at h
  split at h <;> cases h
theorem jy {H:Hp} {vs:List V} {ts:Vu} {Fs:Yk} {n:Nat} {a:Addr} (h:dE (fun i=>Fs.getD i []) (ts.map (fun t=>some (Cell.pu t))++List.replicate n none) a):a∈Fs.flatten:=by
 obtain ⟨i,t,_,h2⟩:=h
 simp only [ZE] at h2
 cases e:Fs[i]? with
 | none=>rw [e] at h2;simp at h2
 | some F=>rw [e] at h2;exact fD e h2
end
section
variable {G:Gx} {P:Program} {w:World} {K:Xy} {mg:Xm} {base:Heap}
theorem fnV {x qual:Str} {st:Stmt} {f:Addr} {fd:FuncData} {N ps:List Str} {k np nn:Nat} {c:Sx} (F:Fun K x qual st f fd) (S:FnScope N ps (ao st)) (hp:ps.length=np) (hn:N.length=nn)
  (hb:∀ (cdv:Value) (A:Around) (outer:List PySem.Env) (s:Shared) (H:Hp) (E:XK),Room k (A.deeper (envOfC qual (ao st) s.heap.objs.size f cdv))->dS G (jC CX0 P w K mg base N qual (ao st) f cdv A outer s H E).nox (aK st) c) :
  FnOk P w K mg base CX0 (k+1) f fd ps (spF G (fn np nn c)):=by
 refine F.ok S (fun vs H Q E h=>?_) fun cdv A outer s H vs Q E hr h=>⟨_,hb cdv A outer s H E hr,?_⟩
 ·obtain ⟨ts,Fs,m,r,h1,h2,_⟩:=h
  unfold fn at h2
  split at h2
  ·rename_i hl
   rw [h1.len.1,hl,hp]
  ·cases h2
 ·obtain ⟨ts,Fs,m,r,h1,h2,q⟩:=h
  unfold fn at h2
  split at h2
  ·rename_i hl
   obtain ⟨o,e1,e2⟩:=Zz.mp h2
   have s0:=pX h1 nn vs.length rfl
   rw [hl] at s0
   have e3:L2.start N vs=vs.map some++List.replicate (nn - vs.length) none:=by
    unfold L2.start
    rw [hn]
   rw [e3]
   refine ⟨_,_,o,s0,e1,?_⟩
   cases o with
   | nx η' =>
    cases e2
    intro Φ' σ' H' s' fr
    exact q .non H' [] (fun a o h=>(fr.keep a o h cM).1) .non ⟨List.nodup_nil,fun a h=>by simp at h⟩
   | rt v η' =>
    cases e2
    intro u H' F' Φ' σ' s' fr r' rf
    refine q u H' F' (fun a o h=>(fr.keep a o h cM).1) r' ?_
    cases m with
    | fr=>exact ⟨rf.1,fun a ha=>(rf.2 a ha).elim id fun z=>absurd z cM⟩
    | pu=>exact fun a ha=>(rf a ha).elim .inl fun z=>z.elim (fun z=>.inr (jy (H:=H) (vs:=vs) z)) fun z=>absurd z cM
    | bo=>exact fun a ha=>(rf a ha).elim .inl fun z=>z.elim (fun z=>.inr (jy (H:=H) (vs:=vs) z)) fun z=>absurd z cM
   | bk η'=>cases e2
   | ct η'=>cases e2
  ·cases h2
end
end VS
end
section
namespace L2
open PySem PySem.Spec PyProof.Rows
theorem jV (env:Env):∀ (l:List (Str×NameKind)) (acc:List (Str×Addr)),(∀ y∈l,y.2=.free->∃ c,env.cells.lookup y.1=some c)->(∀ x c,acc.lookup x=some c->env.cells.lookup x=some c) →
  ∃ cl,(forIn l acc (fun x r=>if (x.snd == NameKind.free)=true then (do let a ← cellOf env x.fst;pure (ForInStep.yield ((x.fst,a) :: r))) else pure (ForInStep.yield r)):Sem (List (Str×Addr)))=pure cl ∧
   (∀ x c,cl.lookup x=some c->env.cells.lookup x=some c)/\(∀ x c,acc.lookup x=some c->∃ c',cl.lookup x=some c')/\∀ y∈l,y.2=.free->∃ c,cl.lookup y.1=some c
 | [],acc,_,ha=>⟨acc,rfl,ha,fun x c h=>⟨c,h⟩,fun y hy=>nomatch hy⟩
 | (n,k) :: l,acc,hf,ha=>by
  by_cases hk:k=.free
  ·subst hk
   obtain ⟨c,hc⟩:=hf (n,.free) Zw rfl
   have ec:cellOf env n=pure c:=by unfold cellOf;dsimp only at hc;rw [hc]
   have ha':∀ x c',((n,c) :: acc).lookup x=some c'->env.cells.lookup x=some c':=fun x c' h=>by
    rw [YD] at h
    split at h
    ·rename_i hx
     have:x=n:=by simpa using hx
     rw [this,← h];exact hc
    ·exact ha x c' h
   obtain ⟨cl,h1,h2,h3,h4⟩:=jV env l ((n,c) :: acc) (fun y hy=>hf y (Zx _ hy)) ha'
   refine ⟨cl,?_,h2,fun x c' h=>?_,fun y hy hyf=>?_⟩
   ·rw [List.forIn_cons]
    dsimp only
    rw [Zq (show (NameKind.free == NameKind.free)=true from rfl),ec,pure_bind,pure_bind]
    exact h1
   ·by_cases hx:x=n
    ·exact h3 x c (by rw [YD,hx];simp)
    ·refine h3 x c' ?_
     rw [YD]
     have:(x == n)=false:=by simpa using hx
     rw [this];exact h
   ·rcases Zr.mp hy with rfl | hy
    ·exact h3 n c (by rw [YD];simp)
    ·exact h4 y hy hyf
  ·obtain ⟨cl,h1,h2,h3,h4⟩:=jV env l acc (fun y hy=>hf y (Zx _ hy)) ha
   refine ⟨cl,?_,h2,h3,fun y hy hyf=>?_⟩
   ·rw [List.forIn_cons]
    dsimp only
    rw [Zn (by simpa using hk),pure_bind]
    exact h1
   ·rcases Zr.mp hy with rfl | hy
    ·exact absurd hyf hk
    ·exact h4 y hy hyf
theorem zf {sc:Scope} {env:Env} (hf:∀ y∈sc.names,y.2=.free->∃ c,env.cells.lookup y.1=some c) :
  ∃ cl,closureFor sc env=pure cl/\(∀ x c,cl.lookup x=some c->env.cells.lookup x=some c)/\∀ y∈sc.names,y.2=.free->∃ c,cl.lookup y.1=some c:=by
 obtain ⟨cl,h1,h2,_,h4⟩:=jV env sc.names [] hf (fun x c h=>nomatch h)
 refine ⟨cl,?_,h2,h4⟩
 simp only [closureFor]
 rw [h1]
 rfl
theorem fP {l:List (Str×NameKind)} {x:Str} {k:NameKind} (h:l.lookup x=some k):(x,k)∈l:=by
 induction l with
 | nil=>cases h
 | cons p l ih =>
  rw [YD] at h
  split at h
  ·rename_i hx
   have e:x=p.1:=by simpa using hx
   cases h
   rw [e];exact Zw
  ·exact Zx _ (ih h)
theorem dk {env:Env} {x:Str} {k:NameKind}:∀ {l:List (Str×NameKind)},(l.map fun (n,k)=>if (k == NameKind.free && env.scope.kind == .function && env.kindOf n == some .cell) then (n,NameKind.cell) else (n,k)).lookup x=some k →
  ∃ k0,l.lookup x=some k0/\(k=k0\/(k0=.free/\k=.cell))
 | [],h=>nomatch h
 | (n,k1) :: l,h=>by
  rw [Zu,YD] at h
  by_cases hc:(k1 == NameKind.free && env.scope.kind == .function && env.kindOf n == some .cell)=true
  ·simp only [hc,if_true] at h
   rw [YD]
   cases hx:x == n with
   | true =>
    rw [hx] at h
    have:k1=.free:=by
     have:=(XG.mp (XG.mp hc).1).1
     simpa using this
    exact ⟨k1,rfl,.inr ⟨this,(ZK h).symm⟩⟩
   | false=>rw [hx] at h;exact dk h
  ·simp only [hc,if_false,ZC] at h
   rw [YD]
   cases hx:x == n with
   | true=>rw [hx] at h;exact ⟨k1,rfl,.inl (ZK h).symm⟩
   | false=>rw [hx] at h;exact dk h
noncomputable def bx (X:Cx) (N:List Str) (sc:Scope) (cl:List (Str×Addr)) (C:Addr) (s:Shared) (H:Hp) (fp:Xl):Cx :=
 { X with N:=N,s₀:=s,H₀:=H,env:=compEnvC sc cl C X.env,outer:=X.stack,ex:=fp,fn:=fun _=>false,pn:=[],xe:=fun _ _=>False }
noncomputable def lM (env:Env) (sc:Scope):Bool:=sc.kind == .function && sc.names.all fun y=>match y.2 with
 | .cell=>false
 | .local=>sc.names.lookup y.1 == some .local
 | .free=>env.kindOf y.1 == some .cell || env.kindOf y.1 == some .free
 | _=>true
noncomputable def jv (sc:Scope):List Str->List Str->Bool
 | [],[]=>true
 | a :: as,b :: bs=>((a == b && sc.names.lookup a == some .free) || sc.names.lookup a == none || sc.names.lookup a == some .globalImplicit) && jv sc as bs
 | _,_=>false
theorem sq {sc:Scope}:∀ {as bs:List Str},jv sc as bs=true->as.length=bs.length/\∀ (i:Nat) (x:Str),as[i]?=some x->(bs[i]?=some x/\sc.names.lookup x=some .free)\/sc.names.lookup x=none\/sc.names.lookup x=some .globalImplicit
 | [],[],_=>⟨rfl,fun i x h=>by simp at h⟩
 | a :: as,b :: bs,h=>by
  simp only [jv,Z3] at h
  obtain ⟨h1,h2⟩:=h
  obtain ⟨l,r⟩:=sq h2
  refine ⟨by simp [l],fun i x e=>?_⟩
  cases i with
  | zero =>
   have:a=x:=by simpa using e
   subst this
   simp only [Bool.or_eq_true,Z3] at h1
   rcases h1 with (⟨z1,z2⟩ | z) | z
   ·exact .inl ⟨by simpa using (by simpa using z1:a=b).symm,by simpa using z2⟩
   ·exact .inr (.inl (by simpa using z))
   ·exact .inr (.inr (by simpa using z))
  | succ i=>simpa using r i x (by simpa using e)
 | [],_ :: _,h=>by simp [jv] at h
 | _ :: _,[],h=>by simp [jv] at h
section
variable {X:Cx} {pins:Yz} {σ:St} {H:Hp} {s:Shared}
theorem Inv.block {N:List Str} {sc:Scope} {cl:List (Str×Addr)} {C D:Addr} {fp:Xl} {k:Nat} {h1:Heap} {t:Nat} {m:Xm} (I:Inv X pins σ H s) (hsc:lM X.env sc=true) (hnm:jv sc (N.drop k) X.N=true) (hNl:k<=N.length)
  (hc1:∀ x c,cl.lookup x=some c->X.env.cells.lookup x=some c) (hc2:∀ y∈sc.names,y.2=.free->∃ c,cl.lookup y.1=some c) (hfp:∀ b∈fp,iY X pins H b) (hD:s.heap.objs.size<=D) (hC:s.heap.objs.size<=C) (hDC:D ≠ C) (hfC:C ∉ fp)
  (keep:∀ b u,s.heap.get? b=some u->h1.get? b=some u) (hns:h1.Ns C m) (hDo:h1.get? D=some { cls:=.type "list",data:=.seq ([]:Xg).toArray 0 }) :
  Inv (bx X N sc cl C s H fp) [] (List.replicate k none++σ) (upd H D (.lst [])) { s with heap:=h1,toks:=t }:=by
 unfold lM at hsc
 rw [Z3,Yb] at hsc
 obtain ⟨hk,hall⟩:=hsc
 have hkind:sc.kind=.function:=by simpa using hk
 obtain ⟨hlen,hat⟩:=sq hnm
 have hcell:∀ y∈sc.names,y.2 ≠ .cell:=fun y hy e=>by have:=hall y hy;rw [e] at this;cases this
 have frees:∀ x k',(relabel sc X.env).names.lookup x=some k'->k'=.cell\/k'=.free->sc.names.lookup x=some .free:=fun x k' h hk'=>by
  obtain ⟨k0,h0,hk0⟩:=dk h
  rcases hk0 with e | ⟨e,_⟩
  ·subst e
   rcases hk' with e | e
   ·subst e;exact absurd rfl (hcell _ (fP h0))
   ·subst e;exact h0
  ·subst e;exact h0
 have hHD:H D=none:=I.hok.fresh hD
 have hHC:H C=none:=I.hok.fresh hC
 refine ⟨⟨I.mod,hkind,I.ok.glob,I.ok.blt,hC,fun x y c e1 e2=>I.ok.inj x y c (hc1 x c e1) (hc1 y c e2),fun x hx=>?_,fun x c e=>(nomatch e),I.ok.hd,I.ok.frames,.inl rfl,fun b hb=>⟨fun (e:b=C)=>hfC (e ▸ hb),fun x c e=>(hfp b hb).2.2.2.2.1 x c (hc1 x c e)⟩,
  I.bs,ZV I.ok.bsz I.sz,fun b o e hb=>?_,fun b hb hb'=>?_,I.stack,I.stkFree⟩,rfl,I.bare,Un.laid keep hD hHD,⟨m,hns,fun i x v e1 e2 e3=>?_⟩,fun x c e=>?_,?_,fun x c e=>?_,fun p hp=>(nomatch hp),I.hok.laid keep hD ?_,?_⟩
 ·have h:∃ k',(relabel sc X.env).names.lookup x=some k'/\(k'=.cell\/k'=.free):=by
   rcases hx with e | e
   ·exact ⟨_,e,.inl rfl⟩
   ·exact ⟨_,e,.inr rfl⟩
  obtain ⟨k',h1',h2'⟩:=h
  exact hc2 _ (fP (frees x k' h1' h2')) rfl
 ·have hb':b∈fp:=hb
  rcases (hfp b hb').2.2.2.1 with z | z
  ·exact I.ok.noex b o e z
  ·exact absurd (ZQ (ZY e) (ZV I.ok.bsz z)) (Y3 _)
 ·have hb0:b∈frs X.stack:=hb'
  rcases Zr.mp (I.stkSub b hb0) with z | z
  ·exact (hfp b hb).2.1 z
  ·exact (hfp b hb).2.2.1 z
 ·
  have hik:k<=i:=by
   rcases XA i k with z | z
   ·rw [Yo (by simpa using z),Y6] at e2
    split at e2 <;> cases e2
   ·exact z
  rw [Yw (by simpa using hik),Xu] at e2
  have e1':(N.drop k)[i - k]?=some x:=by
   rw [List.getElem?_drop,show k+(i - k)=i by exact WE hik];exact e1
  have vis:sc.names.lookup x=some .free->∃ k',(relabel sc X.env).names.lookup x=some k'/\(k'=.cell\/k'=.free):=fun h0=>by
   have e3':Vis (relabel sc X.env) x:=e3
   rcases e3' with z | z | z
   ·obtain ⟨k0,h1',h2'⟩:=dk z
    rw [h0] at h1';cases h1'
    rcases h2' with q | ⟨_,q⟩ <;> cases q
   ·exact ⟨_,z,.inl rfl⟩
   ·exact ⟨_,z,.inr rfl⟩
  have no:∀ k0,sc.names.lookup x=some k0->∃ k',(relabel sc X.env).names.lookup x=some k'->True:=fun _ _=>⟨.local,fun _=>trivial⟩
  rcases hat _ x e1' with ⟨hX,h0⟩ | h0 | h0
  ·obtain ⟨k',hk1,hk2⟩:=vis h0
   have hf:=hall _ (fP h0)
   have hf':X.env.kindOf x=some .cell\/X.env.kindOf x=some .free:=by
    simpa using hf
   obtain ⟨mX,hnX,hlX⟩:=I.loc
   have visX:Vis X.env.scope x:=hf'.elim (fun z=>.inr (.inl z)) fun z=>.inr (.inr z)
   obtain ⟨u,r,l⟩:=hlX _ x v hX e2 visX
   refine ⟨u,r,.inr ⟨?_,?_⟩⟩
   ·rcases hk2 with z | z
    ·subst z;exact .inl hk1
    ·subst z;exact .inr hk1
   ·obtain ⟨c,hc⟩:=hc2 _ (fP h0) rfl
    refine ⟨c,hc,?_⟩
    rcases l with ⟨z,_⟩ | ⟨_,c',hc',hcell'⟩
    ·rcases hf' with q | q <;> (rw [z] at q;cases q)
    ·have:=hc1 x c hc
     rw [hc'] at this;cases this
     exact hcell'.keeps keep
  ·have e3':Vis (relabel sc X.env) x:=e3
   rcases e3' with z | z | z <;> (obtain ⟨k0,z1,_⟩:=dk z;rw [h0] at z1;cases z1)
  ·have e3':Vis (relabel sc X.env) x:=e3
   rcases e3' with z | z | z <;> (obtain ⟨k0,z1,z2⟩:=dk z;rw [h0] at z1;cases z1;rcases z2 with q | ⟨q,_⟩ <;> cases q)
 ·obtain ⟨v,z⟩:=I.cell x c (hc1 x c e)
  exact ⟨v,z.keeps keep⟩
 ·show upd H D (.lst []) C=none
  rw [aw (YI hDC)];exact hHC
 ·obtain ⟨v,z⟩:=I.cell x c (hc1 x c e)
  rw [aw (Z0 (ZQ z.lt hD))]
  exact I.freeC x c (hc1 x c e)
 ·exact ⟨ZU _,[],0,.nil,hDo⟩
 ·show (List.replicate k none++σ).length=N.length
  rw [Zv,Xu,I.len,← hlen,ZR]
  exact WE hNl
noncomputable def zr (X:Cx) (ifs:List Expr) (t:TT):Prop :=
 ∀ (pins:Yz) (s:Shared) (σ:St) (H:Hp) (Q:Bool->Hp->Prop),Inv X pins σ H s->t σ H Q →
  wpAny (model X.prog X.w) X.A (forIn ifs true fun c r=>if r=true then (do let ok ← isTrue c X.env (eval c X.env);pure (ForInStep.yield ok)) else pure (ForInStep.yield r)) (TP X pins σ Q) X.xe s
theorem ph:zr X [] (fun σ H Q=>Q true H):=fun pins s σ H Q I q=>Zs ⟨H,I,q⟩
theorem vV {c:Expr} {t:TT} (h:PT X c t):zr X [c] t:=fun pins s σ H Q I q=>by
 rw [List.forIn_cons,Zq rfl]
 refine Zy (Zy (thn (h pins s σ H Q I q) fun b s1 q1=>Zs ?_))
 exact Zs q1
section
variable {prog:Program} {w:World} {A:Around} {R:Result->Shared->Prop}
theorem o9 {elt target iter:Expr} {ifs:List Expr} {scope:Scope} {pos:Pos} {it acc:Value} {env:Env} {s:Shared} (I:Nat->Shared->Prop)
  (turn:∀ n s,I n s->wpAny (model prog w) A (pyNext it) (fun r s₁=>match r with
   | none=>R (.ok .next) s₁
   | some v=>wpAny (model prog w) A (letOwnedTupleGo target it v) (fun _ s₀=>wpAny (model prog w) A (assign target env v) (fun _ s₂ =>
     wpAny (model prog w) A (forIn ifs true fun c r=>if r=true then (do let ok ← isTrue c env (eval c env);pure (ForInStep.yield ok)) else pure (ForInStep.yield r)) (fun ok s₃ =>
      if ok=true then wpAny (model prog w) A (eval elt env) (fun x s₄ =>
       wpAny (model prog w) A (call (.builtin "list.append") [acc,x]) (fun _ s₅=>∃ m,m < n/\I m s₅) (fun _ _=>False) s₄) (fun _ _=>False) s₃
      else ∃ m,m < n/\I m s₃) (fun _ _=>False) s₂) (fun _ _=>False) s₀) (fun _ _=>False) s₁) (fun _ _=>False) s)
  (n:Nat) (h:I n s) :
  codeAny (model prog w) A (.compLoop (.ListComp elt [⟨target,iter,ifs,0⟩] scope pos) 0 it acc env) R s:=by
 refine codeAny_loop rfl I (fun n s hI=>?_) n h
 show wpAny _ A ((compTurn (.ListComp elt [⟨target,iter,ifs,0⟩] scope pos) 0 it acc env).onRaise (fun x=>do noteFrame x env;theTreesLotGoes x)) _ _ s
 refine wpAny_noted ?_
 rw [compTurn_list]
 refine Zy (wpAny_standAt (Zy (Yp (turn n s hI) (fun r s₁ h₁=>?_) fun _ _ h'=>h'.elim)))
 cases r with
 | none=>exact Zs h₁
 | some v =>
  refine Zy (Yp h₁ (fun _ s₀ h₀=>?_) fun _ _ h'=>h'.elim)
  refine Zy (Yp h₀ (fun _ s₂ h₂=>Zy (Yp h₂ (fun ok s₃ h₃=>?_) fun _ _ h'=>h'.elim)) fun _ _ h'=>h'.elim)
  cases ok with
  | false=>exact Zs ⟨rfl,h₃⟩
  | true =>
   rw [Zq rfl] at h₃
   exact Zy (Zy (Yp h₃ (fun x s₄ h₄=>Zy (Yp h₄ (fun _ s₅ h₅=>Zs (Zs ⟨rfl,h₅⟩)) fun _ _ h'=>h'.elim)) fun _ _ h'=>h'.elim))
end
noncomputable def xH (k:Nat) (wi:TI) (g:TG) (tc:TT) (te:TE) (σ:St) (H:Hp) (Q:VK):Prop:=wi σ H fun J H1=>∀ D,H1 D=none->∃ W:Nat->Nat->St->Hp->Prop,
 (∃ m,W 0 m (List.replicate k none++σ) (upd H1 D (.lst [])))/\∀ i m σ' H',W i m σ' H'->(J.stop i H'/\Q (.ref D) H')\/(J.go i H'/\∀ x H2,J.yld i H' x H2->g x σ' H2 fun σ3 H3=>tc σ3 H3 fun b H4 =>
  if b=true then te σ3 H4 fun y H5=>∃ ys,H5 D=some (.lst ys)/\ys.length < sizeLine/\∃ m',m' < m/\W (i+1) m' σ3 (upd H5 D (.lst (ys++[y]))) else ∃ m',m' < m/\W (i+1) m' σ3 H4)
theorem uj {elt tg iter:Expr} {ifs:List Expr} {sc:Scope} {pos pos':Pos} {N:List Str} {k:Nat} {wi:TI} {g:TG} {tc:TT} {te:TE} {use:Option (Value->Sem Unit)} {QQ:Z9} {Q:VK} (hcalm:X.calm=true) (hi:PI X tg iter wi) (hsc:lM X.env sc=true)
  (hnm:jv sc (N.drop k) X.N=true) (hNl:k<=N.length) (hin:∀ cl C s H fp,PG (bx X N sc cl C s H fp) tg g/\zr (bx X N sc cl C s H fp) ifs tc/\PE (bx X N sc cl C s H fp) elt te)
  (hs:∀ x,foldedSetIterable iter X.env x=pure x) (I:Inv X pins σ H s) (h:xH k wi g tc te σ H Q)
  (hq:∀ s' H' D C m,Inv X pins σ H' s'->Q (.ref D) H'->s'.heap.Ns C m->iY X pins H' C->compPost (model X.prog X.w) X.A X.xe use QQ (.ref D) C (.ok .next) s') :
  wpAny (model X.prog X.w) X.A (comprehension (.ListComp elt [⟨tg,iter,ifs,0⟩] sc pos) sc X.env pos' (newList []) false (eval iter X.env) use) QQ X.xe s:=by
 have hsc':=hsc
 unfold lM at hsc'
 rw [Z3,Yb] at hsc'
 obtain ⟨hk,hall⟩:=hsc'
 have hkind:sc.kind=.function:=by simpa using hk
 have hcell:∀ y∈sc.names,y.2 ≠ .cell:=fun y hy e=>by have:=hall y hy;rw [e] at this;cases this
 have hnames:∀ y∈sc.names,y.2=.local->sc.names.lookup y.1=some .local:=fun y hy e=>by
  have:=hall y hy
  rw [e] at this
  simpa using this
 obtain ⟨cl,hcl,hc1,hc2⟩:=zf (sc:=sc) (env:=X.env) fun y hy e=>I.ok.has y.1 (by
  have:=hall y hy
  rw [e] at this
  simpa using this)
 refine wpAny_comprehension_free (use:=use) rfl hs hcl hkind hnames (thn (hi pins s σ H _ I h) fun v s1 h1=>thn h1 fun itv s2 h2=>?_)
 obtain ⟨it,fp,tn,J,H2,e,I2,T,st2,f2,hW⟩:=h2
 subst e
 refine XJ (wpAny_newFunctionEnv hcell (by intro y hy;simp at hy) (fun h₁ hns₁ hsb₁=>?_) hkind)
 dsimp only at hns₁ hsb₁ ⊢
 generalize hP:s2.heap.push { cls:=.type "list",dict:=none,data:=.seq ([]:Xg).toArray }=P at hns₁ hsb₁ ⊢
 have hCs:P.objs.size=s2.heap.objs.size+1:=by rw [← hP,Heap.size_push]
 have old:∀ b o,s2.heap.get? b=some o->h₁.get? b=some o:=fun b o e =>
  hsb₁.extBut b o (by rw [hCs];exact Z0 (WH (ZY e))) (Ze _ (hP ▸ Ze _ e))
 have hDC:s2.heap.objs.size ≠ P.objs.size:=by rw [hCs];exact Z0 (Nat.lt_succ_self _)
 have hDo:h₁.get? s2.heap.objs.size=some { cls:=.type "list",data:=.seq ([]:Xg).toArray 0 }:=hsb₁.extBut _ _ hDC (Ze _ (hP ▸ ZM _ rfl))
 have hCle:s2.heap.objs.size<=P.objs.size:=by rw [hCs];exact Nat.le_succ _
 have lt_fp:∀ b∈fp,b < s2.heap.objs.size:=fun b hb=>let ⟨o,ho,_⟩:=T.obj 0 _ st2 b hb;ZY ho
 have hfC:P.objs.size ∉ fp:=fun hb=>absurd (ZQ (lt_fp _ hb) hCle) (Y3 _)
 have IY:=I2.block (N:=N) (sc:=sc) (cl:=cl) (C:=P.objs.size) (D:=s2.heap.objs.size) (fp:=fp) (k:=k) (t:=s2.toks+([]:List (Str×Value)).length) hsc hnm hNl hc1 hc2 f2 (Zp _) hCle hDC hfC old hns₁ hDo
 obtain ⟨hG,hT,hE⟩:=hin cl P.objs.size s2 H2 fp
 generalize hY:bx X N sc cl P.objs.size s2 H2 fp=Y at IY hG hT hE
 have hYm:Y.prog=X.prog/\Y.w=X.w/\Y.K=X.K/\Y.A=X.A/\Y.env=compEnvC sc cl P.objs.size X.env/\Y.calm=X.calm/\(Y.xe=fun _ _=>False):=by rw [← hY];exact ⟨rfl,rfl,rfl,rfl,rfl,rfl,rfl⟩
 obtain ⟨y1,y2,y3,y4,y5,y6,y7⟩:=hYm
 have stat:∀ {H':Hp},(∀ b∈fp,H' b=none)->∀ b∈fp,iY Y [] H' b:=fun {H'} hn b hb=>by
  rw [← hY]
  refine ⟨hn b hb,fun (e:b=P.objs.size)=>hfC (e ▸ hb),fun hb'=>?_,.inl hb,fun x c e=>(f2 b hb).2.2.2.2.1 x c (hc1 x c e),fun p hp=>(nomatch hp)⟩
  rcases Zr.mp (I2.stkSub b hb') with z | z
  ·exact (f2 b hb).2.1 z
  ·exact (f2 b hb).2.2.1 z
 obtain ⟨W,⟨m0,w0⟩,turn⟩:=hW s2.heap.objs.size (I2.hok.fresh (Zp _))
 have hfp0:∀ b∈fp,upd H2 s2.heap.objs.size (.lst []) b=none:=fun b hb=>by rw [aw (Z0 (lt_fp b hb))];exact (f2 b hb).1
 have st3:tn 0 h₁:=T.keep _ _ _ st2 fun b _ o e=>old b o e
 have loop:codeAny (model X.prog X.w) X.A (.compLoop (.ListComp elt [⟨tg,iter,ifs,0⟩] sc pos) 0 (.ref it) (.ref s2.heap.objs.size) (compEnvC sc cl P.objs.size X.env)) (compPost (model X.prog X.w) X.A X.xe use QQ (.ref s2.heap.objs.size) P.objs.size)
   { s2 with heap:=h₁,toks:=s2.toks+([]:List (Str×Value)).length }:=by
  refine o9 (fun n s'=>∃ i σ' H',Inv Y [] σ' H' s'/\tn i s'.heap/\(∀ b∈fp,H' b=none)/\W i n σ' H') ?_ m0 ⟨0,_,_,IY,st3,hfp0,w0⟩
  rintro n s3 ⟨i,σ3,H3,I3,st3,fr3,w3⟩
  rcases turn i n σ3 H3 w3 with ⟨stop,qn⟩ | ⟨go,step⟩
  ·have q:=T.done Y y1 y2 y3 (y6.trans hcalm) i [] s3 σ3 H3 (fun _ _=>False) I3 (stat fr3) st3 stop
   rw [y4] at q
   refine thn q fun r s4 ⟨hr,I4⟩=>?_
   subst hr
   have IX:Inv X pins σ H3 s4:=by
    have b4:=I4.base
    have o4:=I4.os
    have k4:=I4.hok
    rw [← hY] at b4 o4 k4
    refine I2.call' (ch:=fp) o4 b4 k4 I4.bare fun b hb=>?_
    exact ⟨(f2 b hb).2.2.2.1,(f2 b hb).2.1,(f2 b hb).2.2.2.2.1,(f2 b hb).2.2.2.2.2⟩
   obtain ⟨mC,hmC,_⟩:=I4.loc
   have f4:=I4.free
   rw [y5] at hmC f4
   exact hq s4 H3 _ P.objs.size mC IX qn hmC (I2.fpOk hCle f4)
  ·have q:=T.item Y y1 y2 y3 (y6.trans hcalm) i [] s3 σ3 H3 (fun _ _=>False) I3 (stat fr3) st3 go
   rw [y4] at q
   refine thn q fun r s4 ⟨u,hr,h4⟩=>?_
   subst hr
   refine thn h4 fun _ s5 ⟨x,H5,I5,r5,yl5,st5,fr5⟩=>?_
   have I5':=I5.pinned (stat fr5) (T.obj _ _ st5)
   have again:∀ {σ7:St} {H7:Hp} {s7:Shared} {m:Nat},Inv Y ([]++ml fp s5.heap) σ7 H7 s7->W (i+1) m σ7 H7->∃ i σ' H',Inv Y [] σ' H' s7/\tn i s7.heap/\(∀ b∈fp,H' b=none)/\W i m σ' H':=fun {σ7 H7 s7 m} I7 w7=>by
    refine ⟨i+1,σ7,H7,I7.unpinned,T.keep _ _ _ st5 fun b hb o e=>(I7.pin (b,o) (ZA _ (ZA _ (gR hb e)))).1,fun b hb=>?_,w7⟩
    obtain ⟨o,e,d⟩:=T.obj _ _ st5 b hb
    exact (I7.pin (b,o) (ZA _ (ZA _ (gR hb e)))).2.1
   have qa:=hG _ s5 σ3 H5 x u _ I5' r5 (step x H5 yl5)
   rw [y1,y2,y4,y5,y7] at qa
   refine thn qa fun _ s6 ⟨σ6,H6,I6,q6⟩=>?_
   have qt:=hT _ s6 σ6 H6 _ I6 q6
   rw [y1,y2,y4,y5,y7] at qt
   refine thn qt fun b s7 ⟨H7,I7,q7⟩=>?_
   cases b with
   | false =>
    rw [Zn Zm] at q7 ⊢
    obtain ⟨m',hm,w7⟩:=q7
    exact ⟨m',hm,again I7 w7⟩
   | true =>
    rw [Zq rfl] at q7 ⊢
    have qe:=hE _ s7 σ6 H7 _ I7 q7
    rw [y1,y2,y4,y5,y7] at qe
    refine thn qe fun yv s8 ⟨y,H8,I8,r8,ys,hD8,hl8,m',hm,w8⟩=>?_
    have qp:=iL (X:=Y) _ s8 σ6 H8 (.ref s2.heap.objs.size) [y] (.ref s2.heap.objs.size) [yv] (fun _ H9=>W (i+1) m' σ6 H9) I8 rfl (.cons r8 .nil) ⟨_,ys,y,rfl,rfl,hD8,hl8,w8⟩
    rw [y1,y2,y4,y7] at qp
    refine thn qp fun _ s9 ⟨_,H9,I9,_,w9⟩=>?_
    exact ⟨m',hm,again I9 w9⟩
 exact codeAny_compStart_list loop (T.self _ 0 _ _ _ st3 loop)
theorem og {elt tg iter:Expr} {ifs:List Expr} {sc:Scope} {pos:Pos} {N:List Str} {k:Nat} {wi:TI} {g:TG} {tc:TT} {te:TE} (hcalm:X.calm=true) (hi:PI X tg iter wi) (hsc:lM X.env sc=true)
  (hnm:jv sc (N.drop k) X.N=true) (hNl:k<=N.length) (hin:∀ cl C s H fp,PG (bx X N sc cl C s H fp) tg g/\zr (bx X N sc cl C s H fp) ifs tc/\PE (bx X N sc cl C s H fp) elt te)
  (hs:∀ x,foldedSetIterable iter X.env x=pure x:=by intro _;rfl):PE X (.ListComp elt [⟨tg,iter,ifs,0⟩] sc pos) (xH k wi g tc te):=by
 intro pins s σ H Q I h
 rw [eval_ListComp]
 refine uj (use:=none) hcalm hi hsc hnm hNl hin hs I h fun s' H' D C m I' q hn f=>⟨m,hn,fun h' hs'=>?_⟩
 exact ⟨.ref D,H',I'.turned (it:=C) (t':=s'.toks) (fun b o hb e=>hs'.extBut b o hb e) f.1 f.2.1 f.2.2.2.1 f.2.2.2.2.1 f.2.2.2.2.2,rfl,q⟩
end
end L2
end
section
namespace VS
open PySem PySem.Spec PyProof.Rows L2
noncomputable def mH (k:Nat) (g:Tg):Prop:=∀ t η η',g t η=some η'->η'.length=η.length/\∀ i,k<=i->η'[i]?=η[i]?
theorem kM {k i:Nat} (h:i < k):mH k (bE i):=fun t η η' e=>by
 unfold bE at e
 split at e
 ·cases e
  exact ⟨by simp,fun j hj=>by rw [YU (by lia)]⟩
 ·cases e
theorem sy {k:Nat}:∀ {gs:List Tg},(∀ g∈gs,mH k g)->∀ ts η η',lY gs ts η=some η'->η'.length=η.length/\∀ i,k<=i->η'[i]?=η[i]?
 | [],_,[],η,η',e=>by cases (show some η=some η' from e);exact ⟨rfl,fun _ _=>rfl⟩
 | [],_,_ :: _,η,η',e=>by simp [lY] at e
 | _ :: _,_,[],η,η',e=>by simp [lY] at e
 | g :: gs,h,t :: ts,η,η',e=>by
  obtain ⟨η1,e1,e2⟩:=Zz.mp (show (g t η).bind (fun η'=>lY gs ts η')=some η' from e)
  obtain ⟨a1,a2⟩:=h g Zw t η η1 e1
  obtain ⟨b1,b2⟩:=sy (fun g' hg=>h g' (Zx _ hg)) ts η1 η' e2
  exact ⟨b1.trans a1,fun i hi=>(b2 i hi).trans (a2 i hi)⟩
theorem wD {k:Nat} {g1 g2:Tg} (h1:mH k g1) (h2:mH k g2):mH k (ja [g1,g2]):=fun t η η' e=>by
 unfold ja at e
 split at e
 ·refine sy (fun g hg=>?_) _ η η' e
  rcases Zr.mp hg with rfl | hg
  ·exact h1
  ·rw [Zg.mp hg];exact h2
 ·cases e
theorem sT:∀ (l:Vu) {i:Nat} {t:T},fN l=true->l[i]?=some t->imm t=true
 | [],_,_,_,h=>by simp at h
 | x :: l,0,t,h,e=>by
  simp only [fN,Z3] at h
  simp at e;rw [← e];exact h.1
 | x :: l,i+1,t,h,e=>by
  simp only [fN,Z3] at h
  exact sT l h.2 (by simpa using e)
noncomputable def tC (G:Gx):Option Ex->TT
 | none=>fun σ H Q=>Q true H
 | some c=>tT G c
section
variable {G:Gx} {Φ:Fps} {η:VS.Env} {σ:L2.St} {H:Hp} {k:Nat}
theorem jf {i:Nat} {c:Cell}:(List.replicate k none++η)[i]?=some (some c) ↔ k<=i/\η[i - k]?=some (some c):=by
 rcases XA i k with h | h
 ·rw [Yo (by simpa using h),Y6]
  constructor
  ·intro e;split at e <;> cases e
  ·intro ⟨e,_⟩;lia
 ·rw [Yw (by simpa using h),Xu]
  exact ⟨fun e=>⟨h,e⟩,fun e=>e.2⟩
theorem v8 {a:Addr}:bZ (fun i=>Φ (i - k)) (List.replicate k none++η) a ↔ bZ Φ η a:=by
 constructor
 ·rintro ⟨j,t,h1,h2⟩
  exact ⟨j - k,t,(jf.mp h1).2,h2⟩
 ·rintro ⟨j,t,h1,h2⟩
  refine ⟨j+k,t,jf.mpr ⟨YB _ _,by rw [X1];exact h1⟩,?_⟩
  show a∈Φ (j+k - k)
  rw [X1];exact h2
theorem xF {a:Addr}:dE (fun i=>Φ (i - k)) (List.replicate k none++η) a ↔ dE Φ η a:=by
 constructor
 ·rintro ⟨j,t,h1,h2⟩
  exact ⟨j - k,t,(jf.mp h1).2,h2⟩
 ·rintro ⟨j,t,h1,h2⟩
  refine ⟨j+k,t,jf.mpr ⟨YB _ _,by rw [X1];exact h1⟩,?_⟩
  show a∈Φ (j+k - k)
  rw [X1];exact h2
theorem SR.sh (s:SR G Φ η σ H):SR G (fun i=>Φ (i - k)) (List.replicate k none++η) (List.replicate k none++σ) H:=by
 refine ⟨by simp [s.len],fun i c h=>?_,fun i t h=>?_,fun i j t c h1 h2 n=>?_⟩
 ·obtain ⟨h1,h2⟩:=jf.mp h
  obtain ⟨v,g1,g2⟩:=s.rp _ c h2
  refine ⟨v,?_,g2⟩
  rw [Yw (by simpa using h1),Xu]
  exact g1
 ·exact s.nd _ t (jf.mp h).2
 ·obtain ⟨a1,a2⟩:=jf.mp h1
  obtain ⟨b1,b2⟩:=jf.mp h2
  exact s.sep _ _ t c a2 b2 (by lia)
theorem SR.less {η':VS.Env} (s:SR G Φ η' σ H) (hl:η.length=η'.length) (h:∀ (i:Nat) c,η[i]?=some (some c)->η'[i]?=some (some c)):SR G Φ η σ H :=
 ⟨hl.trans s.len,fun i c e=>s.rp i c (h i c e),fun i t e=>s.nd i t (h i _ e),fun i j t c e1 e2 n=>s.sep i j t c (h i _ e1) (h j _ e2) n⟩
theorem SR.off {D:Addr} {o:HO} (s:SR G Φ η σ H) (m:Mut (H D)\/H D=none) (n1:¬ dE Φ η D) (n2:¬ bZ Φ η D):SR G Φ η σ (upd H D o):=by
 refine ⟨s.len,fun i c e=>?_,s.nd,s.sep⟩
 obtain ⟨v,g1,g2⟩:=s.rp i c e
 refine ⟨v,g1,g2.keep (Kept.upd m) fun b hb o' ho=>?_⟩
 rw [aw fun z=>?_]
 ·exact ho
 ·subst z
  cases c with
  | pu t=>exact n1 ⟨i,t,e,hb⟩
  | ow t=>exact n2 ⟨i,t,e,hb⟩
theorem lB:∀ (l:Vw) (v:Val),bX (l++[v])=(bX l).join v.1
 | [],(m,t)=>by cases m <;> rfl
 | (m,t) :: l,v=>by
  show m.join (bX (l++[v]))=(m.join (bX l)).join v.1
  rw [lB l v]
  generalize bX l=q
  generalize v.1=r
  cases m <;> cases q <;> cases r <;> rfl
theorem Fp.join2 {m n:Md} {F F':Xl} (f:Fp Φ η H m F) (g:Fp Φ η H n F') (d:n=.fr->∀ a∈F,a ∉ F'):Fp Φ η H (m.join n) (F++F'):=by
 have both:∀ {P:Addr->Prop},(∀ a∈F,P a)->(∀ a∈F',P a)->∀ a∈F++F',P a:=fun p q a h=>(Zh.mp h).elim (p a) (q a)
 cases m <;> cases n
 ·exact ⟨ZD.mpr ⟨f.1,g.1,fun a ha b hb e=>d rfl a ha (e ▸ hb)⟩,both f.2 g.2⟩
 ·exact both (fun a ha=>.inl (f.2 a ha)) g
 ·exact both (fun a ha=>.inl (f.2 a ha)) g
 ·exact both f fun a ha=>.inl (g.2 a ha)
 ·exact both f g
 ·exact both (fun a ha=>(f a ha).imp id .inl) g
 ·exact both f fun a ha=>.inl (g.2 a ha)
 ·exact both f fun a ha=>(g a ha).imp id .inl
 ·exact both f g
theorem Fp.cons1 {m:Md} {F:Xl} {D:Addr} (f:Fp Φ η H m F) (h:H D=none) (d:D ∉ F):Fp Φ η H m (D :: F):=by
 have all:∀ {P:Addr->Prop},P D->(∀ a∈F,P a)->∀ a∈D :: F,P a:=fun p q a ha=>(Zr.mp ha).elim (fun e=>e ▸ p) (q a)
 cases m
 ·exact ⟨ZJ.mpr ⟨d,f.1⟩,all h f.2⟩
 ·exact all (.inl h) f
 ·exact all (.inl h) f
end
section
variable {G:Gx} {k:Nat} {tg:Tg} {ci:Its} {cond:Option Ex} {ce:Ex}
noncomputable def CI (G:Gx) (Φ:Fps) (η η0:VS.Env) (H H1:Hp) (D:Addr) (l:Vu) (all:Vw) (tg:Tg) (cond:Option Ex) (ce:Ex) (i n:Nat) (σ':L2.St) (H':Hp):Prop:=n=l.length - i/\∃ Φ1 vs Fs xs rest,SR G Φ1 η0 σ' H'/\(∀ a,bZ Φ1 η0 a->bZ Φ η a)/\(∀ a,dE Φ1 η0 a->H a=none\/dE Φ η a)/\¬ dE Φ1 η0 D/\¬ bZ Φ1 η0 D/\Kept H1 H' ∧
     (∀ a o,a ≠ D->H1 a=some o->H' a=some o)/\H' D=some (.lst xs)/\RpL G H' xs (trees vs) Fs/\D ∉ Fs.flatten/\Fp Φ η H (bX vs) Fs.flatten/\lr tg cond ce η0 (l.drop i)=some rest/\vs++rest=all
theorem r6 {σ:L2.St} {H:Hp} {Q:VK} (hin:mH k tg) (h:tE G (h9 k tg ci cond ce) σ H Q):xH k (tI G ci) (tG G tg) (tC G cond) (tE G ce) σ H Q:=by
 refine L2.gC fun P_ k_=>?_
 obtain ⟨Φ,η,m,r,s,e,kq⟩:=h
 unfold h9 at e
 obtain ⟨⟨mi,l⟩,el,e1⟩:=Zz.mp e
 dsimp only at e1
 split at e1
 ·rename_i hok
  obtain ⟨all,ea,e2⟩:=Zz.mp e1
  unfold mkL at e2
  split at e2
  ·rename_i hlen
   cases e2
   refine k_ ?_
   refine ⟨Φ,η,mi,l,s,el,fun J H1 C e3 ok fc D hD=>?_⟩
   have hHD:H D=none:=e3.free hD
   let η0:VS.Env:=List.replicate k none++η
   have good:∀ {t:T} {i:Nat} {H' H2:Hp} {v:V} {F:Xl},l[i]?=some t->Rp G H2 v t F->(∀ a,H1 a ≠ none->H' a ≠ none)->(∀ a∈F,a∈C\/H' a=none)->∀ a∈F,(H a=none\/dE Φ η a)/\¬ bZ Φ η a:=fun {t i H' H2 v F} hi rF keep hF a ha=>by
    have dom:∀ {b},H b ≠ none->H' b ≠ none:=fun {b} hb=>keep b fun z=>hb (e3.free z)
    rcases hF a ha with z | z
    ·rcases fc a z with q | q | ⟨q,w⟩
     ·exact ⟨.inl q,fun w=>Mut.ne_none (s.ow_dom w) q⟩
     ·exact ⟨.inr q,fun w=>s.ow_pu w q⟩
     ·subst q
      have:imm t=true:=by
       exact sT l hok hi
      rw [rF.imm this] at ha
      simp at ha
    ·have hz:H a=none:=Classical.byContradiction fun q=>dom q z
     exact ⟨.inl hz,fun w=>Mut.ne_none (s.ow_dom w) hz⟩
   refine ⟨CI G Φ η η0 H H1 D l all tg cond ce,?_,?_⟩
   ·refine ⟨l.length - 0,rfl,fun i=>Φ (i - k),[],[],[],all,?_,fun a h=>v8.mp h,fun a h=>.inr (xF.mp h),fun h=>?_,fun h=>?_,Kept.upd (.inr hD),fun a o n h=>by rw [aw n];exact h,aH,.nil,by simp,Fp.nil,by rw [XT];exact ea,rfl⟩
    ·exact ((s.same e3).sh).off (.inr hD) (fun h=>Mut.ne_none (s.pu_dom (xF.mp h)) hHD) fun h=>Mut.ne_none (s.ow_dom (v8.mp h)) hHD
    ·exact Mut.ne_none (s.pu_dom (xF.mp h)) hHD
    ·exact Mut.ne_none (s.ow_dom (v8.mp h)) hHD
   ·intro i n σ' H' hh_
    refine L2.gC fun P_ k_=>?_
    obtain ⟨rfl,Φ1,vs,Fs,xs,rest,s1,ow1,pu1,np1,no1,kp,old,hD',rp,nD,fp,er,ev⟩:=hh_
    refine k_ ?_
    have keepdom:∀ a,H1 a ≠ none->H' a ≠ none:=fun a ha z=>by
     by_cases q:a=D
     ·subst q;rw [hD'] at z;cases z
     ·cases e:H1 a with
      | none=>exact ha e
      | some o=>rw [old a o q e] at z;cases z
    refine L2.gC fun P_ k_=>?_
    obtain ⟨go,stop⟩:=ok.run H' kp fun a ha o ho=>old a o (fun z=>ok.dom a ha (z ▸ hD)) ho
    cases hit:l[i]? with
    | none =>
     have hl:l.length<=i:=YM.mp hit
     refine k_ ?_
     left
     refine ⟨stop i hl,?_⟩
     rw [Y9 hl] at er
     cases (show some ([]:Vw)=some rest from er)
     rw [Z7] at ev
     subst ev
     refine kq (.ref D) H' (D :: Fs.flatten) (fun a o h=>old a o (fun z=>by rw [z,hHD] at h;cases h) (e3 a o h)) (.lst hD' rp) ?_
     by_cases hi:fN (trees vs)=true
     ·rw [Zq hi,rp.imm hi]
      exact ⟨by simp,fun a ha=>by rw [Zg.mp ha];exact hHD⟩
     ·rw [Zn hi]
      exact fp.cons1 hHD nD
    | some t =>
     have hl:i < l.length:=(Zb.mp hit).1
     obtain ⟨g1,y1⟩:=go i t hit
     refine k_ ?_
     right
     refine ⟨g1,fun x H2 yl=>?_⟩
     refine L2.gC fun P_ k_=>?_
     obtain ⟨e8,F,rF,hF⟩:=y1 x H2 yl
     rw [nq (tgt:=tg) (body:=ic) (η:=η) hit] at er
     rw [lr] at er
     obtain ⟨η3,e4,e5⟩:=Zz.mp er
     obtain ⟨b,eb,e6⟩:=Zz.mp e5
     have gd:=good hit rF keepdom hF
     have s2:=s1.same e8
     have DF:D ∉ F:=fun h=>by
      rcases hF D h with z | z
      ·exact ok.dom D z hD
      ·rw [hD'] at z;cases z
     refine k_ ?_
     refine ⟨Φ1,η0,t,F,η3,s2,rF,fun a ha z=>(gd a ha).2 (ow1 a z),e4,fun Φ3 σ3 s3 o3 p3=>?_⟩
     obtain ⟨tl,tsame⟩:=hin t η0 η3 e4
     have low:∀ j c,η0[j]?=some (some c)->η3[j]?=some (some c):=fun j c h=>by rw [tsame j (jf.mp h).1];exact h
     have pu3:∀ a,dE Φ3 η3 a->H a=none\/dE Φ η a:=fun a h=>(p3 a h).elim (pu1 a) fun h=>(gd a h).1
     have ow3:∀ a,bZ Φ3 η3 a->bZ Φ η a:=fun a h=>ow1 a (o3 a h)
     have np3:¬ dE Φ3 η3 D:=fun h=>(p3 D h).elim np1 DF
     have no3:¬ bZ Φ3 η3 D:=fun h=>no1 (o3 D h)
     have pul:∀ a,dE Φ3 η0 a->dE Φ3 η3 a:=fun a ⟨j,u,h1,h2⟩=>⟨j,u,low j _ h1,h2⟩
     have owl:∀ a,bZ Φ3 η0 a->bZ Φ3 η3 a:=fun a ⟨j,u,h1,h2⟩=>⟨j,u,low j _ h1,h2⟩
     have rest':∀ H4,aU H2 H4->(if b=true then tE G ce σ3 H4 fun y H5=>∃ ys,H5 D=some (.lst ys)/\ys.length < sizeLine/\∃ m',m' < l.length - i/\CI G Φ η η0 H H1 D l all tg cond ce (i+1) m' σ3 (upd H5 D (.lst (ys++[y]))) else ∃ m',m' < l.length - i/\CI G Φ η η0 H H1 D l all tg cond ce (i+1) m' σ3 H4):=fun H4 e9=>by
      have eo:∀ {H5},aU H4 H5->∀ a o,H' a=some o->H5 a=some o:=fun {H5} e10 a o h=>e10 a o (e9 a o (e8 a o h))
      cases b with
      | false =>
       rw [Zn Zm] at e6 ⊢
       have same:=eo (aU.refl H4)
       exact ⟨_,by lia,rfl,Φ3,vs,Fs,xs,rest,(s3.same e9).less (by rw [tl]) low,fun a h=>ow3 a (owl a h),fun a h=>pu3 a (pul a h),fun h=>np3 (pul D h),fun h=>no3 (owl D h),kp.trans ((Kept.of e8).trans (Kept.of e9)),fun a o n h=>same a o (old a o n h),same D _ hD',rp.same (aU.trans e8 e9),nD,fp,e6,ev⟩
      | true =>
       rw [Zq rfl] at e6 ⊢
       obtain ⟨⟨mv,tv⟩,ece,e7⟩:=Zz.mp e6
       obtain ⟨rest1,er1,e7'⟩:=Zo.mp e7
       refine ⟨Φ3,η3,mv,tv,s3.same e9,ece,fun y H5 Fy e10 ry fy=>?_⟩
       have same:=eo e10
       have hD5:=same D _ hD'
       have mD5:Mut (H5 D):=by rw [hD5];exact True.intro
       have hD4:H4 D=some (.lst xs):=e9 D _ (e8 D _ hD')
       have none4:∀ a,H4 a=none->H a=none:=fun a h=>Classical.byContradiction fun q=>keepdom a (fun z=>q (e3.free z)) (e8.free (e9.free h))
       have fyo:Fp Φ η H mv Fy:=by
        cases mv with
        | fr=>exact ⟨fy.1,fun a ha=>none4 a (fy.2 a ha)⟩
        | pu=>exact fun a ha=>(fy a ha).elim (fun z=>.inl (none4 a z)) (pu3 a)
        | bo=>exact fun a ha=>(fy a ha).elim (fun z=>.inl (none4 a z)) fun z=>z.elim (fun z=>(pu3 a z).imp id .inl) fun z=>.inr (.inr (ow3 a z))
       have DFy:D ∉ Fy:=fun h=>by
        cases mv with
        | fr=>have:=fy.2 D h;rw [hD4] at this;cases this
        | pu=>exact (fy D h).elim (fun z=>by rw [hD4] at z;cases z) np3
        | bo=>exact (fy D h).elim (fun z=>by rw [hD4] at z;cases z) fun z=>z.elim np3 no3
       have rp5:RpL G H5 xs (trees vs) Fs:=rp.same ((e8.trans e9).trans e10)
       have lenx:xs.length=vs.length:=by rw [rp.len.1];simp
       have lenv:vs.length < all.length:=by rw [← ev,← e7'];simp
       refine ⟨xs,hD5,?_,_,by lia,rfl,Φ3,vs++[(mv,tv)],Fs++[Fy],xs++[y],rest1,(((s3.same e9).same e10).off (.inl mD5) np3 no3).less (by rw [tl]) low,fun a h=>ow3 a (owl a h),fun a h=>pu3 a (pul a h),fun h=>np3 (pul D h),fun h=>no3 (owl D h),?_,fun a o n h=>?_,aH,?_,?_,?_,er1,?_⟩
       ·have hlen':all.length<=g9:=by simpa using hlen
        have:sizeLine=g9:=rfl
        lia
       ·exact (kp.trans ((Kept.of e8).trans ((Kept.of e9).trans (Kept.of e10)))).trans (Kept.upd (.inl mD5))
       ·rw [aw n];exact same a o (old a o n h)
       ·have:trees (vs++[(mv,tv)])=trees vs++[tv]:=by simp
        rw [this]
        exact (rp5.off mD5 nD).append (.cons (ry.keep (Kept.upd (.inl mD5)) fun b hb o ho=>by rw [aw (fun z=>DFy (by rw [← z];exact hb))];exact ho) .nil)
       ·rw [Z2]
        intro h
        rcases Zh.mp h with z | z
        ·exact nD z
        ·exact DFy (by simpa using z)
       ·rw [Z2,lB]
        have:([Fy]:Yk).flatten=Fy:=by simp
        rw [this]
        refine fp.join2 fyo fun hm a ha hb=>?_
        subst hm
        have h4:=fy.2 a hb
        have:Mut (H4 a):=(rp.same (e8.trans e9)).dom a ha
        rw [h4] at this;exact this
       ·rw [Zc,← ev,← e7'];rfl
     cases cond with
     | none =>
      cases (show some true=some b from eb)
      exact rest' H2 (aU.refl H2)
     | some c =>
      obtain ⟨⟨mc,xc⟩,ec1,ec2⟩:=Zz.mp eb
      exact ⟨Φ3,η3,mc,xc,b,s3,ec1,ec2,fun H4 e9=>rest' H4 e9⟩
  ·cases e2
 ·cases e1
end
section
variable {G:Gx} {X:Cx} {elt tg iter c:Expr} {sc:Scope} {pos pos' spos:Pos} {N:List Str} {k i:Nat} {x:Str} {ci:Its} {g:Tg} {cc ce:Ex}
theorem yk (k:Nat) (N:List Str) (hcalm:X.calm=true) (hi:PVI G X tg iter ci) (hin:mH k g) (hg:∀ cl C s H fp,PVG G (bx X N sc cl C s H fp) tg g) (he:∀ cl C s H fp,PV G (bx X N sc cl C s H fp) elt ce)
  (hsc:lM X.env sc=true:=by rfl) (hnm:jv sc (N.drop k) X.N=true:=by rfl) (hNl:k<=N.length:=by decide) (hs:∀ x,foldedSetIterable iter X.env x=pure x:=by intro _;rfl) :
  PV G X (.ListComp elt [⟨tg,iter,[],0⟩] sc pos) (h9 k g ci none ce) :=
 PE.weak (og hcalm hi hsc hnm hNl (fun cl C s H fp=>⟨hg cl C s H fp,ph,he cl C s H fp⟩) hs) fun σ H Q h=>r6 (cond:=none) hin h
theorem t8 (k:Nat) (N:List Str) (hcalm:X.calm=true) (hi:PVI G X tg iter ci) (hin:mH k g) (hg:∀ cl C s H fp,PVG G (bx X N sc cl C s H fp) tg g) (hc:∀ cl C s H fp,PVT G (bx X N sc cl C s H fp) c cc) (he:∀ cl C s H fp,PV G (bx X N sc cl C s H fp) elt ce)
  (hsc:lM X.env sc=true:=by rfl) (hnm:jv sc (N.drop k) X.N=true:=by rfl) (hNl:k<=N.length:=by decide) (hs:∀ x,foldedSetIterable iter X.env x=pure x:=by intro _;rfl) :
  PV G X (.ListComp elt [⟨tg,iter,[c],0⟩] sc pos) (h9 k g ci (some cc) ce) :=
 PE.weak (og hcalm hi hsc hnm hNl (fun cl C s H fp=>⟨hg cl C s H fp,vV (hc cl C s H fp),he cl C s H fp⟩) hs) fun σ H Q h=>r6 (cond:=some cc) hin h
end
end VS
end
section
namespace L2
open PySem PySem.Spec PyProof.Rows
noncomputable def Ite (K:Xy) (a:Addr):It :=
 ⟨fun i H=>∃ xs x,SqL K H a xs/\xs[i]?=some x,fun i H v H'=>∃ p x,H p=none/\v=.ref p/\H'=upd H p (.tup [.int i,x])/\∀ xs,SqL K H a xs->xs[i]?=some x,fun i H=>∃ xs,SqL K H a xs/\xs.length<=i⟩
theorem uq {P:Program} {w:World} {K:Xy} {elts:List Expr} {n:Nat} {pos:Pos} (a e it:Addr) (hne:e ≠ it):Turn P w K (.Tuple elts n pos) (Ite K a) [e,it] e (fun i h=>(∃ old,IsEnum h e it i old)/\h.IsListIter it a i) where
 mem:=by simp
 obj:=fun i h st b hb=>by
  obtain ⟨⟨old,he⟩,o,ho,c,d⟩:=st
  rcases Zr.mp hb with rfl | hb
  ·exact ⟨_,he,fun v z=>by cases (show Data.fields _=Data.cell v from z)⟩
  ·rw [Zg.mp hb]
   exact ⟨o,ho,fun v z=>by rw [d] at z;cases z⟩
 keep:=fun i h h' st k=>⟨let ⟨old,he⟩:=st.1;⟨old,k e (by simp) _ he⟩,st.2.at fun o x=>k it (by simp) o x⟩
 item:=by
  intro X hP hw hK hc i pins s σ H E I hf st hg
  subst hP hw hK
  obtain ⟨xs,x,hq,hx⟩:=hg
  obtain ⟨its,rv,p,hz⟩:=I.list hq
  obtain ⟨u,hu,ru⟩:=rv.get hx
  obtain ⟨⟨old,he⟩,hit⟩:=st
  refine wpAny_pyNext_enum_item he hit p.isList (x:=u) (by simpa using hu) hne fun h1 ho hit1 hT hsz hk=>⟨_,rfl,?_⟩
  refine wpAny_letOwnedTupleGo_enum ho fun h2 he2 hs2=>?_
  have hs2:Heap.SameBut e h1 h2:=hs2
  have ltE:e < s.heap.objs.size:=ZY he
  have ltI:it < s.heap.objs.size:=let ⟨_,z,_⟩:=hit;ZY z
  have hHT:H s.heap.objs.size=none:=I.hok.fresh (Zp _)
  have kk:∀ b o,b ∉ [e,it]->s.heap.get? b=some o->h2.get? b=some o:=fun b o hb q=>by
   have h1b:b ≠ e:=fun z=>hb (by simp [z])
   have h2b:b ≠ it:=fun z=>hb (by simp [z])
   exact (hs2.2 b h1b).trans (hk b o h1b h2b q)
  have hT2:h2.get? s.heap.objs.size=some { cls:=.type "tuple",data:=.seq #[.int i s.toks,u] }:=(hs2.2 _ (WI ltE)).trans hT
  have nfp:∀ b o,H b=some o->b ∉ [e,it]:=fun b o q hb=>by rw [(hf b hb).1] at q;cases q
  have lt:∀ b o,s.heap.get? b=some o->b ≠ s.heap.objs.size:=fun b o q=>Z0 (ZY q)
  have up:∀ b o,H b=some o->upd H s.heap.objs.size (.tup [.int i,x]) b=some o:=fun b o q=>by rw [aw (bI q hHT)];exact q
  have hok2:HOk X.prog X.w (upd H s.heap.objs.size (.tup [.int i,x])) h2:=fun b ob q=>by
   by_cases hb:b=s.heap.objs.size
   ·subst hb
    rw [aH] at q
    cases q
    exact ⟨by show 2<=sizeLine;decide,[.int i s.toks,u],.cons ⟨_,rfl⟩ (.cons ru .nil),NoD.of hT2 rfl,⟨_,hT2,rfl,_,rfl⟩⟩
   ·rw [aw hb] at q
    refine (I.hok b ob q).stay (fun c v hc' r=>kk c v ?_ r) (fun c r=>up c _ r) fun c ys r=>up c _ r
    rcases hc' with z | z
    ·rw [z];exact nfp b ob q
    ·exact nfp c _ z
  refine ⟨.ref s.heap.objs.size,upd H s.heap.objs.size (.tup [.int i,x]),?_,rfl,⟨_,x,hHT,rfl,rfl,fun ys hy=>by rw [I.list_inj hy hq];exact hx⟩,⟨⟨u,by simpa using he2⟩,hit1.at fun o y=>(hs2.2 it hne.symm).trans y⟩,fun b hb=>?_⟩
  ·show Inv X pins σ _ { s with heap:=h2,gens:=s.gens,drawn:=s.drawn,toks:=s.toks+1 }
   refine I.step (g':=s.gens) (d':=s.drawn) (t':=s.toks+1) (ch:=[e,it]) (fun b hb=>?_) (fun b o _ _ hc' q _=>kk b o hc' q) (fun b o _ _ hc' q _=>⟨o.slots,kk b o hc' q⟩) (fun b o _ q r=>by rw [aw (lt b o q)];exact r) (fun b o hc' q=>⟨o,kk b o hc' q⟩)
    (fun b ys q=>up b _ q) (fun b o v q=>up b _ q) (fun b ps q=>⟨#[],by rw [up b _ q];simp⟩) (fun m hm=>?_) hok2 I.bare
   ·obtain ⟨f0,f1,f2,f3,f4,f5⟩:=hf b hb
    exact ⟨f3,f1,f4,f5⟩
   ·obtain ⟨o,es,ep,ho',r⟩:=hm
    refine ⟨o,es,ep,kk _ o (fun z=>?_) ho',r⟩
    exact (hf _ z).2.1 rfl
  ·have:b ≠ s.heap.objs.size:=by
    rcases Zr.mp hb with rfl | hb
    ·exact Z0 ltE
    ·rw [Zg.mp hb];exact Z0 ltI
   rw [aw this]
   exact (hf b hb).1
 done:=by
  intro X hP hw hK hc i pins s σ H E I hf st hg
  subst hP hw hK
  obtain ⟨xs,hq,hx⟩:=hg
  obtain ⟨its,rv,p,hz⟩:=I.list hq
  obtain ⟨⟨old,he⟩,hit⟩:=st
  obtain ⟨f0,f1,f2,f3,f4,f5⟩:=hf it (by simp)
  have hl:=rv.length
  exact wpAny_pyNext_enum_end (I.ok.hd hc) he hit p.isList (by simp;lia) fun h' eb=>⟨rfl,I.turned (t':=s.toks) (fun b o hb q=>eb b o hb q) f0 f1 f3 f4 f5⟩
 self:=fun _ _ _ _ _ st h=>let ⟨_,he⟩:=st.1;wpAny_pyIter_enum he h
section
variable {X:Cx} {tg a:Expr} {ta:TA} {p pos:Pos}
noncomputable def Fu (K:Xy) (ta:TA):TI:=fun σ H R=>ta σ H fun vs H1=>∃ l,vs=[.ref l]/\(∃ xs,SqL K H1 l xs)/\R (Ite K l) H1
theorem Ar {elts:List Expr} {n:Nat} {tpos:Pos} (hg:Gl X "enumerate") (hm:X.mg "enumerate" = none) (ha:PA X [a] ta) (hs:starEach [a] X.env=[(false,eval a X.env)]:=by rfl):PI X (.Tuple elts n tpos) (.Call (.Name "enumerate" p) [a] [] pos) (Fu X.K ta):=by
 intro pins s σ H R I h
 refine Call_ (iX I hg hm boot_enumerate (Xt (thn (ha pos pins s σ H _ I h) fun us s1 ⟨vs,H1,I1,r1,q1⟩=>?_) hs rfl))
 obtain ⟨l,e,⟨xs,hq⟩,q⟩:=q1
 subst e
 cases r1 with
 | cons r rr =>
  cases rr
  cases r
  obtain ⟨its,rv,pl,hz⟩:=I1.list hq
  refine call_enumerate_list pl.isList fun h' he hit hsz hk=>?_
  refine wpAny_pyIter_enum he ?_
  refine ⟨_,_,_,_,H1,rfl,I1.kept (t':=s1.toks) hk,uq l (s1.heap.objs.size+1) s1.heap.objs.size (Nat.succ_ne_self _),⟨⟨_,he⟩,hit⟩,fun b hb=>?_,q⟩
  have hb':s1.heap.objs.size<=b:=by
   rcases Zr.mp hb with rfl | hb
   ·exact ZI _ _
   ·rw [Zg.mp hb];exact Zp _
  exact I1.fpOk hb' (I1.hok.fresh hb')
end
end L2
namespace VS
open PySem PySem.Spec PyProof.Rows L2
section
variable {G:Gx} {X:Cx} {a:Expr} {ca:Ex} {pos p tpos:Pos} {elts:List Expr} {n:Nat}
theorem pO:∀ (l:Vu) (k i:Nat) {t:T},(d5 k l)[i]?=some t->∃ x,l[i]?=some x/\t=.tup [.int ((k+i:Nat):Int),x]
 | [],_,_,_,h=>by simp [d5] at h
 | x :: l,k,0,t,h=>by
  simp [d5] at h
  exact ⟨x,rfl,by rw [← h];rfl⟩
 | x :: l,k,i+1,t,h=>by
  obtain ⟨y,h1,h2⟩:=pO l (k+1) i (by simpa [d5] using h)
  refine ⟨y,by simpa using h1,?_⟩
  rw [h2,show k+1+i=k+(i+1) by lia]
theorem mO:∀ (l:Vu) (k:Nat),(d5 k l).length=l.length
 | [],_=>rfl
 | x :: l,k=>by simp [d5,mO l (k+1)]
theorem zq {H:Hp} {a:Addr} {vs:List V} {ts:Vu} {Fs:Yk} (K:Xy) (ha:H a=some (.lst vs)) (r:RpL G H vs ts Fs):ItOk G (Ite K a) (d5 0 ts) (a :: Fs.flatten) H:=by
 refine ⟨fun H2 k c=>?_,fun b hb=>?_⟩
 ·have ha2:H2 a=some (.lst vs):=c a Zw _ ha
  have r2:RpL G H2 vs ts Fs:=r.keep k fun b hb o ho=>c b (Zx _ hb) o ho
  refine ⟨fun i t h=>?_,fun i h=>⟨vs,SqL.of ha2,by rw [mO] at h;rw [r.len.1];exact h⟩⟩
  obtain ⟨y,hy,et⟩:=pO ts 0 i h
  rw [Y7] at et
  obtain ⟨v,F,h1,h2,h3⟩:=r2.get i hy
  refine ⟨⟨vs,v,SqL.of ha2,h1⟩,fun x H3 ⟨p,z,hp,e1,e2,e3⟩=>?_⟩
  subst e1 e2
  have ex:=e3 vs (SqL.of ha2)
  rw [h1] at ex
  cases ex
  have sm:aU H2 (upd H2 p (.tup [.int i,v])):=fun b o q=>by rw [aw (bI q hp)];exact q
  refine ⟨sm,F,?_,fun b hb=>.inl (Zx _ (fD h2 hb))⟩
  rw [et]
  have:F=([[],F]:Yk).flatten:=by simp
  rw [this]
  exact .tup aH (.cons (.int _) (.cons (h3.same sm) .nil))
 ·rcases Zr.mp hb with rfl | hb
  ·rw [ha];exact fun z=>nomatch z
  ·exact Mut.ne_none (r.dom b hb)
theorem wK (ha:PV G X a ca) (hg:Gl X "enumerate") (hm:X.mg "enumerate" = none) (hs:starEach [a] X.env=(false,eval a X.env) :: starEach [] X.env:=by rfl) (hs':starEach [a] X.env=[(false,eval a X.env)]:=by rfl) :
  PVI G X (.Tuple elts n tpos) (.Call (.Name "enumerate" p) [a] [] pos) (ky ca) :=
 PI.weak (Ar hg hm (de ha fI hs) hs') fun σ H R hq=>by
  obtain ⟨Φ,η,m,l,s,e,k⟩:=hq
  unfold ky at e
  obtain ⟨⟨mx,x⟩,ea,e1⟩:=Zz.mp e
  refine ⟨Φ,η,mx,x,s,ea,fun v H' F e3 r3 f3=>?_⟩
  cases x with
  | lst ts =>
   cases e1
   obtain ⟨a',vs,Fs,rfl,rfl,ha',ra⟩:=r3.lst_inv
   exact ⟨a',rfl,⟨vs,SqL.of ha'⟩,k _ H' _ e3 (zq X.K ha' ra) f3.c⟩
  | _=>cases e1
end
noncomputable instance {s:Tx}:Decidable (iP s):=inferInstanceAs (Decidable (_/\_))
section
variable {G:Gx} {X:Cx} {a b c e:Expr} {es:List Expr} {ca cb cc:Ex} {cs:Exs} {pos p p1 p2 apos cpos:Pos} {k k':Nat}
theorem w_add (ha:PV G X a ca) (hb:PV G X b cb):PV G X (.BinOp a .Add b pos) (e2 bR ca cb):=nr zE B9 ha hb
theorem w_sub (ha:PV G X a ca) (hb:PV G X b cb):PV G X (.BinOp a .Sub b pos) (e2 kJ ca cb):=nr Cv Cb ha hb
theorem w_mul (ha:PV G X a ca) (hb:PV G X b cb):PV G X (.BinOp a .Mult b pos) (e2 eI ca cb):=nr CP Cc ha hb
theorem Bh (ha:PV G X a ca) (hb:PV G X b cb):PV G X (.BinOp a .FloorDiv b pos) (e2 fz ca cb):=nr yw zJ ha hb
theorem w_mod (ha:PV G X a ca) (hb:PV G X b cb):PV G X (.BinOp a .Mod b pos) (e2 oMod ca cb):=nr BF Dg ha hb
theorem DM (ha:PV G X a ca) (hb:PV G X b cb):PVT G X (.Compare a [.Lt] [b] pos) (e2 oLt ca cb):=iI xW AV lq ha hb (jO _)
theorem w_eq (hr:Room k X.A) (ha:PV G X a ca) (hb:PV G X b cb):PV G X (.Compare a [.Eq] [b] pos) (e2 oEq ca cb):=CF (wZ hr.units) Ba ha hb (jO _)
theorem Ed (hr:Room k X.A) (ha:PV G X a ca) (hb:PV G X b cb):PVT G X (.Compare a [.Eq] [b] pos) (e2 oEq ca cb):=iI (wZ hr.units) Ba tells_eq ha hb (jO _)
theorem D6 (hr:Room k X.A) (ha:PV G X a ca) (hb:PV G X b cb):PVT G X (.Compare a [.NotEq] [b] pos) (e2 oNe ca cb):=iI (Cn hr.units) Ej wj ha hb (jO _)
theorem E2 (ha:PV G X a ca) (hb:PV G X b cb) (hs:gQ b:=by intro _ _;rfl) (hK:X.K=G.K:=by rfl):PV G X (.Subscript a b pos) (e2 aV ca cb) :=
 PE.weak (vP xp ha hb hs) fun σ H Q h=>by rw [hK];exact mw vT h
theorem EW (hm:X.mg "len" = none) (ha:PVs G X [e] cs) (hg:Gl X "len" := by rfl) (hK:X.K=G.K:=by rfl) (he:starEach [e] X.env=(false,eval e X.env) :: starEach [] X.env:=by rfl):PV G X (.Call (.Name "len" p) [e] [] pos) (eN d8 cs) :=
 kY (hK ▸ tL) B3 hg hm PySem.boot_len ha (he:=he) (hpl:=rfl)
theorem BA:bootBuiltins ("min" : Str)=some (.builtin "min"):=by decide +kernel
theorem An:bootBuiltins ("list" : Str)=some (.type "list"):=by decide +kernel
theorem B7 (hm:X.mg "min" = none) (ha:PVs G X [a,b] cs) (hc:X.calm=true:=by rfl) (hg:Gl X "min" := by rfl) (he:starEach [a,b] X.env=(false,eval a X.env) :: starEach [b] X.env:=by rfl) (hpl:(backTo pos (starEach [b] X.env)).any (·.1)=false:=by rfl):PV G X (.Call (.Name "min" p) [a,b] [] pos) (eN nc cs) :=
 kY (uA hc) zF hg hm BA ha (he:=he) (hpl:=hpl)
noncomputable def tyN:Ty->Str
 | .int => "int" | .str => "str" | .bool => "bool" | .list => "list" | .tuple => "tuple" | .dict => "dict"
theorem DY (t:Ty):bootBuiltins (tyN t)=some (.type (tyS t)):=by cases t <;> decide +kernel
theorem w_is (t:Ty) (hm:X.mg "isinstance" = none) (hm2:X.mg (tyN t)=none) (ha:PV G X a ca) (hg:Gl X "isinstance" := by rfl) (hg2:Gl X (tyN t):=by rfl) (hK:X.K=G.K:=by rfl)
  (hs:starEach [a,.Name (tyN t) p2] X.env=(false,eval a X.env) :: starEach [.Name (tyN t) p2] X.env:=by rfl):PV G X (.Call (.Name "isinstance" p1) [a,.Name (tyN t) p2] [] pos) (eIs t ca) :=
 DO t ha hg hm hg2 hm2 (DY t) hK (by cases t <;> decide) (by cases t <;> decide) hs rfl rfl
theorem v3 (i:Nat) {x:Str} (ha:PVs G X [e] cs) (hK:X.K=G.K:=by rfl)
  (hN:X.N[i]?=some x:=by rfl) (hv:Vis X.env.scope x:=by first | exact Or.inl rfl | exact Or.inr (Or.inl rfl) | exact Or.inr (Or.inr rfl)) (hd:(x == ("__debug__" : Str))=false:=by decide)
  (hcd:(x == ("__classdict__" : Str))=false:=by decide) (hfew:((backTo cpos (starEach [e] X.env)).all (fun x=>!x.1) && (backToKw cpos (keywordEach [] X.env)).all (fun x=>x.1.isSome)
   && decide ([e].length+([]:List Keyword).length+(if ([]:List Keyword).isEmpty then 0 else 1) < 30))=true:=by rfl)
  (hline:(apos.endLine == cpos.line)=true:=by rfl) (hs:starEach [e] X.env=(false,eval e X.env) :: starEach [] X.env:=by rfl) :
  PSV G X (.Expr (.Call (.Attribute (.Name x p1) "append" apos) [e] [] cpos) pos) (sX (lz i [] bg cs)) :=
 xR i Wq Wx Wy iL j9 (fun H v t F l z r h=>iq r h) ha hK hN hv hd hcd rfl hfew hline hs rfl rfl
end
structure FnAt (P:Program) (w:World) (K:Xy) (mg:Xm) (base:Heap) (k:Nat) (x:Str) (ps:List Str) (G:Gx) (g:Fn):Prop where
 ex:∃ f fd,FnOk P w K mg base CX0 k f fd ps (spF G g)/\mg x=some (.ref f)/\PySem.W.keepIn K (.ref f)=true/\Binds K fd ps []
section
variable {G:Gx} {X:Cx} {e:Expr} {es:List Expr} {cs:Exs} {pos p:Pos} {k k':Nat} {x:Str} {ps:List Str} {g:Fn}
theorem CN (F:FnAt X.prog X.w X.K X.mg X.base k x ps G g) (hr:Room k' X.A) (ha:PVs G X (e :: es) cs) (hk:k<=k':=by decide) (hg:Gl X x:=by rfl) (hdb:(x == ("__debug__" : Str))=false:=by decide)
  (he:starEach (e :: es) X.env=(false,eval e X.env) :: starEach es X.env:=by rfl) (hpl:(backTo pos (starEach es X.env)).any (·.1)=false:=by rfl) :
  PV G X (.Call (.Name x p) (e :: es) [] pos) (aZ g cs):=by
 obtain ⟨f,fd,h1,h2,h3,h4⟩:=F.ex
 exact AA h1 (hr.mono hk) hg h2 h3 h4 ha hdb he hpl
end
section
variable {G:Gx} {P:Program} {w:World} {K:Xy} {mg:Xm} {base:Heap}
theorem Et {x:Str} {st:Stmt} {f:Addr} {fd:FuncData} {N ps:List Str} {k np nn:Nat} {c:Sx} (F:Fun K x x st f fd) (hm:mg x=some (.ref f)) (S:FnScope N ps (ao st)) (hp:ps.length=np) (hn:N.length=nn)
  (hbd:∀ (kV doc pm:Value) (an:Option Addr) (cdv ct:Value) (us:Xg),us.length=ps.length->bindArgs (PySem.W.fnOf x x (aR st) (aK st) (ao st) .none kV doc pm an cdv ct) ⟨us,[]⟩=pure (ps.zip us))
  (hb:∀ (cdv:Value) (A:Around) (outer:List PySem.Env) (s:Shared) (H:Hp) (E:XK),Room k (A.deeper (envOfC x (ao st) s.heap.objs.size f cdv))->dS G (jC CX0 P w K mg base N x (ao st) f cdv A outer s H E).nox (aK st) c) :
  FnAt P w K mg base (k+1) x ps G (fn np nn c) :=
 ⟨f,fd,fnV F S hp hn hb,hm,F.kp,F.binds hbd⟩
end
end VS
end
section
namespace L2
open PySem PySem.Spec PyProof.Rows
noncomputable def Its (x:Str):It:=⟨fun i _=>i < x.cps.size,fun i H v H'=>H'=H/\∃ c,x.cps[i]?=some c/\v=.str ⟨#[c]⟩,fun i _=>x.cps.size<=i⟩
theorem nh {P:Program} {w:World} {K:Xy} {tg:Expr} (x:Str) (t:Tok) (it:Addr) (ty:String) (hn:["enumerate", "zip", "dict_itemiterator", "dict_reverseitemiterator", "odict_iterator", "itertools.zip_longest", "itertools.pairwise"].contains ty=false)
  (W:∀ A:Around,A.handled=none->Walks P w A it [it] [it] x.cps.size (fun i v=>∃ c u,x.cps[i]?=some c/\v=.str ⟨#[c]⟩ u) (fun i h=>h.IsStrIter it ty x t i)) (hend:∀ (A:Around),A.handled=none->∀ (i:Nat) (s:Shared) (Q:Wr->Shared->Prop) (E:Z9),s.heap.IsStrIter it ty x t i->x.cps[i]?=none->(∀ h',Heap.ExtBut it s.heap h'->Q none { s with heap:=h' })->wpAny (model P w) A (pyNext (.ref it)) Q E s)
  (hself:∀ (A:Around) (i:Nat) (s:Shared) (Q:Z9) (E:Z9),s.heap.IsStrIter it ty x t i->Q (.ref it) s->wpAny (model P w) A (pyIter (.ref it)) Q E s) :
  Turn P w K tg (Its x) [it] it (fun i h=>h.IsStrIter it ty x t i) where
 mem:=by simp
 obj:=fun i h st b hb=>by
  rw [Zg.mp hb]
  obtain ⟨o,e,c,d⟩:=st
  exact ⟨o,e,fun v z=>by rw [d] at z;cases z⟩
 keep:=fun i h h' st k=>let ⟨o,e,r⟩:=st;⟨o,k it (by simp) o e,r⟩
 item:=by
  intro X hP hw hK hc i pins s σ H E I hf st hg
  subst hP hw hK
  obtain ⟨f0,f1,f2,f3,f4,f5⟩:=hf it (by simp)
  refine (W X.A (I.ok.hd hc)).item i s _ _ hg st fun v h' tk hv st' kk=>?_
  obtain ⟨c,u,hc',rfl⟩:=hv
  have I1:Inv X pins σ H { s with heap:=h',toks:=tk }:=I.turned (fun b o hb e=>kk b o (by simpa using hb) e) f0 f1 f3 f4 f5
  obtain ⟨o,e,c1,d⟩:=id st'
  exact ⟨_,rfl,qy (s:={ s with heap:=h',toks:=tk }) e c1 d hn ⟨.str ⟨#[c]⟩,H,I1,⟨u,rfl⟩,⟨rfl,c,hc',rfl⟩,st',fun b hb=>(hf b hb).1⟩⟩
 done:=by
  intro X hP hw hK hc i pins s σ H E I hf st hg
  subst hP hw hK
  obtain ⟨f0,f1,f2,f3,f4,f5⟩:=hf it (by simp)
  have hx:x.cps.size<=i:=hg
  exact hend X.A (I.ok.hd hc) i s _ _ st (by simp [hx]) fun h' eb=>⟨rfl,I.turned (t':=s.toks) (fun b o hb e=>eb b o hb e) f0 f1 f3 f4 f5⟩
 self:=fun A i s Q E st h=>hself A i s Q E st h
theorem xT {P:Program} {w:World} {K:Xy} {tg:Expr} (x:Str) (t:Tok) (it:Addr):Turn P w K tg (Its x) [it] it (fun i h=>h.IsStrIter it (strIterType x) x t i):=by
 cases ha:x.cps.all (· < 128)
 ·have e:strIterType x = "str_iterator" := by simp [strIterType,ha]
  rw [e]
  exact nh x t it "str_iterator" rfl (fun A hA=>Walks.strWide hA it x t) (fun A hA i s Q E st hx q=>wpAny_pyNext_wide_end hA st hx q) fun A i s Q E st q=>wpAny_pyIter_striter_wide st q
 ·have e:strIterType x = "str_ascii_iterator" := by simp [strIterType,ha]
  rw [e]
  exact nh x t it "str_ascii_iterator" rfl (fun A hA=>Walks.strAscii hA it x t) (fun A hA i s Q E st hx q=>wpAny_pyNext_ascii_end hA st hx q) fun A i s Q E st q=>wpAny_pyIter_striter_ascii st q
section
variable {X:Cx} {tg l a b c:Expr} {tl ta tb tc:TE} {pos:Pos}
noncomputable def EH (K:Xy) (tl:TE):TI:=fun σ H R=>tl σ H fun x H1=>(∃ a,x=.ref a/\(∃ xs,SqL K H1 a xs)/\R (Itl K a) H1)\/(∃ a,x=.ref a/\(∃ xs,SqT K H1 a xs)/\R (Itt K a) H1)\/∃ z,x=.str z/\R (Its z) H1
theorem zB (hl:PE X l tl):PI X tg l (EH X.K tl):=by
 intro pins s σ H R I h
 refine thn (hl pins s σ H _ I h) fun v s1 ⟨x,H1,I1,r1,q1⟩=>?_
 have fp1:∀ b∈[s1.heap.objs.size],iY X pins H1 b:=fun b hb=>by
  rw [Zg.mp hb]
  exact I1.fpOk (Zp _) (I1.hok.fresh (Zp _))
 rcases q1 with ⟨a,e,⟨xs,hq⟩,q⟩ | ⟨a,e,⟨xs,hq⟩,q⟩ | ⟨z,e,q⟩
 ·subst e
  cases r1
  obtain ⟨its,rv,p,hz⟩:=I1.list hq
  exact wpAny_pyIter_list p.isList ⟨s1.heap.objs.size,[s1.heap.objs.size],_,_,H1,rfl,I1.kept (t':=s1.toks) fun b o e=>Ze _ e,uw a _,⟨_,ZM _ rfl,rfl,rfl⟩,fp1,q⟩
 ·subst e
  cases r1
  obtain ⟨its,rv,p,hz⟩:=I1.tuple hq
  exact wpAny_pyIter_tuple (show s1.heap.IsTuple a its.toArray from p) ⟨s1.heap.objs.size,[s1.heap.objs.size],_,_,H1,rfl,I1.kept (t':=s1.toks) fun b o e=>Ze _ e,rO a _,⟨_,ZM _ rfl,rfl,rfl⟩,fp1,q⟩
 ·subst e
  obtain ⟨t,rfl⟩:=r1
  exact wpAny_pyIter_strU ⟨s1.heap.objs.size,[s1.heap.objs.size],_,_,H1,rfl,I1.kept (t':=s1.toks) fun b o e=>Ze _ e,xT z t _,⟨_,ZM _ rfl,rfl,rfl⟩,fp1,q⟩
theorem As {s:Shared} {h':Heap} {o:Obj} (hk:∀ b x,b ∉ [s.heap.objs.size]->(s.heap.push o).get? b=some x->h'.get? b=some x) (b:Addr) (x:Obj) (e:s.heap.get? b=some x):h'.get? b=some x :=
 hk b x (fun hm=>Y3 _ (by have:=ZY e;rw [Zg.mp hm] at this;exact this)) (Ze _ e)
theorem vL (hc:X.calm=true):d9 X (.builtin "any") (fun xs H Q=>∃ p,∃ bs:List Bool,xs=[.ref p]/\SqL X.K H p (bs.map V.bl)/\Q (.bl (bs.any id)) H):=by
 intro pins s σ H xs us Q I rx h
 obtain ⟨p,bs,rfl,hq,q⟩:=h
 obtain ⟨u,rfl,ru⟩:=rx.one
 cases ru
 obtain ⟨its,rv,pl,hz⟩:=I.list hq
 have hl:p < s.heap.objs.size:=by obtain ⟨_,e,_⟩:=pl.isList;exact ZY e
 refine call_any_walk (wpAny_pyIter_list pl.isList ⟨s.heap.objs.size,[s.heap.objs.size,p],[s.heap.objs.size],its.toArray.size,_,_,fun i=>(bs[i]?).getD false,rfl,Walks.list (A:=X.A.in1) (I.ok.hd hc) _ p (Z0 hl) its.toArray,
  ⟨⟨_,ZM _ rfl,rfl,rfl⟩,pl.isList.push _⟩,fun i v s' Q' E' hP hQ=>?_,fun h' tk hk=>⟨.bl (bs.any id),H,I.kept (As hk),?_,q⟩⟩)
 ·have hv:its[i]?=some v:=by simpa using hP
  cases e:bs[i]? with
  | none =>
   have:=rv.none_of (i:=i) (by rw [Z1,e];rfl)
   rw [this] at hv;cases hv
  | some n =>
   obtain ⟨u,hu,ru⟩:=rv.get (i:=i) (x:=.bl n) (by rw [Z1,e];rfl)
   rw [hu] at hv;cases hv
   cases ru
   simp only [e,Xk] at hQ
   exact Yj hQ
 ·have hlen:its.toArray.size=bs.length:=by have:=rv.length;simp at this ⊢;exact Eq.symm this
  rw [hlen,LSm.range_any]
  rfl
theorem t9:OpR X (compareOp .Gt) (fun x y H Q=>∃ i j,x=.str i/\y=.str j/\Q (.bl (decide (j.cps.toList < i.cps.toList))) H):=by
 intro pins s σ H x y v u Q I rx ry h
 obtain ⟨i,j,rfl,rfl,q⟩:=h
 obtain ⟨t,rfl⟩:=rx
 obtain ⟨t',rfl⟩:=ry
 exact PySem.P.gt_str ⟨.bl _,H,I,rfl,q⟩
theorem tX:OpR X (compareOp .GtE) (fun x y H Q=>∃ i j,x=.str i/\y=.str j/\Q (.bl (!decide (i.cps.toList < j.cps.toList))) H):=by
 intro pins s σ H x y v u Q I rx ry h
 obtain ⟨i,j,rfl,rfl,q⟩:=h
 obtain ⟨t,rfl⟩:=rx
 obtain ⟨t',rfl⟩:=ry
 exact PySem.P.ge_str ⟨.bl _,H,I,rfl,q⟩
end
end L2
end
section
namespace VS
open PySem PySem.Spec PyProof.Rows L2
section
variable {G:Gx} {X:Cx} {a b c e tg:Expr} {es:List Expr} {ca cb cc:Ex} {cs:Exs} {pos p p1 p2 apos cpos:Pos} {k k':Nat}
theorem Cr (H:Hp) (s:Tx) (ok:iP s):ItOk G (L2.Its (sx s)) (s.map fun c=>T.str [c]) [] H:=by
 have sz:(sx s).cps.size=s.length:=rfl
 refine ⟨fun H2 _ _=>⟨fun i t h=>?_,fun i h=>(by rw [Zt] at h;show (sx s).cps.size<=i;lia)⟩,fun a h=>by simp at h⟩
 rw [Z1] at h
 obtain ⟨c,hc,rfl⟩:=Zo.mp h
 refine ⟨(by show i < (sx s).cps.size;have:=(Zb.mp hc).1;lia),fun x H3 ⟨e1,c',hc',e2⟩=>?_⟩
 subst e1
 have:c'=c:=by
  have h1:(sx s).cps[i]?=some c:=by simp [sx,hc]
  rw [h1] at hc';exact (ZK hc').symm
 subst this
 rw [e2]
 exact ⟨aU.refl _,[],.str [c'] ⟨(by show 1<=g9;decide),fun d hd=>by rw [Zg.mp hd];exact ok.2 c' (Y0 hc)⟩,fun a h=>by simp at h⟩
theorem yC (ha:PV G X a ca) (hK:X.K=G.K:=by rfl):PVI G X tg a (kG ca) :=
 PI.weak (zB ha) fun σ H R hq=>by
  obtain ⟨Φ,η,m,l,s,e,k⟩:=hq
  unfold kG at e
  obtain ⟨⟨mx,x⟩,ea,e1⟩:=Zz.mp e
  refine ⟨Φ,η,mx,x,s,ea,fun v H' F e3 r3 f3=>?_⟩
  cases x with
  | lst ts =>
   cases e1
   obtain ⟨a',vs,Fs,rfl,rfl,ha',ra⟩:=r3.lst_inv
   exact .inl ⟨a',rfl,⟨vs,SqL.of ha'⟩,k _ H' _ e3 (AB X.K ha' ra) f3.c⟩
  | tup ts =>
   cases e1
   obtain ⟨a',vs,Fs,rfl,rfl,ha',ra⟩:=r3.tup_inv
   exact .inr (.inl ⟨a',rfl,⟨vs,SqT.of ha'⟩,k _ H' _ e3 (Bp X.K ha' ra) f3.c⟩)
  | str z =>
   cases e1
   obtain ⟨rfl,ok⟩:=r3.str_inv
   exact .inr (.inr ⟨_,rfl,k _ H' [] e3 (Cr H' z ok) fun a h=>by simp at h⟩)
  | _=>cases e1
theorem pV {H:Hp}:∀ {vs:List V} {l:Vu} {Fs:Yk} {ss:List Bool},RpL G H vs l Fs->oy l=some ss->vs=ss.map V.bl
 | _,_,_,_,.nil,e=>by cases e;rfl
 | _,_,_,_,.cons (t:=t) r q,e=>by
  cases t with
  | bl s =>
   simp only [oy] at e
   obtain ⟨ss',e1,e2⟩:=Zo.mp e
   subst e2
   rw [pV q e1,r.bl_inv]
   rfl
  | _=>cases e
theorem C3:gM G (fun xs H Q=>∃ p,∃ bs:List Bool,xs=[.ref p]/\SqL G.K H p (bs.map V.bl)/\Q (.bl (bs.any id)) H) xi:=by
 intro Φ η H0 H l vs Fs m t Q A e k
 unfold xi at e
 split at e
 ·rename_i mx x
  obtain ⟨is,e1,e2⟩:=Zz.mp e
  cases e2
  obtain ⟨v,F,rfl,rfl,rx⟩:=(show RpL G H vs [.lst x] Fs from A.rp).one
  obtain ⟨a,ys,Gs,rfl,rfl,ha,ra⟩:=rx.lst_inv
  exact ⟨a,is,rfl,by rw [← pV ra e1];exact SqL.of ha,bC k (.bl _)⟩
 ·cases e
theorem C4:bootBuiltins ("any" : Str)=some (.builtin "any"):=by decide +kernel
theorem u9:bootBuiltins ("tuple" : Str)=some (.type "tuple"):=by decide +kernel
theorem w_any (hm:X.mg "any" = none) (ha:PVs G X [e] cs) (hg:Gl X "any" := by rfl) (hK:X.K=G.K:=by rfl) (hc:X.calm=true:=by rfl) (he:starEach [e] X.env=(false,eval e X.env) :: starEach [] X.env:=by rfl):PV G X (.Call (.Name "any" p) [e] [] pos) (eN xi cs) :=
 kY (vL hc) (hK ▸ C3) hg hm C4 ha (he:=he) (hpl:=rfl)
theorem wB:gM G (fun xs H Q=>∃ p ys,xs=[.ref p]/\((SqL G.K H p ys/\∀ l,H l=none->Q (.ref l) (upd H l (.tup ys)))\/(SqT G.K H p ys/\Q (.ref p) H))) fW:=by
 intro Φ η H0 H l vs Fs m t Q A e k
 unfold fW at e
 split at e
 ·rename_i mx x
  split at e
  ·rename_i hl
   cases e
   obtain ⟨v,F,rfl,rfl,rx⟩:=(show RpL G H vs [.lst x] Fs from A.rp).one
   obtain ⟨a,ys,Gs,rfl,rfl,ha,ra⟩:=rx.lst_inv
   have f:=(A.fp.each 0 _ _ rfl rfl).sub (YS _ _)
   refine ⟨a,ys,rfl,.inl ⟨SqL.of ha,fun q hq=>?_⟩⟩
   have sm:aU H (upd H q (.tup ys)):=dw hq
   have r:Rp G (upd H q (.tup ys)) (.ref q) (.tup x) Gs.flatten:=.tup aH (ra.same sm)
   exact k _ _ _ sm r (f.up r)
  ·cases e
 ·cases e
theorem yE (hm:X.mg "tuple" = none) (ha:PVs G X [e] cs) (hg:Gl X "tuple" := by rfl) (hK:X.K=G.K:=by rfl) (he:starEach [e] X.env=(false,eval e X.env) :: starEach [] X.env:=by rfl):PV G X (.Call (.Name "tuple" p) [e] [] pos) (eN fW cs) :=
 nu mG (hK ▸ wB) hg hm u9 ha (he:=he) (hpl:=rfl)
noncomputable def rGt:R2:=fun x y H Q=>rI0 (fun i j=>.bl (decide (j < i))) x y H Q\/(∃ i j,x=.str i/\y=.str j/\Q (.bl (decide (j.cps.toList < i.cps.toList))) H)
noncomputable def rGe:R2:=fun x y H Q=>rI0 (fun i j=>.bl (decide (j<=i))) x y H Q\/(∃ i j,x=.str i/\y=.str j/\Q (.bl (!decide (i.cps.toList < j.cps.toList))) H)
theorem vH (s t:Tx):decide ((sx s).cps.toList < (sx t).cps.toList)=ltx s t:=by rw [lD];exact decide_eq_decide.mpr (by simp [sx])
theorem DK:gp G rGt oGt:=by
 intro Φ η H0 H x y u w F1 F2 m t Q tw e k
 obtain ⟨m1,x⟩:=x
 obtain ⟨m2,y⟩:=y
 obtain ⟨same,r1,r2,f1,f2,nd⟩:=tw
 unfold oGt oLt at e
 split at e
 ·rename_i e1 e2
  cases e1
  cases e2
  cases e
  exact .inl ⟨_,_,r1.int_inv,r2.int_inv,bC k (.bl _)⟩
 ·rename_i s _ s' e1 e2
  cases e1
  cases e2
  cases e
  refine .inr ⟨_,_,r1.str_inv.1,r2.str_inv.1,?_⟩
  rw [vH]
  exact bC k (.bl _)
 ·cases e
theorem Er:gp G rGe oGe:=by
 intro Φ η H0 H x y u w F1 F2 m t Q tw e k
 obtain ⟨m1,x⟩:=x
 obtain ⟨m2,y⟩:=y
 obtain ⟨same,r1,r2,f1,f2,nd⟩:=tw
 unfold oGe oLe at e
 split at e
 ·rename_i e1 e2
  cases e1
  cases e2
  cases e
  exact .inl ⟨_,_,r1.int_inv,r2.int_inv,bC k (.bl _)⟩
 ·rename_i s _ s' e1 e2
  cases e1
  cases e2
  cases e
  refine .inr ⟨_,_,r1.str_inv.1,r2.str_inv.1,?_⟩
  rw [vH]
  exact bC k (.bl _)
 ·cases e
theorem xq:Tells oGt:=fun x y m t e=>lq y x m t e
theorem vY:Tells oGe:=fun x y m t e=>wg y x m t e
theorem DC (ha:PV G X a ca) (hb:PV G X b cb):PVT G X (.Compare a [.Gt] [b] pos) (e2 oGt ca cb):=iI (r:=rGt) (EV.or t9) DK xq ha hb (jO _)
theorem DL (ha:PV G X a ca) (hb:PV G X b cb):PVT G X (.Compare a [.GtE] [b] pos) (e2 oGe ca cb):=iI (r:=rGe) (Ff.or tX) Er vY ha hb (jO _)
theorem wM {r r':R2} {f g:Val->Val->Vv} (ok:gp G r f) (ok':gp G r' g) {σ:L2.St} {H:Hp} {Q:VK} (h:tE G (eY f g ca cb cc) σ H Q):wY r r' (tE G ca) (tE G cb) (tE G cc) σ H Q:=by
 obtain ⟨Φ,η,m,t,s,e,k⟩:=h
 unfold eY at e
 obtain ⟨x,ea,e⟩:=Zz.mp e
 obtain ⟨y,eb,e⟩:=Zz.mp e
 obtain ⟨⟨mz,z⟩,ez,e⟩:=Zz.mp e
 refine wU s ea eb fun u w H2 F1 F2 tw=>ok Φ η H H2 x y u w F1 F2 mz z _ tw ez fun v H3 F e1 r1 f1=>?_
 cases z with
 | bl q =>
  refine ⟨q,r1.bl_inv,?_⟩
  cases q with
  | false =>
   cases e
   rw [Zn Zm]
   exact k _ H3 [] (tw.same.trans e1) (.bl false) Fp.nil
  | true =>
   rw [Zq rfl]
   obtain ⟨z2,ec,e⟩:=Zz.mp (show (cc η).bind (fun z=>g y z)=some (m,t) from e)
   have sm:=tw.same.trans e1
   refine ⟨Φ,η,z2.1,z2.2,s.same sm,ec,fun w2 H4 F4 e4 r4 f4=>?_⟩
   refine ok' Φ η H H4 y z2 w w2 F2 F4 m t Q ⟨sm.trans e4,(tw.r2.same e1).same e4,r4,tw.f2,f4.back sm,fun hx hy=>?_⟩ e fun v' H5 F5 e5 r5 f5=>k v' H5 F5 ((sm.trans e4).trans e5) r5 f5
   have f2:=tw.f2
   rw [hx] at f2
   rw [hy] at f4
   refine ZD.mpr ⟨f2.1,f4.1,fun a ha b hb z=>?_⟩
   subst z
   exact Mut.ne_none ((tw.r2.same e1).dom a ha) (f4.2 a hb)
 | _=>cases e
end
end VS
end
section
namespace L2
open PySem PySem.Spec PyProof.Rows
end L2
namespace VS
open PySem PySem.Spec PyProof.Rows L2
section
variable {G:Gx} {X:Cx} {a b c e tg:Expr} {es:List Expr} {ca cb cc:Ex} {cs:Exs} {pos p p1 p2 apos cpos:Pos} {k k':Nat}
theorem Ce:PV G X (.Dict [] [] pos) (kg 0 []):=PE.weak w6 fun σ H Q hq=>by
 obtain ⟨Φ,η,m,t,s,e,k⟩:=hq
 cases (show some (Md.fr,T.dct 0 [])=some (m,t) from e)
 intro q hq
 have:Rp G (upd H q (.dK [])) (.ref q) (.dct 0 ((([]:List Key).map aS).zip [])) (q :: ([]:Yk).flatten):=.dct aH rfl .nil
 exact k _ _ [q] (dw hq) this ⟨by simp,fun b hb=>by rw [Zg.mp hb];exact hq⟩
end
section
variable {G:Gx} {X:Cx} {a b c e tg:Expr} {es:List Expr} {ca cb cc ce:Ex} {cs:Exs} {pos p p1 p2 apos cpos pos':Pos} {k k':Nat}
theorem uE {body:List Stmt} {cb:Sx} (hp:PassesOwn (model X.prog X.w) X.A X.env X.xe) (hc:PVT G X c cc) (hb:dS G X body cb):PSV G X (.While c body [] pos) (mq cc cb) :=
 PS.weak (xA hp hc hb) fun D σ H hq=>by
  obtain ⟨Φ,η,o,s,e,k⟩:=hq
  refine ⟨fun n σ2 H2=>∃ Φ2 η2,SR G Φ2 η2 σ2 H2/\Frm Φ η H Φ2 η2 H2/\dH cc cb n η2=some o,⟨AG,Φ,η,s,Frm.refl Φ η H,e⟩,?_⟩
  rintro n σ2 H2 ⟨Φ2,η2,s2,f2,e2⟩
  cases n with
  | zero=>cases (show (none:Option Out)=some o from e2)
  | succ n =>
   rw [dH] at e2
   obtain ⟨⟨mx,x⟩,ex,e3⟩:=Zz.mp e2
   obtain ⟨t,et,e4⟩:=Zz.mp e3
   refine ⟨Φ2,η2,mx,x,t,s2,ex,et,fun H3 sm=>?_⟩
   have s3:=s2.same sm
   have f3:Frm Φ η H Φ2 η2 H3:=f2.trans (Frm.same sm)
   cases t with
   | false =>
    rw [Zn Zm] at e4
    cases e4
    show if false=true then _ else _
    rw [Zn Zm]
    exact k Φ2 σ2 H3 s3 f3
   | true =>
    rw [Zq rfl] at e4
    show if true=true then _ else _
    rw [Zq rfl]
    obtain ⟨o',e5,e6⟩:=Zz.mp e4
    refine ⟨fun σ4 H4=>∃ Φ4 η4,SR G Φ4 η4 σ4 H4/\Frm Φ η H Φ4 η4 H4/\dH cc cb n η4=some o,fun σ4 H4 q=>⟨n,Nat.lt_succ_self n,q⟩,Φ2,η2,o',s3,e5,?_⟩
    cases o' with
    | nx η4=>exact fun Φ4 σ4 H4 s5 fb=>⟨Φ4,η4,s5,f3.trans fb,e6⟩
    | ct η4=>exact fun Φ4 σ4 H4 s5 fb=>⟨Φ4,η4,s5,f3.trans fb,e6⟩
    | bk η4 =>
     cases (show some (Out.nx η4)=some o from e6)
     exact fun Φ4 σ4 H4 s5 fb=>k Φ4 σ4 H4 s5 (f3.trans fb)
    | rt v η4 =>
     cases (show some (Out.rt v η4)=some o from e6)
     exact fun u H4 F4 Φ4 σ4 s5 fb r5 q5=>k u H4 F4 Φ4 σ4 s5 (f3.trans fb) r5 (q5.back f3)
theorem iH {H:Hp} {v:V} {l:List (T×T)} {F:Xl} (r:Rp G H v (.dct 0 l) F):∃ (a:Addr) (ks:List Key) (vs:List V) (ts:Vu) (Fs:Yk),v=.ref a/\F=a :: Fs.flatten/\H a=some (.dK (ks.zip vs))/\ks.length=vs.length/\l=(ks.map aS).zip ts/\RpL G H vs ts Fs:=by
 cases r with
 | dct h hl q=>exact ⟨_,_,_,_,_,rfl,rfl,h,hl,rfl,q⟩
theorem gZ {H:Hp} {v:V} {t:T} {F:Xl} (r:Rp G H v t F) (h:ki t=true):∃ k:Key,v=kV k/\t=aS k:=by
 cases t with
 | int i=>exact ⟨.inl i,r.int_inv,rfl⟩
 | str s=>exact ⟨.inr (sx s),r.str_inv.1,by simp [aS,sx]⟩
 | _=>cases h
theorem kU {H:Hp} {k:Key}:∀ {ks:List Key} {vs:List V} {ts:Vu} {Fs:Yk},ks.length=vs.length->RpL G H vs ts Fs →
  (dq ((ks.map aS).zip ts) (aS k)=none/\cz (ks.zip vs) k=none)\/∃ (i:Nat) (v:V) (t:T) (F:Xl),dq ((ks.map aS).zip ts) (aS k)=some t/\cz (ks.zip vs) k=some v/\vs[i]?=some v/\Fs[i]?=some F/\Rp G H v t F
 | [],[],_,_,_,.nil=>.inl ⟨rfl,rfl⟩
 | k' :: ks,v :: vs,_,_,hl,.cons (t:=t) (F:=F) (ts:=ts) (Fs:=Fs) r q=>by
  have e:eqT (aS k') (aS k)=decide (k'=k):=by
   rw [Bool.eq_iff_iff,decide_eq_true_eq]
   cases k with
   | inl i=>cases k' <;> simp [aS]
   | inr x =>
    obtain ⟨⟨x⟩⟩:=x
    cases k' with
    | inl j=>simp [aS]
    | inr y=>obtain ⟨⟨y⟩⟩:=y;simp [aS]
  by_cases hk:k'=k
  ·refine .inr ⟨0,v,t,F,?_,b7 hk,rfl,rfl,r⟩
   have e':eqT (aS k') (aS k)=true:=by rw [e];exact decide_eq_true hk
   simp only [dq,Zu,ZG,Z6,e']
   rfl
  ·have h1:dq (((k' :: ks).map aS).zip (t :: ts)) (aS k)=dq ((ks.map aS).zip ts) (aS k):=by
    have e':eqT (aS k') (aS k)=false:=by rw [e];exact ZL hk
    simp only [dq,Zu,ZG,Z6,e']
   have h2:cz ((k' :: ks).zip (v :: vs)) k=cz (ks.zip vs) k:=by simp [cz,hk]
   rw [h1,h2]
   rcases kU (k:=k) (by simpa using hl) q with h | ⟨i,v',t',F',a1,a2,a3,a4,a5⟩
   ·exact .inl h
   ·exact .inr ⟨i+1,v',t',F',a1,a2,by simpa using a3,by simpa using a4,a5⟩
theorem Aw (hu:X.A.units+1 < cLine):IxR X (fun x y H Q=>∃ a v,x=.ref a/\kD H a y (some v)/\Q v H):=by
 intro value slice pins s σ H x y v u Q I rx ry h hs
 obtain ⟨a,w,rfl,g,q⟩:=h
 cases rx
 have hT:=qf I g
 unfold subscriptTail
 refine Zy ?_
 rw [getitemInPython_of_ne hT.not_modules]
 refine Zy (Xq hT PySem.F.slot_dict_getitem.lookup ?_)
 have fin:wpAny (model X.prog X.w) X.A (subscripted slice false (.ref a) u) (fun r s₃=>wpAny (model X.prog X.w) X.A (letTemporaryGo value (.ref a) r >>= fun _=>pure r) (EP X pins σ Q) X.xe s₃) X.xe s:=by
  rw [hs]
  exact wpAny_operating (tM hu I g ry fun w' s3 I3 rw'=>Zy (wpAny_letTemporaryGo (Zs ⟨w,H,I3,rw',q⟩)))
 first
  | exact Zs (Zy fin)
  | exact Zy (Zs (Zy fin))
  | exact Zy fin
noncomputable def Fx (K:Xy):R2:=fun x y H Q=>rIx K x y H Q\/∃ a v,x=.ref a/\kD H a y (some v)/\Q v H
theorem DJ:gp G (Fx G.K) oIx:=by
 intro Φ η H0 H x y u w F1 F2 m t Q tw e k
 obtain ⟨m1,x⟩:=x
 by_cases hd:∃ l,x=.dct 0 l
 ·obtain ⟨l,rfl⟩:=hd
  simp only [oIx] at e
  split at e
  ·rename_i hk
   obtain ⟨t',e1,e2⟩:=Zo.mp e
   obtain ⟨a,ks,vs,ts,Fs,rfl,rfl,ha,hl,rfl,q⟩:=iH tw.r1
   obtain ⟨kk,rfl,ek⟩:=gZ tw.r2 hk
   rw [ek] at e1
   rcases kU (k:=kk) hl q with ⟨h1,_⟩ | ⟨i,v,t2,F,a1,a2,a3,a4,a5⟩
   ·rw [h1] at e1;cases e1
   ·rw [a1] at e1
    cases e1
    cases e2
    refine .inr ⟨a,v,rfl,by rw [← a2];exact kD.k ha,?_⟩
    have f:=((tw.f1.sub (YS _ _)).sub (gy a4)).up a5
    exact k v H F (aU.refl _) a5 f
  ·cases e
 ·have e':aV (m1,x) y=some (m,t):=by
   simp only [oIx] at e
   split at e
   ·rename_i l hx
    exact absurd ⟨_,rfl⟩ hd
   ·exact e
  exact .inl (vT Φ η H0 H (m1,x) y u w F1 F2 m t Q tw e' k)
theorem FE (hr:Room k X.A) (ha:PV G X a ca) (hb:PV G X b cb) (hs:gQ b:=by intro _ _;rfl) (hK:X.K=G.K:=by rfl):PV G X (.Subscript a b pos) (e2 oIx ca cb) :=
 PE.weak (vP (IxR.or xp (Aw (vQ hr))) ha hb hs) fun σ H Q h=>by rw [hK];exact mw DJ h
noncomputable def fV:T->V
 | .bl b=>.bl b
 | .int i=>.int i
 | .str s=>.str (sx s)
 | _=>.non
theorem AM {H:Hp} {v:V} {t:T} {F:Xl} (r:Rp G H v t F) (h:flat t=true):v=fV t/\fg v=true:=by
 cases r with
 | non=>exact ⟨rfl,rfl⟩
 | bl b=>exact ⟨rfl,rfl⟩
 | int i=>exact ⟨rfl,rfl⟩
 | str s hl=>exact ⟨rfl,rfl⟩
 | _=>cases h
theorem Ee:∀ {t u:T},flat t=true->flat u=true->eqV (fV t) (fV u)=eqT t u
 | .non,.non,_,_=>rfl
 | .non,.bl _,_,_=>rfl
 | .non,.int _,_,_=>rfl
 | .non,.str _,_,_=>rfl
 | .bl _,.non,_,_=>rfl
 | .bl _,.bl _,_,_=>rfl
 | .bl _,.int _,_,_=>rfl
 | .bl _,.str _,_,_=>rfl
 | .int _,.non,_,_=>rfl
 | .int _,.bl _,_,_=>rfl
 | .int _,.int _,_,_=>rfl
 | .int _,.str _,_,_=>rfl
 | .str _,.non,_,_=>rfl
 | .str _,.bl _,_,_=>rfl
 | .str _,.int _,_,_=>rfl
 | .str _,.str _,_,_=>wk
theorem wO {H:Hp} {v w:V} {t u:T} {F F':Xl} (r:Rp G H v t F) (r':Rp G H w u F') (h1:flat t=true) (h2:flat u=true):eqV v w=eqT t u/\fg v=true/\fg w=true:=by
 obtain ⟨e1,f1⟩:=AM r h1
 obtain ⟨e2,f2⟩:=AM r' h2
 refine ⟨?_,f1,f2⟩
 rw [e1,e2]
 exact Ee h1 h2
theorem n6 {H:Hp} {x:V} {t:T} {F:Xl} (r:Rp G H x t F) (hx:flat t=true):∀ {vs:List V} {ts:Vu} {Fs:Yk},RpL G H vs ts Fs->ts.all flat=true->vs.all fg=true/\inV x vs=ts.any fun y=>eqT y t
 | _,_,_,.nil,_=>⟨rfl,rfl⟩
 | _,_,_,.cons r' q,h=>by
  rw [Wv,Z3] at h
  obtain ⟨h1,h2⟩:=n6 r hx q h.2
  obtain ⟨e1,e2,e3⟩:=wO r' r h.1 hx
  refine ⟨by rw [Wv,e2,h1];rfl,?_⟩
  unfold inV at h2 ⊢
  rw [YE,YE,h2,e1]
noncomputable def Do (K:Xy):R2:=fun x y H Q=>rIn K false x y H Q\/∃ a o,y=.ref a/\kD H a x o/\Q (.bl o.isSome) H
theorem zk (hu:X.A.units+1 < cLine):OpR X (compareOp .In) (fun x y H Q=>∃ a o,y=.ref a/\kD H a x o/\Q (.bl o.isSome) H):=by
 intro pins s σ H x y v u Q I rx ry h
 obtain ⟨a,o,rfl,g,q⟩:=h
 cases ry
 exact FW hu I g rx fun s3 I3=>⟨.bl o.isSome,H,I3,rfl,q⟩
theorem xm {Φ:Fps} {η:VS.Env} {H0 H:Hp} {x y:Val} {u w:V} {F1 F2:Xl} {m:Md} {t:T} (tw:Two G Φ η H0 H x y u w F1 F2) (e:lV x y=some (m,t)) :
  ∃ b,m=.fr/\t=.bl b/\((∃ p xs,w=.ref p/\(SqL G.K H p xs\/SqT G.K H p xs)/\fg u=true/\xs.all fg=true/\inV u xs=b)\/∃ a o,w=.ref a/\kD H a u o/\o.isSome=b):=by
 obtain ⟨m2,y⟩:=y
 simp only [lV] at e
 split at e
 ·split at e
  ·rename_i hk
   cases e
   obtain ⟨a,ks,vs,ts,Fs,rfl,rfl,ha,hl,rfl,q⟩:=iH tw.r2
   obtain ⟨kk,rfl,ek⟩:=gZ tw.r1 hk
   refine ⟨_,rfl,rfl,.inr ⟨a,cz (ks.zip vs) kk,rfl,kD.k ha,?_⟩⟩
   rw [ek]
   rcases kU (k:=kk) hl q with ⟨h1,h2⟩ | ⟨i,v,t2,F,a1,a2,_⟩
   ·rw [h1,h2];rfl
   ·rw [a1,a2];rfl
  ·cases e
 ·split at e
  ·rename_i hk
   cases e
   rw [Z3] at hk
   obtain ⟨a,vs,Fs,rfl,rfl,ha,ra⟩:=tw.r2.lst_inv
   obtain ⟨h1,h2⟩:=n6 tw.r1 hk.1 ra hk.2
   have hf:fg u=true:=(wO tw.r1 tw.r1 hk.1 hk.1).2.1
   exact ⟨_,rfl,rfl,.inl ⟨a,vs,rfl,.inl (SqL.of ha),hf,h1,h2⟩⟩
  ·cases e
 ·split at e
  ·rename_i hk
   cases e
   rw [Z3] at hk
   obtain ⟨a,vs,Fs,rfl,rfl,ha,ra⟩:=tw.r2.tup_inv
   obtain ⟨h1,h2⟩:=n6 tw.r1 hk.1 ra hk.2
   have hf:fg u=true:=(wO tw.r1 tw.r1 hk.1 hk.1).2.1
   exact ⟨_,rfl,rfl,.inl ⟨a,vs,rfl,.inr (SqT.of ha),hf,h1,h2⟩⟩
  ·cases e
 ·cases e
theorem EY:gp G (Do G.K) lV:=by
 intro Φ η H0 H x y u w F1 F2 m t Q tw e k
 obtain ⟨b,rfl,rfl,h⟩:=xm tw e
 rcases h with ⟨p,xs,rfl,hq,f1,f2,hb⟩ | ⟨a,o,rfl,g,hb⟩
 ·refine .inl ⟨p,xs,rfl,hq,f1,f2,?_⟩
  rw [hb]
  exact bC k (.bl b)
 ·refine .inr ⟨a,o,rfl,g,?_⟩
  rw [hb]
  exact bC k (.bl b)
theorem v5:Tells lV:=by
 intro x y m t e
 simp only [lV] at e
 split at e
 all_goals first | (split at e <;> first | (cases e;exact ⟨_,rfl⟩) | cases e) | cases e
theorem E4 (hr:Room k X.A) (ha:PV G X a ca) (hb:PV G X b cb) (hm:behindInMarks .In b=false:=by with_unfolding_all rfl) (hK:X.K=G.K:=by rfl):PVT G X (.Compare a [.In] [b] pos) (e2 lV ca cb):=iI (r:=Do X.K) (uL.or (zk (vQ hr))) (hK ▸ EY) v5 ha hb hm
end
end VS
end
section
open PySem PyProof.Rows
namespace TS
noncomputable def oI:Bool->Keyed->Array Keyed->Nat->Nat->Nat->StateT SortSt Sem (Option Nat):=sortPriv% PySem.Builtin.gallop
noncomputable def lF:Array Keyed->Array Keyed->StateT SortSt Sem (Array Keyed):=sortPriv% PySem.Builtin.mergeLo
noncomputable def mf:Array Keyed->Array Keyed->StateT SortSt Sem (Array Keyed):=sortPriv% PySem.Builtin.mergeHi
theorem all2 {A0 A1:Type} {P:A0×A1->Prop} (h:∀ a0 a1,P (a0,a1)):∀ x,P x:=fun (a0,a1)=>h a0 a1
theorem g8 {A0 A1 A2:Type} {P:A0×A1×A2->Prop} (h:∀ a0 a1 a2,P (a0,a1,a2)):∀ x,P x:=fun (a0,a1,a2)=>h a0 a1 a2
theorem tH {A0 A1 A2 A3 A4:Type} {P:A0×A1×A2×A3×A4->Prop} (h:∀ a0 a1 a2 a3 a4,P (a0,a1,a2,a3,a4)):∀ x,P x:=fun (a0,a1,a2,a3,a4)=>h a0 a1 a2 a3 a4
theorem oR {A0 A1 A2 A3 A4 A5:Type} {P:A0×A1×A2×A3×A4×A5->Prop} (h:∀ a0 a1 a2 a3 a4 a5,P (a0,a1,a2,a3,a4,a5)):∀ x,P x:=fun (a0,a1,a2,a3,a4,a5)=>h a0 a1 a2 a3 a4 a5
theorem Ae {A0 A1 A2 A3 A4 A5 A6:Type} {P:A0×A1×A2×A3×A4×A5×A6->Prop} (h:∀ a0 a1 a2 a3 a4 a5 a6,P (a0,a1,a2,a3,a4,a5,a6)):∀ x,P x:=fun (a0,a1,a2,a3,a4,a5,a6)=>h a0 a1 a2 a3 a4 a5 a6
variable {prog:Program} {w:World} {A:Around} {E:Z9} {s:Shared}
structure Cmp (prog:Program) (w:World) (A:Around) (E:Z9) (s:Shared) (κ:SortKind) (G:Keyed->Prop) (r:Keyed->Keyed->Bool):Prop where
 run:∀ (st:SortSt) (x y:Keyed) (Q:Option Bool->SortSt->Prop),kindOf st=κ->G x->G y->Q (some (r x y)) st->wpS (model prog w) A E s (lt' x y) Q st
 asym:∀ x y,G x->G y->r x y=true->r y x=false
 trans:∀ x y z,G x->G y->G z->r y x=false->r z y=false->r z x=false
variable {κ:SortKind} {G:Keyed->Prop} {r:Keyed->Keyed->Bool}
noncomputable def le (r:Keyed->Keyed->Bool) (x y:Keyed):Prop:=r y x=false
theorem d3 {arr:Array Keyed} {i:Nat} {Q:Keyed->SortSt->Prop} {st:SortSt} (hi:i < arr.size) (h:Q arr[i] st):wpS (model prog w) A E s (elem' arr i) Q st:=by
 rw [elem'_eq,getElem?_pos arr i hi]
 exact Zl h
noncomputable def bey (r:Keyed->Keyed->Bool) (left:Bool) (key x:Keyed):Bool:=if left then r x key else !(r key x)
noncomputable def bf (left:Bool) (key:Keyed) (arr:Array Keyed) (i:Nat):StateT SortSt Sem (Option Bool):=do
 let x ← elem' arr i
 if left=true then lt' x key else do
  let l ← lt' key x
  pure (Option.map (fun x=>!x) l)
theorem jq (C:Cmp prog w A E s κ G r) {left:Bool} {key:Keyed} {arr:Array Keyed} {i:Nat} {Q:Option Bool->SortSt->Prop} {st:SortSt} (hk:kindOf st=κ) (gk:G key) (ga:∀ x∈arr,G x)
  (hi:i < arr.size) (h:Q (some (bey r left key arr[i])) st) :
  wpS (model prog w) A E s (bf left key arr i) Q st:=by
 unfold bf
 refine Zd (d3 hi ?_)
 have g:=ga _ (Zj hi)
 cases left with
 | true=>exact C.run st _ _ _ hk g gk h
 | false=>exact Zd (C.run st _ _ _ hk gk g (Zl h))
theorem qR (C:Cmp prog w A E s κ G r) {left:Bool} {key:Keyed} {arr:Array Keyed} {base n hint:Nat} {Q:Option Nat->SortSt->Prop} {st:SortSt} (hk:kindOf st=κ) (gk:G key) (ga:∀ x∈arr,G x)
  (hb:base+n<=arr.size) (hh:hint < n) (mono:∀ i j (hi:base+i < arr.size) (hj:base+j < arr.size),i<=j->j < n->bey r left key arr[base+j]=true->bey r left key arr[base+i]=true)
  (h:∀ k,k<=n->(∀ i (hi:base+i < arr.size),i < k->bey r left key arr[base+i]=true)->(∀ i (hi:base+i < arr.size),k<=i->i < n->bey r left key arr[base+i]=false)->Q (some k) st) :
  wpS (model prog w) A E s (oI left key arr base n hint) Q st:=by
 obtain ⟨f,fe⟩:∃ f:Nat->Bool,∀ i (hi:base+i < arr.size),f i=bey r left key arr[base+i]:=⟨fun i=>if hi:base+i < arr.size then bey r left key arr[base+i] else false,fun i hi=>dif_pos hi⟩
 have fm:∀ i j,i<=j->j < n->f j=true->f i=true:=fun i j hij hj e=>by
  rw [fe j (by lia)] at e
  rw [fe i (by lia)]
  exact mono i j (by lia) (by lia) hij hj e
 have fin:∀ k,k<=n->(∀ i,i < k->f i=true)->(∀ i,k<=i->i < n->f i=false)->Q (some k) st:=fun k h1 h2 h3 =>
  h k h1 (fun i hi hik=>by rw [← fe i hi];exact h2 i hik) fun i hi h4 h5=>by rw [← fe i hi];exact h3 i h4 h5
 clear h mono
 unfold oI
 change wpS (model prog w) A E s (_ >>= _) Q st
 dsimp only
 have h0:base+hint < arr.size:=by lia
 refine Zd (jq C hk gk ga h0 ?_)
 dsimp only
 rw [← fe _ h0]
 cases e0:f hint with
 | true =>
  rw [Zq rfl]
  refine Zd (Y1 (Yn
   (I:=fun x c st'=>st=st'/\c.1=none/\f (hint+c.2.1)=true/\c.2.1 < c.2.2/\hint+c.2.1 < n/\x < c.2.2)
   (Q:=fun c st'=>st=st'/\c.1=none/\f (hint+c.2.1)=true/\c.2.1 < c.2.2/\hint+c.2.1 < n/\(hint+c.2.2 < n->f (hint+c.2.2)=false)) ?step1 ?fin1 ?init1) ?post1)
  case init1=>exact ⟨rfl,rfl,e0,by decide,by dsimp only;omega,by decide⟩
  case fin1 =>
   refine g8 fun c1 c2 c3=>?_
   rintro st' ⟨rfl,e1,g1,g2,g3,g4⟩
   dsimp only at *
   exact ⟨rfl,e1,g1,g2,g3,fun z=>by (try dsimp only at z);lia⟩
  case step1 =>
   intro x
   refine g8 fun c1 c2 c3=>?_
   rintro st' _ hx ⟨rfl,e1,g1,g2,g3,g4⟩
   dsimp only at *
   split
   ·exact Zl ⟨rfl,rfl,g1,g2,g3,fun z=>by (try dsimp only at z);lia⟩
   ·have hm:base+(hint+c3) < arr.size:=by lia
    refine Zd (jq C hk gk ga hm ?_)
    dsimp only
    rw [← fe _ hm]
    cases e:f (hint+c3) with
    | true=>exact Zl ⟨rfl,rfl,e,by dsimp only;lia,by dsimp only;lia,by dsimp only;lia⟩
    | false=>exact Zl ⟨rfl,rfl,g1,g2,g3,fun _=>e⟩
  case post1 =>
   refine g8 fun c1 c2 c3=>?_
   rintro st' ⟨rfl,e1,g1,g2,g3,g4⟩
   dsimp only at *
   subst e1
   dsimp only
   have h1:hint+c2+1<=hint+min c3 (n - hint):=by omega
   have h2:hint+min c3 (n - hint)<=n:=by omega
   have h3:∀ i,i < hint+c2+1->f i=true:=fun i hi=>fm i _ (by exact YY hi) (by omega) g1
   have h4:∀ i,hint+min c3 (n - hint)<=i->i < n->f i=false:=fun i hi hn=>by
    cases e2:f i with
    | false=>rfl
    | true =>
     have:=g4 (by lia)
     rw [fm _ i (by lia) hn e2] at this;cases this
   clear g1 g2 g3 g4
   refine Zd (Y1 (Yn
    (I:=fun x c st'=>st=st'/\c.1=none/\c.2.1<=c.2.2/\c.2.2<=n/\(∀ i,i < c.2.1->f i=true)/\(∀ i,c.2.2<=i->i < n->f i=false)/\c.2.2 - c.2.1+x<=n)
    (Q:=fun c st'=>st=st'/\c.1=none/\c.2.1=c.2.2/\c.2.2<=n/\(∀ i,i < c.2.1->f i=true)/\(∀ i,c.2.2<=i->i < n->f i=false)) ?step ?fin ?init) ?post)
   case init=>exact ⟨rfl,rfl,h1,h2,h3,h4,by (try dsimp only);omega⟩
   case fin =>
    refine g8 fun c1 c2 c3=>?_
    rintro st' ⟨rfl,e1,g1,g2,g3,g4,g5⟩
    try dsimp only at *
    exact ⟨rfl,e1,by (try dsimp only at *);lia,g2,g3,g4⟩
   case step =>
    intro x
    refine g8 fun c1 c2 c3=>?_
    rintro st' _ hx ⟨rfl,e1,g1,g2,g3,g4,g5⟩
    try dsimp only at *
    split
    ·exact Zl ⟨rfl,rfl,by (try dsimp only at *);lia,g2,g3,g4⟩
    ·have hm:base+(c2+(c3 - c2) / 2) < arr.size:=by lia
     refine Zd (jq C hk gk ga hm ?_)
     try dsimp only
     rw [← fe _ hm]
     cases e:f (c2+(c3 - c2) / 2) with
     | true =>
      rw [Zq rfl]
      exact Zl ⟨rfl,rfl,by (try dsimp only);lia,g2,fun i hi=>fm i _ (by (try dsimp only at hi);exact YY hi) (by lia) e,g4,by (try dsimp only);lia⟩
     | false =>
      rw [Zn Zm]
      refine Zl ⟨rfl,rfl,by (try dsimp only);exact ZI _ _,by (try dsimp only);lia,g3,fun i hi hn=>?_,by (try dsimp only);omega⟩
      try dsimp only at hi
      cases e2:f i with
      | false=>rfl
      | true=>rw [fm _ i hi hn e2] at e;cases e
   case post =>
    refine g8 fun c1 c2 c3=>?_
    rintro st' ⟨rfl,e1,g1,g2,g3,g4⟩
    try dsimp only at *
    subst e1
    exact Zl (fin c3 g2 (fun i hi=>g3 i (by lia)) g4)
 | false =>
  rw [Zn Zm]
  refine Zd (Y1 (Yn
   (I:=fun x c st'=>st=st'/\c.1=none/\f (hint - c.2.1)=false/\c.2.1 < c.2.2/\c.2.1<=hint/\x < c.2.2)
   (Q:=fun c st'=>st=st'/\c.1=none/\f (hint - c.2.1)=false/\c.2.1 < c.2.2/\c.2.1<=hint/\(c.2.2<=hint->f (hint - c.2.2)=true)) ?step1 ?fin1 ?init1) ?post1)
  case init1=>exact ⟨rfl,rfl,e0,by decide,by dsimp only;exact ZU _,by decide⟩
  case fin1 =>
   refine g8 fun c1 c2 c3=>?_
   rintro st' ⟨rfl,e1,g1,g2,g3,g4⟩
   dsimp only at *
   exact ⟨rfl,e1,g1,g2,g3,fun z=>by (try dsimp only at z);lia⟩
  case step1 =>
   intro x
   refine g8 fun c1 c2 c3=>?_
   rintro st' _ hx ⟨rfl,e1,g1,g2,g3,g4⟩
   dsimp only at *
   split
   ·exact Zl ⟨rfl,rfl,g1,g2,g3,fun z=>by (try dsimp only at z);lia⟩
   ·have hm:base+(hint - c3) < arr.size:=by lia
    refine Zd (jq C hk gk ga hm ?_)
    dsimp only
    rw [← fe _ hm]
    cases e:f (hint - c3) with
    | true=>exact Zl ⟨rfl,rfl,g1,g2,g3,fun _=>e⟩
    | false=>exact Zl ⟨rfl,rfl,e,by dsimp only;lia,by dsimp only;lia,by dsimp only;lia⟩
  case post1 =>
   refine g8 fun c1 c2 c3=>?_
   rintro st' ⟨rfl,e1,g1,g2,g3,g4⟩
   dsimp only at *
   subst e1
   dsimp only
   have h1:hint+1 - min c3 (hint+1)<=hint - c2:=by omega
   have h2:hint - c2<=n:=by lia
   have h3:∀ i,i < hint+1 - min c3 (hint+1)->f i=true:=fun i hi=>fm i _ (by omega) (by omega) (g4 (by omega))
   have h4:∀ i,hint - c2<=i->i < n->f i=false:=fun i hi hn=>by
    cases e2:f i with
    | false=>rfl
    | true=>rw [fm _ i (by omega) hn e2] at g1;cases g1
   clear g1 g2 g3 g4
   refine Zd (Y1 (Yn
    (I:=fun x c st'=>st=st'/\c.1=none/\c.2.1<=c.2.2/\c.2.2<=n/\(∀ i,i < c.2.1->f i=true)/\(∀ i,c.2.2<=i->i < n->f i=false)/\c.2.2 - c.2.1+x<=n)
    (Q:=fun c st'=>st=st'/\c.1=none/\c.2.1=c.2.2/\c.2.2<=n/\(∀ i,i < c.2.1->f i=true)/\(∀ i,c.2.2<=i->i < n->f i=false)) ?step ?fin ?init) ?post)
   case init=>exact ⟨rfl,rfl,h1,h2,h3,h4,by (try dsimp only);omega⟩
   case fin =>
    refine g8 fun c1 c2 c3=>?_
    rintro st' ⟨rfl,e1,g1,g2,g3,g4,g5⟩
    try dsimp only at *
    exact ⟨rfl,e1,by (try dsimp only at *);lia,g2,g3,g4⟩
   case step =>
    intro x
    refine g8 fun c1 c2 c3=>?_
    rintro st' _ hx ⟨rfl,e1,g1,g2,g3,g4,g5⟩
    try dsimp only at *
    split
    ·exact Zl ⟨rfl,rfl,by (try dsimp only at *);lia,g2,g3,g4⟩
    ·have hm:base+(c2+(c3 - c2) / 2) < arr.size:=by lia
     refine Zd (jq C hk gk ga hm ?_)
     try dsimp only
     rw [← fe _ hm]
     cases e:f (c2+(c3 - c2) / 2) with
     | true =>
      rw [Zq rfl]
      exact Zl ⟨rfl,rfl,by (try dsimp only);lia,g2,fun i hi=>fm i _ (by (try dsimp only at hi);exact YY hi) (by lia) e,g4,by (try dsimp only);lia⟩
     | false =>
      rw [Zn Zm]
      refine Zl ⟨rfl,rfl,by (try dsimp only);exact ZI _ _,by (try dsimp only);lia,g3,fun i hi hn=>?_,by (try dsimp only);omega⟩
      try dsimp only at hi
      cases e2:f i with
      | false=>rfl
      | true=>rw [fm _ i hi hn e2] at e;cases e
   case post =>
    refine g8 fun c1 c2 c3=>?_
    rintro st' ⟨rfl,e1,g1,g2,g3,g4⟩
    try dsimp only at *
    subst e1
    exact Zl (fin c3 g2 (fun i hi=>g3 i (by lia)) g4)
end TS
end
section
open PySem PyProof.Rows
namespace TS
variable {prog:Program} {w:World} {A:Around} {E:Z9} {s:Shared} {κ:SortKind} {G:Keyed->Prop} {r:Keyed->Keyed->Bool}
theorem Cmp.refl (C:Cmp prog w A E s κ G r) {x:Keyed} (h:G x):le r x x:=by
 unfold le
 cases e:r x x with
 | false=>rfl
 | true=>exact absurd (C.asym x x h h e) (by rw [e];exact fun z=>nomatch z)
theorem Cmp.tr (C:Cmp prog w A E s κ G r) {x y z:Keyed} (hx:G x) (hy:G y) (hz:G z) (h1:le r x y) (h2:le r y z):le r x z:=C.trans x y z hx hy hz h1 h2
theorem Cmp.le_of (C:Cmp prog w A E s κ G r) {x y:Keyed} (hx:G x) (hy:G y) (h:r x y=true):le r x y:=C.asym x y hx hy h
noncomputable def Seg (r:Keyed->Keyed->Bool) (a:Array Keyed) (lo hi:Nat):Prop:=∀ i j (hi':i < a.size) (hj:j < a.size),lo<=i->i<=j->j < hi->le r a[i] a[j]
theorem fT (C:Cmp prog w A E s κ G r) {left:Bool} {key:Keyed} {arr:Array Keyed} {base n hint:Nat} {Q:Option Nat->SortSt->Prop} {st:SortSt} (hk:kindOf st=κ) (gk:G key) (ga:∀ x∈arr,G x)
  (hb:base+n<=arr.size) (hh:hint < n) (sg:Seg r arr base (base+n))
  (h:∀ k,k<=n->(∀ i (hi:i < arr.size),base<=i->i < base+k->le r arr[i] key)->(∀ i (hi:i < arr.size),base+k<=i->i < base+n->le r key arr[i])->Q (some k) st) :
  wpS (model prog w) A E s (oI left key arr base n hint) Q st:=by
 have g:∀ i (hi:i < arr.size),G arr[i]:=fun i hi=>ga _ (Zj hi)
 refine qR C hk gk ga hb hh (fun i j hi hj hij hjn e=>?_) fun k h1 h2 h3=>h k h1 (fun i hi h4 h5=>?_) fun i hi h4 h5=>?_
 ·have s1:=sg (base+i) (base+j) hi hj (by exact ZI _ _) (by lia) (by lia)
  cases left with
  | true =>
   unfold bey at e ⊢
   rw [Zq rfl] at e ⊢
   cases e2:r arr[base+i] key with
   | true=>rfl
   | false=>rw [show r arr[base+j] key=false from C.tr gk (g _ hi) (g _ hj) e2 s1] at e;cases e
  | false =>
   unfold bey at e ⊢
   rw [Zn Zm] at e ⊢
   have e':r key arr[base+j]=false:=by simpa using e
   have:=C.tr (g _ hi) (g _ hj) gk s1 e'
   rw [show r key arr[base+i]=false from this]
   rfl
 ·have e:=h2 (i - base) (by lia) (by lia)
  have ei:base+(i - base)=i:=by exact WE h4
  simp only [ei] at e
  cases left with
  | true =>
   unfold bey at e
   rw [Zq rfl] at e
   exact C.le_of (g _ hi) gk e
  | false =>
   unfold bey at e
   rw [Zn Zm] at e
   show r key arr[i]=false
   simpa using e
 ·have e:=h3 (i - base) (by lia) (by lia) (by omega)
  have ei:base+(i - base)=i:=by lia
  simp only [ei] at e
  cases left with
  | true =>
   unfold bey at e
   rw [Zq rfl] at e
   exact e
  | false =>
   unfold bey at e
   rw [Zn Zm] at e
   exact C.le_of gk (g _ hi) (by simpa using e)
theorem o8 {a:Array Keyed} {i:Nat} {x:Keyed} (h:x∈a.toList.drop i):∃ j,∃ (hj:j < a.size),i<=j/\a[j]=x:=by
 obtain ⟨k,hk,e⟩:=Yu h
 rw [ZR] at hk
 rw [Xr] at e
 have:i+k < a.size:=by simpa using (by omega:i+k < a.toList.length)
 exact ⟨i+k,this,by exact ZI _ _,by simpa using e⟩
theorem jD {a:Array Keyed} {i k:Nat} {x:Keyed} (h:x∈(a.toList.drop i).take k):∃ j,∃ (hj:j < a.size),i<=j/\j < i+k/\a[j]=x:=by
 obtain ⟨m,hm,e⟩:=Yu h
 rw [ZS,ZR] at hm
 rw [Xs,Xr] at e
 have:i+m < a.size:=by simpa using (by omega:i+m < a.toList.length)
 exact ⟨i+m,this,by exact ZI _ _,by lia,by simpa using e⟩
theorem tD {a:Array Keyed} {i:Nat} (h:i < a.size):a.toList.drop i=a[i] :: a.toList.drop (i+1):=by
 have:i < a.toList.length:=by simpa using h
 rw [Ya this]
 simp
theorem ir {a:Array Keyed} (h:Seg r a 0 a.size):a.toList.Pairwise (le r):=by
 rw [YC]
 intro i j hi hj hij
 simpa using h i j (by simpa using hi) (by simpa using hj) (ZU _) (by exact ZO hij) (by simpa using hj)
theorem vc (C:Cmp prog w A E s κ G r) {a:Array Keyed} (ga:∀ x∈a,G x) (h:a.toList.Pairwise (le r)):Seg r a 0 a.size:=by
 intro i j hi hj _ hij _
 rcases XA i j with hlt | hge
 ·have:=YC.mp h i j (by simpa using hi) (by simpa using hj) hlt
  simpa using this
 ·have:i=j:=by exact Nat.le_antisymm hij hge
  subst this
  exact C.refl (ga _ (Zj hi))
structure MI (r:Keyed->Keyed->Bool) (a b out:Array Keyed) (ia ib:Nat):Prop where
 pm:(out.toList++(a.toList.drop ia++b.toList.drop ib)).Perm (a.toList++b.toList)
 so:out.toList.Pairwise (le r)
 la:∀ x∈out.toList,∀ y∈a.toList.drop ia,le r x y
 lb:∀ x∈out.toList,∀ y∈b.toList.drop ib,le r x y
noncomputable def MR (r:Keyed->Keyed->Bool) (a b res:Array Keyed):Prop:=res.toList.Perm (a.toList++b.toList)/\res.toList.Pairwise (le r)
theorem MI.size {a b out:Array Keyed} {ia ib:Nat} (m:MI r a b out ia ib) (h1:ia<=a.size) (h2:ib<=b.size):out.size+(a.size - ia)+(b.size - ib)=a.size+b.size:=by
 have:=m.pm.length_eq
 simp at this
 lia
theorem MI.appA {a b out:Array Keyed} {ia ib k:Nat} (m:MI r a b out ia ib) (sa:Seg r a 0 a.size) (hl:∀ i (hi:i < a.size),ia<=i->i < ia+k->∀ j (hj:j < b.size),ib<=j->le r a[i] b[j]) :
  MI r a b (out++a.extract ia (ia+k)) (ia+k) ib:=by
 have e1:(out++a.extract ia (ia+k)).toList=out.toList++(a.toList.drop ia).take k:=by
  simp [List.extract_eq_drop_take]
 have e2:a.toList.drop ia=(a.toList.drop ia).take k++a.toList.drop (ia+k):=by
  rw [← List.drop_drop];exact (YX _ _).symm
 have pa:(a.toList.drop ia).Pairwise (le r):=(ir sa).drop
 rw [e2,ZF] at pa
 refine ⟨?_,?_,?_,?_⟩
 ·rw [e1]
  have:=m.pm
  rw [e2] at this
  simpa [Zc] using this
 ·rw [e1,ZF]
  refine ⟨m.so,pa.1,fun x hx y hy=>m.la x hx y ?_⟩
  exact Yi hy
 ·rw [e1]
  intro x hx y hy
  rcases Zh.mp hx with hx | hx
  ·exact m.la x hx y (by rw [e2];exact ZA _ hy)
  ·exact pa.2.2 x hx y hy
 ·rw [e1]
  intro x hx y hy
  rcases Zh.mp hx with hx | hx
  ·exact m.lb x hx y hy
  ·obtain ⟨i,hi,h1,h2,rfl⟩:=jD hx
   obtain ⟨j,hj,h3,rfl⟩:=o8 hy
   exact hl i hi h1 h2 j hj h3
theorem MI.swap {a b out:Array Keyed} {ia ib:Nat} (m:MI r a b out ia ib):MI r b a out ib ia :=
 ⟨((YL.append_left _).trans m.pm).trans YL,m.so,m.lb,m.la⟩
theorem MI.appB {a b out:Array Keyed} {ia ib k:Nat} (m:MI r a b out ia ib) (sb:Seg r b 0 b.size) (hl:∀ i (hi:i < b.size),ib<=i->i < ib+k->∀ j (hj:j < a.size),ia<=j->le r b[i] a[j]) :
  MI r a b (out++b.extract ib (ib+k)) ia (ib+k):=(m.swap.appA sb hl).swap
theorem vn {a out:Array Keyed} {i:Nat} (h:i < a.size):out.push a[i]=out++a.extract i (i+1):=by
 apply Array.ext'
 have:(a.extract i (i+1)).toList=[a[i]]:=by
  have e:i < a.toList.length:=by simpa using h
  simp [List.extract_eq_drop_take,Ya e]
 rw [Yl,this,WA]
theorem MI.pushA {a b out:Array Keyed} {ia ib:Nat} (m:MI r a b out ia ib) (sa:Seg r a 0 a.size) (h:ia < a.size) (hl:∀ j (hj:j < b.size),ib<=j->le r a[ia] b[j]):MI r a b (out.push a[ia]) (ia+1) ib:=by
 rw [vn h]
 refine m.appA sa fun i hi h1 h2 j hj h3=>?_
 have:i=ia:=by lia
 subst this
 exact hl j hj h3
theorem MI.pushB {a b out:Array Keyed} {ia ib:Nat} (m:MI r a b out ia ib) (sb:Seg r b 0 b.size) (h:ib < b.size) (hl:∀ j (hj:j < a.size),ia<=j->le r b[ib] a[j]):MI r a b (out.push b[ib]) ia (ib+1):=(m.swap.pushA sb h hl).swap
theorem kW {a:Array Keyed} {i:Nat}:(a.extract i a.size).toList=a.toList.drop i:=by
 rw [XF,List.extract_eq_drop_take,Z5 (by simp)]
theorem MI.fin {a b out:Array Keyed} {ia ib:Nat} (m:MI r a b out ia ib) (sa:Seg r a 0 a.size) (sb:Seg r b 0 b.size) (h:ia=a.size\/ib=b.size):MR r a b (out++a.extract ia a.size++b.extract ib b.size):=by
 have e:(out++a.extract ia a.size++b.extract ib b.size).toList=out.toList++(a.toList.drop ia++b.toList.drop ib):=by
  rw [Yl,Yl,kW,kW,Zc]
 refine ⟨by rw [e];exact m.pm,?_⟩
 rw [e,ZF]
 refine ⟨m.so,?_,fun x hx y hy=>?_⟩
 ·rcases h with h | h
  ·rw [YQ (as:=a.toList) (by simp [h]),YG]
   exact (ir sb).drop
  ·rw [YQ (as:=b.toList) (by simp [h]),Z7]
   exact (ir sa).drop
 ·rcases Zh.mp hy with hy | hy
  ·exact m.la x hx y hy
  ·exact m.lb x hx y hy
theorem MI.last {a b out:Array Keyed} {ia ib:Nat} (m:MI r a b out ia ib) (sb:Seg r b 0 b.size) (h:ia+1=a.size) (hl:∀ j (hj:j < b.size),le r b[j] a[ia]):MR r a b (out++b.extract ib b.size++a.extract ia a.size):=by
 have e:(out++b.extract ib b.size++a.extract ia a.size).toList=out.toList++(b.toList.drop ib++a.toList.drop ia):=by
  rw [Yl,Yl,kW,kW,Zc]
 have e2:a.toList.drop ia=[a[ia]]:=by rw [tD (by omega),YQ (by simp;lia)]
 refine ⟨by rw [e];exact (YL.append_left _).trans m.pm,?_⟩
 rw [e,ZF]
 refine ⟨m.so,?_,fun x hx y hy=>?_⟩
 ·rw [ZF]
  refine ⟨(ir sb).drop,by rw [e2];exact List.pairwise_singleton _ _,fun x hx y hy=>?_⟩
  rw [e2] at hy
  obtain ⟨j,hj,_,rfl⟩:=o8 hx
  rw [Zg.mp hy]
  exact hl j hj
 ·rcases Zh.mp hy with hy | hy
  ·exact m.lb x hx y hy
  ·exact m.la x hx y hy
end TS
end
section
open PySem PyProof.Rows
namespace TS
variable {prog:Program} {w:World} {A:Around} {E:Z9} {s:Shared} {κ:SortKind} {G:Keyed->Prop} {r:Keyed->Keyed->Bool}
noncomputable def gw (st st':SortSt):Prop:=kindOf st'=kindOf st/\arrOf st'=arrOf st/\pendingOf st'=pendingOf st/\failedOf st'=failedOf st
noncomputable def eQ:Nat->StateT SortSt Sem Unit:=sortPriv% PySem.Builtin.setMinGallop
theorem gW {g:Nat} {Q:Unit->SortSt->Prop} {st st0:SortSt} (hk:gw st0 st) (h:∀ st',gw st0 st'->Q () st'):wpS (model prog w) A E s (eQ g) Q st:=by
 unfold eQ
 exact XD (h _ hk)
theorem gF {t:String} {Q:Unit->SortSt->Prop} {st:SortSt} (h:Q () st):wpS (model prog w) A E s (liftM (rule t)) Q st:=wpS_lift (XB ⟨rfl,h⟩)
theorem aC {α:Type} {c:Prop} [Decidable c] {x y:StateT SortSt Sem α} {Q:α->SortSt->Prop} {st:SortSt} (ht:c->wpS (model prog w) A E s x Q st) (hf:¬ c->wpS (model prog w) A E s y Q st) :
  wpS (model prog w) A E s (if c then x else y) Q st:=by
 by_cases hc:c
 ·rw [Zq hc];exact ht hc
 ·rw [Zn hc];exact hf hc
theorem sd {α:Type} {c:Nat->Prop} [∀ n,Decidable (c n)] {B1 B2:Nat->StateT SortSt Sem α} {Q:α->SortSt->Prop} {st:SortSt} (e:∀ n,B1 n=B2 (n - 1)) (h:∀ n,wpS (model prog w) A E s (B2 n) Q st):∀ n,wpS (model prog w) A E s (if c n then B1 n else B2 n) Q st :=
 fun n=>aC (fun _=>by rw [e];exact h _) fun _=>h n
theorem br {α:Type} {a:Array Keyed} {i:Nat} {c:Keyed->Prop} [∀ v,Decidable (c v)] {x y:Keyed->StateT SortSt Sem α} {Q:α->SortSt->Prop} {st:SortSt} (hi:i < a.size) (ht:c a[i]->wpS (model prog w) A E s (x a[i]) Q st) (hf:¬ c a[i]->wpS (model prog w) A E s (y a[i]) Q st) :
  wpS (model prog w) A E s (elem' a i >>= fun v=>if c v then x v else y v) Q st:=Zd (d3 hi (aC ht hf))
theorem vN {α:Type} {c d:Prop} [Decidable c] [Decidable d] {x y z:StateT SortSt Sem α} {Q:α->SortSt->Prop} {st:SortSt} (h1:c->wpS (model prog w) A E s x Q st) (h2:¬ c->d->wpS (model prog w) A E s y Q st) (h3:¬ c->¬ d->wpS (model prog w) A E s z Q st) :
  wpS (model prog w) A E s (if c then x else if d then y else z) Q st:=aC h1 fun e=>aC (h2 e) (h3 e)
theorem ig {α β:Type} {a:Array Keyed} {i:Nat} {m:Keyed->StateT SortSt Sem β} {f:Keyed->β->StateT SortSt Sem α} {Q:α->SortSt->Prop} {st:SortSt} (hi:i < a.size) (h:wpS (model prog w) A E s (m a[i]) (fun v st'=>wpS (model prog w) A E s (f a[i] v) Q st') st) :
  wpS (model prog w) A E s (elem' a i >>= fun u=>m u >>= fun v=>f u v) Q st:=Zd (d3 hi (Zd h))
structure MC (G:Keyed->Prop) (r:Keyed->Keyed->Bool) (a b:Array Keyed):Prop where
 ga:∀ x∈a,G x
 gb:∀ x∈b,G x
 sa:Seg r a 0 a.size
 sb:Seg r b 0 b.size
 na:0 < a.size
 nb:0 < b.size
 first:le r b[0] a[0]
 last:∀ j (hj:j < b.size),le r b[j] a[a.size - 1]
theorem MC.last' {a b:Array Keyed} (M:MC G r a b) {i:Nat} (hi:i < a.size) (h:i+1=a.size):∀ j (hj:j < b.size),le r b[j] a[i]:=by
 intro j hj
 have:=M.last j hj
 have e:a.size - 1=i:=by lia
 simpa [e] using this
theorem MC.bA (C:Cmp prog w A E s κ G r) {a b:Array Keyed} (M:MC G r a b) {i j:Nat} (hi:i < a.size) (hj:j < b.size) (h:le r b[j] a[i]):∀ k (hk:k < a.size),i<=k->le r b[j] a[k]:=fun k hk hik =>
 C.tr (M.gb _ (Zj hj)) (M.ga _ (Zj hi)) (M.ga _ (Zj hk)) h (M.sa i k hi hk (ZU _) hik hk)
theorem MC.aB (C:Cmp prog w A E s κ G r) {a b:Array Keyed} (M:MC G r a b) {i j:Nat} (hi:i < a.size) (hj:j < b.size) (h:le r a[i] b[j]):∀ k (hk:k < b.size),j<=k->le r a[i] b[k]:=fun k hk hik =>
 C.tr (M.ga _ (Zj hi)) (M.gb _ (Zj hj)) (M.gb _ (Zj hk)) h (M.sb j k hj hk (ZU _) hik hk)
theorem iJ {a:Array Keyed} (h:Seg r a 0 a.size) (lo hi:Nat):Seg r a lo hi:=fun i j hi' hj h1 h2 h3=>h i j hi' hj (ZU _) h2 hj
theorem DQ (C:Cmp prog w A E s κ G r) {a b:Array Keyed} {st:SortSt} {Q:Array Keyed->SortSt->Prop} (hk:kindOf st=κ) (M:MC G r a b) (h:∀ res st',gw st st'->MR r a b res->Q res st') :
  wpS (model prog w) A E s (lF a b) Q st:=by
 have hna:=M.na
 have hnb:=M.nb
 unfold lF
 change wpS (model prog w) A E s (_ >>= _) Q st
 dsimp only
 refine Zd (gF ?_)
 have m0:MI r a b #[] 0 0:=⟨by simp,by simp,by simp,by simp⟩
 have m1:MI r a b #[b[0]] 0 1:=m0.pushB M.sb M.nb fun j hj _=>M.bA C M.na M.nb M.first j hj (ZU _)
 have kp0:gw st st:=⟨rfl,rfl,rfl,rfl⟩
 refine br M.nb (fun e=>?_) fun e1=>?_
 ·exact Zl (h _ _ kp0 (m1.fin M.sa M.sb (.inr (by simpa using e))))
 refine aC (fun e=>?_) fun e2=>?_
 ·exact Zl (h _ _ kp0 (m1.last M.sb (by simpa using e) (M.last' M.na (by simpa using e))))
 have e1':1 < b.size:=by simp at e1;lia
 have e2':0+1 < a.size:=by simp at e2;lia
 refine Zd (Wc ?_)
 refine Zd (Y1 (Yn
  (I:=fun x c st'=>gw st st'/\c.1=none/\MI r a b c.2.1 c.2.2.1 c.2.2.2.1/\c.2.2.1+1 < a.size/\c.2.2.2.1 < b.size/\x < c.2.1.size)
  (Q:=fun c st'=>gw st st'/\∃ res,c.1=some res/\MR r a b res) ?step ?fin ?init) ?post)
 case init=>exact ⟨kp0,rfl,m1,e2',e1',by simp⟩
 case fin =>
  refine tH fun c1 out ia ib mg st' hh=>?_
  have kp:=hh.1
  have q1:=hh.2.1
  have m:=hh.2.2.1
  have q2:=hh.2.2.2.1
  have q3:=hh.2.2.2.2.1
  have q4:=hh.2.2.2.2.2
  clear hh
  dsimp only at *
  have:=m.size (by lia) (by exact ZO q3)
  lia
 case post =>
  refine tH fun c1 out ia ib mg=>?_
  rintro st' ⟨kp,res,q1,q2⟩
  dsimp only at *
  subst q1
  exact Zl (h _ _ kp q2)
 case step =>
  intro x
  refine tH fun c1 out ia ib mg st' _ hx hh=>?_
  have kp:=hh.1
  have q1:=hh.2.1
  have m:=hh.2.2.1
  have q2:=hh.2.2.2.1
  have q3:=hh.2.2.2.2.1
  have q4:=hh.2.2.2.2.2
  clear hh
  dsimp only at *
  refine Zd (Y1 (Yn
   (I:=fun y c st'=>gw st st'/\c.1=none/\MI r a b c.2.1 c.2.2.1 c.2.2.2.1/\c.2.2.1+1 < a.size/\c.2.2.2.1 < b.size/\x+y < c.2.1.size)
   (Q:=fun c st'=>gw st st'/\((∃ res,c.1=some res/\MR r a b res)\/(c.1=none/\MI r a b c.2.1 c.2.2.1 c.2.2.2.1/\c.2.2.1+1 < a.size/\c.2.2.2.1 < b.size/\x+1 < c.2.1.size))) ?step2 ?fin2 ?init2) ?post2)
  case init2=>exact ⟨kp,rfl,m,q2,q3,by simpa using q4⟩
  case fin2 =>
   refine oR fun c1 out ia ib ac bc st' hh=>?_
   have kp:=hh.1
   have q1:=hh.2.1
   have m:=hh.2.2.1
   have q2:=hh.2.2.2.1
   have q3:=hh.2.2.2.2.1
   have q4:=hh.2.2.2.2.2
   clear hh
   dsimp only at *
   exact ⟨kp,.inr ⟨q1,m,q2,q3,by (try dsimp only);lia⟩⟩
  case step2 =>
   intro y
   refine oR fun c1 out ia ib ac bc st' _ hy hh=>?_
   have kp:=hh.1
   have q1:=hh.2.1
   have m:=hh.2.2.1
   have q2:=hh.2.2.2.1
   have q3:=hh.2.2.2.2.1
   have q4:=hh.2.2.2.2.2
   clear hh
   dsimp only at *
   have hia:ia < a.size:=by exact YA q2
   have gA:=M.ga _ (Zj hia)
   have gB:=M.gb _ (Zj q3)
   refine ig q3 (d3 hia ?_)
   refine Zd (C.run _ _ _ _ (kp.1.trans hk) gB gA ?_)
   dsimp only
   cases e:r b[ib] a[ia] with
   | true =>
    rw [Zq rfl]
    have m2:=m.pushB M.sb q3 (M.bA C hia q3 (C.le_of gB gA e))
    refine br q3 (fun e3=>?_) fun e3=>?_
    ·exact Zl ⟨kp,.inl ⟨_,rfl,m2.fin M.sa M.sb (.inr (by simpa using e3))⟩⟩
    ·have e3':ib+1 < b.size:=by simp at e3;lia
     refine aC (fun _=>?_) fun _=>?_
     ·exact Zl ⟨kp,.inr ⟨rfl,m2,q2,e3',by simp;lia⟩⟩
     ·exact Zl ⟨kp,rfl,m2,q2,e3',by simp;lia⟩
   | false =>
    rw [Zn Zm]
    have m2:=m.pushA M.sa hia (M.aB C hia q3 e)
    refine br hia (fun e3=>?_) fun e3=>?_
    ·exact Zl ⟨kp,.inl ⟨_,rfl,m2.last M.sb (by simpa using e3) (M.last' (by omega) (by simpa using e3))⟩⟩
    ·have e3':ia+1+1 < a.size:=by simp at e3;lia
     refine aC (fun _=>?_) fun _=>?_
     ·exact Zl ⟨kp,.inr ⟨rfl,m2,e3',q3,by simp;lia⟩⟩
     ·exact Zl ⟨kp,rfl,m2,e3',q3,by simp;lia⟩
  case post2 =>
   refine oR fun c1 out ia ib ac bc=>?_
   rintro st' ⟨kp,⟨res,q1,q2⟩ | ⟨q1,m,q2,q3,q4⟩⟩
   ·dsimp only at *
    subst q1
    exact Zl ⟨kp,res,rfl,q2⟩
   ·dsimp only at *
    subst q1
    dsimp only
    refine Zd (gF ?_)
    refine Zd (Y1 (Yn
     (I:=fun y c st'=>gw st st'/\c.1=none/\MI r a b c.2.1 c.2.2.1 c.2.2.2.1/\c.2.2.1+1 < a.size/\c.2.2.2.1 < b.size/\x+1 < c.2.1.size)
     (Q:=fun c st'=>gw st st'/\((∃ res,c.1=some res/\MR r a b res)\/(c.1=none/\MI r a b c.2.1 c.2.2.1 c.2.2.2.1/\c.2.2.1+1 < a.size/\c.2.2.2.1 < b.size/\x+1 < c.2.1.size))) ?step3 ?fin3 ?init3) ?post3)
    case init3=>exact ⟨kp,rfl,m,q2,q3,q4⟩
    case fin3 =>
     refine oR fun c1 out ia ib ac bc st' hh=>?_
     have kp:=hh.1
     have q1:=hh.2.1
     have m:=hh.2.2.1
     have q2:=hh.2.2.2.1
     have q3:=hh.2.2.2.2.1
     have q4:=hh.2.2.2.2.2
     clear hh
     exact ⟨kp,.inr ⟨q1,m,q2,q3,q4⟩⟩
    case post3 =>
     refine Ae fun c1 out ia ib mg ac bc=>?_
     rintro st' ⟨kp,⟨res,q1,q2⟩ | ⟨q1,m,q2,q3,q4⟩⟩
     ·dsimp only at *
      subst q1
      exact Zl ⟨kp,res,rfl,q2⟩
     ·dsimp only at *
      subst q1
      dsimp only
      exact Zd (gW kp fun st2 kp2=>Zl ⟨kp2,rfl,m,q2,q3,q4⟩)
    case step3 =>
     intro y
     refine Ae fun c1 out ia ib mg ac bc st' _ hy hh=>?_
     have kp:=hh.1
     have q1:=hh.2.1
     have m:=hh.2.2.1
     have q2:=hh.2.2.2.1
     have q3:=hh.2.2.2.2.1
     have q4:=hh.2.2.2.2.2
     clear hh
     dsimp only at *
     have both:∀ {mg:Nat} {F:Unit->StateT SortSt Sem (ForInStep (Option (Array Keyed)×Array Keyed×Nat×Nat×Nat×Nat×Nat))} {P},(∀ st2,gw st st2->wpS (model prog w) A E s (F ()) P st2)->wpS (model prog w) A E s (eQ mg >>= F) P st':=fun hF=>Zd (gW kp fun st2 kp2=>hF st2 kp2)
     revert mg
     refine sd (fun _=>rfl) fun mg2=>?_
     refine both fun st2 kp2=>?_
     have hia:ia < a.size:=by exact YA q2
     have gB:=M.gb _ (Zj q3)
     refine ig q3 (fT C (kp2.1.trans hk) gB M.ga (by lia) (by exact WJ hia) (iJ M.sa _ _) fun k hk1 hk2 hk3=>?_)
     dsimp only
     refine aC (fun e5=>?_) fun e5=>?_
     ·have m2:=m.appA (k:=k) M.sa (fun i hi h1 h2 j hj h3=>C.tr (M.ga _ (Zj hi)) gB (M.gb _ (Zj hj)) (hk2 i hi h1 h2) (M.sb _ j q3 hj (ZU _) h3 hj))
      refine vN (fun e6=>?_) (fun e6 e7=>?_) fun e6 e7=>?_
      ·exact Zl ⟨kp2,.inl ⟨_,rfl,m2.last M.sb (by simpa using e6) (M.last' (by simp at e6;lia) (by simpa using e6))⟩⟩
      ·exact Zl ⟨kp2,.inl ⟨_,rfl,m2.fin M.sa M.sb (.inl (by simpa using e7))⟩⟩
      have hA1:ia+k < a.size:=by simp at e6 e7;lia
      have hA2:ia+k+1 < a.size:=by simp at e6 e7;lia
      have hle:∀ j (hj:j < a.size),ia+k<=j->le r b[ib] a[j]:=fun j hj h=>hk3 j hj h (by lia)
      clear e6
      have m3:=m2.pushB M.sb q3 hle
      refine br q3 (fun e4=>?_) fun e4=>?_
      ·exact Zl ⟨kp2,.inl ⟨_,rfl,m3.fin M.sa M.sb (.inr (by simpa using e4))⟩⟩
      have e4':ib+1 < b.size:=by simp at e4;lia
      refine ig hA1 (fT C (kp2.1.trans hk) (M.ga _ (Zj hA1)) M.gb (by lia) (by exact WJ e4') (iJ M.sb _ _) fun k2 hl1 hl2 hl3=>?_)
      dsimp only
      have m4:=m3.appB (k:=k2) M.sb (fun i hi h1 h2 j hj h3=>C.tr (M.gb _ (Zj hi)) (M.ga _ (Zj hA1)) (M.ga _ (Zj hj)) (hl2 i hi h1 h2) (M.sa _ j hA1 hj (ZU _) h3 hj))
      refine aC (fun e5=>?_) fun e5=>?_
      ·refine aC (fun e6=>?_) fun e6=>?_
       ·exact Zl ⟨kp2,.inl ⟨_,rfl,m4.fin M.sa M.sb (.inr (by simpa using e6))⟩⟩
       have m5:=m4.pushA M.sa hA1 (fun j hj h=>hl3 j hj h (by omega))
       refine br hA1 (fun e7=>?_) fun e7=>?_
       ·exact Zl ⟨kp2,.inl ⟨_,rfl,m5.last M.sb (by simpa using e7) (M.last' (by simp at e7;omega) (by simpa using e7))⟩⟩
       have e7':=e7
       simp at e7'
       refine aC (fun _=>?_) fun _=>?_
       ·exact Zl ⟨kp2,.inr ⟨rfl,m5,by (try dsimp only);lia,by (try dsimp only);(try simp at e6);lia,by simp;lia⟩⟩
       ·exact Zl ⟨kp2,rfl,m5,by (try dsimp only);lia,by (try dsimp only);(try simp at e6);lia,by simp;lia⟩
      ·have m5:=m3.pushA M.sa hA1 (fun j hj h=>hl3 j hj (by lia) (by omega))
       refine br hA1 (fun e7=>?_) fun e7=>?_
       ·exact Zl ⟨kp2,.inl ⟨_,rfl,m5.last M.sb (by simpa using e7) (M.last' (by simp at e7;omega) (by simpa using e7))⟩⟩
       have e7':=e7
       simp at e7'
       refine aC (fun _=>?_) fun _=>?_
       ·exact Zl ⟨kp2,.inr ⟨rfl,m5,by (try dsimp only);lia,by (try dsimp only);(try simp at e6);omega,by simp;lia⟩⟩
       ·exact Zl ⟨kp2,rfl,m5,by (try dsimp only);lia,by (try dsimp only);(try simp at e6);omega,by simp;lia⟩
     ·have m2:=m
      have hA1:ia < a.size:=by omega
      have hle:∀ j (hj:j < a.size),ia<=j->le r b[ib] a[j]:=fun j hj h=>hk3 j hj (by lia) (by lia)
      have m3:=m2.pushB M.sb q3 hle
      refine br q3 (fun e4=>?_) fun e4=>?_
      ·exact Zl ⟨kp2,.inl ⟨_,rfl,m3.fin M.sa M.sb (.inr (by simpa using e4))⟩⟩
      have e4':ib+1 < b.size:=by simp at e4;lia
      refine ig hA1 (fT C (kp2.1.trans hk) (M.ga _ (Zj hA1)) M.gb (by lia) (by exact WJ e4') (iJ M.sb _ _) fun k2 hl1 hl2 hl3=>?_)
      dsimp only
      have m4:=m3.appB (k:=k2) M.sb (fun i hi h1 h2 j hj h3=>C.tr (M.gb _ (Zj hi)) (M.ga _ (Zj hA1)) (M.ga _ (Zj hj)) (hl2 i hi h1 h2) (M.sa _ j hA1 hj (ZU _) h3 hj))
      refine aC (fun e5=>?_) fun e5=>?_
      ·refine aC (fun e6=>?_) fun e6=>?_
       ·exact Zl ⟨kp2,.inl ⟨_,rfl,m4.fin M.sa M.sb (.inr (by simpa using e6))⟩⟩
       have m5:=m4.pushA M.sa hA1 (fun j hj h=>hl3 j hj h (by omega))
       refine br hA1 (fun e7=>?_) fun e7=>?_
       ·exact Zl ⟨kp2,.inl ⟨_,rfl,m5.last M.sb (by simpa using e7) (M.last' (by simp at e7;omega) (by simpa using e7))⟩⟩
       have e7':=e7
       simp at e7'
       refine aC (fun _=>?_) fun _=>?_
       ·exact Zl ⟨kp2,.inr ⟨rfl,m5,by (try dsimp only);lia,by (try dsimp only);(try simp at e6);lia,by simp;lia⟩⟩
       ·exact Zl ⟨kp2,rfl,m5,by (try dsimp only);lia,by (try dsimp only);(try simp at e6);lia,by simp;lia⟩
      ·have m5:=m3.pushA M.sa hA1 (fun j hj h=>hl3 j hj (by lia) (by omega))
       refine br hA1 (fun e7=>?_) fun e7=>?_
       ·exact Zl ⟨kp2,.inl ⟨_,rfl,m5.last M.sb (by simpa using e7) (M.last' (by simp at e7;omega) (by simpa using e7))⟩⟩
       have e7':=e7
       simp at e7'
       refine aC (fun _=>?_) fun _=>?_
       ·exact Zl ⟨kp2,.inr ⟨rfl,m5,by (try dsimp only);lia,by (try dsimp only);(try simp at e6);omega,by simp;lia⟩⟩
       ·exact Zl ⟨kp2,rfl,m5,by (try dsimp only);lia,by (try dsimp only);(try simp at e6);omega,by simp;lia⟩
end TS
end
section
open PySem PyProof.Rows
namespace TS
variable {prog:Program} {w:World} {A:Around} {E:Z9} {s:Shared} {κ:SortKind} {G:Keyed->Prop} {r:Keyed->Keyed->Bool}
theorem wo {a:Array Keyed} {n:Nat} {x:Keyed} (h:x∈a.toList.take n):∃ j,∃ (hj:j < a.size),j < n/\a[j]=x:=by
 obtain ⟨m,hm,e⟩:=Yu h
 rw [ZS] at hm
 rw [Xs] at e
 have:m < a.size:=by simpa using (by lia:m < a.toList.length)
 exact ⟨m,this,by lia,by simpa using e⟩
structure HI (r:Keyed->Keyed->Bool) (a b out:Array Keyed) (na nb:Nat):Prop where
 pm:(a.toList.take na++(b.toList.take nb++out.toList.reverse)).Perm (a.toList++b.toList)
 so:out.toList.reverse.Pairwise (le r)
 la:∀ x∈out.toList,∀ y∈a.toList.take na,le r y x
 lb:∀ x∈out.toList,∀ y∈b.toList.take nb,le r y x
theorem HI.size {a b out:Array Keyed} {na nb:Nat} (m:HI r a b out na nb) (h1:na<=a.size) (h2:nb<=b.size):out.size+na+nb=a.size+b.size:=by
 have:=m.pm.length_eq
 simp at this
 lia
theorem HI.appA {a b out:Array Keyed} {na nb k:Nat} (m:HI r a b out na nb) (sa:Seg r a 0 a.size) (hk:k<=na) (hl:∀ i (hi:i < a.size),k<=i->i < na->∀ j (hj:j < b.size),j < nb->le r b[j] a[i]) :
  HI r a b (out++(a.extract k na).reverse) k nb:=by
 have e1:(out++(a.extract k na).reverse).toList.reverse=(a.toList.drop k).take (na - k)++out.toList.reverse:=by
  simp [List.extract_eq_drop_take]
 have e2:a.toList.take na=a.toList.take k++(a.toList.drop k).take (na - k):=by
  rw [← YX k (a.toList.take na),List.take_take,X2,Yf hk]
 have pa:(a.toList.take na).Pairwise (le r):=(ir sa).take
 rw [e2,ZF] at pa
 have mem:∀ x,x∈(out++(a.extract k na).reverse).toList->x∈out.toList\/x∈(a.toList.drop k).take (na - k):=fun x hx=>by
  have:x∈(out++(a.extract k na).reverse).toList.reverse:=Y5.mpr hx
  rw [e1] at this
  rcases Zh.mp this with h | h
  ·exact .inr h
  ·exact .inl (Y5.mp h)
 refine ⟨?_,?_,?_,?_⟩
 ·rw [e1]
  have:=m.pm
  rw [e2] at this
  refine List.Perm.trans ?_ this
  rw [Zc]
  refine List.Perm.append_left _ ?_
  rw [← Zc,← Zc]
  exact List.Perm.append_right _ YL
 ·rw [e1,ZF]
  refine ⟨pa.2.1,m.so,fun x hx y hy=>m.la y (Y5.mp hy) x ?_⟩
  rw [e2]
  exact ZA _ hx
 ·intro x hx y hy
  rcases mem x hx with hx | hx
  ·exact m.la x hx y (by rw [e2];exact YV _ hy)
  ·exact pa.2.2 y hy x hx
 ·intro x hx y hy
  rcases mem x hx with hx | hx
  ·exact m.lb x hx y hy
  ·obtain ⟨i,hi,h1,h2,rfl⟩:=jD hx
   obtain ⟨j,hj,h3,rfl⟩:=wo hy
   exact hl i hi h1 (by lia) j hj h3
theorem HI.swap {a b out:Array Keyed} {na nb:Nat} (m:HI r a b out na nb):HI r b a out nb na:=by
 refine ⟨?_,m.so,m.lb,m.la⟩
 refine List.Perm.trans ?_ (m.pm.trans YL)
 rw [← Zc,← Zc]
 exact List.Perm.append_right _ YL
theorem HI.appB {a b out:Array Keyed} {na nb k:Nat} (m:HI r a b out na nb) (sb:Seg r b 0 b.size) (hk:k<=nb) (hl:∀ i (hi:i < b.size),k<=i->i < nb->∀ j (hj:j < a.size),j < na->le r a[j] b[i]) :
  HI r a b (out++(b.extract k nb).reverse) na k:=(m.swap.appA sb hk hl).swap
theorem xn {a out:Array Keyed} {i:Nat} (h:i < a.size):out.push a[i]=out++(a.extract i (i+1)).reverse:=by
 apply Array.ext'
 have:(a.extract i (i+1)).toList=[a[i]]:=by
  have e:i < a.toList.length:=by simpa using h
  simp [List.extract_eq_drop_take,Ya e]
 rw [Yl,WY,this,WA]
 rfl
theorem HI.pushA {a b out:Array Keyed} {na nb:Nat} (m:HI r a b out na nb) (sa:Seg r a 0 a.size) (h0:0 < na) (h:na - 1 < a.size) (hl:∀ j (hj:j < b.size),j < nb->le r b[j] a[na - 1]):HI r a b (out.push a[na - 1]) (na - 1) nb:=by
 rw [xn h]
 have e:na - 1+1=na:=by lia
 rw [e]
 refine m.appA sa (by exact YT _ _) fun i hi h1 h2 j hj h3=>?_
 have:i=na - 1:=by lia
 subst this
 exact hl j hj h3
theorem HI.pushB {a b out:Array Keyed} {na nb:Nat} (m:HI r a b out na nb) (sb:Seg r b 0 b.size) (h0:0 < nb) (h:nb - 1 < b.size) (hl:∀ j (hj:j < a.size),j < na->le r a[j] b[nb - 1]):HI r a b (out.push b[nb - 1]) na (nb - 1):=(m.swap.pushA sb h0 h hl).swap
theorem yF {a:Array Keyed} {n:Nat}:(a.extract 0 n).toList=a.toList.take n:=by
 rw [XF,List.extract_eq_drop_take,XT,Nat.sub_zero]
theorem HI.fin {a b out:Array Keyed} {na nb:Nat} (m:HI r a b out na nb) (sa:Seg r a 0 a.size) (sb:Seg r b 0 b.size) (h:na=0\/nb=0):MR r a b (a.extract 0 na++b.extract 0 nb++out.reverse):=by
 have e:(a.extract 0 na++b.extract 0 nb++out.reverse).toList=a.toList.take na++(b.toList.take nb++out.toList.reverse):=by
  rw [Yl,Yl,yF,yF,Zc,WY]
 refine ⟨by rw [e];exact m.pm,?_⟩
 rw [e,← Zc,ZF]
 refine ⟨?_,m.so,fun x hx y hy=>?_⟩
 ·rcases h with h | h
  ·subst h
   rw [List.take_zero,YG]
   exact (ir sb).take
  ·subst h
   rw [List.take_zero,Z7]
   exact (ir sa).take
 ·rcases Zh.mp hx with hx | hx
  ·exact m.la y (Y5.mp hy) x hx
  ·exact m.lb y (Y5.mp hy) x hx
theorem HI.first {a b out:Array Keyed} {na nb:Nat} (m:HI r a b out na nb) (sa:Seg r a 0 a.size) (h:nb=1) (hb:0 < b.size) (hl:∀ j (hj:j < a.size),le r b[0] a[j]):MR r a b (b.extract 0 nb++a.extract 0 na++out.reverse):=by
 have e:(b.extract 0 nb++a.extract 0 na++out.reverse).toList=b.toList.take nb++(a.toList.take na++out.toList.reverse):=by
  rw [Yl,Yl,yF,yF,Zc,WY]
 have e2:b.toList.take nb=[b[0]]:=by
  subst h
  have:=tD hb
  rw [XT] at this
  rw [this]
  rfl
 refine ⟨?_,?_⟩
 ·rw [e]
  exact m.swap.pm.trans YL
 rw [e,← Zc,ZF]
 refine ⟨?_,m.so,fun x hx y hy=>?_⟩
 ·rw [ZF]
  refine ⟨by rw [e2];exact List.pairwise_singleton _ _,(ir sa).take,fun x hx y hy=>?_⟩
  rw [e2] at hx
  obtain ⟨j,hj,_,rfl⟩:=wo hy
  rw [Zg.mp hx]
  exact hl j hj
 ·rcases Zh.mp hx with hx | hx
  ·exact m.lb y (Y5.mp hy) x hx
  ·exact m.la y (Y5.mp hy) x hx
theorem MC.first' (C:Cmp prog w A E s κ G r) {a b:Array Keyed} (M:MC G r a b):∀ j (hj:j < a.size),le r (b[0]'M.nb) a[j]:=fun j hj=>M.bA C M.na M.nb M.first j hj (ZU _)
theorem EB (C:Cmp prog w A E s κ G r) {a b:Array Keyed} {st:SortSt} {Q:Array Keyed->SortSt->Prop} (hk:kindOf st=κ) (M:MC G r a b) (h:∀ res st',gw st st'->MR r a b res->Q res st') :
  wpS (model prog w) A E s (mf a b) Q st:=by
 have hna:=M.na
 have hnb:=M.nb
 unfold mf
 change wpS (model prog w) A E s (_ >>= _) Q st
 dsimp only
 have hl0:a.size - 1 < a.size:=by omega
 refine Zd (gF ?_)
 have m0:HI r a b #[] a.size b.size:=⟨by simp [Z5],by simp,by simp,by simp⟩
 have m1:HI r a b #[a[a.size - 1]] (a.size - 1) b.size:=m0.pushA M.sa hna hl0 fun j hj _=>M.last j hj
 have kp0:gw st st:=⟨rfl,rfl,rfl,rfl⟩
 refine br hl0 (fun e=>?_) fun e1=>?_
 ·exact Zl (h _ _ kp0 (m1.fin M.sa M.sb (.inl (by simpa using e))))
 refine aC (fun e=>?_) fun e2=>?_
 ·exact Zl (h _ _ kp0 (m1.first M.sa (by simpa using e) M.nb (M.first' C)))
 have e1':0 < a.size - 1:=by simp at e1;exact Yr e1
 have e2':1 < b.size:=by simp at e2;lia
 refine Zd (Wc ?_)
 refine Zd (Y1 (Yn
  (I:=fun x c st'=>gw st st'/\c.1=none/\HI r a b c.2.2.2.1 c.2.1 c.2.2.1/\0 < c.2.1/\c.2.1<=a.size/\1 < c.2.2.1/\c.2.2.1<=b.size/\x < c.2.2.2.1.size)
  (Q:=fun c st'=>gw st st'/\∃ res,c.1=some res/\MR r a b res) ?step ?fin ?init) ?post)
 case init=>exact ⟨kp0,rfl,m1,e1',by (try dsimp only);exact YT _ _,e2',Zp _,by simp⟩
 case fin =>
  refine tH fun c1 na nb out mg st' hh=>?_
  have kp:=hh.1
  have q1:=hh.2.1
  have m:=hh.2.2.1
  have q2:=hh.2.2.2.1
  have q3:=hh.2.2.2.2.1
  have q5:=hh.2.2.2.2.2.1
  have q6:=hh.2.2.2.2.2.2.1
  have q4:=hh.2.2.2.2.2.2.2
  clear hh
  dsimp only at *
  have:=m.size (by omega) (by omega)
  lia
 case post =>
  refine tH fun c1 na nb out mg=>?_
  rintro st' ⟨kp,res,q1,q2⟩
  dsimp only at *
  subst q1
  exact Zl (h _ _ kp q2)
 case step =>
  intro x
  refine tH fun c1 na nb out mg st' _ hx hh=>?_
  have kp:=hh.1
  have q1:=hh.2.1
  have m:=hh.2.2.1
  have q2:=hh.2.2.2.1
  have q3:=hh.2.2.2.2.1
  have q5:=hh.2.2.2.2.2.1
  have q6:=hh.2.2.2.2.2.2.1
  have q4:=hh.2.2.2.2.2.2.2
  clear hh
  dsimp only at *
  refine Zd (Y1 (Yn
   (I:=fun y c st'=>gw st st'/\c.1=none/\HI r a b c.2.2.2.1 c.2.1 c.2.2.1/\0 < c.2.1/\c.2.1<=a.size/\1 < c.2.2.1/\c.2.2.1<=b.size/\x+y < c.2.2.2.1.size)
   (Q:=fun c st'=>gw st st'/\((∃ res,c.1=some res/\MR r a b res)\/(c.1=none/\HI r a b c.2.2.2.1 c.2.1 c.2.2.1/\0 < c.2.1/\c.2.1<=a.size/\1 < c.2.2.1/\c.2.2.1<=b.size/\x+1 < c.2.2.2.1.size))) ?step2 ?fin2 ?init2) ?post2)
  case init2=>exact ⟨kp,rfl,m,q2,q3,q5,q6,by simpa using q4⟩
  case fin2 =>
   refine oR fun c1 na nb out ac bc st' hh=>?_
   have kp:=hh.1
   have q1:=hh.2.1
   have m:=hh.2.2.1
   have q2:=hh.2.2.2.1
   have q3:=hh.2.2.2.2.1
   have q5:=hh.2.2.2.2.2.1
   have q6:=hh.2.2.2.2.2.2.1
   have q4:=hh.2.2.2.2.2.2.2
   clear hh
   dsimp only at *
   exact ⟨kp,.inr ⟨q1,m,q2,q3,q5,q6,by (try dsimp only);lia⟩⟩
  case step2 =>
   intro y
   refine oR fun c1 na nb out ac bc st' _ hy hh=>?_
   have kp:=hh.1
   have q1:=hh.2.1
   have m:=hh.2.2.1
   have q2:=hh.2.2.2.1
   have q3:=hh.2.2.2.2.1
   have q5:=hh.2.2.2.2.2.1
   have q6:=hh.2.2.2.2.2.2.1
   have q4:=hh.2.2.2.2.2.2.2
   clear hh
   dsimp only at *
   have hA1:na - 1 < a.size:=by lia
   have hB1:nb - 1 < b.size:=by lia
   have gA:=M.ga _ (Zj hA1)
   have gB:=M.gb _ (Zj hB1)
   refine ig hB1 (d3 hA1 ?_)
   refine Zd (C.run _ _ _ _ (kp.1.trans hk) gB gA ?_)
   dsimp only
   cases e:r b[nb - 1] a[na - 1] with
   | true =>
    rw [Zq rfl]
    have m2:=m.pushA M.sa q2 hA1 (fun j hj hjn=>C.tr (M.gb _ (Zj hj)) gB gA (M.sb j _ hj hB1 (ZU _) (by lia) hB1) (C.le_of gB gA e))
    refine br hA1 (fun e3=>?_) fun e3=>?_
    ·exact Zl ⟨kp,.inl ⟨_,rfl,m2.fin M.sa M.sb (.inl (by simpa using e3))⟩⟩
    ·have e3':0 < na - 1:=by simp at e3;exact Yr e3
     refine aC (fun _=>?_) fun _=>?_
     ·exact Zl ⟨kp,.inr ⟨rfl,m2,e3',by (try dsimp only);exact ZO hA1,q5,q6,by simp;lia⟩⟩
     ·exact Zl ⟨kp,rfl,m2,e3',by (try dsimp only);exact ZO hA1,q5,q6,by simp;lia⟩
   | false =>
    rw [Zn Zm]
    have m2:=m.pushB M.sb (by exact YA q5) hB1 (fun j hj hjn=>C.tr (M.ga _ (Zj hj)) gA gB (M.sa j _ hj hA1 (ZU _) (by lia) hA1) e)
    refine br hB1 (fun e3=>?_) fun e3=>?_
    ·exact Zl ⟨kp,.inl ⟨_,rfl,m2.first M.sa (by simpa using e3) M.nb (M.first' C)⟩⟩
    ·have e3':1 < nb - 1:=by simp at e3;lia
     refine aC (fun _=>?_) fun _=>?_
     ·exact Zl ⟨kp,.inr ⟨rfl,m2,q2,q3,e3',by (try dsimp only);exact ZO hB1,by simp;lia⟩⟩
     ·exact Zl ⟨kp,rfl,m2,q2,q3,e3',by (try dsimp only);exact ZO hB1,by simp;lia⟩
  case post2 =>
   refine oR fun c1 na nb out ac bc=>?_
   rintro st' ⟨kp,⟨res,q1,q2⟩ | ⟨q1,m,q2,q3,q5,q6,q4⟩⟩
   ·dsimp only at *
    subst q1
    exact Zl ⟨kp,res,rfl,q2⟩
   ·dsimp only at *
    subst q1
    dsimp only
    refine Zd (gF ?_)
    refine Zd (Y1 (Yn
     (I:=fun y c st'=>gw st st'/\c.1=none/\HI r a b c.2.2.2.1 c.2.1 c.2.2.1/\0 < c.2.1/\c.2.1<=a.size/\1 < c.2.2.1/\c.2.2.1<=b.size/\x+1 < c.2.2.2.1.size)
     (Q:=fun c st'=>gw st st'/\((∃ res,c.1=some res/\MR r a b res)\/(c.1=none/\HI r a b c.2.2.2.1 c.2.1 c.2.2.1/\0 < c.2.1/\c.2.1<=a.size/\1 < c.2.2.1/\c.2.2.1<=b.size/\x+1 < c.2.2.2.1.size))) ?step3 ?fin3 ?init3) ?post3)
    case init3=>exact ⟨kp,rfl,m,q2,q3,q5,q6,q4⟩
    case fin3 =>
     refine oR fun c1 na nb out ac bc st' hh=>?_
     have kp:=hh.1
     have q1:=hh.2.1
     have m:=hh.2.2.1
     have q2:=hh.2.2.2.1
     have q3:=hh.2.2.2.2.1
     have q5:=hh.2.2.2.2.2.1
     have q6:=hh.2.2.2.2.2.2.1
     have q4:=hh.2.2.2.2.2.2.2
     clear hh
     exact ⟨kp,.inr ⟨q1,m,q2,q3,q5,q6,q4⟩⟩
    case post3 =>
     refine Ae fun c1 na nb out mg ac bc=>?_
     rintro st' ⟨kp,⟨res,q1,q2⟩ | ⟨q1,m,q2,q3,q5,q6,q4⟩⟩
     ·dsimp only at *
      subst q1
      exact Zl ⟨kp,res,rfl,q2⟩
     ·dsimp only at *
      subst q1
      dsimp only
      exact Zd (gW kp fun st2 kp2=>Zl ⟨kp2,rfl,m,q2,q3,q5,q6,q4⟩)
    case step3 =>
     intro y
     refine Ae fun c1 na nb out mg ac bc st' _ hy hh=>?_
     have kp:=hh.1
     have q1:=hh.2.1
     have m:=hh.2.2.1
     have q2:=hh.2.2.2.1
     have q3:=hh.2.2.2.2.1
     have q5:=hh.2.2.2.2.2.1
     have q6:=hh.2.2.2.2.2.2.1
     have q4:=hh.2.2.2.2.2.2.2
     clear hh
     dsimp only at *
     have both:∀ {mg:Nat} {F:Unit->StateT SortSt Sem (ForInStep (Option (Array Keyed)×Nat×Nat×Array Keyed×Nat×Nat×Nat))} {P},(∀ st2,gw st st2->wpS (model prog w) A E s (F ()) P st2)->wpS (model prog w) A E s (eQ mg >>= F) P st':=fun hF=>Zd (gW kp fun st2 kp2=>hF st2 kp2)
     revert mg
     refine sd (fun _=>rfl) fun mg2=>?_
     refine both fun st2 kp2=>?_
     have hB0:0 < nb:=by exact YA q5
     have hB1:nb - 1 < b.size:=by lia
     have gB:=M.gb _ (Zj hB1)
     refine ig hB1 (fT C (kp2.1.trans hk) gB M.ga (by lia) (by lia) (iJ M.sa _ _) fun k hk1 hk2 hk3=>?_)
     dsimp only
     refine aC (fun e5=>?_) fun e5=>?_
     ·have m2:=m.appA (k:=k) M.sa (by omega) (fun i hi h1 h2 j hj h3=>C.tr (M.gb _ (Zj hj)) gB (M.ga _ (Zj hi)) (M.sb j _ hj hB1 (ZU _) (by lia) hB1) (hk3 i hi (by lia) (by lia)))
      refine aC (fun e7=>?_) fun e7=>?_
      ·exact Zl ⟨kp2,.inl ⟨_,rfl,m2.fin M.sa M.sb (.inl (by simpa using e7))⟩⟩
      have hA0:0 < k:=by simp at e7;exact Yr e7
      have hA1:k - 1 < a.size:=by lia
      have hle:∀ j (hj:j < a.size),j < k->le r a[j] b[nb - 1]:=fun j hj h=>hk2 j hj (ZU _) (by lia)
      clear e7
      have m3:=m2.pushB M.sb hB0 hB1 hle
      refine br hB1 (fun e4=>?_) fun e4=>?_
      ·exact Zl ⟨kp2,.inl ⟨_,rfl,m3.first M.sa (by simpa using e4) M.nb (M.first' C)⟩⟩
      have e4':1 < nb - 1:=by simp at e4;lia
      refine ig hA1 (fT C (kp2.1.trans hk) (M.ga _ (Zj hA1)) M.gb (by lia) (by lia) (iJ M.sb _ _) fun k2 hl1 hl2 hl3=>?_)
      dsimp only
      have m4:=m3.appB (k:=k2) M.sb (by omega) (fun i hi h1 h2 j hj h3=>C.tr (M.ga _ (Zj hj)) (M.ga _ (Zj hA1)) (M.gb _ (Zj hi)) (M.sa j _ hj hA1 (ZU _) (by lia) hA1) (hl3 i hi (by lia) (by lia)))
      refine aC (fun e5=>?_) fun e5=>?_
      ·refine aC (fun e6=>?_) fun e6=>?_
       ·exact Zl ⟨kp2,.inl ⟨_,rfl,m4.first M.sa (by simpa using e6) M.nb (M.first' C)⟩⟩
       refine aC (fun e8=>?_) fun e8=>?_
       ·exact Zl ⟨kp2,.inl ⟨_,rfl,m4.fin M.sa M.sb (.inr (by simpa using e8))⟩⟩
       have m5:=m4.pushA M.sa hA0 hA1 (fun j hj h=>hl2 j hj (ZU _) (by lia))
       refine br hA1 (fun e7=>?_) fun e7=>?_
       ·exact Zl ⟨kp2,.inl ⟨_,rfl,m5.fin M.sa M.sb (.inl (by simpa using e7))⟩⟩
       have e7':=e7
       simp at e7'
       refine aC (fun _=>?_) fun _=>?_
       ·exact Zl ⟨kp2,.inr ⟨rfl,m5,by (try dsimp only);exact Yr e7',by (try dsimp only);exact ZO hA1,by (try dsimp only);(try simp at e6);(try simp at e8);lia,by (try dsimp only);(try simp at e6);lia,by simp;lia⟩⟩
       ·exact Zl ⟨kp2,rfl,m5,by (try dsimp only);exact Yr e7',by (try dsimp only);exact ZO hA1,by (try dsimp only);(try simp at e6);(try simp at e8);lia,by (try dsimp only);(try simp at e6);lia,by simp;lia⟩
      ·have m5:=m3.pushA M.sa hA0 hA1 (fun j hj h=>hl2 j hj (ZU _) (by lia))
       refine br hA1 (fun e7=>?_) fun e7=>?_
       ·exact Zl ⟨kp2,.inl ⟨_,rfl,m5.fin M.sa M.sb (.inl (by simpa using e7))⟩⟩
       have e7':=e7
       simp at e7'
       refine aC (fun _=>?_) fun _=>?_
       ·exact Zl ⟨kp2,.inr ⟨rfl,m5,by (try dsimp only);exact Yr e7',by (try dsimp only);exact ZO hA1,by (try dsimp only);(try simp at e6);(try simp at e8);omega,by (try dsimp only);(try simp at e6);exact ZO hB1,by simp;lia⟩⟩
       ·exact Zl ⟨kp2,rfl,m5,by (try dsimp only);exact Yr e7',by (try dsimp only);exact ZO hA1,by (try dsimp only);(try simp at e6);(try simp at e8);omega,by (try dsimp only);(try simp at e6);exact ZO hB1,by simp;lia⟩
     ·have m2:=m
      have hA0:0 < na:=q2
      have hA1:na - 1 < a.size:=by lia
      have hle:∀ j (hj:j < a.size),j < na->le r a[j] b[nb - 1]:=fun j hj h=>hk2 j hj (ZU _) (by lia)
      have m3:=m2.pushB M.sb hB0 hB1 hle
      refine br hB1 (fun e4=>?_) fun e4=>?_
      ·exact Zl ⟨kp2,.inl ⟨_,rfl,m3.first M.sa (by simpa using e4) M.nb (M.first' C)⟩⟩
      have e4':1 < nb - 1:=by simp at e4;lia
      refine ig hA1 (fT C (kp2.1.trans hk) (M.ga _ (Zj hA1)) M.gb (by lia) (by lia) (iJ M.sb _ _) fun k2 hl1 hl2 hl3=>?_)
      dsimp only
      have m4:=m3.appB (k:=k2) M.sb (by omega) (fun i hi h1 h2 j hj h3=>C.tr (M.ga _ (Zj hj)) (M.ga _ (Zj hA1)) (M.gb _ (Zj hi)) (M.sa j _ hj hA1 (ZU _) (by lia) hA1) (hl3 i hi (by lia) (by lia)))
      refine aC (fun e5=>?_) fun e5=>?_
      ·refine aC (fun e6=>?_) fun e6=>?_
       ·exact Zl ⟨kp2,.inl ⟨_,rfl,m4.first M.sa (by simpa using e6) M.nb (M.first' C)⟩⟩
       refine aC (fun e8=>?_) fun e8=>?_
       ·exact Zl ⟨kp2,.inl ⟨_,rfl,m4.fin M.sa M.sb (.inr (by simpa using e8))⟩⟩
       have m5:=m4.pushA M.sa hA0 hA1 (fun j hj h=>hl2 j hj (ZU _) (by lia))
       refine br hA1 (fun e7=>?_) fun e7=>?_
       ·exact Zl ⟨kp2,.inl ⟨_,rfl,m5.fin M.sa M.sb (.inl (by simpa using e7))⟩⟩
       have e7':=e7
       simp at e7'
       refine aC (fun _=>?_) fun _=>?_
       ·exact Zl ⟨kp2,.inr ⟨rfl,m5,by (try dsimp only);exact Yr e7',by (try dsimp only);exact ZO hA1,by (try dsimp only);(try simp at e6);(try simp at e8);lia,by (try dsimp only);(try simp at e6);lia,by simp;lia⟩⟩
       ·exact Zl ⟨kp2,rfl,m5,by (try dsimp only);exact Yr e7',by (try dsimp only);exact ZO hA1,by (try dsimp only);(try simp at e6);(try simp at e8);lia,by (try dsimp only);(try simp at e6);lia,by simp;lia⟩
      ·have m5:=m3.pushA M.sa hA0 hA1 (fun j hj h=>hl2 j hj (ZU _) (by lia))
       refine br hA1 (fun e7=>?_) fun e7=>?_
       ·exact Zl ⟨kp2,.inl ⟨_,rfl,m5.fin M.sa M.sb (.inl (by simpa using e7))⟩⟩
       have e7':=e7
       simp at e7'
       refine aC (fun _=>?_) fun _=>?_
       ·exact Zl ⟨kp2,.inr ⟨rfl,m5,by (try dsimp only);exact Yr e7',by (try dsimp only);exact ZO hA1,by (try dsimp only);(try simp at e6);(try simp at e8);omega,by (try dsimp only);(try simp at e6);exact ZO hB1,by simp;lia⟩⟩
       ·exact Zl ⟨kp2,rfl,m5,by (try dsimp only);exact Yr e7',by (try dsimp only);exact ZO hA1,by (try dsimp only);(try simp at e6);(try simp at e8);omega,by (try dsimp only);(try simp at e6);exact ZO hB1,by simp;lia⟩
end TS
end
section
open PySem PyProof.Rows
namespace TS
variable {prog:Program} {w:World} {A:Around} {E:Z9} {s:Shared} {κ:SortKind} {G:Keyed->Prop} {r:Keyed->Keyed->Bool}
noncomputable def K (xs:Array Keyed) (i:Nat):Keyed:=(xs[i]?).getD (.none,.none)
theorem wm {xs:Array Keyed} {i:Nat} (h:i < xs.size):K xs i=xs[i]:=by unfold K;rw [getElem?_pos xs i h];rfl
noncomputable def Sg (r:Keyed->Keyed->Bool) (xs:Array Keyed) (lo hi:Nat):Prop:=∀ i j,lo<=i->i<=j->j < hi->le r (K xs i) (K xs j)
noncomputable def Ds (r:Keyed->Keyed->Bool) (xs:Array Keyed) (lo hi:Nat):Prop:=∀ i j,lo<=i->i<=j->j < hi->le r (K xs j) (K xs i)
theorem ko {xs:Array Keyed} {i j:Nat} (hj:j<=xs.size) (k:Nat):K (mirror xs i j ((j - i) / 2)) k=if i<=k/\k < j then K xs (i+j - 1 - k) else K xs k:=by
 unfold K
 rw [getElem?_mirror_all hj]
 split <;> rfl
theorem AW {xs:Array Keyed} {src d:Nat} (hs:src < xs.size) (hd:d<=src) (k:Nat):K (bubble xs src d) k=if k=src - d then K xs src else if src - d < k/\k<=src then K xs (k - 1) else K xs k:=by
 unfold K
 rw [getElem?_bubble hs d hd]
 split
 ·rfl
 ·split <;> rfl
structure Lc (lo:Nat) (st0 st:SortSt):Prop where
 kind:kindOf st=kindOf st0
 pend:pendingOf st=pendingOf st0
 fail:failedOf st=failedOf st0
 perm:(arrOf st).Perm (arrOf st0)
 pre:∀ j,j < lo->(arrOf st)[j]?=(arrOf st0)[j]?
theorem Lc.refl (lo:Nat) (st:SortSt):Lc lo st st:=⟨rfl,rfl,rfl,Array.Perm.refl _,fun _ _=>rfl⟩
theorem Lc.size {lo:Nat} {st0 st:SortSt} (L:Lc lo st0 st):(arrOf st).size=(arrOf st0).size:=L.perm.size_eq
theorem Lc.good {lo:Nat} {st0 st:SortSt} (L:Lc lo st0 st) (g:∀ x∈arrOf st0,G x) {i:Nat} (hi:i < (arrOf st0).size):G (K (arrOf st) i):=by
 rw [wm (by rw [L.size];exact hi)]
 refine g _ ?_
 have:(arrOf st)[i]'(by rw [L.size];exact hi)∈(arrOf st).toList:=by simp
 have:=(Xn.mp L.perm).mem_iff.mp this
 simpa using this
theorem Lc.arr {lo:Nat} {st0 st:SortSt} (L:Lc lo st0 st) {xs:Array Keyed} (hp:xs.Perm (arrOf st)) (hx:∀ j,j < lo->xs[j]?=(arrOf st)[j]?):Lc lo st0 (setArr st xs) :=
 ⟨L.kind,L.pend,L.fail,hp.trans L.perm,fun j hj=>(hx j hj).trans (L.pre j hj)⟩
theorem Lc.mir {lo:Nat} {st0 st:SortSt} (L:Lc lo st0 st) {i j:Nat} (hi:lo<=i) (hj:j<=(arrOf st0).size):Lc lo st0 (setArr st (mirror (arrOf st) i j ((j - i) / 2))) :=
 L.arr (mirror_perm _ _ _ _) fun k hk=>by rw [getElem?_mirror_all (by rw [L.size];exact hj),Zn (by lia)]
theorem jZ (C:Cmp prog w A E s κ G r) {lo:Nat} {st0 st:SortSt} (hk:kindOf st0=κ) (g:∀ x∈arrOf st0,G x) (L:Lc lo st0 st) {i j:Nat} {Q:Option Bool->SortSt->Prop} (hi:i < (arrOf st0).size) (hj:j < (arrOf st0).size)
  (h:Q (some (r (K (arrOf st) i) (K (arrOf st) j))) st):wpS (model prog w) A E s (ltAt' i j) Q st:=by
 have gi:=L.good g hi
 have gj:=L.good g hj
 have hi':i < (arrOf st).size:=by rw [L.size];exact hi
 have hj':j < (arrOf st).size:=by rw [L.size];exact hj
 rw [ltAt'_eq]
 refine Zd (Wc ?_)
 refine Zd (d3 hi' (Zd (d3 hj' ?_)))
 rw [wm hi'] at gi h
 rw [wm hj'] at gj h
 exact C.run st _ _ _ (L.kind.trans hk) gi gj h
theorem Ds.mir (C:Cmp prog w A E s κ G r) {xs:Array Keyed} {lo hi i:Nat} (D:Ds r xs lo hi) (gx:∀ k,k < hi->G (K xs k)) (h1:lo<=i) (h2:hi<=xs.size) (h3:∀ k,i<=k->k < hi->le r (K xs k) (K xs (hi - 1))) :
  Ds r (mirror xs i hi ((hi - i) / 2)) lo hi:=fun p q hp hpq hq=>by
 rw [ko h2,ko h2]
 have eqv:∀ u v,i<=u->u < hi->i<=v->v < hi->le r (K xs u) (K xs v):=fun u v a b c d=>C.tr (gx u b) (gx _ (by lia)) (gx v d) (h3 u a b) (D v (hi - 1) (by exact ZV h1 c) (by lia) (by lia))
 split
 ·split
  ·exact eqv _ _ (by omega) (by omega) (by lia) (by omega)
  ·exact D p _ hp (by lia) (by omega)
 ·split
  ·lia
  ·exact D p q hp hpq hq
theorem Ds.rev {xs:Array Keyed} {lo hi:Nat} (D:Ds r xs lo hi) (h2:hi<=xs.size):Sg r (mirror xs lo hi ((hi - lo) / 2)) lo hi:=fun p q hp hpq hq=>by
 rw [ko h2,ko h2,Zq ⟨hp,by exact WR hpq hq⟩,Zq ⟨by exact ZV hp hpq,hq⟩]
 exact D _ _ (by omega) (by omega) (by omega)
theorem Sg.snoc (C:Cmp prog w A E s κ G r) {xs:Array Keyed} {lo n:Nat} (S:Sg r xs lo (lo+n)) (gx:∀ k,k<=lo+n->G (K xs k)) (h1:1<=n) (h:le r (K xs (lo+n - 1)) (K xs (lo+n))):Sg r xs lo (lo+n+1):=fun i j hi hij hj=>by
 by_cases e:j < lo+n
 ·exact S i j hi hij e
 ·have:j=lo+n:=by lia
  subst this
  by_cases e2:i=lo+n
  ·subst e2
   exact C.refl (gx _ (Zp _))
  ·exact C.tr (gx i (by omega)) (gx _ (by exact YT _ _)) (gx _ (Zp _)) (S i (lo+n - 1) hi (by lia) (by omega)) h
theorem Ds.snoc (C:Cmp prog w A E s κ G r) {xs:Array Keyed} {lo n:Nat} (S:Ds r xs lo (lo+n)) (gx:∀ k,k<=lo+n->G (K xs k)) (h1:1<=n) (h:le r (K xs (lo+n)) (K xs (lo+n - 1))):Ds r xs lo (lo+n+1):=fun i j hi hij hj=>by
 by_cases e:j < lo+n
 ·exact S i j hi hij e
 ·have:j=lo+n:=by lia
  subst this
  by_cases e2:i=lo+n
  ·subst e2
   exact C.refl (gx _ (Zp _))
  ·exact C.tr (gx _ (Zp _)) (gx _ (by exact YT _ _)) (gx i (by omega)) h (S i (lo+n - 1) hi (by lia) (by omega))
theorem kP {st:SortSt} {i j:Nat} {Q:Unit->SortSt->Prop} (h:Q () (setArr st (mirror (arrOf st) i j ((j - i) / 2)))):wpS (model prog w) A E s (reverseSlice' i j) Q st:=by
 rw [reverseSlice'_eq]
 exact XD h
theorem pU {α:Type} {c:Prop} [Decidable c] {x R:StateT SortSt Sem α} {Q:α->SortSt->Prop} {P:SortSt->Prop} {st:SortSt} (D:∀ st1,P st1->wpS (model prog w) A E s R Q st1) (h2:¬ c->P st) (h1:c->(∀ st1,P st1->wpS (model prog w) A E s R Q st1)->wpS (model prog w) A E s x Q st):wpS (model prog w) A E s (if c then x else R) Q st :=
 aC (fun z=>h1 z D) fun z=>D st (h2 z)
theorem Dj (C:Cmp prog w A E s κ G r) {lo n:Nat} {st:SortSt} {Q:Option Nat->SortSt->Prop} (hk:kindOf st=κ) (g:∀ x∈arrOf st,G x) (h0:1<=n) (hn:lo+n<=(arrOf st).size)
  (h:∀ m st',Lc lo st st'->1<=m->m<=n->Sg r (arrOf st') lo (lo+m)->Q (some m) st'):wpS (model prog w) A E s (countRun' lo n) Q st:=by
 unfold countRun'
 change wpS (model prog w) A E s (_ >>= _) Q st
 dsimp only
 have L0:=Lc.refl lo st
 have n01:1<=1:=Zp _
 have s0:Sg r (arrOf st) lo (lo+1):=fun i j h1 h2 h3=>by
  have e1:i=lo:=by lia
  have e2:j=lo:=by lia
  subst e1 e2
  exact C.refl (L0.good g (by lia))
 refine Zd (Y1 (Yn
  (I:=fun x c st'=>Lc lo st st'/\c.1=none/\c.2=x/\1<=x/\Sg r (arrOf st') lo (lo+x))
  (Q:=fun c st'=>Lc lo st st'/\c.1=none/\1<=c.2/\c.2<=n/\Sg r (arrOf st') lo (lo+c.2)/\(c.2 < n->r (K (arrOf st') (lo+c.2)) (K (arrOf st') (lo+c.2 - 1))=true)) ?stepA ?finA ?initA) ?postA)
 case initA=>exact ⟨L0,rfl,rfl,n01,s0⟩
 case finA =>
  refine all2 fun c1 c2=>?_
  rintro st' ⟨L,q1,q2,q3,q4⟩
  dsimp only at *
  subst q2
  refine ⟨L,q1,by (try dsimp only);omega,by (try dsimp only);lia,q4,fun z=>?_⟩
  (try dsimp only at z)
  lia
 case stepA =>
  intro x
  refine all2 fun c1 c2=>?_
  rintro st' hx1 hx2 ⟨L,q1,q2,q3,q4⟩
  dsimp only at *
  subst q2
  refine Zd (jZ C hk g L (by lia) (by omega) ?_)
  dsimp only
  have gx:∀ k,k<=lo+c2->G (K (arrOf st') k):=fun k hk=>L.good g (by lia)
  cases e:r (K (arrOf st') (lo+c2)) (K (arrOf st') (lo+c2 - 1)) with
  | true=>exact Zl ⟨L,rfl,q3,by (try dsimp only);exact ZO hx2,q4,fun _=>e⟩
  | false=>exact Zl ⟨L,rfl,rfl,by exact YB _ _,Sg.snoc C q4 gx q3 e⟩
 case postA =>
  refine all2 fun c1 c2=>?_
  rintro st' ⟨L,q1,q2,q3,q4,q5⟩
  dsimp only at *
  subst q1
  dsimp only
  refine aC (fun e=>?_) fun e=>?_
  ·exact Zl (h c2 st' L q2 q3 q4)
  have e':c2 < n:=by simp at e;exact Nat.lt_of_le_of_ne q3 e
  have sm:=q5 e'
  have gx:∀ k,k<=lo+c2->G (K (arrOf st') k):=fun k hk=>L.good g (by lia)
  have le1:le r (K (arrOf st') (lo+c2)) (K (arrOf st') (lo+c2 - 1)):=C.le_of (gx _ (by exact Zp _)) (gx _ (by exact YT _ _)) sm
  have hsz:=L.size
  refine pU (P:=fun st1=>Lc lo st st1/\Ds r (arrOf st1) lo (lo+(c2+1))) ?D ?two ?one
  case one =>
   intro e3 Dk
   refine Zd (jZ C hk g L (by lia) (by lia) ?_)
   dsimp only
   cases e4:r (K (arrOf st') lo) (K (arrOf st') (lo+c2 - 1)) with
   | true=>exact Zl (h c2 st' L q2 q3 q4)
   | false =>
    rw [Zn Zm]
    refine Zd (kP ?_)
    have L1:=L.mir (i:=lo) (j:=lo+c2) (by exact Zp _) (by lia)
    have d0:Ds r (arrOf st') lo (lo+c2):=fun i j h1 h2 h3=>C.tr (gx j (by exact ZO h3)) (gx _ (by exact YT _ _)) (gx i (by lia)) (q4 j (lo+c2 - 1) (by exact ZV h1 h2) (by lia) (by omega))
     (C.tr (gx _ (by exact YT _ _)) (gx _ (by exact ZI _ _)) (gx i (by lia)) e4 (q4 lo i (by exact Zp _) h1 (by exact WR h2 h3)))
    have d2:=Ds.mir C d0 (fun k hk=>gx k (by exact ZO hk)) (i:=lo) (by exact Zp _) (by lia) (fun k h1 h2=>q4 k _ h1 (by lia) (by omega))
    have d1:=Ds.snoc C d2 (fun k hk=>L1.good g (by lia)) q2 (by
     rw [ko (by lia),ko (by lia),Zn (by lia),Zq (by omega)]
     exact C.tr (gx _ (by exact Zp _)) (gx _ (by exact YT _ _)) (gx _ (by omega)) le1 (d0 _ _ (by omega) (by omega) (by omega)))
    exact Dk _ ⟨L1,d1⟩
  case two =>
   intro e3
   have e5:c2=1:=by lia
   have d0:Ds r (arrOf st') lo (lo+c2):=fun i j h1 h2 h3=>by
    have e1:i=lo:=by lia
    have e2:j=lo:=by lia
    subst e1 e2
    exact C.refl (gx _ (by exact ZI _ _))
   have d1:=Ds.snoc C d0 gx q2 le1
   exact ⟨L,d1⟩
  case D =>
   rintro st' ⟨L1,d1⟩
   clear gx hsz
   refine Zd (gF ?_)
   refine Zd (Y1 (Yn
    (I:=fun x c st'=>Lc lo st st'/\c.1=none/\c.2.1=x/\c.2.2+1<=x/\Ds r (arrOf st') lo (lo+x)/\(∀ k,lo+x - (c.2.2+1)<=k->k < lo+x->le r (K (arrOf st') k) (K (arrOf st') (lo+x - 1))))
    (Q:=fun c st'=>Lc lo st st'/\c.1=none/\c.2.2+1<=c.2.1/\c.2.1<=n/\Ds r (arrOf st') lo (lo+c.2.1)/\(∀ k,lo+c.2.1 - (c.2.2+1)<=k->k < lo+c.2.1->le r (K (arrOf st') k) (K (arrOf st') (lo+c.2.1 - 1)))) ?stepD ?finD ?initD) ?postD)
   case initD =>
    refine ⟨L1,rfl,rfl,by (try dsimp only);exact YB _ _,d1,fun k h1 h2=>?_⟩
    (try dsimp only at h1 h2)
    have e:k=lo+(c2+1) - 1:=by lia
    subst e
    exact C.refl (L1.good g (by lia))
   case finD =>
    refine g8 fun c1 c2' neq=>?_
    rintro st' ⟨L,q1,q2,q3,q4,q5⟩
    dsimp only at *
    subst q2
    exact ⟨L,q1,q3,by (try dsimp only);lia,q4,q5⟩
   case stepD =>
    intro x
    refine g8 fun c1 c2' neq=>?_
    rintro st' hx1 hx2 ⟨L,q1,q2,q3,q4,q5⟩
    dsimp only at *
    subst q2
    refine Zd (jZ C hk g L (by lia) (by omega) ?_)
    dsimp only
    have gx:∀ k,k<=lo+c2'->G (K (arrOf st') k):=fun k hk=>L.good g (by lia)
    have hsz:=L.size
    cases e:r (K (arrOf st') (lo+c2')) (K (arrOf st') (lo+c2' - 1)) with
    | true =>
     rw [Zq rfl]
     have le1:le r (K (arrOf st') (lo+c2')) (K (arrOf st') (lo+c2' - 1)):=C.le_of (gx _ (by exact Zp _)) (gx _ (by exact YT _ _)) e
     refine aC (fun z=>?_) fun z=>?_
     ·refine Zd (kP ?_)
      have L2:=L.mir (i:=lo+c2' - (neq+1)) (j:=lo+c2') (by lia) (by lia)
      have d2:=Ds.mir C q4 (fun k hk=>gx k (by exact ZO hk)) (i:=lo+c2' - (neq+1)) (by lia) (by lia) q5
      refine Zl ⟨L2,rfl,rfl,by (try dsimp only);exact YB _ _,Ds.snoc C d2 (fun k hk=>L2.good g (by lia)) (by lia) ?_,fun k h1 h2=>?_⟩
      ·show le r (K (mirror _ _ _ _) _) (K (mirror _ _ _ _) _)
       rw [ko (by lia),ko (by lia),Zn (by lia),Zq (by omega)]
       exact C.tr (gx _ (by exact Zp _)) (gx _ (by exact YT _ _)) (gx _ (by omega)) le1 (q4 _ _ (by lia) (by omega) (by omega))
      ·(try dsimp only at h1 h2)
       have e:k=lo+(c2'+1) - 1:=by lia
       subst e
       exact C.refl (L2.good g (by lia))
     ·refine Zl ⟨L,rfl,rfl,by (try dsimp only);exact YB _ _,Ds.snoc C q4 gx (by lia) le1,fun k h1 h2=>?_⟩
      (try dsimp only at h1 h2)
      have e:k=lo+(c2'+1) - 1:=by lia
      subst e
      exact C.refl (L.good g (by lia))
    | false =>
     rw [Zn Zm]
     refine Zd (jZ C hk g L (by lia) (by lia) ?_)
     dsimp only
     cases e2:r (K (arrOf st') (lo+c2' - 1)) (K (arrOf st') (lo+c2')) with
     | true=>exact Zl ⟨L,rfl,q3,by (try dsimp only);exact ZO hx2,q4,q5⟩
     | false =>
      refine Zl ⟨L,rfl,rfl,by (try dsimp only);exact Y4 q3,Ds.snoc C q4 gx (by lia) e2,fun k h1 h2=>?_⟩
      (try dsimp only at h1 h2)
      have ee:lo+(c2'+1) - 1=lo+c2':=by lia
      rw [ee]
      by_cases ek:k=lo+c2'
      ·subst ek
       exact C.refl (gx _ (by exact Zp _))
      ·exact C.tr (gx _ (by lia)) (gx _ (by exact YT _ _)) (gx _ (by exact Zp _)) (q5 k (by lia) (by lia)) e
   case postD =>
    refine g8 fun c1 c2' neq=>?_
    rintro st' ⟨L,q1,q3,q6,q4,q5⟩
    dsimp only at *
    subst q1
    dsimp only
    have gx:∀ k,k < lo+c2'->G (K (arrOf st') k):=fun k hk=>L.good g (by lia)
    have hsz:=L.size
    have n01:1<=c2':=by lia
    refine pU (P:=fun st1=>Lc lo st st1/\Ds r (arrOf st1) lo (lo+c2')) ?R ?two2 ?one2
    case one2 =>
     intro z Dk2
     refine Zd (kP ?_)
     have L2:=L.mir (i:=lo+c2' - (neq+1)) (j:=lo+c2') (by lia) (by lia)
     have d2:=Ds.mir C q4 gx (i:=lo+c2' - (neq+1)) (by lia) (by lia) q5
     exact Dk2 _ ⟨L2,d2⟩
    case two2=>exact fun _=>⟨L,q4⟩
    case R =>
     clear q4 q5 gx hsz L
     rintro st' ⟨L,q4⟩
     have hsz:=L.size
     refine Zd (kP ?_)
     have L0:=L.mir (i:=lo) (j:=lo+c2') (by exact Zp _) (by lia)
     have s0:=q4.rev (by lia)
     refine Zd (Y1 (Yn
      (I:=fun x c st'=>Lc lo st st'/\c.1=none/\c.2=x/\1<=x/\Sg r (arrOf st') lo (lo+x))
      (Q:=fun c st'=>Lc lo st st'/\c.1=none/\1<=c.2/\c.2<=n/\Sg r (arrOf st') lo (lo+c.2)/\(c.2 < n->r (K (arrOf st') (lo+c.2)) (K (arrOf st') (lo+c.2 - 1))=true)) ?stepA ?finA ?initA) ?postA)
     case initA=>exact ⟨L0,rfl,rfl,n01,s0⟩
     case finA =>
      refine all2 fun c1 c2=>?_
      rintro st' ⟨L,q1,q2,q3,q4⟩
      dsimp only at *
      subst q2
      refine ⟨L,q1,by (try dsimp only);omega,by (try dsimp only);lia,q4,fun z=>?_⟩
      (try dsimp only at z)
      lia
     case stepA =>
      intro x
      refine all2 fun c1 c2=>?_
      rintro st' hx1 hx2 ⟨L,q1,q2,q3,q4⟩
      dsimp only at *
      subst q2
      refine Zd (jZ C hk g L (by lia) (by lia) ?_)
      dsimp only
      have gx:∀ k,k<=lo+c2->G (K (arrOf st') k):=fun k hk=>L.good g (by lia)
      cases e:r (K (arrOf st') (lo+c2)) (K (arrOf st') (lo+c2 - 1)) with
      | true=>exact Zl ⟨L,rfl,q3,by (try dsimp only);exact ZO hx2,q4,fun _=>e⟩
      | false=>exact Zl ⟨L,rfl,rfl,by exact YB _ _,Sg.snoc C q4 gx q3 e⟩
     case postA =>
      refine all2 fun c1 c3=>?_
      rintro st' ⟨L,q1,q2,q3,q4,q5⟩
      dsimp only at *
      subst q1
      exact Zl (h c3 st' L q2 q3 q4)
end TS
end
section
open PySem PyProof.Rows
namespace TS
variable {prog:Program} {w:World} {A:Around} {E:Z9} {s:Shared} {κ:SortKind} {G:Keyed->Prop} {r:Keyed->Keyed->Bool}
theorem xZ {st:SortSt} {i j:Nat} {Q:Unit->SortSt->Prop} (h:Q () (setArr st (bubble (arrOf st) i (i - j)))):wpS (model prog w) A E s (moveDown' i j) Q st:=by
 rw [moveDown'_eq]
 exact XD h
theorem Lc.bub {lo:Nat} {st0 st:SortSt} (L:Lc lo st0 st) {i d:Nat} (hd:lo+d<=i) (hj:i < (arrOf st0).size):Lc lo st0 (setArr st (bubble (arrOf st) i d)) :=
 L.arr (bubble_perm _ _ _) fun k hk=>by rw [getElem?_bubble (by rw [L.size];exact hj) d (by lia),Zn (by lia),Zn (by lia)]
theorem Di (C:Cmp prog w A E s κ G r) {lo n ok:Nat} {st:SortSt} {Q:Bool->SortSt->Prop} (hk:kindOf st=κ) (g:∀ x∈arrOf st,G x) (h0:1<=ok) (hok:ok<=n) (hn:lo+n<=(arrOf st).size) (S:Sg r (arrOf st) lo (lo+ok))
  (h:∀ st',Lc lo st st'->Sg r (arrOf st') lo (lo+n)->Q true st'):wpS (model prog w) A E s (binarySort' lo n ok) Q st:=by
 unfold binarySort'
 change wpS (model prog w) A E s (_ >>= _) Q st
 dsimp only
 have em:max ok 1=ok:=by lia
 rw [em]
 refine Zd (Y1 (Yn
  (I:=fun x c st'=>Lc lo st st'/\c.1=none/\Sg r (arrOf st') lo (lo+x))
  (Q:=fun c st'=>Lc lo st st'/\c.1=none/\Sg r (arrOf st') lo (lo+n)) ?step ?fin ?init) ?post)
 case init=>exact ⟨Lc.refl _ _,rfl,S⟩
 case fin =>
  refine all2 fun c1 c2=>?_
  rintro st' ⟨L,q1,q2⟩
  have e:max ok n=n:=by lia
  rw [e] at q2
  exact ⟨L,q1,q2⟩
 case post =>
  refine all2 fun c1 c2=>?_
  rintro st' ⟨L,q1,q2⟩
  dsimp only at *
  subst q1
  exact Zl (h st' L q2)
 case step =>
  intro k
  refine all2 fun c1 c2=>?_
  rintro st' hk1 hk2 ⟨L,q1,q2⟩
  dsimp only at *
  have hsz:=L.size
  have gx:∀ j,j<=lo+k->G (K (arrOf st') j):=fun j hj=>L.good g (by lia)
  refine Zd (Y1 (Yn
   (I:=fun x c st2=>st'=st2/\c.1=none/\c.2.1<=c.2.2/\c.2.2<=k/\c.2.2 - c.2.1+x<=k/\(∀ i,lo<=i->i < lo+c.2.1->le r (K (arrOf st') i) (K (arrOf st') (lo+k)))/\(∀ i,lo+c.2.2<=i->i < lo+k->le r (K (arrOf st') (lo+k)) (K (arrOf st') i)))
   (Q:=fun c st2=>st'=st2/\c.1=none/\c.2.1=c.2.2/\c.2.2<=k/\(∀ i,lo<=i->i < lo+c.2.1->le r (K (arrOf st') i) (K (arrOf st') (lo+k)))/\(∀ i,lo+c.2.2<=i->i < lo+k->le r (K (arrOf st') (lo+k)) (K (arrOf st') i))) ?step2 ?fin2 ?init2) ?post2)
  case init2=>exact ⟨rfl,rfl,by (try dsimp only);exact ZU _,by (try dsimp only);exact Zp _,by (try dsimp only);lia,fun i h1 h2=>by (try dsimp only at h2);lia,fun i h1 h2=>by (try dsimp only at h1);lia⟩
  case fin2 =>
   refine g8 fun d1 l rr=>?_
   rintro st2 ⟨e,q3,q4,q5,q6,q7,q8⟩
   dsimp only at *
   exact ⟨e,q3,by (try dsimp only);lia,q5,q7,q8⟩
  case step2 =>
   intro x
   refine g8 fun d1 l rr=>?_
   rintro st2 _ hx ⟨e,q3,q4,q5,q6,q7,q8⟩
   subst e
   dsimp only at *
   refine aC (fun z=>?_) fun z=>?_
   ·exact Zl ⟨rfl,rfl,by (try dsimp only);exact Nat.le_antisymm q4 z,q5,q7,q8⟩
   ·refine Zd (jZ C hk g L (by lia) (by lia) ?_)
    dsimp only
    cases e2:r (K (arrOf st') (lo+k)) (K (arrOf st') (lo+(l+rr) / 2)) with
    | true =>
     have l1:=C.le_of (gx _ (by exact Zp _)) (gx _ (by lia)) e2
     exact Zl ⟨rfl,rfl,by (try dsimp only);lia,by (try dsimp only);lia,by (try dsimp only);lia,q7,fun i h1 h2=>C.tr (gx _ (by exact Zp _)) (gx _ (by lia)) (gx _ (by exact ZO h2)) l1 (q2 _ i (by exact ZI _ _) h1 h2)⟩
    | false =>
     refine Zl ⟨rfl,rfl,by (try dsimp only);lia,by (try dsimp only);omega,by (try dsimp only);lia,fun i h1 h2=>?_,q8⟩
     (try dsimp only at h2)
     exact C.tr (gx _ (by lia)) (gx _ (by lia)) (gx _ (by exact Zp _)) (q2 i (lo+(l+rr) / 2) h1 (by lia) (by lia)) e2
  case post2 =>
   refine g8 fun d1 l rr=>?_
   rintro st2 ⟨e,q3,q4,q5,q7,q8⟩
   subst e
   dsimp only at *
   subst q3
   dsimp only
   refine Zd (xZ ?_)
   have ed:lo+k - (lo+l)=k - l:=by lia
   rw [ed]
   refine Zl ⟨L.bub (by lia) (by lia),rfl,fun i j h1 h2 h3=>?_⟩
   show le r (K (bubble _ _ _) i) (K (bubble _ _ _) j)
   rw [AW (by lia) (by lia),AW (by lia) (by lia)]
   by_cases c1:i=lo+k - (k - l)
   ·rw [Zq c1]
    by_cases c2:j=lo+k - (k - l)
    ·rw [Zq c2];exact C.refl (gx _ (by exact Zp _))
    ·rw [Zn c2,Zq (by omega)]
     exact q8 _ (by omega) (by lia)
   ·rw [Zn c1]
    by_cases c3:lo+k - (k - l) < i/\i<=lo+k
    ·rw [Zq c3]
     rw [Zn (by lia),Zq (by omega)]
     exact q2 _ _ (by omega) (by lia) (by lia)
    ·rw [Zn c3]
     by_cases c2:j=lo+k - (k - l)
     ·rw [Zq c2]
      exact q7 i h1 (by lia)
     ·rw [Zn c2]
      by_cases c4:lo+k - (k - l) < j/\j<=lo+k
      ·rw [Zq c4]
       exact q2 _ _ h1 (by omega) (by lia)
      ·rw [Zn c4]
       exact q2 _ _ h1 h2 (by omega)
theorem sQ (base:Nat):∀ (l:List Keyed) (off:Nat) (arr:Array Keyed),base+off+l.length<=arr.size →
  ((l.zipIdx off).foldl (fun a x=>a.setIfInBounds (base+x.snd) x.fst) arr).toList=arr.toList.take (base+off)++l++arr.toList.drop (base+off+l.length)
 | [],off,arr,h=>by simp
 | x :: l,off,arr,h=>by
  rw [Wo,List.foldl_cons]
  rw [Zi] at h
  rw [sQ base l (off+1) _ (by rw [Array.size_setIfInBounds];lia)]
  dsimp only
  have hl:base+off < arr.toList.length:=by simp;lia
  rw [Array.toList_setIfInBounds,List.set_eq_take_append_cons_drop,Zq hl]
  have e1:(arr.toList.take (base+off)++x :: arr.toList.drop (base+off+1)).take (base+(off+1))=arr.toList.take (base+off)++[x]:=by
   have:(arr.toList.take (base+off)).length=base+off:=by rw [ZS];lia
   rw [List.take_append,this,Z5 (by rw [this];lia)]
   have:base+(off+1) - (base+off)=1:=by lia
   rw [this];rfl
  have e2:(arr.toList.take (base+off)++x :: arr.toList.drop (base+off+1)).drop (base+(off+1)+l.length)=arr.toList.drop (base+off+(l.length+1)):=by
   have:(arr.toList.take (base+off)).length=base+off:=by rw [ZS];lia
   rw [XM,this,YQ (by rw [this];lia),YG]
   have:base+(off+1)+l.length - (base+off)=l.length+1:=by lia
   rw [this,List.drop_succ_cons,List.drop_drop]
   congr 1
   lia
  rw [e1,e2]
  simp
end TS
end
section
open PySem PyProof.Rows
namespace TS
variable {prog:Program} {w:World} {A:Around} {E:Z9} {s:Shared} {κ:SortKind} {G:Keyed->Prop} {r:Keyed->Keyed->Bool}
theorem gU {a:Array Keyed} {P X S:List Keyed} (e:a.toList=P++X++S) (j:Nat) (hj:j < X.length):∃ h:P.length+j < a.size,a[P.length+j]=X[j]:=by
 have hs:a.size=P.length+X.length+S.length:=by
  have:=congrArg List.length e
  simp at this
  lia
 have h:P.length+j < a.size:=by lia
 refine ⟨h,?_⟩
 have h1:a[P.length+j]?=X[j]?:=by
  rw [← Z8,e,Zc,Yw (by exact ZI _ _),YH,Yo hj]
 rw [getElem?_pos a _ h,getElem?_pos X _ hj] at h1
 exact ZK h1
theorem sO (C:Cmp prog w A E s κ G r) {a:Array Keyed} {P X S:List Keyed} (e:a.toList=P++X++S) (g:∀ x∈a,G x) (sx:X.Pairwise (le r)):Seg r a P.length (P.length+X.length):=by
 intro i j hi hj h1 h2 h3
 obtain ⟨i',rfl⟩:∃ i',i=P.length+i':=⟨i - P.length,by lia⟩
 obtain ⟨j',rfl⟩:∃ j',j=P.length+j':=⟨j - P.length,by lia⟩
 obtain ⟨_,e1⟩:=gU e i' (by lia)
 obtain ⟨_,e2⟩:=gU e j' (by lia)
 rcases XA i' j' with hlt | hge
 ·rw [e1,e2]
  exact YC.mp sx i' j' (by lia) (by lia) hlt
 ·have:i'=j':=by lia
  subst this
  exact C.refl (g _ (Zj hi))
theorem CS (C:Cmp prog w A E s κ G r) {i pw pw2:Nat} {st:SortSt} {Q:Bool->SortSt->Prop} {P X Y S:List Keyed} (hk:kindOf st=κ) (g:∀ x∈arrOf st,G x) (hf:failedOf st=none)
  (e1:(arrOf st).toList=P++X++(Y++S)) (p1:(pendingOf st)[i]?=some (P.length,X.length,pw)) (p2:(pendingOf st)[i+1]?=some (P.length+X.length,Y.length,pw2))
  (sX:X.Pairwise (le r)) (sY:Y.Pairwise (le r)) (nX:0 < X.length) (nY:0 < Y.length)
  (h:∀ st' M,M.Perm (X++Y)->M.Pairwise (le r)->(arrOf st').toList=P++M++S->kindOf st'=kindOf st->failedOf st'=none →
   pendingOf st'=((pendingOf st).setIfInBounds i (P.length,X.length+Y.length,pw)).eraseIdxIfInBounds (i+1)->Q true st'):wpS (model prog w) A E s (mergeAt' i) Q st:=by
 have e2:(arrOf st).toList=(P++X)++Y++S:=by rw [e1];simp
 have hs:(arrOf st).size=P.length+X.length+Y.length+S.length:=by
  have:=congrArg List.length e1
  simp at this
  lia
 have gm:∀ x,x∈(arrOf st).toList->G x:=fun x hx=>g x (by simpa using hx)
 have gX:∀ x∈X,G x:=fun x hx=>gm x (by rw [e1];simp [hx])
 have gY:∀ x∈Y,G x:=fun x hx=>gm x (by rw [e1];simp [hx])
 have segX:=sO C e1 g sX
 have segY:=sO C e2 g sY
 rw [Zv] at segY
 obtain ⟨hb,eb⟩:=gU e2 0 nY
 simp only [Zv,Nat.add_zero] at hb eb
 obtain ⟨hl,el⟩:=gU e1 (X.length - 1) (by lia)
 have gb:G (arrOf st)[P.length+X.length]:=g _ (Zj hb)
 unfold mergeAt'
 change wpS (model prog w) A E s (_ >>= _) Q st
 dsimp only
 refine Zd (Wc ?_)
 rw [show (sortPriv% PySem.Builtin.SortState.pending) st=pendingOf st from rfl,p1,p2]
 dsimp only
 refine Zd (show wpS _ _ _ _ (set _) _ _ from ?_)
 refine (show wpS (model prog w) A E s (modify (fun _=>SortSt.mk' (kindOf st) (arrOf st) (((pendingOf st).setIfInBounds i (P.length,X.length+Y.length,pw)).eraseIdxIfInBounds (i+1)) (gallopOf st) (failedOf st))) _ st from XD ?_)
 refine Zd (d3 hb ?_)
 refine Zd (fT C (hint:=0) (by exact hk) gb g (by show P.length+X.length<=(arrOf st).size;exact ZO hb) nX segX fun k hk1 hk2 hk3=>?_)
 dsimp only
 have z1:∀ x∈X.take k,le r x (arrOf st)[P.length+X.length]:=fun x hx=>by
  obtain ⟨j,hj,rfl⟩:=Yu hx
  rw [ZS] at hj
  obtain ⟨h1,e3⟩:=gU e1 j (by lia)
  rw [Xs,← e3]
  exact hk2 _ h1 (by exact ZI _ _) (by lia)
 have z2:∀ x∈X.drop k,le r (arrOf st)[P.length+X.length] x:=fun x hx=>by
  obtain ⟨j,hj,rfl⟩:=Yu hx
  rw [ZR] at hj
  obtain ⟨h1,e3⟩:=gU e1 (k+j) (by lia)
  rw [Xr,← e3]
  exact hk3 _ h1 (by lia) (by lia)
 have b0Y:∀ y∈Y,le r (arrOf st)[P.length+X.length] y:=fun y hy=>by
  obtain ⟨j,hj,rfl⟩:=Yu hy
  obtain ⟨h1,e3⟩:=gU e2 j hj
  simp only [Zv] at h1 e3
  rw [← e3]
  exact segY _ _ hb h1 (by exact Zp _) (by exact ZI _ _) (by lia)
 refine aC (fun e3=>?_) fun e3=>?_
 ·have e3':X.length<=k:=by simp at e3;lia
  refine Zl (h _ (X++Y) (XS _) ?_ (by show (arrOf st).toList=_;rw [e1];simp) rfl hf rfl)
  rw [ZF]
  refine ⟨sX,sY,fun x hx y hy=>C.tr (gX x hx) gb (gY y hy) (z1 x (by rw [Z5 e3'];exact hx)) (b0Y y hy)⟩
 have hk':k < X.length:=by simp at e3;lia
 have ei:P.length+k+(X.length - k) - 1=P.length+(X.length - 1):=by lia
 refine Zd (d3 (show P.length+k+(X.length - k) - 1 < (arrOf st).size by omega) ?_)
 have elst:∀ (q:P.length+k+(X.length - k) - 1 < (arrOf st).size),(arrOf st)[P.length+k+(X.length - k) - 1]=X[X.length - 1]:=fun q=>by
  simp only [ei]
  exact el
 rw [elst]
 have gl:G X[X.length - 1]:=gX _ (Xh _)
 refine Zd (fT C (hint:=Y.length - 1) (by exact hk) gl g (by show P.length+X.length+Y.length<=(arrOf st).size;lia) (by lia) segY fun m hm1 hm2 hm3=>?_)
 dsimp only
 have y1:∀ x∈Y.take m,le r x X[X.length - 1]:=fun x hx=>by
  obtain ⟨j,hj,rfl⟩:=Yu hx
  rw [ZS] at hj
  obtain ⟨h1,e3⟩:=gU e2 j (by lia)
  simp only [Zv] at h1 e3
  rw [Xs,← e3]
  exact hm2 _ h1 (by exact ZI _ _) (by lia)
 have y2:∀ x∈Y.drop m,le r X[X.length - 1] x:=fun x hx=>by
  obtain ⟨j,hj,rfl⟩:=Yu hx
  rw [ZR] at hj
  obtain ⟨h1,e3⟩:=gU e2 (m+j) (by lia)
  simp only [Zv] at h1 e3
  rw [Xr,← e3]
  exact hm3 _ h1 (by lia) (by lia)
 have xl:∀ x∈X,le r x X[X.length - 1]:=fun x hx=>by
  obtain ⟨j,hj,rfl⟩:=Yu hx
  rcases XA j (X.length - 1) with hlt | hge
  ·exact YC.mp sX j _ hj (by omega) hlt
  ·have:j=X.length - 1:=by omega
   subst this
   exact C.refl gl
 refine aC (fun e4=>?_) fun e4=>?_
 ·have e4':m=0:=by simpa using e4
  subst e4'
  refine Zl (h _ (X++Y) (XS _) ?_ (by show (arrOf st).toList=_;rw [e1];simp) rfl hf rfl)
  rw [ZF]
  exact ⟨sX,sY,fun x hx y hy=>C.tr (gX x hx) gl (gY y hy) (xl x hx) (y2 y hy)⟩
 have hm':0 < m:=by simp at e4;exact Yr e4
 have ex:((arrOf st).extract (P.length+k) (P.length+X.length)).toList=X.drop k:=by
  rw [XF,List.extract_eq_drop_take,e1,Zc,XM,YQ (by exact ZI _ _),YG]
  have:P.length+k - P.length=k:=by exact YH _ _
  rw [this,XM,Nat.sub_eq_zero_of_le (by omega:k<=X.length),XT]
  rw [XI (by rw [ZR];lia),Z5 (by rw [ZR];lia)]
 have ey:((arrOf st).extract (P.length+X.length) (P.length+X.length+m)).toList=Y.take m:=by
  rw [XF,List.extract_eq_drop_take,e2,Zc,XM,YQ (by simp),YG]
  have:P.length+X.length - (P++X).length=0:=by simp
  rw [this,XT]
  have:P.length+X.length+m - (P.length+X.length)=m:=by exact YH _ _
  rw [this,XI (by omega)]
 obtain ⟨ax,hax⟩:∃ ax,ax=(arrOf st).extract (P.length+k) (P.length+X.length):=⟨_,rfl⟩
 obtain ⟨ay,hay⟩:∃ ay,ay=(arrOf st).extract (P.length+X.length) (P.length+X.length+m):=⟨_,rfl⟩
 rw [← hax] at ex
 rw [← hay] at ey
 have mx:∀ x,x∈ax->x∈X.drop k:=fun x hx=>by rw [← ex];simpa using hx
 have my:∀ x,x∈ay->x∈Y.take m:=fun x hx=>by rw [← ey];simpa using hx
 have szx:ax.size=X.length - k:=by have:=congrArg List.length ex;simpa using this
 have szy:ay.size=m:=by have:=congrArg List.length ey;simp at this;lia
 have gax:∀ x∈ax,G x:=fun x hx=>gX x (YW (mx x hx))
 have gay:∀ x∈ay,G x:=fun x hx=>gY x (Yi (my x hx))
 have y0:∀ (q:0 < ay.size),ay[0]=(arrOf st)[P.length+X.length]:=fun q=>by
  rw [eb]
  have:ay[0]?=Y[0]?:=by rw [← Z8,ey,List.getElem?_take_of_lt hm']
  rw [getElem?_pos ay 0 q,getElem?_pos Y 0 nY] at this
  exact ZK this
 have xl0:∀ (q:ax.size - 1 < ax.size),ax[ax.size - 1]=X[X.length - 1]:=fun q=>by
  have:ax[ax.size - 1]?=X[X.length - 1]?:=by
   rw [← Z8,ex,List.getElem?_drop]
   congr 1
   lia
  rw [getElem?_pos ax _ q,getElem?_pos X _ (by omega)] at this
  exact ZK this
 have M:MC G r ax ay:=by
  refine ⟨gax,gay,vc C gax (by rw [ex];exact sX.drop),vc C gay (by rw [ey];exact sY.take),by lia,by lia,?_,fun j hj=>?_⟩
  ·rw [y0]
   exact z2 _ (mx _ (Zj _))
  ·rw [xl0]
   exact y1 _ (my _ (Zj hj))
 have fin:∀ (st1:SortSt) (res:Array Keyed),gw (SortSt.mk' (kindOf st) (arrOf st) (((pendingOf st).setIfInBounds i (P.length,X.length+Y.length,pw)).eraseIdxIfInBounds (i+1)) (gallopOf st) (failedOf st)) st1->MR r ax ay res →
   Q (failedOf st1).isNone (SortSt.mk' (kindOf st1) (res.toList.zipIdx.foldl (fun a x=>a.setIfInBounds (P.length+k+x.snd) x.fst) (arrOf st1)) (pendingOf st1) (gallopOf st1) (failedOf st1)):=fun st1 res kp mr=>by
  obtain ⟨k1,k2,k3,k4⟩:=kp
  have k4':failedOf st1=none:=k4.trans hf
  have k2':arrOf st1=arrOf st:=k2
  rw [k4']
  have hl:res.toList.length=X.length - k+m:=by
   rw [mr.1.length_eq,ex,ey]
   simp
   exact Yf hm1
  have mem:∀ x,x∈res.toList->x∈X.drop k\/x∈Y.take m:=fun x hx=>by
   have:=mr.1.mem_iff.mp hx
   rw [ex,ey] at this
   exact Zh.mp this
  have bk:=sQ (P.length+k) res.toList 0 (arrOf st1) (by rw [k2'];omega)
  rw [k2',Nat.add_zero] at bk
  have t1:(arrOf st).toList.take (P.length+k)=P++X.take k:=by
   rw [e1,Zc,List.take_append,Z5 (by exact ZI _ _),YH,XI (by omega)]
  have t2:(arrOf st).toList.drop (P.length+k+res.toList.length)=Y.drop m++S:=by
   rw [e2,Zc,XM,YQ (by rw [Zv];omega),YG]
   have:P.length+k+res.toList.length - (P++X).length=m:=by rw [Zv];omega
   rw [this,List.drop_append_of_le_length (by omega)]
  refine h _ (X.take k++res.toList++Y.drop m) ?_ ?_ ?_ k1 rfl k3
  ·have p:(X.take k++(X.drop k++Y.take m)++Y.drop m)=X++Y:=by
    rw [← Zc,YX,Zc,YX]
   rw [← p]
   have:=mr.1
   rw [ex,ey] at this
   exact (this.append_left _).append_right _
  ·rw [ZF,ZF]
   refine ⟨⟨sX.take,mr.2,fun x hx y hy=>?_⟩,sY.drop,fun x hx y hy=>?_⟩
   ·rcases mem y hy with hy | hy
    ·have:=sX
     rw [← YX k X,ZF] at this
     exact this.2.2 x hx y hy
    ·exact C.tr (gX _ (Yi hx)) gb (gY _ (Yi hy)) (z1 x hx) (b0Y y (Yi hy))
   ·rcases Zh.mp hx with hx | hx
    ·exact C.tr (gX _ (Yi hx)) gb (gY _ (YW hy)) (z1 x hx) (b0Y y (YW hy))
    ·rcases mem x hx with hx | hx
     ·exact C.tr (gX _ (YW hx)) gl (gY _ (YW hy)) (xl x (YW hx)) (y2 y hy)
     ·have:=sY
      rw [← YX m Y,ZF] at this
      exact this.2.2 x hx y hy
  ·show (List.foldl _ (arrOf st1) _).toList=_
   rw [k2',bk,t1,t2]
   simp
 refine aC (fun _=>?_) fun _=>?_
 ·refine Zd (?_:wpS (model prog w) A E s (lF ((arrOf st).extract (P.length+k) (P.length+X.length)) ((arrOf st).extract (P.length+X.length) (P.length+X.length+m))) _ _)
  rw [← hax,← hay]
  refine DQ C (by exact hk) M fun res st1 kp mr=>?_
  exact Zd (XD (Zd (Wc (Zl (fin st1 res kp mr)))))
 ·refine Zd (?_:wpS (model prog w) A E s (mf ((arrOf st).extract (P.length+k) (P.length+X.length)) ((arrOf st).extract (P.length+X.length) (P.length+X.length+m))) _ _)
  rw [← hax,← hay]
  refine EB C (by exact hk) M fun res st1 kp mr=>?_
  exact Zd (XD (Zd (Wc (Zl (fin st1 res kp mr)))))
end TS
end
section
open PySem PyProof.Rows
namespace TS
variable {prog:Program} {w:World} {A:Around} {E:Z9} {s:Shared} {κ:SortKind} {G:Keyed->Prop} {r:Keyed->Keyed->Bool}
noncomputable def iQ:Nat->List (List Keyed)->List (Nat×Nat)
 | _,[]=>[]
 | o,R :: Rs=>(o,R.length) :: iQ (o+R.length) Rs
theorem iA:∀ (a b:List (List Keyed)) (o:Nat),iQ o (a++b)=iQ o a++iQ (o+a.flatten.length) b
 | [],b,o=>by simp [iQ]
 | R :: a,b,o=>by
  show (o,R.length) :: iQ (o+R.length) (a++b)=(o,R.length) :: (iQ (o+R.length) a++_)
  rw [iA a b]
  simp [Xd]
theorem hV:∀ (a:List (List Keyed)) (o:Nat),(iQ o a).length=a.length
 | [],o=>rfl
 | R :: a,o=>by show (iQ _ a).length+1=_;rw [hV a];rfl
theorem nt {α β:Type} (f:α->β):∀ (l:List α) (i:Nat),(l.eraseIdx i).map f=(l.map f).eraseIdx i
 | [],i=>rfl
 | x :: l,0=>rfl
 | x :: l,i+1=>by show f x :: (l.eraseIdx i).map f=f x :: (l.map f).eraseIdx i;rw [nt f l i]
structure RI (κ:SortKind) (r:Keyed->Keyed->Bool) (a₀:Array Keyed) (st:SortSt) (runs:List (List Keyed)) (rest:List Keyed):Prop where
 kind:kindOf st=κ
 fail:failedOf st=none
 arr:(arrOf st).toList=runs.flatten++rest
 pend:(pendingOf st).toList.map (fun p=>(p.1,p.2.1))=iQ 0 runs
 ok:∀ R∈runs,0 < R.length/\R.Pairwise (le r)
 perm:(arrOf st).Perm a₀
theorem RI.good {a₀:Array Keyed} {st:SortSt} {runs:List (List Keyed)} {rest:List Keyed} (h:RI κ r a₀ st runs rest) (g:∀ x∈a₀,G x):∀ x∈arrOf st,G x:=fun x hx=>by
 have:x∈(arrOf st).toList:=by simpa using hx
 exact g x (by simpa using (Xn.mp h.perm).mem_iff.mp this)
theorem RI.psize {a₀:Array Keyed} {st:SortSt} {runs:List (List Keyed)} {rest:List Keyed} (h:RI κ r a₀ st runs rest):(pendingOf st).size=runs.length:=by
 have:=congrArg List.length h.pend
 rw [Zt,hV] at this
 simpa using this
theorem RI.at {a₀:Array Keyed} {st:SortSt} {pre post:List (List Keyed)} {X:List Keyed} {rest:List Keyed} (h:RI κ r a₀ st (pre++X :: post) rest):∃ pw,(pendingOf st)[pre.length]?=some (pre.flatten.length,X.length,pw):=by
 have e:((pendingOf st).toList.map (fun p=>(p.1,p.2.1)))[pre.length]?=some (pre.flatten.length,X.length):=by
  rw [h.pend,iA,Yw (by rw [hV];exact Zp _),hV,Nat.sub_self,Y7]
  rfl
 rw [Z1,Z8] at e
 obtain ⟨⟨a,b,c⟩,e1,e2⟩:=Zo.mp e
 injection e2 with e3 e4
 dsimp only at e3 e4
 exact ⟨c,by rw [e1,e3,e4]⟩
theorem pJ {α:Type}:∀ {l:List α} {i:Nat},i+1 < l.length->∃ pre X Y post,l=pre++X :: Y :: post/\pre.length=i
 | [],i,h=>by simp at h
 | [x],i,h=>by simp at h
 | x :: y :: l,0,h=>⟨[],x,y,l,rfl,rfl⟩
 | x :: y :: l,i+1,h=>by
  obtain ⟨pre,X,Y,post,e,hp⟩:=pJ (l:=y :: l) (i:=i) (by simp at h ⊢;omega)
  exact ⟨x :: pre,X,Y,post,by rw [e];rfl,by rw [Zi,hp]⟩
theorem RI.merge (C:Cmp prog w A E s κ G r) {a₀:Array Keyed} {st:SortSt} {runs:List (List Keyed)} {rest:List Keyed} {i:Nat} {Q:Bool->SortSt->Prop} (h:RI κ r a₀ st runs rest) (g:∀ x∈a₀,G x) (hi:i+1 < runs.length)
  (hq:∀ st' runs',RI κ r a₀ st' runs' rest->runs'.length+1=runs.length->runs'.flatten.length=runs.flatten.length->Q true st'):wpS (model prog w) A E s (mergeAt' i) Q st:=by
 obtain ⟨pre,X,Y,post,rfl,rfl⟩:=pJ hi
 obtain ⟨pw,p1⟩:=h.at
 have h':RI κ r a₀ st ((pre++[X])++Y :: post) rest:=by
  have e:(pre++[X])++Y :: post=pre++X :: Y :: post:=by simp
  rw [e];exact h
 obtain ⟨pw2,p2⟩:=h'.at
 have oX:=h.ok X (by simp)
 have oY:=h.ok Y (by simp)
 have p2':(pendingOf st)[pre.length+1]?=some (pre.flatten.length+X.length,Y.length,pw2):=by
  simpa using p2
 refine CS C (P:=pre.flatten) (X:=X) (Y:=Y) (S:=post.flatten++rest) h.kind (h.good g) h.fail (by rw [h.arr];simp) p1 p2' oX.2 oY.2 oX.1 oY.1 fun st' M m1 m2 m3 m4 m5 m6=>?_
 have hl:=m1.length_eq
 rw [Zv] at hl
 refine hq st' (pre++M :: post) ⟨m4.trans h.kind,m5,by rw [m3];simp,?_,fun R hR=>?_,?_⟩ (by simp;exact Xd _ _ _) (by simp;lia)
 ·rw [m6]
  have e0:(((pendingOf st).setIfInBounds pre.length (pre.flatten.length,X.length+Y.length,pw)).eraseIdxIfInBounds (pre.length+1)).toList=((pendingOf st).toList.set pre.length (pre.flatten.length,X.length+Y.length,pw)).eraseIdx (pre.length+1):=by
   simp
  rw [e0,nt,List.map_set,h.pend]
  show ((iQ 0 (pre++X :: Y :: post)).set pre.length (pre.flatten.length,X.length+Y.length)).eraseIdx (pre.length+1)=iQ 0 (pre++M :: post)
  rw [iA,iA]
  have ol:=hV pre 0
  have e1:∀ (u v t:List (Nat×Nat)) (x y z:Nat×Nat),u.length=pre.length->((u++x :: y :: t).set pre.length z).eraseIdx (pre.length+1)=u++z :: t:=fun u v t x y z hu=>by
   rw [List.set_append_right _ _ (by exact Wk hu),hu,Nat.sub_self,List.eraseIdx_append_of_length_le (by lia),hu]
   have:pre.length+1 - pre.length=1:=by exact YH _ _
   rw [this]
   rfl
  show ((iQ 0 pre++(0+pre.flatten.length,X.length) :: (0+pre.flatten.length+X.length,Y.length) :: iQ (0+pre.flatten.length+X.length+Y.length) post).set _ _).eraseIdx _=iQ 0 pre++(0+pre.flatten.length,M.length) :: iQ (0+pre.flatten.length+M.length) post
  rw [e1 _ [] _ _ _ _ ol,hl,Y7,Xd]
 ·rcases Zh.mp hR with hR | hR
  ·exact h.ok R (by simp [hR])
  ·rcases Zr.mp hR with rfl | hR
   ·exact ⟨by lia,m2⟩
   ·exact h.ok R (by simp [hR])
 ·refine Array.Perm.trans ?_ h.perm
  rw [Xn,m3,h.arr]
  have e:(pre++X :: Y :: post).flatten++rest=pre.flatten++(X++Y)++(post.flatten++rest):=by simp
  rw [e]
  exact (m1.append_left _).append_right _
end TS
end
section
open PySem PyProof.Rows
namespace TS
variable {prog:Program} {w:World} {A:Around} {E:Z9} {s:Shared} {κ:SortKind} {G:Keyed->Prop} {r:Keyed->Keyed->Bool}
theorem RI.loc {a₀:Array Keyed} {st st2:SortSt} {runs:List (List Keyed)} {rest:List Keyed} (h:RI κ r a₀ st runs rest) (L:Lc runs.flatten.length st st2):RI κ r a₀ st2 runs ((arrOf st2).toList.drop runs.flatten.length):=by
 refine ⟨L.kind.trans h.kind,L.fail.trans h.fail,?_,by rw [L.pend];exact h.pend,h.ok,L.perm.trans h.perm⟩
 have e:(arrOf st2).toList.take runs.flatten.length=runs.flatten:=by
  have e2:(arrOf st).toList.take runs.flatten.length=runs.flatten:=by rw [h.arr,List.take_left]
  refine Eq.trans ?_ e2
  apply List.ext_getElem?
  intro i
  rw [List.getElem?_take,List.getElem?_take]
  split
  ·rename_i hi
   rw [Z8,Z8]
   exact L.pre i hi
  ·rfl
 conv=>lhs;rw [← YX runs.flatten.length (arrOf st2).toList,e]
theorem RI.push {a₀:Array Keyed} {st:SortSt} {runs:List (List Keyed)} {rest:List Keyed} {n lo:Nat} (h:RI κ r a₀ st runs rest) (hl:runs.flatten.length=lo) (h0:0 < n) (hn:n<=rest.length) (hp:(rest.take n).Pairwise (le r)) :
  RI κ r a₀ (setPending st ((pendingOf st).push (lo,n,0))) (runs++[rest.take n]) (rest.drop n):=by
 refine ⟨h.kind,h.fail,?_,?_,fun R hR=>?_,h.perm⟩
 ·show (arrOf st).toList=_
  rw [h.arr]
  simp
 ·show ((pendingOf st).push (lo,n,0)).toList.map _=_
  rw [WA,Ym,h.pend,iA,Y7,hl]
  show _++[(lo,n)]=_++[(lo,(rest.take n).length)]
  rw [ZS,Yf hn]
 ·rcases Zh.mp hR with hR | hR
  ·exact h.ok R hR
  ·rw [Zg.mp hR]
   exact ⟨by rw [ZS];lia,hp⟩
theorem sP {α β:Type} (f:α->β) (g:α->α) (hg:∀ x,f (g x)=f x):∀ (l:List α) (i:Nat),(l.modify i g).map f=l.map f
 | [],i=>by simp
 | x :: l,0=>by simp [hg]
 | x :: l,i+1=>by simp [sP f g hg l i]
theorem RI.mod {a₀:Array Keyed} {st:SortSt} {runs:List (List Keyed)} {rest:List Keyed} (h:RI κ r a₀ st runs rest) (i pw:Nat):RI κ r a₀ (setPending st ((pendingOf st).modify i fun x=>(x.1,x.2.1,pw))) runs rest :=
 ⟨h.kind,h.fail,h.arr,by
  show ((pendingOf st).modify i fun x=>(x.1,x.2.1,pw)).toList.map _=_
  rw [Array.toList_modify,sP (fun p:Nat×Nat×Nat=>(p.1,p.2.1)) (fun x=>(x.1,x.2.1,pw)) (fun x=>rfl),h.pend],h.ok,h.perm⟩
theorem Sg.pw {xs:Array Keyed} {lo n:Nat} (h:Sg r xs lo (lo+n)) (hs:lo+n<=xs.size):((xs.toList.drop lo).take n).Pairwise (le r):=by
 rw [YC]
 intro i j hi hj hij
 rw [ZS,ZR] at hi hj
 rw [Xs,Xs,Xr,Xr]
 have:=h (lo+i) (lo+j) (by exact ZI _ _) (by lia) (by lia)
 rw [wm (by lia),wm (by lia)] at this
 simpa using this
theorem RI.size {a₀:Array Keyed} {st:SortSt} {runs:List (List Keyed)} {rest:List Keyed} (h:RI κ r a₀ st runs rest):runs.flatten.length+rest.length=a₀.size:=by
 have e:=congrArg List.length h.arr
 rw [Zv,YZ,h.perm.size_eq] at e
 exact e.symm
theorem za {runs:List (List Keyed)} (h:∀ R∈runs,0 < R.length/\R.Pairwise (le r)):runs.length<=runs.flatten.length:=by
 induction runs with
 | nil=>exact Zp _
 | cons R Rs ih =>
  have h1:=(h R (Zw ..)).1
  have h2:=ih fun x hx=>h x (Zx _ hx)
  simp only [Zi,Zf,Zv]
  lia
theorem C6 {c:Prop} [Decidable c] {a b n:Nat} (h1:a+1 < n) (h2:b+1 < n):(if c then a else b)+1 < n:=by
 split
 ·exact h1
 ·exact h2
theorem uC {α:Type} {a b d:Nat->Prop} {c:Nat->Prop} [∀ n,Decidable (c n)] {x R:Nat->StateT SortSt Sem α} {Q:α->SortSt->Prop} {P:Nat->SortSt->Prop} {st:SortSt} (D:∀ n st1,P n st1->wpS (model prog w) A E s (R n) Q st1) (h2:∀ m,a m->b m->d m->¬ c m->P m st)
  (h1:∀ m,a m->b m->d m->c m->(∀ n st1,P n st1->wpS (model prog w) A E s (R n) Q st1)->wpS (model prog w) A E s (x m) Q st):∀ m,a m->b m->d m->wpS (model prog w) A E s (if c m then x m else R m) Q st :=
 fun m p q z=>aC (fun y=>h1 m p q z y D) fun y=>D m st (h2 m p q z y)
theorem yR (C:Cmp prog w A E s κ G r) {a₀:Array Keyed} {st:SortSt} {Q:Unit->SortSt->Prop} (hk:kindOf st=κ) (g:∀ x∈a₀,G x) (ha:arrOf st=a₀) (hp:pendingOf st=#[]) (hf:failedOf st=none)
  (h:∀ st',(arrOf st').Perm a₀->failedOf st'=none->(arrOf st').toList.Pairwise (le r)->Q () st'):wpS (model prog w) A E s sortRuns' Q st:=by
 have R0:RI κ r a₀ st [] a₀.toList:=⟨hk,hf,by rw [ha];rfl,by rw [hp];rfl,fun R hR=>by simp at hR,by rw [ha]⟩
 unfold sortRuns'
 change wpS (model prog w) A E s (_ >>= _) Q st
 dsimp only
 refine Zd (Wc ?_)
 have esz:((sortPriv% PySem.Builtin.SortState.a) st).size=a₀.size:=by rw [← ha]
 rw [esz]
 refine Zd (Y1 (Yn
  (I:=fun x c st'=>c.1=none/\∃ runs rest,RI κ r a₀ st' runs rest/\runs.flatten.length=c.2/\x<=c.2)
  (Q:=fun c st'=>c.1=none/\∃ runs,RI κ r a₀ st' runs []) ?step ?fin ?init) ?post)
 case init=>exact ⟨rfl,_,_,R0,rfl,Zp _⟩
 case fin =>
  refine all2 fun c1 lo=>?_
  rintro st' ⟨q1,runs,rest,R,hl,hx⟩
  dsimp only at *
  have:=R.size
  have e:rest=[]:=List.eq_nil_of_length_eq_zero (by lia)
  subst e
  exact ⟨q1,runs,R⟩
 case step =>
  intro x
  refine all2 fun c1 lo=>?_
  rintro st' _ hx ⟨q1,runs,rest,R,hl,hxl⟩
  dsimp only at *
  have hsz:=R.size
  refine aC (fun e=>?_) fun e=>?_
  ·have e:rest=[]:=List.eq_nil_of_length_eq_zero (by lia)
   subst e
   exact Zl ⟨rfl,runs,R⟩
  have asz:(arrOf st').size=a₀.size:=R.perm.size_eq
  refine Zd (Dj C R.kind (R.good g) (by lia) (by rw [asz];lia) fun m st2 L2 m1 m2 S2=>?_)
  dsimp only
  have I2:RI κ r a₀ st2 runs ((arrOf st2).toList.drop runs.flatten.length):=R.loc (by rw [hl];exact L2)
  have asz2:(arrOf st2).size=a₀.size:=I2.perm.size_eq
  revert m
  refine uC (P:=fun nn st3=>∃ rest3,RI κ r a₀ st3 runs rest3/\rest3.length=a₀.size - lo/\0 < nn/\nn<=rest3.length/\(rest3.take nn).Pairwise (le r)) ?D ?two ?one
  case one =>
   intro m m1 m2 S2 e2 Dk
   refine Zd (gF ?_)
   refine Zd (Di C I2.kind (I2.good g) m1 (by omega) (by lia) S2 fun st3 L3 S3=>?_)
   refine aC (fun e=>absurd e (by decide)) fun _=>?_
   have I3':RI κ r a₀ st3 runs ((arrOf st3).toList.drop runs.flatten.length):=I2.loc (by rw [hl];exact L3)
   have asz3:(arrOf st3).size=a₀.size:=I3'.perm.size_eq
   obtain ⟨rest3,er3⟩:∃ l,l=(arrOf st3).toList.drop runs.flatten.length:=⟨_,rfl⟩
   have I3:RI κ r a₀ st3 runs rest3:=by rw [er3];exact I3'
   have hl3:=hl
   have h3l:rest3.length=a₀.size - lo:=by rw [er3,ZR,YZ,asz3,hl]
   obtain ⟨n3,en3⟩:∃ n,n=min (a₀.size - lo) ((sortPriv% PySem.Builtin.minRun) a₀.size a₀.size 0):=⟨_,rfl⟩
   rw [← en3] at S3 ⊢
   have h30:0 < n3:=by lia
   have h3n:n3<=rest3.length:=by omega
   have h3p:(rest3.take n3).Pairwise (le r):=by rw [er3,hl];exact S3.pw (by lia)
   exact Dk n3 st3 ⟨rest3,I3,h3l,h30,h3n,h3p⟩
  case two =>
   intro m m1 m2 S2 e2
   obtain ⟨rest3,er3⟩:∃ l,l=(arrOf st2).toList.drop runs.flatten.length:=⟨_,rfl⟩
   have I3:RI κ r a₀ st2 runs rest3:=by rw [er3];exact I2
   have hl3:=hl
   have h3l:rest3.length=a₀.size - lo:=by rw [er3,ZR,YZ,asz2,hl]
   have h30:0 < m:=by exact WG m1
   have h3n:m<=rest3.length:=by lia
   have h3p:(rest3.take m).Pairwise (le r):=by rw [er3,hl];exact S2.pw (by lia)
   exact ⟨rest3,I3,h3l,h30,h3n,h3p⟩
  case D =>
   rintro nn st3 ⟨rest3,I3,h3l,h30,h3n,h3p⟩
   have hl3:=hl
   refine Zd (Wc ?_)
   cases hb:(pendingOf st3).back? with
   | none =>
    dsimp only
    refine Zd (XD ?_)
    refine Zl ⟨rfl,_,_,I3.push hl3 h30 h3n h3p,?_,by (try dsimp only);lia⟩
    rw [Z2,Zv,Wj,ZS]
    (try dsimp only)
    lia
   | some v =>
    obtain ⟨s1,n1,pw1⟩:=v
    dsimp only
    refine Zd (Y1 (Yn
     (I:=fun x c st'=>c.1=none/\∃ runs',RI κ r a₀ st' runs' rest3/\runs'.flatten.length=lo)
     (Q:=fun c st'=>c.1=none/\∃ runs',RI κ r a₀ st' runs' rest3/\runs'.flatten.length=lo) ?stepM ?finM ?initM) ?postM)
    case initM=>exact ⟨rfl,_,I3,hl3⟩
    case finM=>exact fun c st' h=>h
    case stepM =>
     intro x
     refine all2 fun c1 c2=>?_
     rintro st' _ hx ⟨q1,runs',R,hR⟩
     refine Zd (Wc ?_)
     split
     ·rename_i a b c hh
      refine aC (fun _=>?_) fun _=>?_
      ·exact Zl ⟨rfl,runs',R,hR⟩
      ·have hp1:(pendingOf st').size > 1:=by
        by_cases z:(pendingOf st').size > 1
        ·exact z
        ·rw [Zn z] at hh;cases hh
       have hp2:=R.psize
       refine Zd (R.merge C g (show (pendingOf st').size - 2+1 < runs'.length by omega) fun st4 runs4 R4 l4 f4=>?_)
       refine aC (fun e=>absurd e (by decide)) fun _=>?_
       exact Zl ⟨rfl,runs4,R4,by rw [f4,hR]⟩
     ·exact Zl ⟨rfl,runs',R,hR⟩
    case postM =>
     refine all2 fun c1 c2=>?_
     rintro st' ⟨q1,runs',R,hR⟩
     dsimp only at *
     subst q1
     dsimp only
     refine Zd (XD ?_)
     refine Zd (XD ?_)
     refine Zl ⟨rfl,_,_,(R.mod _ _).push hR h30 h3n h3p,?_,by (try dsimp only);lia⟩
     rw [Z2,Zv,Wj,ZS]
     (try dsimp only)
     lia
 case post =>
  refine all2 fun c1 lo=>?_
  rintro st' ⟨q1,runs,R⟩
  dsimp only at *
  subst q1
  dsimp only
  have rl:=za R.ok
  have hsz:=R.size
  simp only [Yd,Nat.add_zero] at hsz
  refine Zd (Y1 (Yn
   (I:=fun x c st'=>c.1=none/\∃ runs,RI κ r a₀ st' runs []/\(runs.length<=1\/runs.length+x<=a₀.size))
   (Q:=fun c st'=>c.1=none/\∃ runs,RI κ r a₀ st' runs []/\runs.length<=1) ?step2 ?fin2 ?init2) ?post2)
  case init2=>exact ⟨rfl,runs,R,.inr (by lia)⟩
  case fin2 =>
   refine all2 fun c1 c2=>?_
   rintro st' ⟨q1,runs,R,hr⟩
   exact ⟨q1,runs,R,by lia⟩
  case step2 =>
   intro x
   refine all2 fun c1 c2=>?_
   rintro st' _ hx ⟨q1,runs,R,hr⟩
   have hp2:=R.psize
   refine Zd (Wc ?_)
   refine aC (fun e=>?_) fun e=>?_
   ·exact Zl ⟨rfl,runs,R,by rw [← hp2];exact e⟩
   ·have e':1 < runs.length:=by rw [← hp2];exact W4 e
    refine Zd (R.merge C g ?_ fun st4 runs4 R4 l4 f4=>?_)
    ·exact C6 (show (pendingOf st').size - 2 - 1+1 < _ by omega) (show (pendingOf st').size - 2+1 < _ by lia)
    ·refine aC (fun e=>absurd e (by decide)) fun _=>?_
     exact Zl ⟨rfl,runs4,R4,by lia⟩
  case post2 =>
   refine all2 fun c1 c2=>?_
   rintro st' ⟨q1,runs,R,hr⟩
   dsimp only at *
   subst q1
   refine Zl (h st' R.perm R.fail ?_)
   rw [R.arr,Z7]
   match runs,hr,R.ok with
   | [],_,_=>exact List.Pairwise.nil
   | [X],_,ok =>
    rw [Wj]
    exact (ok X (Zw ..)).2
   | X :: Y :: t,hr,_=>simp at hr
end TS
end
section
open PySem PyProof.Rows
namespace TS
variable {prog:Program} {w:World} {A:Around} {E:Z9} {s:Shared} {G:Keyed->Prop} {r:Keyed->Keyed->Bool}
noncomputable def gG (h:Heap) (a:Addr) (vs:Xg):Heap:=((h.update a (Obj.mapSeq fun _=>#[])).push (seqObj "tuple" vs.toArray 0)).push (seqObj "list" #[] 0)
theorem vt {h:Heap} {a:Addr} {vs:Xg} {o:Obj} (ha:a < h.objs.size) (g:(h.update a (Obj.mapSeq fun _=>#[])).get? a=some o):(gG h a vs).get? a=some o:=by
 have k1:a ≠ (h.update a (Obj.mapSeq fun _=>#[])).objs.size:=by rw [YJ];exact Z0 ha
 have k2:a ≠ ((h.update a (Obj.mapSeq fun _=>#[])).push (seqObj "tuple" vs.toArray 0)).objs.size:=by rw [Wu,YJ];exact Z0 (WH ha)
 exact (XH _ _ _ k2).trans ((XH _ _ _ k1).trans g)
theorem nl {b n:Nat} (h:b < n) (k:Nat):b ≠ n+k:=Z0 (ZQ h (ZI _ _))
end TS
end
section
namespace L2
open PySem PySem.Spec PyProof.Rows TS
end L2
end
section
namespace VS
theorem kS {n k:Nat} (h:k < n):ixP n (k:Int)=some k:=by
 unfold ixP
 rw [Zq (by lia),Zq (by lia),X8]
mutual
theorem qo:∀ (n:Nat) (t:T),eqD n t=true->eqT t t=true
 | n,.non,_=>by simp
 | n,.bl _,_=>by simp
 | n,.int _,_=>by simp
 | n,.str _,_=>by simp
 | n+1,.tup l,h=>by
  simp only [eqD,Yb] at h
  simp only [eqT]
  exact j5 n l h
 | n+1,.lst l,h=>by
  simp only [eqD,Yb] at h
  simp only [eqT]
  exact j5 n l h
 | 0,.tup _,h=>by simp at h
 | 0,.lst _,h=>by simp at h
 | _,.scr _,h=>by simp at h
 | _,.dct _ _,h=>by simp at h
 | _,.obj _ _,h=>by simp at h
theorem j5:∀ (n:Nat) (l:Vu),(∀ t∈l,eqD n t=true)->mI l l=true
 | _,[],_=>rfl
 | n,t :: r,h=>by
  simp only [mI,Z3]
  exact ⟨qo n t (h t Zw),j5 n r fun u hu=>h u (Zx _ hu)⟩
end
theorem lj {m n:Md} {t:T} (h:eqD 60 t=true):oEq (m,t) (n,t)=some (.fr,.bl true):=by
 show (if eqD 60 t/\eqD 60 t then some (Md.fr,T.bl (eqT t t)) else none)=_
 rw [Zq ⟨h,h⟩,qo 60 t h]
theorem xf {a:Ex} {η:Env} {m:Md} {l:Vu} (e:a η=some (m,.lst l)):kG a η=some (m,l):=by
 simp [kG,e]
theorem ji {tg:Tg} {it:Its} {body:Sx} {η:Env} {m:Md} {l:Vu} (e:it η=some (m,l)) (h:okF m=true):eW tg it body η=forL tg body l η:=by
 unfold eW
 rw [e]
 exact Zq h
theorem aX {g:Fn} {as:Exs} {η:Env} {xs:Vw} {t:T} (h:as η=some xs) (h2:g (trees xs)=some (.fr,t)):aZ g as η=some (.fr,t):=by
 simp only [aZ,h,Zk,h2]
theorem aI {i:Nat} {e:Ex} {η:Env} {m:Md} {t:T} (h:e η=some (m,t)) (hm:m ≠ .bo) (hi:i < η.length):aN i e η=some (.nx (η.set i (some (.pu t)))):=by
 simp only [aN,h,Zk]
 cases m with
 | bo=>exact absurd rfl hm
 | _=>simp [hi]
theorem fM {a b:Sx} {η η':Env} (h:a η=some (.nx η')):av a b η=b η':=by simp only [av,h,Zk]
theorem vA {np nn:Nat} {body:Sx} {ts:Vu} {v:Val} (η:Env) {η':Env} (hl:ts.length=np) (he:ts.map (fun t=>some (Cell.pu t))++List.replicate (nn - np) none=η) (h:body η=some (.rt v η')):fn np nn body ts=some v:=by
 unfold fn
 rw [Zq hl,he,h]
 rfl
end VS
end
section
namespace VS
open PySem PySem.Spec PyProof.Rows L2
theorem xw (s:Tx):(sx s).cps.toList=s:=rfl
noncomputable def txB (s:Tx):Bool:=decide (s.length<=g9) && s.all (fun c=>decide (c < 1114112))
theorem Bi {s:Tx} (h:txB s=true):iP s:=by
 unfold txB at h
 simp at h
 exact h
section
variable {G:Gx} {X:Cx} {e:Expr} {cs:Exs} {p pos:Pos}
theorem qU {H:Hp}:∀ {ss:List Tx},(∀ s∈ss,iP s)->RpL G H (ss.map fun s=>V.str (sx s)) (ss.map T.str) (ss.map fun _=>[])
 | [],_=>.nil
 | s :: ss,h=>.cons (.str s (h s (Zw ..))) (qU fun x hx=>h x (Zx _ hx))
theorem pI {α β:Type}:∀ (l:List α),(l.map fun _=>([]:List β)).flatten=[]
 | []=>rfl
 | _ :: l=>by simp
theorem keys_str:∀ {ks:List Key} {ss:List Tx},strs? (ks.map aS)=some ss->ks=(ss.map sx).map Sum.inr
 | [],_,e=>by cases e;rfl
 | .inl i :: ks,_,e=>by cases e
 | .inr x :: ks,ss,e=>by
  simp only [Zu,aS,strs?] at e
  obtain ⟨ss',e1,e2⟩:=Zo.mp e
  subst e2
  rw [keys_str e1]
  simp [sx]
theorem uS:bootBuiltins ("sorted" : Str)=some (.builtin "sorted"):=by decide +kernel
end
end VS
end
section
namespace VS
open PySem PySem.Builtin.Str PySem.StrLaws
end VS
end
section
namespace VS
open PySem PySem.Spec PyProof.Rows L2
end VS
end
section
namespace ST
open PySem PySem.Spec PyProof.Rows
variable {prog:Program} {w:World} {A:Around} {E:Z9} {s:Shared}
end ST
end
section
namespace ST
open PySem PySem.Spec PyProof.Rows
variable {prog:Program} {w:World} {A:Around} {E:Z9} {s:Shared}
theorem DA {Q:PySem.Fin->Shared->Prop} {E':Z9} (hh:A.handled=none) (h:∀ (h':Heap) (x:Addr),(∀ b o,s.heap.get? b=some o->h'.get? b=some o)->(∃ o,h'.get? x=some o/\o.cls=.type "StopIteration")->E' (.ref x) { s with heap:=h' }) :
  wpAny (model prog w) A (newExc (.type "StopIteration") [] >>= fun e=>raiseNew e) Q E' s:=by
 simp only [newExc,newTuple]
 refine Zy (Zy (XJ (Zy (m:=firstArgMember _ _) (wpAny_of_eq (a:=Value.none) (by first | rfl | (simp only [firstArgMember];rfl)) (XJ ?_ (by size_fits)))) (by size_fits)))
 simp only [raiseNew]
 refine Zy (wpAny_handled ?_)
 rw [hh]
 exact Zy (Zs (wpAny_throw (h _ _ (fun b o e=>Ze _ (Ze _ e)) ⟨_,ZM _ rfl,rfl⟩)))
end ST
end
section
namespace ST
open PySem PySem.Spec PyProof.Rows
variable {prog:Program} {w:World} {A:Around} {E:Z9} {s:Shared}
end ST
end
section
namespace L2
open PySem PySem.Spec PyProof.Rows TS
end L2
namespace VS
open PySem PySem.Spec PyProof.Rows L2
section
variable {G:Gx}
theorem sZ {Fs:Yk} {i j:Nat} {F F':Xl} (nd:Fs.flatten.Nodup) (hi:Fs[i]?=some F) (hj:Fs[j]?=some F') (n:i ≠ j) {a:Addr} (ha:a∈F):a ∉ F':=by
 intro hb
 induction Fs generalizing i j with
 | nil=>simp at hi
 | cons G Gs ih =>
  rw [Zf,ZD] at nd
  cases i with
  | zero =>
   simp at hi;subst hi
   cases j with
   | zero=>exact n rfl
   | succ j=>exact nd.2.2 a ha a (fD (by simpa using hj) hb) rfl
  | succ i =>
   cases j with
   | zero =>
    simp at hj;subst hj
    exact nd.2.2 a hb a (fD (by simpa using hi) ha) rfl
   | succ j=>exact ih nd.2.1 (by simpa using hi) (by simpa using hj) (by lia)
theorem gN {Fs:Yk} {j:Nat} {F':Xl} {a:Addr} (h:a∈(Fs.set j F').flatten):a∈F'\/∃ i F,i ≠ j/\Fs[i]?=some F/\a∈F:=by
 obtain ⟨i,F,h1,h2⟩:=fH h
 by_cases e:i=j
 ·subst e
  rw [List.getElem?_set_self' ] at h1
  cases q:Fs[i]? with
  | none=>rw [q] at h1;cases h1
  | some _=>rw [q] at h1;cases h1;exact .inl h2
 ·rw [YU (YI e)] at h1
  exact .inr ⟨i,F,e,h1,h2⟩
theorem hU:∀ {Fs:Yk} {j:Nat} {F':Xl},Fs.flatten.Nodup->F'.Nodup->(∀ i F,i ≠ j->Fs[i]?=some F->∀ a∈F,a ∉ F')->(Fs.set j F').flatten.Nodup
 | [],_,_,h,_,_=>by simpa using h
 | G :: Gs,0,F',h,h',d=>by
  rw [Zf,ZD] at h
  rw [List.set_cons_zero,Zf,ZD]
  refine ⟨h',h.2.1,fun a ha b hb e=>?_⟩
  subst e
  obtain ⟨i,F,h1,h2⟩:=fH hb
  exact d (i+1) F (by lia) (by simpa using h1) a h2 ha
 | G :: Gs,j+1,F',h,h',d=>by
  rw [Zf,ZD] at h
  rw [List.set_cons_succ,Zf,ZD]
  refine ⟨h.1,hU h.2.1 h' fun i F n hi=>d (i+1) F (by lia) (by simpa using hi),fun a ha b hb e=>?_⟩
  subst e
  rcases gN hb with z | ⟨i,F,n,h1,h2⟩
  ·exact d 0 G (by lia) rfl a ha z
  ·exact h.2.2 a ha a (fD h1 h2) rfl
theorem RpL.each {H H2:Hp}:∀ {vs:List V} {ts:Vu} {Fs:Yk},RpL G H vs ts Fs->(∀ (i:Nat) v t F,vs[i]?=some v->ts[i]?=some t->Fs[i]?=some F->Rp G H v t F->Rp G H2 v t F)->RpL G H2 vs ts Fs
 | _,_,_,.nil,_=>.nil
 | _,_,_,.cons r q,k=>.cons (k 0 _ _ _ rfl rfl rfl r) (RpL.each q fun i v t F a b c d=>k (i+1) v t F (by simpa using a) (by simpa using b) (by simpa using c) d)
theorem RpL.setAt {H H2:Hp}:∀ {vs:List V} {ts:Vu} {Fs:Yk} {j:Nat} {u:V} {x':T} {F':Xl},RpL G H vs ts Fs->vs[j]?=some u->Rp G H2 u x' F'->(∀ (i:Nat) v t F,i ≠ j->vs[i]?=some v->ts[i]?=some t->Fs[i]?=some F->Rp G H v t F->Rp G H2 v t F)->RpL G H2 vs (ts.set j x') (Fs.set j F')
 | _,_,_,_,_,_,_,.nil,h,_,_=>by simp at h
 | _,_,_,0,_,_,_,.cons r q,h,r',k=>by
  simp at h;subst h
  exact .cons r' (RpL.each q fun i v t F a b c d=>k (i+1) v t F (by lia) (by simpa using a) (by simpa using b) (by simpa using c) d)
 | _,_,_,j+1,_,_,_,.cons r q,h,r',k=>.cons (k 0 _ _ _ (by lia) rfl rfl rfl r) (RpL.setAt q (by simpa using h) r' fun i v t F n a b c d=>k (i+1) v t F (by lia) (by simpa using a) (by simpa using b) (by simpa using c) d)
theorem tm {H H2:Hp} {a:Addr} {o:HO} {vs:List V} {ts:Vu} {Fs:Yk} {j:Nat} {u:V} {x':T} {Fj Fj':Xl} (ha:H a=some o) (ra:RpL G H vs ts Fs) (nd:(a :: Fs.flatten).Nodup) (hu:vs[j]?=some u) (hF:Fs[j]?=some Fj)
  (g:Chg G H u Fj x' H2 Fj'):H2 a=some o/\RpL G H2 vs (ts.set j x') (Fs.set j Fj')/\(a :: (Fs.set j Fj').flatten).Nodup/\(∀ b∈a :: (Fs.set j Fj').flatten,b∈a :: Fs.flatten\/H b=none)/\∀ b o,b ∉ a :: Fs.flatten->H b=some o->H2 b=some o:=by
 rw [ZJ] at nd
 have subF:∀ b∈Fj,b∈Fs.flatten:=fun b hb=>fD hF hb
 have dis:∀ i F,i ≠ j->Fs[i]?=some F->∀ b∈F,b ∉ Fj':=fun i F n hi b hb hb'=>by
  rcases g.sub b hb' with z | z
  ·exact sZ nd.2 hi hF n hb z
  ·exact Mut.ne_none (ra.dom b (fD hi hb)) z
 refine ⟨g.keep a o (fun z=>nd.1 (subF a z)) ha,ra.setAt hu g.rp (fun i v t F n h1 h2 h3 r=>r.keep g.kept fun b hb o' ho=>g.keep b o' (sZ nd.2 h3 hF n hb) ho),?_,fun b hb=>?_,fun b o' hb ho=>g.keep b o' (fun z=>hb (Zx _ (subF b z))) ho⟩
 ·rw [ZJ]
  refine ⟨fun h=>?_,hU nd.2 g.nd dis⟩
  rcases gN h with z | ⟨i,F,n,h1,h2⟩
  ·rcases g.sub a z with z | z
   ·exact nd.1 (subF a z)
   ·rw [ha] at z;cases z
  ·exact nd.1 (fD h1 h2)
 ·rcases Zr.mp hb with rfl | hb
  ·exact .inl Zw
  ·rcases gN hb with z | ⟨i,F,n,h1,h2⟩
   ·rcases g.sub b z with z | z
    ·exact .inl (Zx _ (subF b z))
    ·exact .inr z
   ·exact .inl (Zx _ (fD h1 h2))
theorem oq {α β:Type}:∀ (as:List α) (bs:List β) (i:Nat) (a:α) (y:β),as[i]?=some a->(as.zip bs).set i (a,y)=as.zip (bs.set i y)
 | [],_,_,_,_,h=>by simp at h
 | a :: as,[],i,_,_,_=>by cases i <;> simp
 | a :: as,b :: bs,0,_,y,h=>by simp at h;subst h;rfl
 | a :: as,b :: bs,i+1,_,y,h=>by
  have:=oq as bs i _ y (by simpa using h)
  simp [this]
theorem o6 {α β:Type} (p:α->Bool):∀ {as:List α} {bs:List β} {i:Nat},as.length=bs.length->(as.zip bs).findIdx? (fun q=>p q.1)=some i->∃ a b,as[i]?=some a/\bs[i]?=some b/\p a=true/\(as.zip bs).find? (fun q=>p q.1)=some (a,b)
 | [],[],_,_,h=>by simp at h
 | a :: as,b :: bs,i,hl,h=>by
  rw [ZG,Yh] at h
  by_cases hp:p a=true
  ·rw [Zq hp] at h
   cases h
   exact ⟨a,b,rfl,rfl,hp,by simp [hp]⟩
  ·rw [Zn hp] at h
   obtain ⟨j,hj,rfl⟩:=Zo.mp h
   obtain ⟨a',b',h1,h2,h3,h4⟩:=o6 p (by simpa using hl) hj
   exact ⟨a',b',by simpa using h1,by simpa using h2,h3,by simp [hp,h4]⟩
theorem jg (k k':Key):eqT (aS k') (aS k)=true ↔ k'=k:=by
 cases k with
 | inl i=>cases k' <;> simp [aS]
 | inr x =>
  obtain ⟨⟨x⟩⟩:=x
  cases k' with
  | inl j=>simp [aS]
  | inr y=>obtain ⟨⟨y⟩⟩:=y;simp [aS]
theorem se {k:Key} {u:V}:∀ {ns:List Key} {ts:Vu} {vs:List V} {i:Nat},ns.length=ts.length->ns.length=vs.length->((ns.map aS).zip ts).findIdx? (fun q=>eqT q.1 (aS k))=some i->vs[i]?=some u->cz (ns.zip vs) k=some u
 | [],_,_,_,_,_,h,_=>by simp at h
 | n :: ns,t :: ts,v :: vs,i,h1,h2,h,hu=>by
  rw [Zu,ZG,Yh] at h
  by_cases hp:eqT (aS n) (aS k)=true
  ·rw [Zq hp] at h
   cases h
   simp at hu;subst hu
   exact b7 ((jg k n).mp hp)
  ·rw [Zn hp] at h
   obtain ⟨j,hj,rfl⟩:=Zo.mp h
   have hn:n ≠ k:=fun z=>hp ((jg k n).mpr z)
   have:cz ((n :: ns).zip (v :: vs)) k=cz (ns.zip vs) k:=by simp [cz,hn]
   rw [this]
   exact se (by simpa using h1) (by simpa using h2) hj (by simpa using hu)
 | _ :: _,[],_,_,h,_,_,_=>by simp at h
 | _ :: _,_ :: _,[],_,_,h,_,_=>by simp at h
end
section
variable {G:Gx}
variable {X:Cx} {e:Expr} {es:List Expr} {i:Nat} {way:List Stp} {pos pos' p1 apos cpos:Pos} {c:Ex} {cs:Exs} {b:Expr} {k:Nat}
@[simp] noncomputable def Ge (i:Nat) (way:List Stp) (f:T->Vw->Option (T×Val)) (as:Exs) (η:VS.Env):Option (Val×VS.Env):=match η[i]? with
 | some (some (.ow t))=>(keys way η).bind fun ks=>(as η).bind fun xs=>(pm (fun x=>f x xs) ks t).map fun z=>(z.2,η.set i (some (.ow z.1)))
 | _=>none
noncomputable def zA (G:Gx):Prop:=∀ c k k':Nat,(G.ct c).2 k=(G.ct c).2 k'->k=k'
end
section
variable {G:Gx} {X:Cx} {e o:Expr} {es:List Expr} {i:Nat} {way:List Stp} {pos pos' p1 apos cpos:Pos} {c:Ex} {cs:Exs} {b:Expr} {k:Nat} {ce ck:Ex}
theorem sj {H:Hp} {kk:Key} {xv:V} {t:T} (rv:Rp G H xv t []):∀ {ks:List Key} {vs:List V} {ts:Vu} {Fs:Yk},ks.length=vs.length->RpL G H vs ts Fs →
  ∃ vs' ts' Fs',(ks.zip vs).map (fun kv=>if kv.1=kk then (kv.1,xv) else kv)=ks.zip vs'/\ks.length=vs'.length/\((ks.map aS).zip ts).map (fun p=>if eqT p.1 (aS kk) then (p.1,t) else p)=(ks.map aS).zip ts'/\RpL G H vs' ts' Fs'/\Fs'.flatten.Sublist Fs.flatten
 | [],[],_,_,_,.nil=>⟨[],[],[],rfl,rfl,rfl,.nil,X7 _⟩
 | k :: ks,v :: vs,_,_,hl,.cons (t:=t0) (F:=F) (ts:=ts) (Fs:=Fs) r q=>by
  obtain ⟨vs',ts',Fs',h1,h2,h3,h4,h5⟩:=sj rv (by simpa using hl) q
  by_cases hk:k=kk
  ·have e:eqT (aS k) (aS kk)=true:=(jg kk k).mpr hk
   refine ⟨xv :: vs',t :: ts',[] :: Fs',?_,by simp [h2],?_,.cons rv h4,?_⟩
   ·rw [ZG,Zu,h1,ZG];simp [hk]
   ·rw [Zu,ZG,Zu,h3,ZG];simp [e]
   ·rw [Zf,Zf]
    exact h5.trans (List.sublist_append_right _ _)
  ·have e:¬ eqT (aS k) (aS kk)=true:=fun z=>hk ((jg kk k).mp z)
   refine ⟨v :: vs',t0 :: ts',F :: Fs',?_,by simp [h2],?_,.cons r h4,?_⟩
   ·rw [ZG,Zu,h1,ZG];simp [hk]
   ·rw [Zu,ZG,Zu,h3,ZG];simp [e]
   ·rw [Zf,Zf]
    exact List.Sublist.append (X7 _) h5
theorem qb {kk:Key}:∀ {ks:List Key} {vs:List V} {ts:Vu},ks.length=vs.length->ks.length=ts.length->((ks.zip vs).any fun kv=>decide (kv.1=kk))=(((ks.map aS).zip ts).any fun p=>eqT p.1 (aS kk))
 | [],_,_,_,_=>by simp
 | k :: ks,v :: vs,t :: ts,h1,h2=>by
  rw [Zu,ZG,ZG,YE,YE,qb (by simpa using h1) (by simpa using h2)]
  have:decide (k=kk)=eqT (aS k) (aS kk):=by rw [Bool.eq_iff_iff,decide_eq_true_eq];exact (jg kk k).symm
  rw [this]
 | _ :: _,[],_,h,_=>by simp at h
 | _ :: _,_ :: _,[],_,h=>by simp at h
theorem q0 {H:Hp} {kk:Key} {xv:V} {t:T} (rv:Rp G H xv t []) {ks:List Key} {vs:List V} {ts:Vu} {Fs:Yk} (hl:ks.length=vs.length) (ra:RpL G H vs ts Fs) :
  ∃ (ks':List Key) (vs':List V) (ts':Vu) (Fs':Yk),putK (ks.zip vs) kk xv=ks'.zip vs'/\ks'.length=vs'.length/\dput ((ks.map aS).zip ts) (aS kk) t=(ks'.map aS).zip ts'/\RpL G H vs' ts' Fs'/\Fs'.flatten.Sublist Fs.flatten:=by
 have an:=qb (kk:=kk) hl (hl.trans ra.len.1)
 unfold putK dput
 rw [an]
 by_cases h:(((ks.map aS).zip ts).any fun p=>eqT p.1 (aS kk))=true
 ·rw [Zq h,Zq h]
  obtain ⟨vs',ts',Fs',h1,h2,h3,h4,h5⟩:=sj (kk:=kk) rv hl ra
  exact ⟨ks,vs',ts',Fs',h1,h2,h3,h4,h5⟩
 ·rw [Zn h,Zn h]
  refine ⟨ks++[kk],vs++[xv],ts++[t],Fs++[[]],?_,by simp [hl],?_,ra.append (.cons rv .nil),by simp⟩
  ·rw [Xb hl];rfl
  ·rw [Ym,Xb (by rw [Zt];exact hl.trans ra.len.1)];rfl
noncomputable def DD:Ad:=fun o i v H Q=>AQ o i v H Q\/∃ a H4,o=.ref a/\wF H a i v H4/\Q H4
theorem Eh (hu:X.A.units+1 < cLine):BY X DD:=by
 intro pins s σ H o i v ov iv u Q I ro ri rv h
 rcases h with h | ⟨a,H4,rfl,g,q⟩
 ·exact set_list pins s σ H o i v ov iv u Q I ro ri rv h
 ·cases ro
  exact ur hu I g ri rv fun s4 I4=>⟨H4,I4,q⟩
end
theorem Cz {K:Xy} {H:Hp} {a:Addr} {ns:Vz} (hO:wd H) (hS:SqL K H a (ns.map V.int)):km K H a ns:=by
 rcases hS with h | h
 ·rcases h with h | h
  ·rcases hO a with z | ⟨o,xs,z⟩
   ·rw [z] at h;cases h
   ·rw [z] at h;cases h
  ·exact .inl h
 ·exact .inr h
theorem Bx {G:Gx} {g:Fn} {H:Hp} {a:Addr} {ns:Vz} {E:XK} (hg:g [.scr ns]=some (.fr,.bl true)) (hO:wd H) (hS:SqL G.K H a (ns.map V.int)):spF G g [.ref a] H (fun v _=>v=.bl true) E :=
 ⟨[.scr ns],[[]],.fr,.bl true,.cons (.scr (Cz hO hS)) .nil,hg,fun v H' F _ r _=>r.bl_inv⟩
noncomputable def gx0 (K:Xy):Gx:=⟨K,fun _=>(0,fun k=>⟨#[k]⟩)⟩
theorem wb {l:PySem.W.OpenLaw} {q:Program} {loose:List Str} {XP:(Xm)->Heap->Prop} {d:DefRec} {K:Params->Xy} {g:Fn} {x:Str} {k:Nat} (hn:l.most=some 63) (hdf:d.params.defaults=[]) (hr:Room k callerA)
  (hg:∀ ns:Vz,g [.scr ns]=some (.fr,.bl true))
  (F:∀ (w:World) (mg:Xm) (fa:Addr) (h:Heap),(K w.params).In h->h.Ns mainGlobals mg->mg d.name=some (.ref fa) →
   ∃ fd:FuncData,(∀ (s:Shared) (u:Value),BindsTo s fd ⟨[u],[]⟩ [(x,u)])/\∀ base:Heap,(K w.params).In base->base.Ns mainGlobals mg->FnOk l.prog w (K w.params) mg base CX0 k fa fd [x] (spF (gx0 (K w.params)) g)) :
  PySem.W.WalkO q loose XP (fun w h=>(K w.params).In h) l.row.toRowW d [] (fun f vs=>PySem.call f vs) :=
 L2.yq (n:=63) (k:=k) (x:=x) (CX:=fun _=>CX0) (sp:=fun w=>spF (gx0 (K w.params)) g) hn (by decide) hdf hr (fun _ _ h=>h) F (fun w H a ns _ hO hS=>Bx (G:=gx0 (K w.params)) (hg ns) hO hS) fun _ _ _ _ _ z=>z
end VS
end
section
namespace L2
open PySem PySem.Spec PyProof.Rows
section
variable {X:Cx}
theorem rj (hc:X.calm=true):d9 X (.type "list") (fun xs H Q=>∃ x:Str,xs=[.str x]/\x.cps.size<=sizeLine/\∀ l,H l=none->Q (.ref l) (upd H l (.lst (x.cps.toList.map fun c=>V.str ⟨#[c]⟩)))):=by
 intro pins s σ H xs us Q I rx h
 obtain ⟨x,rfl,hz,q⟩:=h
 obtain ⟨u,rfl,t,rfl⟩:=vals1 rx
 refine call_list_str (I.ok.hd hc) x t (fun h' tk acc c kp g ha=>?_) hz
 have hv:aT (x.cps.toList.map fun c=>V.str ⟨#[c]⟩) acc.toList:=by
  have key:∀ (cs:W9) (vs:Xg),cs.length=vs.length->(∀ (i:Nat) (v:Value),vs[i]?=some v->∃ c u,cs[i]?=some c/\v=.str ⟨#[c]⟩ u)->aT (cs.map fun c=>V.str ⟨#[c]⟩) vs:=by
   intro cs
   induction cs with
   | nil =>
    intro vs hl _
    cases vs with
    | nil=>exact .nil
    | cons v vs=>simp at hl
   | cons c cs ih =>
    intro vs hl hg
    cases vs with
    | nil=>simp at hl
    | cons v vs =>
     obtain ⟨d,u,e1,e2⟩:=hg 0 v rfl
     cases e1
     exact .cons ⟨u,e2⟩ (ih vs (by simpa using hl) fun i w hw=>by simpa using hg (i+1) w (by simpa using hw))
  refine key _ _ (by rw [YZ,YZ,ha.1]) fun i v hi=>?_
  rw [Z8] at hi
  obtain ⟨d,u,e1,e2⟩:=ha.2 i v hi
  exact ⟨d,u,by rw [Z8];exact e1,e2⟩
 refine ⟨.ref s.heap.objs.size,_,I.laid kp (Zp _) (show ba X.prog X.w _ h' _ (.lst (x.cps.toList.map fun c=>V.str ⟨#[c]⟩)) from ⟨by rw [Zt,YZ];exact hz,acc.toList,c,hv,g⟩),rfl,q _ (I.hok.fresh (Zp _))⟩
end
end L2
namespace VS
open PySem PySem.Spec PyProof.Rows L2
section
variable {G:Gx} {X:Cx} {a b c e tg:Expr} {es:List Expr} {ca cb cc ce ck:Ex} {cs:Exs} {pos p p1 p2 apos cpos pos':Pos} {k k' kr:Nat}
@[simp] noncomputable def ka:Vw->Vv
 | [(m,.lst l)]=>mkL m l
 | [(m,.tup l)]=>mkL m l
 | [(_,.str s)]=>mkL .fr (s.map fun c=>.str [c])
 | _=>none
theorem vW:gM G (fun xs H Q=>A9 G.K xs H Q\/∃ x:Str,xs=[.str x]/\x.cps.size<=sizeLine/\∀ l,H l=none->Q (.ref l) (upd H l (.lst (x.cps.toList.map fun c=>V.str ⟨#[c]⟩)))) ka:=by
 intro Φ η H0 H l vs Fs m t Q A e k
 unfold ka at e
 split at e
 ·exact .inl (sA Φ η H0 H _ vs Fs m t Q A e k)
 ·exact .inl (sA Φ η H0 H _ vs Fs m t Q A e k)
 ·rename_i mx x
  obtain ⟨v,F,rfl,rfl,rx⟩:=(show RpL G H vs [.str x] Fs from A.rp).one
  have ts:=rx.str_inv.2
  refine .inr ⟨sx x,by rw [rx.str_inv.1],?_,fun q hq=>?_⟩
  ·have:=ts.1
   simp only [sx,ZZ]
   exact this
  ·have ec:(sx x).cps.toList.map (fun c=>V.str ⟨#[c]⟩)=(x.map fun c=>[c]).map fun s=>V.str (sx s):=by
    simp [sx]
   have et:(x.map fun c=>T.str [c])=(x.map fun c=>[c]).map T.str:=by simp
   rw [ec]
   rw [et] at e
   have r0:=qU (G:=G) (H:=H) (ss:=x.map fun c=>[c]) fun s hs=>by
    obtain ⟨c,hc,rfl⟩:=Yv.mp hs
    exact ⟨by show 1<=g9;decide,fun y hy=>by rw [Zg.mp hy];exact ts.2 c hc⟩
   refine iB A.same e r0 ?_ k q hq
   rw [pI]
   exact Fp.nil
 ·cases e
theorem Ai (hm:X.mg "list" = none) (ha:PVs G X [e] cs) (hg:Gl X "list" := by rfl) (hK:X.K=G.K:=by rfl) (hc:X.calm=true:=by rfl) (he:starEach [e] X.env=(false,eval e X.env) :: starEach [] X.env:=by rfl):PV G X (.Call (.Name "list" p) [e] [] pos) (eN ka cs) :=
 nu (oK.or (rj hc)) (hK ▸ vW) hg hm An ha (he:=he) (hpl:=rfl)
theorem zS (K:Xy):zA (gx0 K):=fun c k k' h=>by
 have:(#[k]:Array Nat)=#[k']:=congrArg Str.cps h
 simpa using this
end
end VS
end
section
open PySem PyProof.Rows
namespace TS
noncomputable abbrev Ky:=Sum Int Str
noncomputable def ltK:Ky->Ky->Bool
 | .inl i,.inl j=>decide (i < j)
 | .inr x,.inr y=>decide (x.cps.toList < y.cps.toList)
 | _,_=>false
noncomputable def eU:List Ky->List Ky->Bool
 | [],[]=>false
 | [],_ :: _=>true
 | _ :: _,[]=>false
 | a :: as,b :: bs=>if a=b then eU as bs else ltK a b
noncomputable def kind (k:Ky):Bool:=k.isLeft
theorem AI {x y:Str} (h:x.cps.toList=y.cps.toList):x=y:=by
 cases x;cases y
 simp only [Str.mk.injEq]
 exact Array.toList_inj.mp h
theorem zN (a:Ky):ltK a a=false:=by
 cases a with
 | inl i=>simp [ltK]
 | inr x=>simp [ltK,WZ]
theorem pC {a b:Ky} (h:ltK a b=true):ltK b a=false:=by
 cases a <;> cases b <;> simp only [ltK,decide_eq_true_eq,decide_eq_false_iff_not,ZC] at h ⊢
 ·lia
 ·exact fun q=>WZ _ (List.lt_trans h q)
theorem uR {a b c:Ky} (h:ltK a b=true) (h':ltK b c=true):ltK a c=true:=by
 cases a <;> cases b <;> cases c <;> simp only [ltK,decide_eq_true_eq,ZC] at h h' ⊢
 ·lia
 ·exact List.lt_trans h h'
theorem sC {a b:Ky} (k:kind a=kind b) (h:ltK a b=false) (h':ltK b a=false):a=b:=by
 cases a <;> cases b <;> simp only [ltK,decide_eq_false_iff_not,kind,Sum.isLeft,WN,ZC] at h h' k ⊢
 ·congr 1;lia
 ·congr 1
  exact AI (List.le_antisymm (List.not_lt.mp h') (List.not_lt.mp h))
theorem mU:∀ {l m:List Ky},eU l m=true->eU m l=false
 | [],[],h=>by simp [eU] at h
 | [],_ :: _,_=>rfl
 | _ :: _,[],h=>by simp [eU] at h
 | a :: l,b :: m,h=>by
  unfold eU at h ⊢
  by_cases e:a=b
  ·rw [Zq e] at h
   rw [Zq e.symm]
   exact mU h
  ·rw [Zn e] at h
   rw [Zn (YI e)]
   exact pC h
theorem sE:∀ {l m n:List Ky},l.map kind=m.map kind->m.map kind=n.map kind->eU m l=false->eU n m=false->eU n l=false
 | [],[],[],_,_,_,_=>rfl
 | [],[],_ :: _,_,h,_,_=>by simp at h
 | [],_ :: _,_,h,_,_,_=>by simp at h
 | _ :: _,[],_,h,_,_,_=>by simp at h
 | _ :: _,_ :: _,[],_,h,_,_=>by simp at h
 | a :: l,b :: m,c :: n,h1,h2,h3,h4=>by
  simp only [Zu,YF] at h1 h2
  unfold eU at h3 h4 ⊢
  by_cases e1:b=a
  ·subst e1
   rw [Zq rfl] at h3
   by_cases e2:c=b
   ·rw [Zq e2] at h4 ⊢
    exact sE h1.2 h2.2 h3 h4
   ·rw [Zn e2] at h4 ⊢
    exact h4
  ·rw [Zn e1] at h3
   have hab:ltK a b=true:=by
    cases q:ltK a b with
    | true=>rfl
    | false=>exact absurd (sC h1.1 q h3).symm e1
   by_cases e2:c=b
   ·subst e2
    rw [Zn e1]
    exact h3
   ·rw [Zn e2] at h4
    have hbc:ltK b c=true:=by
     cases q:ltK b c with
     | true=>rfl
     | false=>exact absurd (sC h2.1 q h4).symm e2
    have hac:=uR hab hbc
    have hne:c ≠ a:=fun e=>by rw [e,zN] at hac;cases hac
    rw [Zn hne]
    exact pC hac
variable {prog:Program} {w:World} {A:Around} {E:Z9} {s:Shared}
noncomputable def KyV:Ky->Value->Prop
 | .inl i,v=>∃ t,v=.int i t
 | .inr x,v=>∃ t,v=.str x t
inductive KysV:List Ky->Xg->Prop where
 | nil:KysV [] []
 | cons {k:Ky} {v:Value} {ks:List Ky} {vs:Xg}:KyV k v->KysV ks vs->KysV (k :: ks) (v :: vs)
theorem KyV.fn {k k':Ky} {v:Value} (h:KyV k v) (h':KyV k' v):k=k':=by
 cases k <;> cases k' <;> obtain ⟨t,rfl⟩:=h <;> obtain ⟨t',e⟩:=h' <;> cases e <;> rfl
theorem KysV.fn:∀ {ks ls:List Ky} {vs:Xg},KysV ks vs->KysV ls vs->ks=ls
 | _,_,_,.nil,.nil=>rfl
 | _,_,_,.cons h q,.cons h' q'=>by rw [h.fn h',q.fn q']
noncomputable def i7 (h:Heap) (v:Value) (ks:List Ky):Prop:=∃ b o items n,v=.ref b/\h.get? b=some o/\o.cls=.type "tuple" ∧ o.data=.seq items n/\KysV ks items.toList
theorem i7.fn {h:Heap} {v:Value} {ks ls:List Ky} (x:i7 h v ks) (y:i7 h v ls):ks=ls:=by
 obtain ⟨b,o,items,n,rfl,g,_,d,k⟩:=x
 obtain ⟨b',o',items',n',e,g',_,d',k'⟩:=y
 cases e
 rw [g] at g'
 cases g'
 rw [d] at d'
 cases d'
 exact k.fn k'
theorem Eg {k k':Ky} {v v':Value} {Q:Bool->Shared->Prop} (hk:kind k=kind k') (h:KyV k v) (h':KyV k' v') (q:Q (decide (k=k')) s):wpAny (model prog w) A (eqBool v v') Q E s:=by
 cases k <;> cases k' <;> simp only [kind,Sum.isLeft,WN,ZC] at hk <;> obtain ⟨t,rfl⟩:=h <;> obtain ⟨t',rfl⟩:=h'
 ·exact wpAny_eqBool_int (by have e:∀ i j:Int,(i == j)=decide (Sum.inl (β:=Str) i=.inl j):=fun i j=>by by_cases z:i=j <;> simp [z]
                             rw [e];exact q)
 ·exact wpAny_eqBool_str (by simpa using q)
theorem Ea {k k':Ky} {v v':Value} {b:Bool} {Q:Bool->Shared->Prop} (hk:kind k=kind k') (h:KyV k v) (h':KyV k' v') (q:Q (ltK k k') s):wpAny (model prog w) A (oneLt' b v v') Q E s:=by
 cases k <;> cases k' <;> simp only [kind,Sum.isLeft,WN,ZC] at hk <;> obtain ⟨t,rfl⟩:=h <;> obtain ⟨t',rfl⟩:=h'
 ·cases b with
  | true=>exact oneLt_int q
  | false =>
   rw [oneLt'_eq,Zn Zm]
   exact Zy (PyProof.Rows.lt_int (Yj q):wpAny (model prog w) A (compareOp .Lt (.int _ t) (.int _ t')) _ E s)
 ·cases b with
  | true=>exact oneLt_str q
  | false =>
   rw [oneLt'_eq,Zn Zm]
   exact Zy (PySem.P.lt_str (Yj q):wpAny (model prog w) A (compareOp .Lt (.str _ t) (.str _ t')) _ E s)
theorem uF (a b:Ky) (l m:List Ky):eU (a :: l) (b :: m)=if a=b then eU l m else ltK a b:=rfl
theorem Bo {f:Bool} {x y:Value} {ks ls:List Ky} {Q:Bool->Shared->Prop} (hx:i7 s.heap x ks) (hy:i7 s.heap y ls) (hs:ks.map kind=ls.map kind) (q:Q (eU ks ls) s):wpAny (model prog w) A (keyLt' (tuples' f) x y) Q E s:=by
 obtain ⟨b,o,items,n,rfl,g,_,d,k⟩:=hx
 obtain ⟨b',o',items',n',rfl,g',_,d',k'⟩:=hy
 refine (show wpAny (model prog w) A (Builtin.List.listItems (.ref b) >>= _) Q E s from ?_)
 refine Zy (listItems_at g d (Zy (listItems_at g' d' ?_)))
 have hsz:items.size=items'.size:=by
  have e1:∀ {ks:List Ky} {vs:Xg},KysV ks vs->ks.length=vs.length:=fun h=>by induction h with | nil=>rfl | cons _ _ ih=>simp [ih]
  have h1:=e1 k
  have h2:=e1 k'
  have h3:=congrArg List.length hs
  simp at h1 h2 h3
  lia
 refine Zy (Xa _ (fun rest b s'=>b=(none,())/\s'=s/\∃ (ks' ls':List Ky) (vs us:Xg) (i:Nat),rest=(vs.zip us).zipIdx i/\KysV ks' vs/\KysV ls' us/\ks'.map kind=ls'.map kind/\eU ks ls=eU ks' ls') _ ?turn ?fin _ _ ⟨rfl,rfl,ks,ls,_,_,0,rfl,k,k',hs,rfl⟩)
 case turn =>
  rintro x rest b s' ⟨rfl,rfl,ks',ls',vs,us,i,e,k1,k2,hs',hl⟩
  cases k1 with
  | nil=>simp at e
  | @cons a v ks1 vs1 ha k1 =>
   cases k2 with
   | nil=>simp at e
   | @cons b u ls1 us1 hb k2 =>
    simp only [ZG,Wo,YF] at e
    obtain ⟨rfl,rfl⟩:=e
    simp only [Zu,YF] at hs'
    refine Zy (Eg hs'.1 ha hb ?_)
    rw [uF] at hl
    by_cases hab:a=b
    ·rw [Zq hab] at hl
     rw [decide_eq_true hab,Zn (by simp)]
     exact Zs ⟨rfl,rfl,ks1,ls1,vs1,us1,i+1,rfl,k1,k2,hs'.2,hl⟩
    ·rw [Zn hab] at hl
     rw [ZL hab,Zq (by simp)]
     refine Zy (m:=oneLt' _ v u) (Ea hs'.1 ha hb (Zs (Zs ?_)))
     rw [← hl]
     exact q
 case fin =>
  rintro b s' ⟨rfl,rfl,ks',ls',vs,us,i,e,k1,k2,hs',hl⟩
  have:eU ks ls=decide (items.size < items'.size):=by
   rw [hl,hsz]
   cases k1 with
   | nil =>
    cases k2 with
    | nil=>simp [eU]
    | cons _ _=>simp at hs'
   | cons _ _ =>
    cases k2 with
    | nil=>simp at hs'
    | cons _ _=>simp at e
  refine Zs ?_
  rw [← this]
  exact q
theorem oh {α β:Type} {f:α->Sem β} {P:β->Prop}:∀ {vs:List α} {Q:List β->Shared->Prop},(∀ v∈vs,∃ x,P x/\∀ (Q:β->Shared->Prop),Q x s->wpAny (model prog w) A (f v) Q E s)->(∀ xs:List β,xs.length=vs.length->(∀ x∈xs,P x)->Q xs s)->wpAny (model prog w) A (vs.mapM f) Q E s
 | [],Q,_,q=>by
  rw [List.mapM_nil]
  exact Zs (q [] rfl (by simp))
 | v :: vs,Q,h,q=>by
  rw [List.mapM_cons]
  obtain ⟨x,px,hx⟩:=h v Zw
  refine Zy (hx _ (Zy (oh (fun u hu=>h u (Zx _ hu)) fun xs hl hp=>Zs (q _ (by simp [hl]) fun y hy=>?_))))
  rcases Zr.mp hy with e | e
  ·rw [e];exact px
  ·exact hp y e
theorem vh {vs:Xg} {k0:Bool} {sh:List Bool} {Q:SortKind->Shared->Prop} (h2:0 < vs.length) (hv:∀ v∈vs,∃ ks,i7 s.heap v ks/\ks.map kind=k0 :: sh) (q:Q (tuples' true) s):wpAny (model prog w) A (keyKind' vs.toArray) Q E s:=by
 have fst:∀ v∈vs,∃ x,(∀ (Q:Wr->Shared->Prop),Q (some x) s->wpAny (model prog w) A (firstOfTuple' v) Q E s)/\(∀ (Q:Z9),Q (.type (if k0 then "int" else "str")) s->wpAny (model prog w) A (typeOf x) Q E s):=fun v hm=>by
  obtain ⟨ks,⟨b,o,items,n,rfl,g,c,d,k⟩,hk⟩:=hv v hm
  cases k':items.toList with
  | nil =>
   rw [k'] at k
   cases k
   simp at hk
  | cons x xs =>
   rw [k'] at k
   cases k with
   | @cons a _ ks1 _ ha k1 =>
    simp only [Zu,YF] at hk
    have hx:items[0]?=some x:=by rw [← Z8,k'];rfl
    refine ⟨x,fun Q q=>?_,fun Q q=>?_⟩
    ·refine (show wpAny _ _ (typeOf (.ref b) >>= _) _ _ _ from Zy (WX (T := "tuple") ⟨o,g,c⟩ ?_))
     rw [Zn (by decide)]
     refine Zy (listItems_at g d (Zs ?_))
     rw [hx]
     exact q
    ·cases a with
     | inl i =>
      obtain ⟨t,rfl⟩:=ha
      have:k0=true:=hk.1.symm
      subst this
      exact WX (T := "int") rfl q
     | inr y =>
      obtain ⟨t,rfl⟩:=ha
      have:k0=false:=hk.1.symm
      subst this
      exact WX (T := "str") rfl q
 obtain ⟨tn,htn⟩:∃ tn:String,tn=(if k0 then "int" else "str"):=⟨_,rfl⟩
 have hne:(Value.type tn != Value.type "tuple")=true:=by subst htn;cases k0 <;> decide
 rw [← htn] at fst
 have mp:∀ {α β:Type} (f:α->Sem β) (l:List α) (Q:Array β->Shared->Prop),wpAny (model prog w) A (l.mapM f) (fun xs s'=>Q xs.toArray s') E s->wpAny (model prog w) A (l.toArray.mapM f) Q E s:=fun f l Q hm=>by
  rw [List.mapM_toArray]
  exact Zy (Yp hm (fun _ _ z=>Zs z) fun _ _ e=>e)
 rw [keyKind'_eq]
 refine Zy (mp _ _ _ (oh (P:=fun o=>∃ x,o=some x/\∀ (Q:Z9),Q (.type tn) s->wpAny (model prog w) A (typeOf x) Q E s) (fun v hm=>by
  obtain ⟨x,h1,h3⟩:=fst v hm
  exact ⟨some x,⟨x,rfl,h3⟩,h1⟩) fun xs hl hp=>?_))
 rw [Zq (by
  rw [List.all_toArray,Yb]
  intro o ho
  obtain ⟨x,rfl,_⟩:=hp o ho
  rfl)]
 refine Zy (XB (Zy ?_))
 rw [oneTypeOnly'_eq]
 have hf:(xs.toArray.filterMap id)=(xs.filterMap id).toArray:=by simp
 rw [hf]
 refine Zy (mp _ _ _ (oh (P:=fun ty=>ty=Value.type tn) (fun v hm=>by
  obtain ⟨o,ho,e⟩:=WQ.mp hm
  obtain ⟨x,rfl,h3⟩:=hp o ho
  cases e
  exact ⟨_,rfl,h3⟩) fun ts hl2 ht=>?_))
 have hfl:(xs.filterMap id).length=xs.length:=by
  have:∀ l:List (Wr),(∀ o∈l,∃ x,o=some x)->(l.filterMap id).length=l.length:=fun l=>by
   induction l with
   | nil=>intro _;rfl
   | cons o l ih =>
    intro h
    obtain ⟨x,rfl⟩:=h o Zw
    simp [ih fun o ho=>h o (Zx _ ho)]
  exact this xs fun o ho=>let ⟨x,e,_⟩:=hp o ho;⟨x,e⟩
 cases ts with
 | nil=>simp at hl2;lia
 | cons t0 ts =>
  have e0:=ht t0 Zw
  subst e0
  have e1:(Value.type tn :: ts).toArray[0]?=some (Value.type tn):=rfl
  rw [e1]
  dsimp only
  rw [Zq (by
   rw [List.all_toArray,Yb]
   intro y hy
   rw [ht y hy]
   simp)]
  refine Zs (Zs ?_)
  simp only [Option.any_some,hne]
  exact q
noncomputable def GT (h:Heap) (sh:List Bool) (x:Keyed):Prop:=∃ ks,i7 h x.1 ks/\ks.map kind=sh
open Classical in
noncomputable def rT (h:Heap) (x y:Keyed):Bool:=decide (∃ ks ls,i7 h x.1 ks/\i7 h y.1 ls/\eU ks ls=true)
open Classical in
theorem md {h:Heap} {x y:Keyed} {ks ls:List Ky} (hx:i7 h x.1 ks) (hy:i7 h y.1 ls):rT h x y=eU ks ls:=by
 unfold rT
 cases e:eU ks ls with
 | true=>exact decide_eq_true ⟨ks,ls,hx,hy,e⟩
 | false =>
  refine ZL fun ⟨ks',ls',hx',hy',e'⟩=>?_
  rw [hx'.fn hx,hy'.fn hy,e] at e'
  cases e'
theorem zZ {sh:List Bool} {f:Bool} {h:Heap} (hk:∀ v ks,i7 h v ks->i7 s.heap v ks):Cmp prog w A E s (tuples' f) (GT h sh) (rT h):=by
 refine ⟨?_,?_,?_⟩
 ·rintro st x y Q hkd ⟨ks,hx,ex⟩ ⟨ls,hy,ey⟩ q
  rw [lt'_eq]
  refine Zd (Wc ?_)
  rw [hkd]
  rw [md hx hy] at q
  exact Zd (wpS_lift (Wg (Bo (hk _ _ hx) (hk _ _ hy) (ex.trans ey.symm) ⟨rfl,Zl q⟩)))
 ·rintro x y ⟨ks,hx,_⟩ ⟨ls,hy,_⟩ q
  rw [md hx hy] at q
  rw [md hy hx]
  exact mU q
 ·rintro x y z ⟨ks,hx,ex⟩ ⟨ls,hy,ey⟩ ⟨ms,hz,ez⟩ q1 q2
  rw [md hy hx] at q1
  rw [md hz hy] at q2
  rw [md hz hx]
  exact sE (ex.trans ey.symm) (ey.trans ez.symm) q1 q2
end TS
end
section
namespace ST
open PySem PySem.Spec PyProof.Rows
variable {prog:Program} {w:World} {A:Around} {E:Z9} {s:Shared}
noncomputable abbrev dO (es:Array DictEntry) (ep:Nat):Obj:={ cls:=.type "dict",data:=.dict es ep }
noncomputable abbrev kO (d:Addr) (i n ep:Nat):Obj:={ cls:=.type "dict_keyiterator",data:=.fields #[.ref d,.int i 0,.int n 0,.int ep 0] }
theorem yf {d:Addr} {es:Array DictEntry} {ep:Nat} {Q:Z9} (hd:(d == sysModules)=false) (hm:s.heap.get? d=some (dO es ep)) (q:Q (.ref s.heap.objs.size) { s with heap:=s.heap.push (kO d 0 es.size ep) }) :
  wpAny (model prog w) A (pyIter (.ref d)) Q E s:=by
 have ty:s.TypeIs (.ref d) "dict" := ⟨_,hm,rfl⟩
 refine wpAny_pyIter_slot ty F.slot_dict_iter (XZ F.slot_dict_iter ty F.entry_dict_iter (show wpAny _ _ (Builtin.«dict.__iter__» _) _ _ _ from ?_) (F.args_dict_iter_1 _))
 unfold Builtin.«dict.__iter__» Builtin.Dict.dictSlotNone Builtin.Dict.showsAll
 refine Zy (Zy (wpAny_notOrdered_dict ty (show wpAny _ _ (pure (Value.ref d)) _ _ s from Zs (Zy (m:=Builtin.Dict.addrOf (.ref d)) (Zs ?_)))))
 rw [Zn (by rw [hd];exact Zm)]
 exact Zy (Zs (Zy (wpAny_dictEntries hm rfl (Zy (wpAny_dictEpoch hm rfl (Zy (XJ (Zs ⟨_,rfl, "dict_keyiterator",_,⟨_,ZM _ rfl,rfl⟩,Xo.lookup,q⟩))))))))
theorem pG {I d:Addr} {i ep:Nat} {es:Array DictEntry} {Q:Wr->Shared->Prop} (hh:A.handled=none) (hI:s.heap.get? I=some (kO d i es.size ep)) (hm:s.heap.get? d=some (dO es ep))
  (h1:∀ e,es[i]?=some e->∀ h',Heap.SameBut I s.heap h'->h'.get? I=some (kO d (i+1) es.size ep)->Q (some e.key) { s with heap:=h' })
  (h2:es[i]?=none->∀ h',(∀ b o,b ≠ I->s.heap.get? b=some o->h'.get? b=some o)->Q none { s with heap:=h' }):wpAny (model prog w) A (pyNext (.ref I)) Q E s:=by
 have ty:s.TypeIs (.ref I) "dict_keyiterator" := ⟨_,hI,rfl⟩
 unfold pyNext
 refine Zy (Wg (wpAny_callSpecial?_slot (name:=Str.ofString "__next__") ty Xo (XZ Xo ty F.entry_dict_keyiterator_next (Yp
  (Q:=fun f s'=>∃ v,f=.done (.ret v)/\Q (some v) s') (E:=fun e s'=>∃ x,e=.ref x/\(∃ o,s'.heap.get? x=some o/\o.cls=.type "StopIteration")/\Q none s') ?_ (fun f s' ⟨v,e,q⟩=>⟨v,e,Zs q⟩) fun e s' ⟨x,e1,⟨o,g,c⟩,q⟩=>?_) (F.args_dict_keyiterator_next_1 _))))
 ·refine Zy (Zs (Zy (Zy (Zy (X0 ty (Zs (Zy (wpAny_fieldsOf hI rfl ?_))))))))
  have own:Builtin.Dict_items.ownsTuple "dict_keyiterator" = false:=rfl
  simp only [own,ZC,↓reduceIte]
  refine (show wpAny _ _ (if (Value.ref d == Value.none)=true then _ else _) _ _ s from ?_)
  rw [Zn (fun e:(Value.ref d == Value.none)=true=>Zm e)]
  refine Zy (Zs (Zy (wpAny_dictEntries hm rfl ?_)))
  rw [Zn (by simp)]
  refine Zy (Zs (Zy (wpAny_dictEpoch hm rfl ?_)))
  rw [Zn (by simp)]
  refine Zs ?_
  simp only [show ¬ ((i:Int) < 0) from by lia,↓reduceIte,X8]
  cases he:es[i]? with
  | some e =>
   dsimp only
   have g1:(s.heap.update I (Obj.mapFields (·.setIfInBounds 1 (rawInt ((i:Int)+1))))).get? I=some (kO d (i+1) es.size ep):=Y2 _ hI rfl
   refine Zy (Zy (X0 ty (Zs (Zy (wpAny_isOneOf_keyiter ty ?_)))))
   refine (show wpAny _ _ (setField (.ref I) 1 (rawInt ((i:Int)+1)) >>= _) _ _ s from Zy (Wt hI rfl (by show 1 < 4;decide) (Zy (YN ?_))))
   refine Zy (wpAny_isOneOf_keyiter (s:={ s with heap:=s.heap.update I (Obj.mapFields (·.setIfInBounds 1 (rawInt ((i:Int)+1)))) }) ⟨_,g1,rfl⟩ ?_)
   refine (show wpAny _ _ (pure e.key) _ _ _ from Zs (Zs ⟨_,rfl,h1 e he _ (X9 ..) g1⟩))
  | none =>
   dsimp only
   refine Zy (Zy (X0 ty (Zs ?_)))
   refine (show wpAny _ _ (setField (.ref I) 0 .none >>= _) _ _ s from Zy (Wt hI rfl (by show 0 < 4;decide) (DA hh fun h' x kp hx=>⟨x,rfl,hx,h2 he h' fun b o hb e=>kp b o ?_⟩)))
   rw [Yq _ _ (YI hb)]
   exact e
 ·subst e1
  exact Zy (Wb (T := "StopIteration") (b:=true) ⟨o,g,c⟩ isSubtype_stop (Zs q))
end ST
end
section
namespace L2
open PySem PySem.Spec PyProof.Rows TS
section
variable {X:Cx}
theorem wW:∀ {ks:List Key} {vs:Xg},aT (ks.map kV) vs->KysV ks vs
 | [],[],_=>.nil
 | k :: ks,v :: vs,h=>by
  cases h with
  | cons r q =>
   refine .cons ?_ (wW q)
   cases k with
   | inl i=>exact r
   | inr x=>exact r
theorem yn {P:Program} {w:World} {H:Hp} {h:Heap} {a:Addr} {ks:List Key} (ok:HOk P w H h) (e:H a=some (.tup (ks.map kV))):i7 h (.ref a) ks:=by
 obtain ⟨_,its,r,_,o,h1,h2,n,h3⟩:=(show ba P w H h a (.tup (ks.map kV)) from ok a _ e)
 exact ⟨a,o,its.toArray,n,rfl,h1,h2,h3,wW r⟩
end
end L2
end
section
namespace VS
open PySem PySem.Spec PyProof.Rows L2 TS
section
variable {G:Gx} {X:Cx} {a b c e tg:Expr} {es:List Expr} {ca cb cc ce ck:Ex} {cs:Exs} {pos p p1 p2 apos cpos pos':Pos} {k k' kr:Nat}
noncomputable def BI:T->Bool
 | .tup l=>l.all ki
 | _=>false
@[simp] noncomputable def F6 (x y:Val):Vv:=match y.2 with
 | .dct 1 l=>if BI x.2 then some (.fr,.bl (dq l x.2).isSome) else none
 | .lst l=>if BI x.2 && l.all BI then some (.fr,.bl (l.any fun z=>eqT z x.2)) else none
 | _=>none
@[simp] noncomputable def Fo (x y:Val):Vv:=match F6 x y with
 | some (_,.bl b)=>some (.fr,.bl (!b))
 | _=>none
end
end VS
namespace VS
open PySem PySem.Spec PyProof.Rows L2
theorem EZ {G:Gx} {X:Cx} {i:Int} {j:Nat} {pos p:Pos}:PV G X (.UnaryOp .USub (.Constant (.int i) j p) pos) (eC (.int (-i))) :=
 PE.weak (EK CO yg) fun σ H Q hq=>by
  obtain ⟨Φ,η,m,t,s,e,k⟩:=hq
  cases (show some (Md.fr,T.int (-i))=some (m,t) from e)
  exact ⟨i,rfl,k _ H [] (aU.refl _) (.int _) Fp.nil⟩
end VS
end
section
namespace L2
open PySem PySem.Spec PyProof.Rows
section
variable {X:Cx}
noncomputable def zH:V->List V->Hp->VK->Prop:=fun x vs H Q=>∃ (a:Addr) (kvs:List (Key×V)) (k:Key) (y:V),x=.ref a/\vs=[kV k,y]/\H a=some (.dK kvs)/\kvs.length < sizeLine ∧
 (∀ v,cz kvs k=some v->Q v H)/\(cz kvs k=none->Q y (upd H a (.dK (putK kvs k y))))
theorem tJ:MtR X "dict.setdefault" zH:=by
 intro pins s σ H x vs v us Q I rx rv h
 obtain ⟨a,kvs,k,y,rfl,rfl,e,hl,q1,q2⟩:=h
 cases rx
 obtain ⟨u,u2,rfl,ru,ru2⟩:=rv.two
 obtain ⟨z,hd,ws,rel,dd⟩:=si I.hok e
 have hz:ws.length<=sizeLine:=by rw [← rel.length];exact z
 have hval:=rel.val k
 refine call_meetsIn Xw dd.typeIs PySem.F.entry_dict_setdefault (W1 _ _ _) (kt_meets_setdefault (bU X.prog X.w) a (mS ru) hd u2) ⟨ws,dd,hz,fun v hv=>?_,fun hn h' dd' hs=>?_⟩
 ·rw [hv] at hval
  cases hx:cz kvs k with
  | none=>rw [hx] at hval;cases hval
  | some w =>
   rw [hx] at hval
   exact ⟨w,H,I.tok _,hval,q1 w hx⟩
 ·rw [hn] at hval
  have hx:cz kvs k=none:=by
   cases hx:cz kvs k with
   | none=>rfl
   | some w=>rw [hx] at hval;cases hval
  have hl2:(putK kvs k y).length<=sizeLine:=by have:=fZ kvs k y;lia
  have he:∃ q,h'.get? a=some q:=let ⟨q,_,_,hq,_⟩:=dd';⟨q,hq⟩
  exact ⟨y,_,iE I (by rw [e];exact True.intro) hs he (rN hl2 hd (rel.put k ru2) dd'),ru2,q2 hx⟩
end
end L2
namespace VS
open PySem PySem.Spec PyProof.Rows L2
section
variable {G:Gx} {X:Cx} {a b c e o tg:Expr} {es:List Expr} {ca cb cc ce ck cv:Ex} {cs:Exs} {pos p p1 p2 apos cpos pos' ap1 cp1 lp:Pos} {k k' kr i:Nat}
noncomputable def cK (l:List (T×T)) (k:T):List (T×T):=if (dq l k).isSome then l else l++[(k,.lst [])]
noncomputable def iM (i:Nat) (k:Ex) (v:Exs) (η:VS.Env):Option Out:=match η[i]? with
 | some (some (.ow (.dct 0 l)))=>(k η).bind fun kv=>if ki kv.2/\l.length < g9 then
   (v (η.set i (some (.ow (.dct 0 (cK l kv.2)))))).bind fun vv=>(pm (fun x=>bg x vv) [.at kv.2] (.dct 0 (cK l kv.2))).map fun z=>.nx (η.set i (some (.ow z.1))) else none
 | _=>none
theorem Chg.none {H H':Hp} {v:V} {F:Xl} {t:T} (sm:aU H H') (r:Rp G H v t F) (nd:F.Nodup):Chg G H v F t H' F :=
 ⟨Kept.of sm,fun b o _ h=>sm b o h,fun b h z=>h (sm.free z),r.same sm,nd,fun a ha=>.inl ha⟩
theorem BS {H:Hp} {f:T->Option (T×Val)} {kk:Key} {a:Addr} {L:List (T×T)} {t':T} {F:Xl} {y:Val} {kvs:List (Key×V)} {w:V} (r:Rp G H (.ref a) (.dct 0 L) F) (nd:F.Nodup) (e:pm f [.at (aS kk)] (.dct 0 L)=some (t',y)) (h3:H a=some (.dK kvs)) (hw:cz kvs kk=some w) :
  ∃ x F1 x',Rp G H w x F1/\F1.Nodup/\f x=some (x',y)/\∀ H2 F1',Chg G H w F1 x' H2 F1'->∃ F',Chg G H (.ref a) F t' H2 F':=by
 have e:((L.findIdx? fun p=>eqT p.1 (aS kk)).bind fun i=>(L[i]?).bind fun p=>(pm f [] p.2).map fun z=>(T.dct 0 (L.set i (p.1,z.1)),z.2))=some (t',y):=by
  cases kk <;> exact e
 obtain ⟨i,h1,e⟩:=Zz.mp e
 obtain ⟨p,h2,e⟩:=Zz.mp e
 obtain ⟨⟨z,y'⟩,e1,e2⟩:=Zo.mp e
 cases e2
 obtain ⟨a',ns,vs,ts,Fs,ea,rfl,ha,hl,rfl,ra⟩:=iH r
 cases ea
 rw [h3] at ha
 cases ha
 have lts:(ns.map aS).length=ts.length:=by rw [Zt];exact hl.trans ra.len.1
 obtain ⟨k0,x0,g1,g2,g3,g4⟩:=o6 (fun n=>eqT n (aS kk)) lts h1
 have ep:p=(k0,x0):=by
  have:((ns.map aS).zip ts)[i]?=some (k0,x0):=by rw [X5];exact ⟨g1,g2⟩
  rw [this] at h2;exact (ZK h2).symm
 subst ep
 obtain ⟨u,Fi,u1,u2,u3⟩:=ra.get i g2
 have ew:cz (ns.zip vs) kk=some u:=se (by simpa using lts) hl h1 u1
 rw [hw] at ew
 cases ew
 refine ⟨x0,Fi,z,u3,((ZJ.mp nd).2).sublist (gy u2),e1,fun H2 F1' g=>?_⟩
 obtain ⟨s1,s2,s3,s4,s5⟩:=tm h3 ra nd u1 u2 g
 refine ⟨_,g.kept,s5,g.dom,?_,s3,s4⟩
 rw [oq (ns.map aS) ts i k0 z g1]
 exact .dct s1 hl s2
theorem wt (J:zA G) (i:Nat) {x:Str} (hk:PV G X b ck) (hv:PVs G X [e] cs) (hK:X.K=G.K) (hN:X.N[i]?=some x) (hvis:Vis X.env.scope x) (hd:(x == ("__debug__" : Str))=false) (hcd:(x == ("__classdict__" : Str))=false)
  (hb1:attributeBase (.Name x p1) "setdefault" X.env (eval (.Name x p1) X.env)=eval (.Name x p1) X.env)
  (hf1:((backTo cp1 (starEach [b,.List [] lp] X.env)).all (fun x=>!x.1) && (backToKw cp1 (keywordEach [] X.env)).all (fun x=>x.1.isSome)
   && decide ([b,Expr.List [] lp].length+([]:List Keyword).length+(if ([]:List Keyword).isEmpty then 0 else 1) < 30))=true)
  (hl1:(ap1.endLine == cp1.line)=true) (hs1:starEach [b,.List [] lp] X.env=(false,eval b X.env) :: starEach [.List [] lp] X.env) (hs1':starEach [.List [] lp] X.env=(false,eval (.List [] lp) X.env) :: starEach [] X.env) (hp1:(backTo cp1 (starEach [.List [] lp] X.env)).any (·.1)=false)
  (hb2:attributeBase (.Call (.Attribute (.Name x p1) "setdefault" ap1) [b,.List [] lp] [] cp1) "append" X.env (eval (.Call (.Attribute (.Name x p1) "setdefault" ap1) [b,.List [] lp] [] cp1) X.env)=eval (.Call (.Attribute (.Name x p1) "setdefault" ap1) [b,.List [] lp] [] cp1) X.env)
  (hf2:((backTo cpos (starEach [e] X.env)).all (fun x=>!x.1) && (backToKw cpos (keywordEach [] X.env)).all (fun x=>x.1.isSome)
   && decide ([e].length+([]:List Keyword).length+(if ([]:List Keyword).isEmpty then 0 else 1) < 30))=true)
  (hl2:(apos.endLine == cpos.line)=true) (hs2:starEach [e] X.env=(false,eval e X.env) :: starEach [] X.env) (hp2:(backTo cpos (starEach [] X.env)).any (·.1)=false)
  (hsw:swapsWith (.Call (.Attribute (.Call (.Attribute (.Name x p1) "setdefault" ap1) [b,.List [] lp] [] cp1) "append" apos) [e] [] cpos) none pos.line X.env=pure false) :
  PSV G X (.Expr (.Call (.Attribute (.Call (.Attribute (.Name x p1) "setdefault" ap1) [b,.List [] lp] [] cp1) "append" apos) [e] [] cpos) pos) (iM i ck cs) :=
 PS.weak (jx (tu Wq Wx Wy iL
  (tu PySem.F.plainAttrs_dict Xw PySem.F.type_dict_setdefault tJ (gu hN hvis hd hcd) (de hk (de (n9 fI) fI hs1') hs1) hb1 hf1 hl1 hs1 hp1) hv hb2 hf2 hl2 hs2 hp2) hsw) fun D σ H hq=>by
  obtain ⟨Φ,η,out,s,e,k⟩:=hq
  refine L2.gC fun P_ k_=>?_
  unfold iM at e
  split at e
  ·rename_i l hl
   obtain ⟨⟨mk,tk⟩,ekk,e⟩:=Zz.mp e
   split at e
   ·rename_i hc
    obtain ⟨c1,c2⟩:=hc
    obtain ⟨lv,ev,e⟩:=Zz.mp e
    obtain ⟨⟨t',y'⟩,e5,e6⟩:=Zo.mp e
    cases e6
    obtain ⟨v,g1,g2⟩:=s.rp _ _ hl
    have nd0:=s.nd i _ hl
    obtain ⟨a,ns,vs,ts,Fs,rfl,eΦ,ha,hln,el,ra⟩:=iH g2
    subst el
    rw [eΦ] at nd0
    refine k_ ?_
    refine ⟨.ref a,g1,by rw [hK];exact .inr (.inr (.inl ⟨rfl,.inl ⟨_,ha⟩⟩)),?_⟩
    refine ⟨Φ,η,mk,tk,s,ekk,fun kv H1 Fk sm1 rk fk=>⟨ZU _,fun q hq=>?_⟩⟩
    refine L2.gC fun P_ k_=>?_
    obtain ⟨kk,rfl,etk⟩:=gZ rk c1
    dsimp only at etk ekk e5 ev c1
    subst etk
    refine k_ ?_
    have fin:∀ (H3:Hp) (F3:Xl) (kvs3:List (Key×V)) (w:V),Chg G H (.ref a) (Φ i) (.dct 0 (cK ((ns.map aS).zip ts) (aS kk))) H3 F3->H3 a=some (.dK kvs3)->cz kvs3 kk=some w →
      tyV X.K "list" w H3/\tEs G cs σ H3 (fun vs2 H4=>kQ w vs2 H4 (fun _ H5=>D.nx σ H5)):=fun H3 F3 kvs3 w g h3 hw=>by
     refine L2.gC fun P_ k_=>?_
     obtain ⟨z1,z2⟩:=s.mut hl g1 g
     have hset:(η.set i (some (.ow (.dct 0 (cK ((ns.map aS).zip ts) (aS kk))))))[i]?=some (some (.ow (.dct 0 (cK ((ns.map aS).zip ts) (aS kk))))):=by
      have hi:i < η.length:=(Zb.mp hl).1
      rw [Yc hi]
     obtain ⟨x',F1,x3,w2,w3,w4,w5⟩:=BS g.rp g.nd e5 h3 hw
     refine k_ ?_
     refine ⟨by rw [hK];exact iq w2 w4,hJ Φ i F3,_,lv,z1,ev,fun vs2 H4 Fs2 q1 q2 q3=>?_⟩
     refine j9 (hJ Φ i F3) _ H3 H4 w x' x3 F1 lv vs2 Fs2 y' _ w2 w3 ⟨q1,q2,q3⟩ w4 fun u H5 F' g5=>?_
     obtain ⟨F2,g6⟩:=w5 H5 F' g5
     have g6':Chg G H3 (.ref a) (hJ Φ i F3 i) t' H5 F2:=by rw [fX];exact g6
     obtain ⟨y1,y2⟩:=z1.mut hset g1 g6'
     rw [List.set_set] at y1 y2
     exact k _ σ H5 y1 (z2.trans y2)
    have sm2:aU H1 (upd H1 q (.lst [])):=dw hq
    have sm:aU H (upd H1 q (.lst [])):=sm1.trans sm2
    have ha2:upd H1 q (.lst []) a=some (.dK (ns.zip vs)):=sm a _ ha
    have ln:(ns.zip vs).length < sizeLine:=by
     have:((ns.map aS).zip ts).length < 16777216:=c2
     rw [Ye,Zt] at this
     rw [Ye]
     have:=ra.len.1
     have:(sizeLine:Nat)=16777216:=rfl
     lia
    have dg:=kU (G:=G) (k:=kk) hln ra
    refine ⟨a,ns.zip vs,kk,.ref q,rfl,rfl,ha2,ln,fun w hw=>?_,fun hn=>?_⟩
    ·refine fin _ (a :: Fs.flatten) (ns.zip vs) w ?_ ha2 hw
     have es:cK ((ns.map aS).zip ts) (aS kk)=(ns.map aS).zip ts:=by
      unfold cK
      rcases dg with ⟨h1,h2⟩ | ⟨_,_,t2,_,h1,_⟩
      ·rw [h2] at hw;cases hw
      ·rw [h1];rfl
     rw [es,eΦ]
     exact Chg.none sm (by rw [eΦ] at g2;exact g2) nd0
    ·have es:cK ((ns.map aS).zip ts) (aS kk)=((ns++[kk]).map aS).zip (ts++[.lst []]):=by
      unfold cK
      rcases dg with ⟨h1,h2⟩ | ⟨_,_,t2,_,h1,h2,_⟩
      ·rw [h1,Zn (by simp),Ym,Xb (by rw [Zt];exact hln.trans ra.len.1)]
       rfl
      ·rw [h2] at hn;cases hn
     have ep:putK (ns.zip vs) kk (.ref q)=(ns++[kk]).zip (vs++[.ref q]):=by
      unfold putK
      rw [ie,hn,Zn (by simp),Xb hln]
      rfl
     have qa:q ≠ a:=fun z=>by
      have:H1 a=some (.dK (ns.zip vs)):=sm1 a _ ha
      rw [← z,hq] at this
      cases this
     have qH:H q=none:=sm1.free hq
     have m2:Mut (upd H1 q (.lst []) a):=by rw [ha2];exact True.intro
     have nd:=ZJ.mp nd0
     have qF:q ∉ Fs.flatten:=fun z=>Mut.ne_none (ra.dom q z) qH
     have h3q:upd (upd H1 q (.lst [])) a (.dK (putK (ns.zip vs) kk (.ref q))) q=some (.lst []):=by rw [aw qa,aH]
     have rq:Rp G (upd (upd H1 q (.lst [])) a (.dK (putK (ns.zip vs) kk (.ref q)))) (.ref q) (.lst []) (q :: ([]:Yk).flatten):=.lst h3q .nil
     refine fin _ (a :: (Fs++[[q]]).flatten) (putK (ns.zip vs) kk (.ref q)) (.ref q) ?_ aH (by rw [vi,Zq rfl])
     rw [es,eΦ]
     refine Chg.upd sm Zw m2 (.dct (by rw [aH,ep]) (by simp [hln]) (((ra.same sm).off m2 nd.1).append (.cons rq .nil))) ?_ ?_
     ·rw [Z2]
      refine ZJ.mpr ⟨fun z=>?_,ZD.mpr ⟨nd.2,by simp,fun x hx y hy z=>?_⟩⟩
      ·rcases Zh.mp z with z | z
       ·exact nd.1 z
       ·have h:a=q:=by simpa using z
        exact qa h.symm
      ·subst z
       exact qF (by simpa [show x=q by simpa using hy] using hx)
     ·intro y hy
      rcases Zr.mp hy with rfl | hy
      ·exact .inl Zw
      ·rw [Z2] at hy
       rcases Zh.mp hy with hy | hy
       ·exact .inl (Zx _ hy)
       ·rw [show y=q by simpa using hy]
        exact .inr qH
   ·cases e
  ·cases e
end
end VS
end
section
namespace L2
open PySem PySem.Spec PyProof.Rows
theorem EG {X:Cx} {pins:Yz} {σ:St} {H:Hp} {s:Shared} {p:Addr} {kvs:List (bj×Addr×V)} (I:Inv X pins σ H s) (e:H p=some (DN p kvs)):s.TypeIs (.ref p) "dict" ∧ ∀ a,Value.ref p=.ref a->∃ ob,s.heap.get? a=some ob/\ob.dict=none:=by
 obtain ⟨⟨_,_,_,_,o,_,_,g,ex,_⟩,_⟩:=(show ba X.prog X.w H s.heap p (DN p kvs) from I.hok p _ e)
 refine ⟨⟨o,g,ex.1⟩,fun a e2=>?_⟩
 cases e2
 exact ⟨o,g,ex.2.1⟩
noncomputable def tyN (x:V) (H:Hp):Prop:=∃ p kvs,x=.ref p/\H p=some (DN p kvs)
noncomputable def FA (r:V->List V->Hp->VK->Prop) (to:TE) (t:TA):TE:=fun σ H Q=>to σ H fun x H1=>tyN x H1/\t σ H1 fun xs H2=>r x xs H2 Q
section
variable {X:Cx} {o e:Expr} {es:List Expr} {to:TE} {t:TA} {name:Str} {apos cpos:Pos} {id:String} {r:V->List V->Hp->VK->Prop}
theorem CC (slot:Slot "dict" name id) (hty:typeOf (.builtin id)=pure (.type "method_descriptor")) (hm:MtR X id r) (ho:PE X o to) (ha:PA X (e :: es) t)
  (hbase:attributeBase o name X.env (eval o X.env)=eval o X.env)
  (hfew:((backTo cpos (starEach (e :: es) X.env)).all (fun x=>!x.1) && (backToKw cpos (keywordEach [] X.env)).all (fun x=>x.1.isSome)
   && decide ((e :: es).length+([]:List Keyword).length+(if ([]:List Keyword).isEmpty then 0 else 1) < 30))=true)
  (hline:(apos.endLine == cpos.line)=true) (hs:starEach (e :: es) X.env=(false,eval e X.env) :: starEach es X.env) (hplain:(backTo cpos (starEach es X.env)).any (·.1)=false) :
  PE X (.Call (.Attribute o name apos) (e :: es) [] cpos) (FA r to t):=by
 intro pins s σ H Q I h
 refine wpAny_Call_method_late hbase hfew hline rfl (thn (ho pins s σ H _ I h) fun v s1 ⟨x,H1,I1,r1,⟨p,kvs,ex,hp⟩,q1⟩=>?_)
 subst ex
 obtain rfl:=(show v=Value.ref p from r1)
 obtain ⟨h1,h2⟩:=EG I1 hp
 have hA:=ha cpos pins s1 σ H1 _ I1 q1
 refine ⟨"dict",id,PySem.F.plainAttrs_dict,slot,hty,h1,h2,?_⟩
 rw [hs] at hA ⊢
 exact Calls.callWith_builtin (by show (false || (backTo cpos (starEach es X.env)).any (·.1))=false;rw [hplain];rfl) (WB (thn hA fun us s2 ⟨vs,H2,I2,r2,q2⟩=>hm pins s2 σ H2 (.ref p) vs _ us Q I2 rfl r2 q2))
end
end L2
namespace VS
open PySem PySem.Spec PyProof.Rows L2
noncomputable def nkI:T->Option Int
 | .int i=>some i
 | _=>none
noncomputable def nk1:T->Option (Vz)
 | .tup l=>l.mapM nkI
 | _=>none
noncomputable def ym:T->Option bj
 | .tup l=>l.mapM nk1
 | _=>none
theorem zh {t:T} {i:Int} (h:nkI t=some i):t=.int i:=by cases t <;> simp [nkI] at h;subst h;rfl
theorem lS {α β:Type} {f:α->Option β} {g:β->α} (h:∀ a b,f a=some b->a=g b):∀ {l:List α} {m:List β},l.mapM f=some m->l=m.map g
 | [],m,e=>by simp at e;subst e;rfl
 | a :: l,m,e=>by
  simp only [List.mapM_cons,Option.pure_def,Option.bind_eq_bind] at e
  obtain ⟨b,hb,e⟩:=Zz.mp e
  obtain ⟨bs,hbs,e⟩:=Zz.mp e
  cases e
  rw [Zu,← h a b hb,← lS h hbs]
theorem zp {t:T} {k:Vz} (h:nk1 t=some k):t=.tup (k.map T.int):=by
 cases t with
 | tup l=>exact congrArg T.tup (lS (fun a b=>zh) h)
 | _=>simp [nk1] at h
theorem yb {t:T} {k:bj} (h:ym t=some k):t=nkT k:=by
 cases t with
 | tup l=>exact congrArg T.tup (lS (fun a b=>zp) h)
 | _=>simp [ym] at h
section
variable {G:Gx} {X:Cx} {a b c e o tg:Expr} {es:List Expr} {ca cb cc ce ck cv:Ex} {cs:Exs} {pos p p1 p2 apos cpos pos' ap1 cp1 lp:Pos} {k k' kr i:Nat}
theorem RpL.ints {H:Hp}:∀ {k:Vz} {vs:List V} {Fs:Yk},RpL G H vs (k.map T.int) Fs->vs=k.map V.int
 | [],_,_,r=>by rw [YR] at r;cases r;rfl
 | i :: k,_,_,r=>by
  rw [Zu] at r
  cases r with
  | cons h t=>rw [Zu,← RpL.ints t,h.int_inv]
theorem Rp.tup_inv' {H:Hp} {v:V} {ts:Vu} {F:Xl} (r:Rp G H v (.tup ts) F):∃ b vs Fs,v=.ref b/\H b=some (.tup vs)/\RpL G H vs ts Fs:=by
 cases r with
 | tup h q=>exact ⟨_,_,_,rfl,h,q⟩
theorem B6 {H:Hp} {v:V} {k:bj} {F:Xl} (r:Rp G H v (nkT k) F):∃ b,v=.ref b/\NAt H k b:=by
 obtain ⟨b,vs,Fs,rfl,h,q⟩:=Rp.tup_inv' r
 have all:∀ {k:bj} {vs:List V} {Fs:Yk},RpL G H vs (k.map fun x=>T.tup (x.map T.int)) Fs->∃ cs:Xl,vs=cs.map V.ref/\Paired (fun (x:Vz) (c:Addr)=>H c=some (.tup (x.map V.int))) k cs:=by
  intro k
  induction k with
  | nil=>intro vs Fs q;rw [YR] at q;cases q;exact ⟨[],rfl,.nil⟩
  | cons x k ih =>
   intro vs Fs q
   rw [Zu] at q
   cases q with
   | cons h t =>
    obtain ⟨c,us,Gs,rfl,hc,qc⟩:=Rp.tup_inv' h
    obtain ⟨cs,e,pr⟩:=ih t
    rw [RpL.ints qc] at hc
    exact ⟨c :: cs,by rw [e];rfl,.cons hc pr⟩
 obtain ⟨cs,e,pr⟩:=all q
 exact ⟨b,rfl,cs,by rw [h,e],pr⟩
theorem mZ:∀ (x y:Vz),mI (x.map T.int) (y.map T.int)=decide (x=y)
 | [],[]=>rfl
 | [],_ :: _=>rfl
 | _ :: _,[]=>rfl
 | i :: x,j :: y=>by
  rw [Zu,Zu,mI,mZ x y]
  simp only [eqT,YF,Bool.decide_and]
  rfl
theorem lX:∀ (x y:bj),eqT (nkT x) (nkT y)=decide (x=y):=by
 intro x y
 unfold nkT
 rw [eqT]
 induction x generalizing y with
 | nil=>cases y <;> simp
 | cons i x ih =>
  cases y with
  | nil=>simp
  | cons j y =>
   rw [Zu,Zu,mI,ih y,eqT,mZ]
   simp only [YF,Bool.decide_and]
noncomputable abbrev kvN (ks:List (bj×Addr)) (vs:List V):List (bj×Addr×V):=(ks.zip vs).map fun p=>(p.1.1,p.1.2,p.2)
theorem lN {H:Hp} {k:bj}:∀ {ks:List (bj×Addr)} {vs:List V} {ts:Vu} {Fs:Yk},ks.length=vs.length->RpL G H vs ts Fs →
  (((ks.map fun p=>nkT p.1).zip ts).findIdx? (fun q=>eqT q.1 (nkT k))=none/\atN (kvN ks vs) k=none) ∨
  ∃ (j:Nat) (v:V) (t:T) (F:Xl),((ks.map fun p=>nkT p.1).zip ts).findIdx? (fun q=>eqT q.1 (nkT k))=some j/\(ks.map fun p=>nkT p.1)[j]?=some (nkT k)/\ts[j]?=some t/\atN (kvN ks vs) k=some v/\vs[j]?=some v/\Fs[j]?=some F/\Rp G H v t F
 | [],[],_,_,_,.nil=>.inl ⟨rfl,rfl⟩
 | k' :: ks,v :: vs,_,_,hl,.cons (t:=t) (F:=F) (ts:=ts) (Fs:=Fs) r q=>by
  by_cases hk:k'.1=k
  ·refine .inr ⟨0,v,t,F,?_,by simp [hk],rfl,by simp [atN,kvN,hk],rfl,rfl,r⟩
   rw [Zu,ZG,Yh,Zq (by rw [lX];exact decide_eq_true hk)]
  ·have e1:((((k' :: ks).map fun p=>nkT p.1).zip (t :: ts)).findIdx? fun q=>eqT q.1 (nkT k))=((((ks.map fun p=>nkT p.1).zip ts)).findIdx? fun q=>eqT q.1 (nkT k)).map (·+1):=by
    rw [Zu,ZG,Yh,Zn (by rw [lX];simp [hk])]
   have e2:atN (kvN (k' :: ks) (v :: vs)) k=atN (kvN ks vs) k:=by simp [atN,kvN,hk]
   rcases lN (k:=k) (by simpa using hl) q with ⟨h1,h2⟩ | ⟨j,v',t',F',h1,h2,h3,h4,h5,h6,h7⟩
   ·exact .inl ⟨by rw [e1,h1];rfl,by rw [e2];exact h2⟩
   ·exact .inr ⟨j+1,v',t',F',by rw [e1,h1];rfl,by simpa using h2,by simpa using h3,by rw [e2];exact h4,by simpa using h5,by simpa using h6,h7⟩
theorem p7 {H:Hp} {v:V} {l:List (T×T)} {F:Xl} (r:Rp G H v (.dct 2 l) F):∃ (a:Addr) (ks:List (bj×Addr)) (vs:List V) (ts:Vu) (Fs:Yk),v=.ref a/\F=a :: Fs.flatten/\H a=some (DN a (kvN ks vs))/\ks.length=vs.length/\(∀ p∈ks,NAt H p.1 p.2)/\l=(ks.map fun p=>nkT p.1).zip ts/\RpL G H vs ts Fs:=by
 cases r with
 | dctN h hl n q=>exact ⟨_,_,_,_,_,rfl,rfl,h,hl,n,rfl,q⟩
theorem kX {H:Hp} {ks:List (bj×Addr)} {vs:List V} (h:∀ p∈ks,NAt H p.1 p.2):∀ p∈kvN ks vs,NAt H p.1 p.2.1:=fun p hp=>by
 obtain ⟨q,hq,rfl⟩:=Yv.mp hp
 exact h q.1 (Wi (a:=q.1) (b:=q.2) hq).1
noncomputable def bK (l:List (T×T)) (k:T):List (T×T):=if (l.findIdx? fun p=>eqT p.1 k).isSome then l else l++[(k,.lst [])]
noncomputable def qu (f:T->Option (T×Val)) (l:List (T×T)) (k:T):Option (List (T×T)):=(l.findIdx? fun p=>eqT p.1 k).bind fun j=>(l[j]?).bind fun p=>(f p.2).map fun z=>l.set j (p.1,z.1)
noncomputable def gD (i:Nat) (k:Ex) (v:Exs) (η:VS.Env):Option Out:=match η[i]? with
 | some (some (.ow (.dct 2 l)))=>(k η).bind fun kv=>if (ym kv.2).isSome/\l.length < g9 then
   (v (η.set i (some (.ow (.dct 2 (bK l kv.2)))))).bind fun vv=>(qu (fun x=>bg x vv) (bK l kv.2) kv.2).map fun z=>.nx (η.set i (some (.ow (.dct 2 z)))) else none
 | _=>none
theorem uU (i:Nat) {x:Str} (hr:Room kr X.A) (hk:PV G X b ck) (hv:PVs G X [e] cs) (hK:X.K=G.K) (hN:X.N[i]?=some x) (hvis:Vis X.env.scope x) (hd:(x == ("__debug__" : Str))=false) (hcd:(x == ("__classdict__" : Str))=false)
  (hb1:attributeBase (.Name x p1) "setdefault" X.env (eval (.Name x p1) X.env)=eval (.Name x p1) X.env)
  (hf1:((backTo cp1 (starEach [b,.List [] lp] X.env)).all (fun x=>!x.1) && (backToKw cp1 (keywordEach [] X.env)).all (fun x=>x.1.isSome)
   && decide ([b,Expr.List [] lp].length+([]:List Keyword).length+(if ([]:List Keyword).isEmpty then 0 else 1) < 30))=true)
  (hl1:(ap1.endLine == cp1.line)=true) (hs1:starEach [b,.List [] lp] X.env=(false,eval b X.env) :: starEach [.List [] lp] X.env) (hs1':starEach [.List [] lp] X.env=(false,eval (.List [] lp) X.env) :: starEach [] X.env) (hp1:(backTo cp1 (starEach [.List [] lp] X.env)).any (·.1)=false)
  (hb2:attributeBase (.Call (.Attribute (.Name x p1) "setdefault" ap1) [b,.List [] lp] [] cp1) "append" X.env (eval (.Call (.Attribute (.Name x p1) "setdefault" ap1) [b,.List [] lp] [] cp1) X.env)=eval (.Call (.Attribute (.Name x p1) "setdefault" ap1) [b,.List [] lp] [] cp1) X.env)
  (hf2:((backTo cpos (starEach [e] X.env)).all (fun x=>!x.1) && (backToKw cpos (keywordEach [] X.env)).all (fun x=>x.1.isSome)
   && decide ([e].length+([]:List Keyword).length+(if ([]:List Keyword).isEmpty then 0 else 1) < 30))=true)
  (hl2:(apos.endLine == cpos.line)=true) (hs2:starEach [e] X.env=(false,eval e X.env) :: starEach [] X.env) (hp2:(backTo cpos (starEach [] X.env)).any (·.1)=false)
  (hsw:swapsWith (.Call (.Attribute (.Call (.Attribute (.Name x p1) "setdefault" ap1) [b,.List [] lp] [] cp1) "append" apos) [e] [] cpos) none pos.line X.env=pure false) :
  PSV G X (.Expr (.Call (.Attribute (.Call (.Attribute (.Name x p1) "setdefault" ap1) [b,.List [] lp] [] cp1) "append" apos) [e] [] cpos) pos) (gD i ck cs) :=
 PS.weak (jx (tu Wq Wx Wy iL
  (CC Xw PySem.F.type_dict_setdefault (qV (by have:=hr.un;lia)) (gu hN hvis hd hcd) (de hk (de (n9 fI) fI hs1') hs1) hb1 hf1 hl1 hs1 hp1) hv hb2 hf2 hl2 hs2 hp2) hsw) fun D σ H hq=>by
  obtain ⟨Φ,η,out,s,e,k⟩:=hq
  refine L2.gC fun P_ k_=>?_
  unfold gD at e
  split at e
  ·rename_i l hl
   obtain ⟨⟨mk,tk⟩,ekk,e⟩:=Zz.mp e
   split at e
   ·rename_i hc
    obtain ⟨c1,c2⟩:=hc
    obtain ⟨lv,ev,e⟩:=Zz.mp e
    obtain ⟨t',e5,e6⟩:=Zo.mp e
    cases e6
    obtain ⟨kk,ek1⟩:=Ww.mp c1
    dsimp only at ek1
    have etk:=yb ek1
    subst etk
    obtain ⟨v,g1,g2⟩:=s.rp _ _ hl
    have nd0:=s.nd i _ hl
    obtain ⟨a,ns,vs,ts,Fs,rfl,eΦ,ha,hln,hat,el,ra⟩:=p7 g2
    subst el
    rw [eΦ] at nd0
    refine k_ ?_
    refine ⟨.ref a,g1,⟨a,_,rfl,ha⟩,?_⟩
    refine ⟨Φ,η,mk,nkT kk,s,ekk,fun kv H1 Fk sm1 rk fk=>⟨ZU _,fun q hq=>?_⟩⟩
    obtain ⟨kb,rfl,hkb⟩:=B6 rk
    dsimp only at ekk e5 ev c1
    have fin:∀ (H3:Hp) (ns3:List (bj×Addr)) (vs3:List V) (ts3:Vu) (Fs3:Yk) (w:V),bK ((ns.map fun p=>nkT p.1).zip ts) (nkT kk)=(ns3.map fun p=>nkT p.1).zip ts3->Chg G H (.ref a) (Φ i) (.dct 2 (bK ((ns.map fun p=>nkT p.1).zip ts) (nkT kk))) H3 (a :: Fs3.flatten) →
      H3 a=some (DN a (kvN ns3 vs3))->ns3.length=vs3.length->(∀ p∈ns3,NAt H3 p.1 p.2)->RpL G H3 vs3 ts3 Fs3->atN (kvN ns3 vs3) kk=some w →
      tyV X.K "list" w H3/\tEs G cs σ H3 (fun vs2 H4=>kQ w vs2 H4 (fun _ H5=>D.nx σ H5)):=fun H3 ns3 vs3 ts3 Fs3 w es g h3 hl3 hn3 ra3 hw=>by
     refine L2.gC fun P_ k_=>?_
     obtain ⟨z1,z2⟩:=s.mut hl g1 g
     have hset:(η.set i (some (.ow (.dct 2 (bK ((ns.map fun p=>nkT p.1).zip ts) (nkT kk))))))[i]?=some (some (.ow (.dct 2 (bK ((ns.map fun p=>nkT p.1).zip ts) (nkT kk))))):=by
      have hi:i < η.length:=(Zb.mp hl).1
      rw [Yc hi]
     rcases lN (G:=G) (k:=kk) hl3 ra3 with ⟨_,h2⟩ | ⟨j,w',x',F1,h1,h2,h4,h5,h6,h7,h8⟩
     ·rw [h2] at hw;cases hw
     rw [h5] at hw
     obtain rfl:=ZK hw
     rw [es] at e5
     unfold qu at e5
     rw [h1,Zk,show ((ns3.map fun p=>nkT p.1).zip ts3)[j]?=some (nkT kk,x') from by rw [X5];exact ⟨h2,h4⟩,Zk] at e5
     obtain ⟨⟨x3,y'⟩,w4,e7⟩:=Zo.mp e5
     have nd3:F1.Nodup:=((ZJ.mp g.nd).2).sublist (gy h7)
     refine k_ ?_
     refine ⟨by rw [hK];exact iq h8 w4,hJ Φ i (a :: Fs3.flatten),_,lv,z1,ev,fun vs2 H4 Fs2 q1 q2 q3=>?_⟩
     refine j9 (hJ Φ i (a :: Fs3.flatten)) _ H3 H4 w' x' x3 F1 lv vs2 Fs2 y' _ h8 nd3 ⟨q1,q2,q3⟩ w4 fun u H5 F' g5=>?_
     obtain ⟨s1,s2,s3,s4,s5⟩:=tm h3 ra3 g.nd h6 h7 g5
     have g6:Chg G H3 (.ref a) (hJ Φ i (a :: Fs3.flatten) i) (.dct 2 t') H5 (a :: (Fs3.set j F').flatten):=by
      rw [fX]
      refine ⟨g5.kept,s5,g5.dom,?_,s3,s4⟩
      rw [← e7,oq _ ts3 j _ x3 h2]
      exact .dctN s1 hl3 (fun p hp=>(hn3 p hp).mono g5.kept.tup) s2
     obtain ⟨y1,y2⟩:=z1.mut hset g1 g6
     rw [List.set_set] at y1 y2
     exact k _ σ H5 y1 (z2.trans y2)
    have sm2:aU H1 (upd H1 q (.lst [])):=dw hq
    have sm:aU H (upd H1 q (.lst [])):=sm1.trans sm2
    have ha2:upd H1 q (.lst []) a=some (DN a (kvN ns vs)):=sm a _ ha
    have hat2:∀ p∈ns,NAt (upd H1 q (.lst [])) p.1 p.2:=fun p hp=>(hat p hp).mono fun b xs z=>sm b _ z
    have hkb2:NAt (upd H1 q (.lst [])) kk kb:=hkb.mono fun b xs z=>sm2 b _ z
    have ln:(kvN ns vs).length < sizeLine:=by
     have:((ns.map fun p=>nkT p.1).zip ts).length < 16777216:=c2
     rw [Ye,Zt] at this
     rw [Zt,Ye]
     have:=ra.len.1
     have:(sizeLine:Nat)=16777216:=rfl
     lia
    have dg:=lN (G:=G) (k:=kk) hln ra
    refine ⟨a,kb,kvN ns vs,kk,.ref q,rfl,rfl,ha2,kX hat2,hkb2,ln,fun w hw=>?_,fun hn=>?_⟩
    ·have es:bK ((ns.map fun p=>nkT p.1).zip ts) (nkT kk)=(ns.map fun p=>nkT p.1).zip ts:=by
      unfold bK
      rcases dg with ⟨h1,h2⟩ | ⟨_,_,t2,_,h1,_⟩
      ·rw [h2] at hw;cases hw
      ·rw [h1];rfl
     refine fin _ ns vs ts Fs w es ?_ ha2 hln hat2 (ra.same sm) hw
     rw [es,eΦ]
     exact Chg.none sm (by rw [eΦ] at g2;exact g2) nd0
    ·have es:bK ((ns.map fun p=>nkT p.1).zip ts) (nkT kk)=((ns++[(kk,kb)]).map fun p=>nkT p.1).zip (ts++[.lst []]):=by
      unfold bK
      rcases dg with ⟨h1,h2⟩ | ⟨_,_,t2,_,h1,_,_,h2,_⟩
      ·rw [h1,Zn (by simp),Ym,Xb (by rw [Zt];exact hln.trans ra.len.1)]
       rfl
      ·rw [h2] at hn;cases hn
     have ep:kvN ns vs++[(kk,kb,.ref q)]=kvN (ns++[(kk,kb)]) (vs++[.ref q]):=by
      unfold kvN
      rw [Xb hln,Ym]
      rfl
     have qa:q ≠ a:=fun z=>by
      have:H1 a=some (DN a (kvN ns vs)):=sm1 a _ ha
      rw [← z,hq] at this
      cases this
     have qH:H q=none:=sm1.free hq
     have m2:Mut (upd H1 q (.lst []) a):=by rw [ha2];exact True.intro
     have nd:=ZJ.mp nd0
     have qF:q ∉ Fs.flatten:=fun z=>Mut.ne_none (ra.dom q z) qH
     rw [ep]
     have h3q:upd (upd H1 q (.lst [])) a (DN a (kvN (ns++[(kk,kb)]) (vs++[.ref q]))) q=some (.lst []):=by rw [aw qa,aH]
     have rq:Rp G (upd (upd H1 q (.lst [])) a (DN a (kvN (ns++[(kk,kb)]) (vs++[.ref q])))) (.ref q) (.lst []) (q :: ([]:Yk).flatten):=.lst h3q .nil
     have kp:Kept (upd H1 q (.lst [])) (upd (upd H1 q (.lst [])) a (DN a (kvN (ns++[(kk,kb)]) (vs++[.ref q])))):=Kept.upd (.inl m2)
     have ln2:(ns++[(kk,kb)]).length=(vs++[V.ref q]).length:=by simp [hln]
     have hat3:∀ p∈ns++[(kk,kb)],NAt (upd (upd H1 q (.lst [])) a (DN a (kvN (ns++[(kk,kb)]) (vs++[.ref q])))) p.1 p.2:=fun p hp=>by
      rcases Zh.mp hp with hp | hp
      ·exact (hat2 p hp).mono kp.tup
      ·rw [Zg.mp hp];exact hkb2.mono kp.tup
     have ra3:=((ra.same sm).off (o:=DN a (kvN (ns++[(kk,kb)]) (vs++[.ref q]))) m2 nd.1).append (.cons rq .nil)
     refine fin _ (ns++[(kk,kb)]) (vs++[.ref q]) (ts++[.lst []]) (Fs++[[q]]) (.ref q) es ?_ aH ln2 hat3 ra3 ?_
     ·rw [es,eΦ]
      refine Chg.upd sm Zw m2 (.dctN aH ln2 hat3 ra3) ?_ ?_
      ·rw [Z2]
       refine ZJ.mpr ⟨fun z=>?_,ZD.mpr ⟨nd.2,by simp,fun x hx y hy z=>?_⟩⟩
       ·rcases Zh.mp z with z | z
        ·exact nd.1 z
        ·have h:a=q:=by simpa using z
         exact qa h.symm
       ·subst z
        exact qF (by simpa [show x=q by simpa using hy] using hx)
      ·intro y hy
       rcases Zr.mp hy with rfl | hy
       ·exact .inl Zw
       ·rw [Z2] at hy
        rcases Zh.mp hy with hy | hy
        ·exact .inl (Zx _ hy)
        ·rw [show y=q by simpa using hy]
         exact .inr qH
     ·rw [← ep]
      unfold atN at hn ⊢
      rw [List.find?_append,Option.map_eq_none_iff.mp hn]
      simp
   ·cases e
  ·cases e
end
end VS
end
section
namespace L2
open PySem PySem.Spec PyProof.Rows
section
variable {X:Cx} {tg:Expr} {pos:Pos}
noncomputable def CB:TE:=fun _ H Q=>∀ p,H p=none->Q (.ref p) (upd H p (DN p []))
theorem yc:PE X (.Dict [] [] pos) CB:=fun pins s σ H Q I h =>
 wpAny_Dict_empty ⟨.ref s.heap.objs.size,_,I.laid (a:=s.heap.objs.size) (o:=DN s.heap.objs.size []) (t':=s.toks) (fun _ _ q=>Ze _ q) (Zp _)
  (vo (xs:=[]) (ZU _) (beq_eq_false_iff_ne.mpr (YI (Z0 I.big))) .nil (Heap.DictOfH.new s.heap)),rfl,h _ (I.hok.fresh (Zp _))⟩
theorem oD {pins:Yz} {σ:St} {H:Hp} {s:Shared} {d:Addr} {kvs:List (bj×Addr×V)} {o:Obj} (I:Inv X pins σ H s) (e:H d=some (DN d kvs)) (g:s.heap.get? d=some o):Inv X pins σ (upd H d (.frz o (DN d kvs))) s :=
 iE (t':=s.toks) I (by rw [e];exact True.intro) ⟨rfl,fun _ _=>rfl⟩ ⟨o,g⟩ ⟨g,I.hok d _ e⟩
noncomputable def Itn (d:Addr) (o:Obj) (kvs:List (bj×Addr×V)):It :=
 ⟨fun i H=>H d=some (.frz o (DN d kvs))/\i < kvs.length,fun i H x H'=>H'=H/\∃ p,kvs[i]?=some p/\x=.ref p.2.1,fun i H=>H d=some (.frz o (DN d kvs))/\kvs.length<=i⟩
theorem KN.get {l:List (bj×Addr×V)} {m:List (bj×Addr×Value)} (r:KN l m) {i:Nat} {q:bj×Addr×Value} (h:m[i]?=some q):∃ p,l[i]?=some p/\p.1=q.1/\p.2.1=q.2.1:=by
 induction r generalizing i with
 | nil=>simp at h
 | @cons p' q' ps qs hq t ih =>
  cases i with
  | zero=>simp at h;subst h;exact ⟨p',rfl,hq.1,hq.2.1⟩
  | succ i=>simpa using ih (by simpa using h)
theorem KN.keys {l:List (bj×Addr×V)} {m:List (bj×Addr×Value)} (r:KN l m):l.map (·.1)=m.map (·.1):=by
 induction r with
 | nil=>rfl
 | cons hq _ ih=>rw [Zu,Zu,hq.1,ih]
theorem C1 {P:Program} {w:World} {K:Xy} (d it:Addr) {kvs:List (bj×Addr×V)} {es:Array DictEntry} {ep:Nat} {xs:List (bj×Addr×Value)} (rel:KN kvs xs) (he:es.toList=xs.map ES) :
  Turn P w K tg (Itn d (ST.dO es ep) kvs) [it] it (fun i h=>h.get? it=some (ST.kO d i es.size ep)) where
 mem:=by simp
 obj:=fun i h st b hb=>by
  rw [Zg.mp hb]
  exact ⟨_,st,fun v z=>by cases z⟩
 keep:=fun i h h' st k=>k it (by simp) _ st
 item:=by
  intro X hP hw hK hc i pins s σ H E I hf st hg
  subst hP hw hK
  obtain ⟨f0,f1,f2,f3,f4,f5⟩:=hf it (by simp)
  refine ST.pG (I.ok.hd hc) st (show s.heap.get? d=some (ST.dO es ep) from (I.hok d _ hg.1).1) (fun e hi h' sb g=>?_) fun hn=>?_
  ·have I1:Inv X pins σ H { s with heap:=h' }:=I.turned (t':=s.toks) (fun b o hb e=>(sb.2 b hb).trans e) f0 f1 f3 f4 f5
   rw [← Z8,he,Z1] at hi
   obtain ⟨q,hq,rfl⟩:=Zo.mp hi
   obtain ⟨p,hp,_,hb⟩:=rel.get hq
   exact ⟨_,rfl,qy (s:={ s with heap:=h' }) g rfl rfl rfl ⟨.ref p.2.1,H,I1,by rw [hb];rfl,⟨rfl,p,hp,rfl⟩,g,fun b hb=>(hf b hb).1⟩⟩
  ·exfalso
   rw [← Z8,he,YM,Zt,← rel.length] at hn
   exact absurd hg.2 (by exact W3 hn)
 done:=by
  intro X hP hw hK hc i pins s σ H E I hf st hg
  subst hP hw hK
  obtain ⟨f0,f1,f2,f3,f4,f5⟩:=hf it (by simp)
  refine ST.pG (I.ok.hd hc) st (show s.heap.get? d=some (ST.dO es ep) from (I.hok d _ hg.1).1) (fun e hi h' sb g=>?_) fun hn h' kp=>⟨rfl,I.turned (t':=s.toks) (fun b o hb e=>kp b o hb e) f0 f1 f3 f4 f5⟩
  exfalso
  rw [← Z8,he,Z1] at hi
  obtain ⟨q,hq,rfl⟩:=Zo.mp hi
  have:=(Zb.mp hq).1
  have h2:=hg.2
  rw [rel.length] at h2
  lia
 self:=fun _ _ _ _ _ st hQ=>wpAny_pyIter_slot ⟨_,st,rfl⟩ F.slot_dict_keyiterator_iter (XZ F.slot_dict_keyiterator_iter ⟨_,st,rfl⟩ F.entry_dict_keyiterator_iter (show wpAny _ _ (ret (.ref it)) _ _ _ from Zs ⟨_,rfl, "dict_keyiterator",_,⟨_,st,rfl⟩,Xo.lookup,hQ⟩) (F.args_dict_keyiterator_iter_1 _))
noncomputable def iDn (tl:TE):TI:=fun σ H R=>tl σ H fun x H1=>∃ d kvs,x=.ref d/\H1 d=some (DN d kvs)/\∀ o,kvs.length<=sizeLine->(kvs.map (·.1)).Nodup->R (Itn d o kvs) (upd H1 d (.frz o (DN d kvs)))
theorem xN {o:Obj} {es:Array DictEntry} {ep:Nat} (h:o.ExactDict) (e:o.data=.dict es ep):o=ST.dO es ep:=by
 obtain ⟨c,d,dt,sl⟩:=o
 obtain ⟨h1,h2,h3⟩:=h
 simp only at h1 h2 h3 e
 subst h1 h2 h3 e
 rfl
theorem EJ {l:Expr} {tl:TE} (hl:PE X l tl):PI X tg l (iDn tl):=by
 intro pins s σ H R I h
 refine thn (hl pins s σ H _ I h) fun v s1 ⟨x,H1,I1,r1,q1⟩=>?_
 obtain ⟨d,kvs,ex,e,q⟩:=q1
 subst ex
 cases r1
 obtain ⟨⟨z,y,xs,rel,o,es,ep,g,ex,hd,he,hn⟩,_⟩:=(show ba X.prog X.w H1 s1.heap d (DN d kvs) from I1.hok d _ e)
 have eo:=xN ex hd
 subst eo
 refine ST.yf y g ?_
 refine ⟨s1.heap.objs.size,[s1.heap.objs.size],_,_,_,rfl,(oD I1 e g).kept (t':=s1.toks) fun b o e=>Ze _ e,C1 d _ rel he,ZM _ rfl,fun b hb=>?_,q _ z (by rw [rel.keys];exact hn)⟩
 have eb:b=s1.heap.objs.size:=by simpa using hb
 subst eb
 exact (oD I1 e g).fpOk (Zp _) ((oD I1 e g).hok.fresh (Zp _))
noncomputable def FP:R2:=fun x y H Q=>∃ d o kvs k b v,x=.ref d/\y=.ref b/\H d=some (.frz o (DN d kvs))/\(∀ p∈kvs,NAt H p.1 p.2.1)/\NAt H k b/\atN kvs k=some v/\Q v H
theorem FM (hu:X.A.units+2 < cLine):IxR X FP:=by
 intro value slice pins s σ H x y v u Q I rx ry h hs
 obtain ⟨d,o,kvs,k,b,w,rfl,rfl,e,hks,hk,hw,q⟩:=h
 cases rx
 obtain rfl:=(show u=Value.ref b from ry)
 obtain ⟨g,ok⟩:=(show ba X.prog X.w H s.heap d (.frz o (DN d kvs)) from I.hok d _ e)
 obtain ⟨⟨z,y,xs,rel,o',es,ep,h1,h2,h3,h4,h5⟩,_⟩:=(show ba X.prog X.w H s.heap d (DN d kvs) from ok)
 have all:∀ {l:List (bj×Addr×V)} {m:List (bj×Addr×Value)},KN l m->(∀ p∈l,NAt H p.1 p.2.1)->∀ x∈m,NK.IsN (intKind X.prog X.w) s.heap x.1 x.2.1:=by
  intro l m q
  induction q with
  | nil=>intro _ x hx;exact nomatch hx
  | @cons p q ps qs hq t ih =>
   intro hl x hx
   rcases Zr.mp hx with e | hx
   ·subst e
    rw [← hq.1,← hq.2.1]
    exact (hl p Zw).is I.hok
   ·exact ih (fun p hp=>hl p (Zx _ hp)) x hx
 have dd:s.heap.DictOfH (NK.nest (intKind X.prog X.w)) d xs:=⟨o',es,ep,h1,h2,h3,h4,fun x hx=>all rel hks x hx,h5⟩
 have hT:=dd.typeIs
 have hat:=rel.at k
 rw [hw] at hat
 obtain ⟨pv,hp,rp⟩:∃ pv,atKey xs k=some pv/\RelV w pv.2:=by
  cases hz:atKey xs k with
  | none=>rw [hz] at hat;exact False.elim hat
  | some pv=>rw [hz] at hat;exact ⟨pv,rfl,hat⟩
 unfold subscriptTail
 refine Zy ?_
 rw [getitemInPython_of_ne hT.not_modules]
 refine Zy (Xq hT PySem.F.slot_dict_getitem.lookup ?_)
 have fin:wpAny (model X.prog X.w) X.A (subscripted slice false (.ref d) (.ref b)) (fun r s₃=>wpAny (model X.prog X.w) X.A (letTemporaryGo value (.ref d) r >>= fun _=>pure r) (EP X pins σ Q) X.xe s₃) X.xe s:=by
  rw [hs]
  exact wpAny_operating (wpAny_getItem_heap (knd:=NK.nest (intKind X.prog X.w)) (by show X.A.units+1+1 < cLine;omega) (hk.is I.hok) dd hp (Zy (wpAny_letTemporaryGo (Zs ⟨w,H,I.tok _,rp,q⟩))))
 first
  | exact Zs (Zy fin)
  | exact Zy (Zs (Zy fin))
  | exact Zy fin
theorem BE {kvs:List (bj×Addr×V)}:∀ {i:Nat} {p:bj×Addr×V},(kvs.map (·.1)).Nodup->kvs[i]?=some p->atN kvs p.1=some p.2.2:=by
 induction kvs with
 | nil=>intro i p _ h;simp at h
 | cons x l ih =>
  intro i p hn h
  rw [Zu,ZJ] at hn
  cases i with
  | zero=>simp at h;subst h;simp [atN]
  | succ i =>
   have h':l[i]?=some p:=by simpa using h
   have ne:x.1 ≠ p.1:=fun e=>hn.1 (by rw [e];exact Yv.mpr ⟨p,Y0 h',rfl⟩)
   have:=ih hn.2 h'
   unfold atN at this ⊢
   rw [Z6,ZL ne]
   exact this
end
end L2
namespace VS
open PySem PySem.Spec PyProof.Rows L2
section
variable {G:Gx} {X:Cx} {pos p p1 p2 p3 p4 spos:Pos} {kr i:Nat} {sc:Scope}
theorem AD:PV G X (.Dict [] [] pos) (kg 2 []):=PE.weak yc fun σ H Q hq=>by
 obtain ⟨Φ,η,m,t,s,e,k⟩:=hq
 cases (show some (Md.fr,T.dct 2 [])=some (m,t) from e)
 intro q hq
 have:Rp G (upd H q (DN q [])) (.ref q) (.dct 2 ((([]:List (bj×Addr)).map fun p=>nkT p.1).zip [])) (q :: ([]:Yk).flatten):=.dctN (vs:=[]) aH rfl (fun p hp=>by simp at hp) .nil
 exact k _ _ [q] (dw hq) this ⟨by simp,fun b hb=>by rw [Zg.mp hb];exact hq⟩
noncomputable def jH (i:Nat) (η:VS.Env):Option Out:=match η[i]? with
 | some (some (.ow (.dct 2 l)))=>some (.rt (.fr,.lst (l.map (·.2))) (η.set i none))
 | _=>none
theorem tN (i:Nat) (N:List Str) {x y:Str} (hr:Room kr X.A) (hcalm:X.calm=true) (hN:X.N[i]?=some x) (hv:Vis X.env.scope x) (hd:(x == ("__debug__" : Str))=false) (hcd:(x == ("__classdict__" : Str))=false)
  (hin:∀ cl C s H fp,PG (bx X N sc cl C s H fp) (.Name y p3) (pQ 0)/\PE (bx X N sc cl C s H fp) (.Name x p1) (uG (i+1))/\PE (bx X N sc cl C s H fp) (.Name y p2) (uG 0)/\(bx X N sc cl C s H fp).A.units=X.A.units)
  (hix:gQ (.Name y p2)) (hsc:lM X.env sc=true) (hnm:jv sc (N.drop 1) X.N=true) (hNl:1<=N.length) (hs:∀ z,foldedSetIterable (.Name x p4) X.env z=pure z) :
  PSV G X (.Return (some (.ListComp (.Subscript (.Name x p1) (.Name y p2) p) [⟨.Name y p3,.Name x p4,[],0⟩] sc pos)) spos) (jH i) :=
 PS.weak (nR (og (k:=1) hcalm (EJ (gu hN hv hd hcd)) hsc hnm hNl (fun cl C s H fp=>⟨(hin cl C s H fp).1,ph,vP (FM (by have:=hr.un;rw [(hin cl C s H fp).2.2.2];lia)) (hin cl C s H fp).2.1 (hin cl C s H fp).2.2.1 hix⟩) hs)) fun D σ H hq=>by
  obtain ⟨Φ,η,out,s,e,k⟩:=hq
  refine L2.gC fun P_ k_=>?_
  unfold jH at e
  split at e
  ·rename_i l hl
   cases e
   obtain ⟨v,g1,g2⟩:=s.rp _ _ hl
   have nd0:=s.nd i _ hl
   obtain ⟨a,ns,vs,ts,Fs,rfl,eΦ,ha,hln,hat,el,ra⟩:=p7 g2
   subst el
   rw [eΦ] at nd0
   have nd:=ZJ.mp nd0
   refine k_ ?_
   refine ⟨.ref a,g1,a,kvN ns vs,rfl,ha,fun o hz hnd Dn hD=>?_⟩
   have mu:Mut (H a):=by rw [ha];exact True.intro
   have aD:Dn ≠ a:=fun z=>by rw [z,aH] at hD;cases hD
   have HD:H Dn=none:=by rw [aw aD] at hD;exact hD
   have kp:∀ ys,Kept H (upd (upd H a (.frz o (DN a (kvN ns vs)))) Dn (.lst ys)):=fun ys=>(Kept.upd (.inl mu)).trans (Kept.upd (.inr hD))
   refine ⟨fun j m σ' H'=>m+j=(kvN ns vs).length/\(∃ c,σ'=c :: σ)/\H'=upd (upd H a (.frz o (DN a (kvN ns vs)))) Dn (.lst (((kvN ns vs).take j).map (·.2.2))),⟨(kvN ns vs).length,rfl,⟨none,rfl⟩,rfl⟩,?_⟩
   rintro j m σ' H' ⟨hm,⟨c,rfl⟩,rfl⟩
   have hfz:∀ ys,upd (upd H a (.frz o (DN a (kvN ns vs)))) Dn (.lst ys) a=some (.frz o (DN a (kvN ns vs))):=fun ys=>by rw [aw (YI aD),aH]
   by_cases hj:j < (kvN ns vs).length
   ·refine .inr ⟨⟨hfz _,hj⟩,?_⟩
    rintro x' H2 ⟨rfl,q,hq,rfl⟩
    refine ⟨.ref a,?_,.ref q.2.1,?_,a,o,kvN ns vs,q.1,q.2.1,q.2.2,rfl,rfl,hfz _,fun r hr=>(kX hat r hr).mono (kp _).tup,(kX hat q (Y0 hq)).mono (kp _).tup,BE hnd hq,?_⟩
    ·show (σ:L2.St)[i]?=_
     exact g1
    ·rfl
    ·refine ⟨_,aH,?_,m - 1,by omega,by lia,⟨_,rfl⟩,?_⟩
     ·rw [Zt,ZS];lia
     ·rw [yp,List.take_add_one,hq,Ym]
      rfl
   ·have ej:(kvN ns vs).take j=kvN ns vs:=Z5 (by exact Xj hj)
    refine .inl ⟨⟨hfz _,by exact Xj hj⟩,?_⟩
    rw [ej]
    have ev:(kvN ns vs).map (·.2.2)=vs:=by
     unfold kvN
     rw [YK]
     exact W7 (Wk hln.symm)
    have et:((ns.map fun p=>nkT p.1).zip ts).map (·.2)=ts:=W7 (by rw [Zt,hln,ra.len.1];exact Zp _)
    rw [ev]
    have nF:∀ b∈Fs.flatten,b ≠ a/\b ≠ Dn:=fun b hb=>⟨fun z=>nd.1 (z ▸ hb),fun z=>Mut.ne_none (ra.dom b hb) (z ▸ HD)⟩
    have Da:∀ b,H b ≠ none->b ≠ Dn:=fun b h z=>h (z ▸ HD)
    have ai:bZ Φ η a:=⟨i,_,hl,by rw [eΦ];exact Zw⟩
    have sub:∀ b,bZ Φ (η.set i none) b->bZ Φ η b/\b ≠ a:=fun b ⟨j,t,h1,h2⟩=>⟨⟨j,t,(bY h1).2,h2⟩,fun z=>by
     subst z
     exact s.sep i j _ _ hl (bY h1).2 (bY h1).1.symm b (by rw [eΦ];exact Zw) h2⟩
    have subp:∀ b,dE Φ (η.set i none) b->dE Φ η b/\b ≠ a:=fun b ⟨j,t,h1,h2⟩=>⟨⟨j,t,(bY h1).2,h2⟩,fun z=>by
     subst z
     exact s.sep i j _ _ hl (bY h1).2 (bY h1).1.symm b (by rw [eΦ];exact Zw) h2⟩
    have dmo:∀ b,bZ Φ η b->H b ≠ none:=fun b hq=>by
     obtain ⟨j,t,h1,h2⟩:=hq
     obtain ⟨v',_,r'⟩:=s.rp _ _ h1
     exact Mut.ne_none (r'.dom b h2)
    have dmp:∀ b,dE Φ η b->H b ≠ none:=fun b hq=>by
     obtain ⟨j,t,h1,h2⟩:=hq
     obtain ⟨v',_,r'⟩:=s.rp _ _ h1
     exact Mut.ne_none (r'.dom b h2)
    rw [et] at k
    refine k (.ref Dn) _ (Dn :: Fs.flatten) Φ σ (SR.off (SR.off (s.drop i) (.inl mu) (fun z=>(subp a z).2 rfl) fun z=>(sub a z).2 rfl) (.inr hD) (fun z=>dmp _ (subp _ z).1 HD) fun z=>dmo _ (sub _ z).1 HD) ⟨fun b ob h n=>⟨?_,fun z=>n (sub b z).1⟩,fun b h=>?_,fun b z=>.inl (sub b z).1,fun b z=>.inl (subp b z).1,kp _⟩ (.lst aH (ra.keep (kp _) fun b hb ob h=>?_)) ⟨ZJ.mpr ⟨fun z=>(nF Dn z).2 rfl,nd.2⟩,fun b hb=>?_⟩
    ·have h1:b ≠ a:=fun z=>n (z ▸ ai)
     have h2:b ≠ Dn:=Da b (by rw [h];simp)
     rw [aw h2,aw h1]
     exact h
    ·rw [aw (Da b h)]
     by_cases z:b=a
     ·rw [z,aH];simp
     ·rw [aw z];exact h
    ·rw [aw (nF b hb).2,aw (nF b hb).1]
     exact h
    ·rcases Zr.mp hb with rfl | hb
     ·exact .inl HD
     ·exact .inr ⟨i,_,hl,by rw [eΦ];exact Zx _ hb⟩
  ·cases e
end
section
variable {G:Gx} {X:Cx} {pos:Pos}
theorem yX {x:Str} {t:Tx} {j:Nat} {q q':Pos} (h:x=sx t) (hl:iP t):PV G X (.Dict [some (.Constant (.str x) j q)] [.List [] q'] pos) (kg 0 [(eC (.str t),gr aA)]) :=
 PE.weak (yt (wu xB (n9 fI) Aj) rfl rfl (by simp) (by show 1<=15;decide)) fun σ H Q hq=>by
  obtain ⟨Φ,η,m,r,s,e,k⟩:=hq
  subst h
  cases (show some (Md.fr,T.dct 0 [(.str t,.lst [])])=some (m,r) from e)
  intro p hp
  refine ⟨ZU _,fun b hb=>?_⟩
  have bp:b ≠ p:=fun z=>by rw [z,aH] at hb;cases hb
  have Hb:H b=none:=by rw [aw bp] at hb;exact hb
  refine ⟨by rw [aw (YI bp),aH],[(Sum.inr (sx t),.ref b)],rfl,(by show 1<=15;decide),?_⟩
  have hk:aS (Sum.inr (sx t))=.str t:=rfl
  have sm:aU H (upd (upd (upd H p (.dK [])) b (.lst [])) p (.dK (ke [] [(Sum.inr (sx t),.ref b)]))):=fun c o hc=>by
   rw [aw (bI hc hp),aw (bI hc Hb),aw (bI hc hp)]
   exact hc
  have:Rp G (upd (upd (upd H p (.dK [])) b (.lst [])) p (.dK [(Sum.inr (sx t),.ref b)])) (.ref p) (.dct 0 ((([Sum.inr (sx t)]:List Key).map aS).zip [.lst []])) (p :: ([[b]]:Yk).flatten) :=
   .dct (ks:=[Sum.inr (sx t)]) (vs:=[V.ref b]) aH rfl (.cons (F:=b :: ([]:Yk).flatten) (.lst (by rw [aw bp,aH]) .nil) .nil)
  simp only [Zu,YR,hk,ZG,List.zip_nil_right] at this
  exact k _ _ _ sm this ⟨by simp [YI bp],fun c hc=>by
   rcases Zr.mp hc with rfl | hc
   ·exact hp
   ·simp at hc;rw [hc];exact Hb⟩
end
end VS
end
section
open PySem PyProof.Rows
namespace TS
variable {prog:Program} {w:World} {A:Around} {E:Z9} {s:Shared} {G:Keyed->Prop} {r:Keyed->Keyed->Bool}
noncomputable def ip (h:Heap) (a:Addr) (vs:Xg):Addr:=((h.update a (Obj.mapSeq fun _=>#[])).push (seqObj "tuple" vs.toArray 0)).objs.size
theorem qC (h:Heap) (a:Addr) (vs:Xg):ip h a vs=h.objs.size+1:=by unfold ip;rw [Wu,YJ]
structure KeyPre (prog:Program) (w:World) (A:Around) (E:Z9) (P:PySem.Fin->Shared->Prop) (f:Value) (a K:Addr) (oa:Option Obj) (vs:Xg) (J:Xg->Shared->Prop):Prop where
 keys:∀ ks s',J ks s'->∃ e,s'.heap.get? K=some (seqObj "list" ks.toArray e)
 self:∀ ks s',J ks s'->s'.heap.get? a=oa
 step:∀ ks x s',vs[ks.length]?=some x->J ks s'->wpAny (model prog w) A (call f [x]) (fun k s2=>(∃ e,s2.heap.get? K=some (seqObj "list" ks.toArray e))/\J (ks++[k]) { s2 with heap:=s2.heap.update K (Obj.mapSeq fun xs=>xs.push k) }) (fun _ _=>False) s'
 fin:∀ ks s',J ks s'->ks.length=vs.length->∃ kd G r,Cmp prog w A E s' kd G r/\(∀ p∈ks.zip vs,G p)/\(2<=vs.length->∀ Q:SortKind->Shared->Prop,Q kd s'->wpAny (model prog w) A (keyKind' ks.toArray) Q E s') ∧
  ∀ out:List Keyed,out.Perm (ks.zip vs)->out.Pairwise (le r)->P (.done (.ret .none)) { s' with heap:=(s'.heap.update K (Obj.mapSeq fun _=>#[])).update a (Obj.mapSeq fun _=>(out.map (·.2)).toArray) }
theorem uI {a:Addr} {f:Value} {vs:Xg} {n:Nat} {P:PySem.Fin->Shared->Prop} {J:Xg->Shared->Prop} (hf:(f != Value.none)=true) (ho:s.heap.get? a=some (seqObj "list" vs.toArray n)) (hlen:vs.length<=sizeLine)
  (j0:J [] { s with heap:=gG s.heap a vs }) (p:KeyPre prog w A E P f a (ip s.heap a vs) ((gG s.heap a vs).get? a) vs J) :
  wpAny (model prog w) A (Builtin.«list.sort» ⟨[.ref a],[(("key" : Str),f)]⟩) P E s:=by
 obtain ⟨ep,at1⟩:∃ k,(s.heap.update a (Obj.mapSeq fun _=>#[])).get? a=some (seqObj "list" #[] k):=⟨_,get?_update_seq ho _⟩
 have at2:=vt (vs:=vs) (ZY ho) at1
 have ne:a ≠ ip s.heap a vs:=by rw [qC];exact Z0 (WH (ZY ho))
 unfold Builtin.«list.sort»
 refine (show wpAny (model prog w) A (Builtin.List.listItems (.ref a) >>= _) P E s from ?_)
 refine Zy (listItems_at ho rfl (Zy (Ws ho rfl (Zy (seqEpoch_at at1 rfl (Zy (wpAny_newTuple (Zy (wpAny_newList (YN ?_))))))))))
 refine (show wpAny (model prog w) A (if (f != Value.none)=true then _ else _) P E { s with heap:=gG s.heap a vs } from ?_)
 rw [Zq hf]
 refine Zy (XB (Zy ?_))
 rw [← X3]
 refine Xa _ (fun rest _ s'=>∃ ks,J ks s'/\rest=vs.drop ks.length/\ks.length<=vs.length) _ ?turn ?fin _ _ ⟨[],j0,by simp,by simp⟩
 case turn =>
  rintro x rest r s' ⟨ks,jk,e,hl⟩
  have hlt:ks.length < vs.length:=by
   have:=congrArg List.length e
   rw [Zi,ZR] at this
   omega
  have e2:x :: rest=vs[ks.length] :: vs.drop (ks.length+1):=by rw [e];exact Ya hlt
  injection e2 with ex er
  have hx:vs[ks.length]?=some x:=by rw [Za hlt,ex]
  refine Zy (Wg (Yp (p.step ks x s' hx jk) (fun k s2 ⟨⟨e2,he⟩,j2⟩=>?_) fun _ _ z=>z.elim))
  have sz:ks.toArray.size<=sizeLine:=by rw [ZZ];exact ZV hl hlen
  exact (show wpAny (model prog w) A (Builtin.List.listUpdate (.ref (ip s.heap a vs)) (fun xs=>xs.push k) >>= _) _ _ _ from Zy (Ws he rfl (Zs ⟨ks++[k],j2,by rw [er];simp,by simp;exact Nat.succ_le_of_lt hlt⟩) (hsz:=sz) (hsz2:=by rw [Array.size_push];exact Y4 sz)))
 case fin =>
  rintro r s' ⟨ks,jk,e,hl⟩
  have hln:ks.length=vs.length:=by
   have:=congrArg List.length e
   rw [Yd,ZR] at this
   lia
  obtain ⟨eK,hK⟩:=p.keys ks s' jk
  have hS:=p.self ks s' jk
  rw [at2] at hS
  obtain ⟨kd,G,r,hC,hG,hkk,hP⟩:=p.fin ks s' jk hln
  have fin:∀ st':SortSt,(arrOf st').Perm (ks.zip vs).toArray->failedOf st'=none->(arrOf st').toList.Pairwise (le r)->P (.done (.ret .none)) { s' with heap:=(s'.heap.update (ip s.heap a vs) (Obj.mapSeq fun _=>#[])).update a (Obj.mapSeq fun _=>(arrOf st').map (·.2)) }:=fun st' p1 _ p3=>by
   have:=hP (arrOf st').toList (by simpa using Xn.mp p1) p3
   rwa [← Array.toList_map,Array.toArray_toList] at this
  have hS2:(s'.heap.update (ip s.heap a vs) (Obj.mapSeq fun _=>#[])).get? a=some (seqObj "list" #[] ep):=by rw [Yq _ _ (YI ne)];exact hS
  refine (show wpAny (model prog w) A (if (f != Value.none)=true then _ else _) P E s' from ?_)
  rw [Zq hf]
  refine (show wpAny (model prog w) A (Builtin.List.listItems (.ref (ip s.heap a vs)) >>= _) P E s' from Zy (listItems_at hK rfl ?_))
  have room:∀ st':SortSt,(arrOf st').Perm (ks.zip vs).toArray->((arrOf st').map (·.2)).size<=sizeLine+1:=fun st' p1=>by
   rw [Array.size_map,p1.size_eq,ZZ,Ye]
   lia
  have szK:ks.toArray.size<=sizeLine:=by rw [ZZ];exact ZV hl hlen
  have ez:ks.toArray.zip vs.toArray=(ks.zip vs).toArray:=by simp
  by_cases two:2<=vs.length
  ·have no:¬ (vs.toArray.size < 2):=by rw [ZZ];exact W3 two
   refine (show wpAny (model prog w) A (if vs.toArray.size < 2 then _ else _) P E s' from ?_)
   rw [Zn no]
   refine Zy (hkk two _ ?_)
   refine (show wpAny (model prog w) A (StateT.run (if vs.toArray.size < 2 then pure () else sortRuns') (SortSt.mk' kd (ks.toArray.zip vs.toArray) #[] 7 none) >>= _) P E s' from ?_)
   rw [Zn no]
   refine Zy (Yp (yR hC (a₀:=(ks.zip vs).toArray) (st:=SortSt.mk' kd (ks.toArray.zip vs.toArray) #[] 7 none)
    (Q:=fun _ st'=>(arrOf st').Perm (ks.zip vs).toArray/\failedOf st'=none/\(arrOf st').toList.Pairwise (le r)) rfl (fun x hx=>hG x (by simpa using hx)) ez rfl rfl fun st' a1 a2 a3=>⟨a1,a2,a3⟩) ?_ fun _ _ e=>e)
   rintro ⟨⟨⟩,st'⟩ s2 ⟨rfl,p1,p2,p3⟩
   refine (show wpAny (model prog w) A (if (f != Value.none)=true then _ else _) P E s2 from ?_)
   rw [Zq hf]
   refine (show wpAny (model prog w) A (Builtin.List.listUpdate (.ref (ip s.heap a vs)) (fun _=>#[]) >>= _) P E s2 from Zy (Ws hK rfl (Zy (wpAny_letGo (Zy (seqEpoch_at hS2 rfl (Zy (Ws hS2 rfl ?_ (hsz2:=room st' p1))))))) (hsz:=szK)))
   have q2:=p2
   unfold failedOf at q2
   rw [q2]
   simp only [bne_self_eq_false,ZC,↓reduceIte]
   exact Zs (fin st' p1 p2 p3)
  ·have yes:vs.toArray.size < 2:=by rw [ZZ];exact W4 two
   have p1:(arrOf (SortSt.mk' general' (ks.toArray.zip vs.toArray) #[] 7 none)).Perm (ks.zip vs).toArray:=by
    show (ks.toArray.zip vs.toArray).Perm _
    rw [ez]
   have p3:(arrOf (SortSt.mk' general' (ks.toArray.zip vs.toArray) #[] 7 none)).toList.Pairwise (le r):=by
    show (ks.toArray.zip vs.toArray).toList.Pairwise (le r)
    rw [ez]
    match vs,ks,two with
    | [],_,_=>simp
    | [_],[],_=>simp
    | [_],_ :: _,_=>simp
    | _ :: _ :: _,_,q=>simp at q
   refine (show wpAny (model prog w) A (if vs.toArray.size < 2 then _ else _) P E s' from ?_)
   rw [Zq yes]
   refine Zy (Zs ?_)
   refine (show wpAny (model prog w) A (StateT.run (if vs.toArray.size < 2 then pure () else sortRuns') (SortSt.mk' general' (ks.toArray.zip vs.toArray) #[] 7 none) >>= _) P E s' from ?_)
   rw [Zq yes,StateT.run_pure]
   refine Zy (Zs ?_)
   refine (show wpAny (model prog w) A (if (f != Value.none)=true then _ else _) P E s' from ?_)
   rw [Zq hf]
   refine (show wpAny (model prog w) A (Builtin.List.listUpdate (.ref (ip s.heap a vs)) (fun _=>#[]) >>= _) P E s' from Zy (Ws hK rfl (Zy (wpAny_letGo (Zy (seqEpoch_at hS2 rfl (Zy (Ws hS2 rfl ?_ (hsz2:=room _ p1))))))) (hsz:=szK)))
   have b0:(ep != ep)=false:=bne_self_eq_false _
   refine (show wpAny (model prog w) A (if (ep != ep)=true then _ else ret Value.none) P E _ from ?_)
   rw [Zn (by rw [b0];simp)]
   exact Zs (fin _ p1 rfl p3)
end TS
end
section
open PySem PyProof.Rows
namespace TS
variable {prog:Program} {w:World} {A:Around} {E:Z9} {s:Shared}
theorem oj (a f:Value):argsOk "sorted" ⟨[a],[(("key" : Str),f)]⟩:=by unfold argsOk;kernel_rfl
theorem rG (a f:Value):argsOk "list.sort" ⟨[a],[(("key" : Str),f)]⟩:=by unfold argsOk;kernel_rfl
noncomputable def gP (h:Heap) (vs:Xg):Heap:=gG (h.push (seqObj "list" vs.toArray 0)) h.objs.size vs
theorem pD {h:Heap} {vs:Xg} {b:Addr} {o:Obj} (e:h.get? b=some o):(gP h vs).get? b=some o:=by
 have hb:=ZY e
 unfold gP gG
 rw [XH _ _ _ (by rw [Wu,YJ,Wu];exact nl hb 2),XH _ _ _ (by rw [YJ,Wu];exact nl hb 1),Xz _ _ _ _ (Z0 hb),XH _ _ _ (Z0 hb)]
 exact e
theorem om (h:Heap) (vs:Xg):∃ e,(gP h vs).get? h.objs.size=some (seqObj "list" #[] e):=by
 have hoL:(h.push (seqObj "list" vs.toArray 0)).get? h.objs.size=some (seqObj "list" vs.toArray 0):=ZM _ rfl
 obtain ⟨k,at1⟩:∃ k,((h.push (seqObj "list" vs.toArray 0)).update h.objs.size (Obj.mapSeq fun _=>#[])).get? h.objs.size=some (seqObj "list" #[] k):=⟨_,get?_update_seq hoL _⟩
 exact ⟨k,vt (vs:=vs) (ZY hoL) at1⟩
theorem nQ (h:Heap) (vs:Xg):(gP h vs).get? (h.objs.size+2)=some (seqObj "list" #[] 0):=by
 unfold gP gG
 have e:(((h.push (seqObj "list" vs.toArray 0)).update h.objs.size (Obj.mapSeq fun _=>#[])).push (seqObj "tuple" vs.toArray 0)).objs.size=h.objs.size+2:=by rw [Wu,YJ,Wu]
 rw [← e]
 exact ZM _ rfl
theorem pB {x f:Value} {Q:Z9} (hf:(f != Value.none)=true)
  (hcol:∀ (A':Around) (E':Z9),A'.handled=A.handled->wpAny (model prog w) A' (collect x) (fun vs s1=>vs.length<=sizeLine/\∃ J,J [] { s1 with heap:=gP s1.heap vs } ∧
   KeyPre prog w A.in1.in1 E (fun fin s'=>fin=.done (.ret .none)/\Q (.ref s1.heap.objs.size) s') f s1.heap.objs.size (s1.heap.objs.size+2) ((gP s1.heap vs).get? s1.heap.objs.size) vs J) E' s) :
  wpAny (model prog w) A (call (.builtin "sorted") [x] [(("key" : Str),f)]) Q E s:=by
 refine call_function_entry_kw kind_sorted plain_sorted entry_sorted (oj _ _) (show wpAny _ _ (Builtin.«sorted» _) _ _ _ from ?_)
 unfold Builtin.«sorted»
 refine Zy (m:=checkCount "sorted" 1 1 _) (Zs (Zy (Yp (hcol A.in1 (fun _ _=>False) rfl) ?_ fun _ _ e=>e.elim)))
 rintro vs s1 ⟨hlen,J,j0,kp⟩
 refine Zy (wpAny_newList ?_ (by exact hlen))
 have hoL:(s1.heap.push (seqObj "list" vs.toArray 0)).get? s1.heap.objs.size=some (seqObj "list" vs.toArray 0):=ZM _ rfl
 have eK:ip (s1.heap.push (seqObj "list" vs.toArray 0)) s1.heap.objs.size vs=s1.heap.objs.size+2:=by rw [qC,Wu]
 refine (show wpAny _ _ _ _ _ { s1 with heap:=s1.heap.push (seqObj "list" vs.toArray 0) } from ?_)
 have main:=uI (J:=J) (s:={ s1 with heap:=s1.heap.push (seqObj "list" vs.toArray 0) }) hf hoL hlen j0 (P:=fun fin s'=>fin=.done (.ret .none)/\Q (.ref s1.heap.objs.size) s') (by rw [eK];exact kp)
 exact Zy (YN (wpAny_call_entry_kw slot_list_sort ⟨_,hoL,rfl⟩ entry_list_sort (Yp main (fun fin s' h=>⟨_,h.1,Zs ⟨_,rfl,h.2⟩⟩) fun _ _ e=>e) (rG _ _)))
end TS
end
section
namespace L2
open PySem PySem.Spec PyProof.Rows TS
section
variable {X:Cx} {pins:Yz} {σ:St} {H:Hp} {s:Shared} {h':Heap}
theorem Inv.adopt {a:Addr} {o:HO} {t':Nat} (I:Inv X pins σ H s) (f:iY X pins H a) (k:∀ b u,b ≠ a->s.heap.get? b=some u->h'.get? b=some u) (he:∃ u,h'.get? a=some u) (new:ba X.prog X.w (upd H a o) h' a o) :
  Inv X pins σ (upd H a o) { s with heap:=h',toks:=t' }:=by
 obtain ⟨f0,f1,f2,f3,f4,f5⟩:=f
 have ne:∀ b u,H b=some u->b ≠ a:=fun b u e z=>by rw [z,f0] at e;cases e
 refine I.step (g':=s.gens) (d':=s.drawn) (ch:=[a]) (fun b hb=>?_) (fun b o _ _ hc e _=>k b o (fun z=>hc (by simp [z])) e) (fun b o _ _ hc e _=>⟨o.slots,k b o (fun z=>hc (by simp [z])) e⟩) (fun b _ hc _ n=>?_)
  (fun b o hc e=>⟨o,k b o (fun z=>hc (by simp [z])) e⟩) (fun b xs e=>?_) (fun b o u e=>?_) (fun b ps e=>⟨#[],?_⟩) (fun m hm=>?_) (fun b u e=>?_) I.bare
 ·rw [Zg.mp hb]
  exact ⟨f3,f1,f4,f5⟩
 ·rw [aw (fun z=>hc (by simp [z]))];exact n
 ·rw [aw (ne b _ e)];exact e
 ·rw [aw (ne b _ e)];exact e
 ·rw [aw (ne b _ e),e];simp
 ·obtain ⟨o,es,ep,ho,r⟩:=hm
  exact ⟨o,es,ep,k _ o (YI f1) ho,r⟩
 ·by_cases hb:b=a
  ·subst hb
   rw [aH] at e
   cases e
   exact new
  ·rw [aw hb] at e
   refine (I.hok b u e).stay (fun c v hc q=>k c v ?_ q) (fun c q=>by rw [aw (ne c _ q)];exact q) fun c xs q=>by rw [aw (ne c _ q)];exact q
   rcases hc with z | z
   ·rw [z];exact hb
   ·exact ne c _ z
theorem BH {k:Nat} {f:Addr} {fd:FuncData} {ps:List Str} {sp:Sp} {A':Around} {E:XK} {Q:VK} {us:Xg} {vs:List V} (F:FnOk X.prog X.w X.K X.mg X.base CX0 k f fd ps sp) (hr:Room k A') (hfr:A'.frames=X.A.frames) (hb:Binds X.K fd ps [])
  (I:Inv X pins σ H s) (r:aT vs us) (h:sp vs H Q E):wpAny (model X.prog X.w) A' (call (.ref f) us) (fun u s'=>∃ v H',Inv X pins σ H' s'/\RelV v u/\Q v H'/\∀ b o,iY X pins H b->s.heap.get? b=some o->s'.heap.get? b=some o/\iY X pins H' b) (fun _ _=>False) s:=by
 have hl:us.length=ps.length:=by rw [← r.length];exact F.len _ _ _ _ h
 have e0:Env0 X.prog X.w X.K X.mg X.base A' X.stack s H:=⟨hfr.trans I.env0.frames,I.env0.mod,I.env0.bs,I.env0.bsz,I.env0.funs,I.env0.frf,I.env0.hok,I.env0.bare⟩
 have hb':=hb s us I.kIn (by rw [Z7];exact hl)
 rw [Z7] at hb'
 refine wpAny_call (Wz (F.run A' X.stack s H ⟨us,[]⟩ us vs Q E hr e0 hb' r h) fun r s' hq=>?_)
 cases r with
 | error e=>exact hq.elim
 | ok fl =>
  cases fl with
  | ret u =>
   obtain ⟨v,H',os,bare,un,hok,r,q⟩:=hq
   obtain ⟨v2,H2,I2,r2,rfl,rfl,q2⟩:=I.after (Q:=fun v1 H1=>v1=v/\H1=H'/\Q v1 H1) ⟨v,H',os,bare,un,hok,r,rfl,rfl,q⟩
   refine ⟨v2,H2,I2,r2,q2,fun b o fb e=>?_⟩
   have nf:b ∉ frs X.stack:=fun z=>(Zr.mp (I.stkSub b z)).elim fb.2.1 fb.2.2.1
   exact ⟨un.keep b o e fb.1 nf (by simp),un.free b o e fb.1 (by simp),fb.2⟩
  | next=>exact False.elim hq
  | brk=>exact False.elim hq
  | cont=>exact False.elim hq
noncomputable def kL (x:Str):List Key:=[.inl (x.cps.toList.length:Int),.inr x]
noncomputable def txV:Value->Str
 | .str x _=>x
 | _=>⟨#[]⟩
noncomputable def JK (X:Cx) (pins:Yz) (σ:St) (H:Hp) (ss:List Str) (n0 e0:Nat) (ks:Xg) (s':Shared):Prop:=∃ H1,Inv X pins σ H1 s'/\aU H H1/\iY X pins H1 n0/\iY X pins H1 (n0+2)/\(∃ e,s'.heap.get? (n0+2)=some (seqObj "list" ks.toArray e))/\s'.heap.get? n0=some (seqObj "list" #[] e0) ∧
  ∀ (i:Nat) (u:Value),ks[i]?=some u->∃ (b:Addr) (x:Str),u=Value.ref b/\ss[i]?=some x/\H1 b=some (.tup ((kL x).map kV))
theorem kC {k:Nat} {f p:Addr} {fd:FuncData} {ps:List Str} {sp:Sp} {E:XK} {Q:VK} {ss:List Str} {ws:List V} (hc:X.calm=true) (F:FnOk X.prog X.w X.K X.mg X.base CX0 k f fd ps sp) (hr:Room (k+2) X.A) (hb:Binds X.K fd ps [])
  (I:Inv X pins σ H s) (hl:ss.length=ws.length) (hq:H p=some (.dK ((ss.map Sum.inr).zip ws)))
  (hsp:∀ x∈ss,∀ H1,aU H H1->∀ Q1:VK,(∀ b H2,aU H1 H2->H2 b=some (.tup ((kL x).map kV))->Q1 (.ref b) H2)->sp [.str x] H1 Q1 E)
  (q:∀ (l:Addr) (H1:Hp) (ys:List Str),aU H H1->H1 l=none->ys.Perm ss->ys.Pairwise (fun a b=>eU (kL b) (kL a)=false)->Q (.ref l) (upd H1 l (.lst (ys.map V.str)))) :
  wpAny (model X.prog X.w) X.A (call (.builtin "sorted") [.ref p] [(("key" : Str),.ref f)]) (EP X pins σ Q) X.xe s:=by
 obtain ⟨hz,hS,kvs,rel,dd⟩:=si I.hok hq
 obtain ⟨ep,dd⟩:=dd.dictAt
 rw [Ye,Zt] at hz
 have hkl:kvs.length=ss.length:=by
  have:=rel.length
  rw [Ye,Zt] at this
  lia
 have hky:∀ i:Nat,(kvs[i]?).map (fun x=>x.1)=(ss[i]?).map (Sum.inr:Str->Key):=fun i=>by
  have h1:((kvs.map (·.1)))[i]?=(ss.map (Sum.inr:Str->Key))[i]?:=by
   rw [← rel.keys,List.map_fst_zip (by rw [Zt];exact Wk hl)]
  rw [Z1,Z1] at h1
  exact h1
 refine pB rfl fun A' E' hA=>PySem.W.kdu_collect (PySem.W.kdl_dict hS) (hA.trans (I.ok.hd hc)) dd (by lia) fun h1 tk acc kp hacc=>?_
 have I1:Inv X pins σ H { s with heap:=h1,toks:=tk }:=I.kept kp
 have hal:acc.toList.length=ss.length:=by rw [YZ,hacc.1,hkl]
 have each:∀ i v,acc.toList[i]?=some v->∃ x t,v=Value.str x t/\ss[i]?=some x:=fun i v hv=>by
  rw [Z8] at hv
  obtain ⟨k,x,e1,e2⟩:=hacc.2 i v hv
  have e3:=hky i
  rw [e1] at e3
  cases e4:ss[i]? with
  | none=>rw [e4] at e3;cases e3
  | some y =>
   rw [e4] at e3
   have e5:k=Sum.inr y:=ZK e3
   subst e5
   obtain ⟨t,rfl⟩:=Value.isStrOf_shape (show Value.isStrOf y v=true from e2)
   exact ⟨y,t,rfl,e4⟩
 have hvs:acc.toList.map txV=ss:=by
  apply List.ext_getElem?
  intro i
  rw [Z1]
  cases e:acc.toList[i]? with
  | some v =>
   obtain ⟨x,t,rfl,e2⟩:=each i v e
   rw [e2];rfl
  | none =>
   rw [YM] at e
   rw [We (by lia)];rfl
 generalize hvv:acc.toList=vs at *
 obtain ⟨e0,hL0⟩:=om h1 vs
 have LK:h1.objs.size ≠ h1.objs.size+2:=by lia
 refine ⟨by lia,JK X pins σ H ss h1.objs.size e0,?_,?_⟩
 ·exact ⟨H,I1.kept (t':=tk) fun b o e=>pD e,aU.refl _,I1.fpOk (Zp _) (I1.hok.fresh (Zp _)),I1.fpOk (ZI _ 2) (I1.hok.fresh (ZI _ 2)),⟨0,nQ h1 vs⟩,hL0,fun i u e=>by simp at e⟩
 ·refine ⟨fun ks s' ⟨H1,_,_,_,_,e,_⟩=>e,fun ks s' ⟨H1,_,_,_,_,_,e,_⟩=>e.trans hL0.symm,?_,?_⟩
  ·rintro ks x s' hx ⟨H1,I2,sm,fL,fK,⟨eK,hK⟩,hL,hks⟩
   obtain ⟨y,t,rfl,hy⟩:=each _ _ hx
   refine Yp (BH (A':=X.A.in1.in1) F (Room.in1 (Room.in1 hr)) rfl hb I2 (vs:=[.str y]) (.cons ⟨t,rfl⟩ .nil) (hsp y (Y0 hy) H1 sm (fun v H2=>∃ b,v=.ref b/\aU H1 H2/\H2 b=some (.tup ((kL y).map kV))) fun b H2 s2 h2=>⟨b,rfl,s2,h2⟩)) ?_ fun _ _ e=>e
   rintro u s2 ⟨v,H2,I3,ru,⟨b,rfl,sm2,hb2⟩,kp2⟩
   obtain rfl:=(show u=Value.ref b from ru)
   obtain ⟨kK,fK2⟩:=kp2 _ _ fK hK
   obtain ⟨kL',fL2⟩:=kp2 _ _ fL hL
   have hK3:∃ e,(s2.heap.update (h1.objs.size+2) (Obj.mapSeq fun xs=>xs.push (Value.ref b))).get? (h1.objs.size+2)=some (seqObj "list" (ks++[Value.ref b]).toArray e):=by
    have:=get?_update_seq kK fun xs=>xs.push (Value.ref b)
    rw [this,show ks.toArray.push (Value.ref b)=(ks++[Value.ref b]).toArray by simp]
    exact ⟨_,rfl⟩
   refine ⟨⟨eK,kK⟩,H2,I3.turned (it:=h1.objs.size+2) (t':=s2.toks) (fun c o hc e=>by rw [Xz _ _ _ _ hc];exact e) fK2.1 fK2.2.1 fK2.2.2.2.1 fK2.2.2.2.2.1 fK2.2.2.2.2.2,sm.trans sm2,fL2,fK2,hK3,?_,fun i u hu=>?_⟩
   ·rw [Xz _ _ _ _ LK];exact kL'
   ·by_cases hi:i < ks.length
    ·rw [Yo hi] at hu
     obtain ⟨c,x,e1,e2,e3⟩:=hks i u hu
     exact ⟨c,x,e1,e2,sm2 _ _ e3⟩
    ·rw [Yw (by exact Xj hi)] at hu
     have hi0:i=ks.length:=by
      by_cases z:i - ks.length=0
      ·lia
      ·rw [We (by simp;lia)] at hu;cases hu
     subst hi0
     simp at hu
     exact ⟨b,y,hu.symm,hy,hb2⟩
  ·rintro ks s' ⟨H1,I2,sm,fL,fK,⟨eK,hK⟩,hL,hks⟩ hln
   have kz:∀ z∈ks.zip vs,∃ b x t,z=(Value.ref b,Value.str x t)/\H1 b=some (.tup ((kL x).map kV)):=fun z hz=>by
    obtain ⟨i,hi,e⟩:=Yu hz
    have e':(ks.zip vs)[i]?=some z:=by rw [Za hi,e]
    obtain ⟨z1,z2⟩:=z
    rw [X5] at e'
    obtain ⟨b,x,rfl,e2,e3⟩:=hks i z1 e'.1
    obtain ⟨x2,t,rfl,e4⟩:=each i z2 e'.2
    rw [e2] at e4
    cases e4
    exact ⟨b,x,t,rfl,e3⟩
   have tk1:∀ {b:Addr} {x:Str},H1 b=some (.tup ((kL x).map kV))->i7 s'.heap (.ref b) (kL x):=fun e=>yn I2.hok e
   refine ⟨tuples' true,GT s'.heap [true,false],rT s'.heap,zZ fun v ks t=>t,fun z hz=>?_,fun two Q1 q1=>?_,fun out o1 o2=>⟨rfl,?_⟩⟩
   ·obtain ⟨b,x,t,rfl,e⟩:=kz z hz
    exact ⟨_,tk1 e,rfl⟩
   ·refine vh (k0:=true) (sh:=[false]) (by lia) (fun v hv=>?_) q1
    obtain ⟨i,hi,e⟩:=Yu hv
    obtain ⟨b,x,rfl,_,e3⟩:=hks i v (by rw [Za hi,e])
    exact ⟨_,tk1 e3,rfl⟩
   ·have I3:=I2.turned (it:=h1.objs.size+2) (t':=s'.toks) (h':=s'.heap.update (h1.objs.size+2) (Obj.mapSeq fun _=>#[])) (fun c o hc e=>by rw [Xz _ _ _ _ hc];exact e) fK.1 fK.2.1 fK.2.2.2.1 fK.2.2.2.2.1 fK.2.2.2.2.2
    have hL2:(s'.heap.update (h1.objs.size+2) (Obj.mapSeq fun _=>#[])).get? h1.objs.size=some (seqObj "list" #[] e0):=by rw [Xz _ _ _ _ LK];exact hL
    have hL3:=get?_update_seq hL2 fun _=>(out.map (·.2)).toArray
    have ho:∀ z∈out,∃ b x t,z=(Value.ref b,Value.str x t)/\H1 b=some (.tup ((kL x).map kV)):=fun z hz=>kz z (o1.mem_iff.mp hz)
    have olen:out.length=ss.length:=by
     rw [o1.length_eq,Ye]
     lia
    have vals:∀ {out:List Keyed},(∀ z∈out,∃ b x t,z=(Value.ref b,Value.str x t)/\H1 b=some (.tup ((kL x).map kV)))->aT ((out.map fun z=>txV z.2).map V.str) (out.map (·.2)):=by
     intro out
     induction out with
     | nil=>intro _;exact .nil
     | cons z out ih =>
      intro h
      obtain ⟨b,x,t,rfl,_⟩:=h z Zw
      exact .cons ⟨t,rfl⟩ (ih fun z hz=>h z (Zx _ hz))
    refine ⟨.ref h1.objs.size,_,I3.adopt (o:=.lst ((out.map fun z=>txV z.2).map V.str)) (t':=s'.toks) fL (fun c o hc e=>by rw [Xz _ _ _ _ hc];exact e) ⟨_,hL3⟩ (show ba X.prog X.w _ _ _ (.lst _) from ⟨by rw [Zt,Zt,olen];lia,out.map (·.2),_,vals ho,hL3⟩),rfl,q _ H1 _ sm fL.1 ?_ ?_⟩
    ·have:=o1.map fun z=>txV z.2
     have e2:(ks.zip vs).map (fun z=>txV z.2)=ss:=by
      rw [← hvs]
      have:(ks.zip vs).map (fun z=>txV z.2)=((ks.zip vs).map Prod.snd).map txV:=by rw [YK];rfl
      rw [this,W7 (by lia)]
     rw [e2] at this
     exact this
    ·rw [WD]
     refine List.Pairwise.imp_of_mem (fun {a b} ha hb h=>?_) o2
     obtain ⟨c,x,t,rfl,e⟩:=ho a ha
     obtain ⟨c2,x2,t2,rfl,e2⟩:=ho b hb
     unfold le at h
     rw [md (tk1 e2) (tk1 e)] at h
     exact h
end
end L2
end
section
namespace VS
open PySem PySem.Spec PyProof.Rows L2 TS
noncomputable def lL (a b:Tx):Prop:=a.length < b.length\/a.length=b.length/\a < b
noncomputable def ltL (a b:Tx):Bool:=decide (a.length < b.length) || (decide (a.length=b.length) && ltx a b)
theorem sF (a b:Tx):ltL a b=true ↔ lL a b:=by
 unfold ltL lL
 rw [lD]
 simp
theorem tY (a:Tx):¬ lL a a:=fun h=>by
 rcases h with h | ⟨_,h⟩
 ·exact Y3 _ h
 ·exact WZ _ h
theorem pN {a b c:Tx} (h:lL a b) (h':lL b c):lL a c:=by
 rcases h with h | ⟨e,h⟩ <;> rcases h' with h' | ⟨e',h'⟩
 ·exact .inl (by exact Nat.lt_trans h h')
 ·exact .inl (by lia)
 ·exact .inl (by lia)
 ·exact .inr ⟨by exact Eq.trans e e',List.lt_trans h h'⟩
theorem wQ (a b:Tx):lL a b\/a=b\/lL b a:=by
 rcases Nat.lt_trichotomy a.length b.length with h | h | h
 ·exact .inl (.inl h)
 ·by_cases h1:a < b
  ·exact .inl (.inr ⟨h,h1⟩)
  ·by_cases h2:b < a
   ·exact .inr (.inr (.inr ⟨h.symm,h2⟩))
   ·exact .inr (.inl (List.le_antisymm (List.not_lt.mp h2) (List.not_lt.mp h1)))
 ·exact .inr (.inr (.inl h))
noncomputable def qW (x:Tx):List Tx->List Tx
 | []=>[x]
 | y :: r=>if ltL y x then y :: qW x r else x :: y :: r
noncomputable def cD (l:List Tx):List Tx:=l.foldr qW []
theorem jX (x:Tx):∀ l:List Tx,(qW x l).Perm (x :: l)
 | []=>XS _
 | y :: r=>by
  unfold qW
  split
  ·exact ((jX x r).cons y).trans (List.Perm.swap _ _ _)
  ·exact XS _
theorem dF:∀ l:List Tx,(cD l).Perm l
 | []=>XS _
 | x :: l=>(jX x _).trans ((dF l).cons x)
theorem rZ (x:Tx):∀ {l:List Tx},l.Pairwise (fun a b=>¬ lL b a)->(qW x l).Pairwise (fun a b=>¬ lL b a)
 | [],_=>by simp [qW]
 | y :: r,h=>by
  unfold qW
  obtain ⟨h1,h2⟩:=XY.mp h
  split
  ·rename_i c
   have c':=(sF y x).mp c
   refine XY.mpr ⟨fun z hz=>?_,rZ x h2⟩
   rcases Zr.mp ((jX x r).mem_iff.mp hz) with rfl | hz
   ·exact fun w=>tY _ (pN c' w)
   ·exact h1 z hz
  ·rename_i c
   have c':¬ lL y x:=fun z=>c ((sF y x).mpr z)
   refine XY.mpr ⟨fun z hz=>?_,h⟩
   rcases Zr.mp hz with rfl | hz
   ·exact c'
   ·intro w
    rcases wQ y x with z1 | z1 | z1
    ·exact c' z1
    ·subst z1;exact h1 z hz w
    ·exact h1 z hz (pN w z1)
theorem jE:∀ l:List Tx,(cD l).Pairwise (fun a b=>¬ lL b a)
 | []=>List.Pairwise.nil
 | x :: l=>rZ x (jE l)
theorem iV {l l':List Tx} (h:l'.Perm l) (hp:l'.Pairwise (fun a b=>¬ lL b a)):l'=cD l :=
 List.Perm.eq_of_pairwise (le:=fun a b=>¬ lL b a) (fun a b _ _ h1 h2=>(wQ a b).elim (fun z=>absurd z h2) fun z=>z.elim id fun z=>absurd z h1) hp (jE l) (h.trans (dF l).symm)
theorem Au (a b:Str):eU (kL a) (kL b)=true ↔ lL a.cps.toList b.cps.toList:=by
 unfold kL lL
 rw [eU]
 by_cases h:((a.cps.toList.length:Int))=(b.cps.toList.length:Int)
 ·rw [Zq (by rw [h]),eU]
  have h':a.cps.toList.length=b.cps.toList.length:=by lia
  by_cases e:a=b
  ·subst e
   simp [eU,WZ]
  ·rw [Zn (by simpa using e),ltK]
   simp [h']
 ·rw [Zn (fun z=>h (by injection z)),ltK,decide_eq_true_eq]
  constructor
  ·intro h2
   exact .inl (by omega)
  ·rintro (h2 | ⟨h2,_⟩)
   ·omega
   ·lia
noncomputable def iW:Vw->Vv
 | [(_,.dct 0 l)]=>(strs? (l.map (·.1))).bind fun ss=>if ss.all txB then some (.fr,.lst ((cD ss).map .str)) else none
 | _=>none
section
variable {G:Gx} {X:Cx} {e:Expr} {cs:Exs} {p p2 kp pos:Pos} {k:Nat} {f:Addr} {fd:FuncData} {ps:List Str} {cg:Fn} {x:Str}
theorem uP {ss:List Tx} {ys:List Str} (h:ys.Perm (ss.map sx)) (hp:ys.Pairwise (fun a b=>eU (kL b) (kL a)=false)):ys=(cD ss).map sx:=by
 have e:ys=(ys.map fun x=>x.cps.toList).map sx:=by
  rw [YK]
  conv=>lhs;rw [← List.map_id ys]
  apply List.map_congr_left
  intro x hx
  obtain ⟨s,_,rfl⟩:=Yv.mp (h.mem_iff.mp hx)
  show sx s=sx (sx s).cps.toList
  rw [xw]
 have e2:(ys.map fun x=>x.cps.toList)=cD ss:=by
  refine iV ?_ ?_
  ·have:=h.map fun x:Str=>x.cps.toList
   rw [YK] at this
   have e3:((fun x:Str=>x.cps.toList) ∘ sx)=id:=by
    funext s
    exact xw s
   rw [e3,List.map_id] at this
   exact this
  ·rw [WD]
   exact hp.imp fun {a b} h z=>by
    rw [(Au b a).mpr z] at h
    cases h
 rw [e,e2]
theorem zw (F:FnOk X.prog X.w X.K X.mg X.base CX0 k f fd ps (spF G cg)) (hcg:∀ t:Tx,iP t->cg [.str t]=some (.fr,.tup [.int t.length,.str t])) (hr:Room (k+2) X.A) (hgx:Gl X x) (hmx:X.mg x=some (.ref f)) (hb:Binds X.K fd ps [])
  (hm:X.mg "sorted" = none) (ha:PVs G X [e] cs) (hg:Gl X "sorted") (hc:X.calm=true) (hdx:(x == ("__debug__" : Str))=false)
  (he:backTo pos (starEach [e] X.env)=(false,eval e X.env) :: backTo pos (starEach [] X.env)) (hpl:(backTo pos (starEach [e] X.env)).any (·.1)=false) :
  PV G X (.Call (.Name "sorted" p) [e] [⟨some "key",.Name x p2,kp⟩] pos) (eN iW cs):=by
 intro pins s σ H Q I h
 refine L2.gC fun P_ k_=>?_
 obtain ⟨Φ,η,m,t,sr,e0,kk⟩:=h
 unfold eN at e0
 obtain ⟨l,el,e0⟩:=Zz.mp e0
 refine k_ ?_
 refine XQ (iX I hg hm uS ?_ (by decide) rfl)
 refine PyProof.Rows.callWith_kw (thn (ha pos pins s σ H (fun vs H1=>∃ Fs,Args G Φ η H H1 l vs Fs) I ⟨Φ,η,l,sr,el,fun vs H1 Fs q1 q2 q3=>⟨Fs,q1,q2,q3⟩⟩) fun us s1 ⟨vs,H1,I1,r1,Fs,A⟩=>?_) he hpl rfl rfl
 refine thn ((zC (nm:=some "key") (kpos:=kp) (rW (v:=.ref f) (pos:=p2) hgx hmx rfl hdx) BJ) pos pins s1 σ H1 (fun zs H2=>zs=[.ref f]/\H2=H1) I1 ⟨rfl,rfl⟩) fun ws s2 ⟨zs,H2,I2,rz,ez,eH⟩=>?_
 subst ez eH
 obtain ⟨u,rfl,ru⟩:=rz.one
 obtain rfl:=(show u=Value.ref f from ru)
 refine (show wpAny (model X.prog X.w) X.A (call (.builtin "sorted") us [(("key" : Str),Value.ref f)]) (EP X pins σ Q) X.xe s2 from ?_)
 refine L2.gC fun P_ k_=>?_
 unfold iW at e0
 split at e0
 ·rename_i mx y hh
  obtain ⟨ss,e1,e2⟩:=Zz.mp e0
  split at e2
  ·rename_i hbt
   cases e2
   obtain ⟨v,F',rfl,rfl,rx⟩:=(show RpL G H2 vs [.dct 0 y] Fs from A.rp).one
   obtain ⟨a,ks,ys,ts,Gs,rfl,rfl,hha,hl,rfl,ra⟩:=iH rx
   obtain ⟨u,rfl,ru⟩:=r1.one
   obtain rfl:=(show u=Value.ref a from ru)
   have hl2:ks.length=ts.length:=by rw [hl,ra.len.1]
   have e3:((ks.map aS).zip ts).map (·.1)=ks.map aS:=List.map_fst_zip (by rw [Zt];exact Wk hl2)
   rw [e3] at e1
   have e4:=keys_str e1
   have tok:∀ s∈ss,iP s:=fun s hs=>Bi (Yb.mp hbt s hs)
   refine k_ ?_
   refine kC (ss:=ss.map sx) (ws:=ys) (E:=E0) hc F hr hb I2 (by rw [← hl,e4];simp) (by rw [← e4];exact hha) (fun x hx H3 sm Q1 q1=>?_) fun l H3 zs sm hl3 pz pw=>?_
   ·obtain ⟨s,hs,rfl⟩:=Yv.mp hx
    refine ⟨[.str s],[[]],.fr,_,.cons (.str s (tok s hs)) .nil,hcg s (tok s hs),fun v H4 F4 sm4 r4 _=>?_⟩
    cases r4 with
    | tup h4 q4 =>
     cases q4 with
     | cons c1 q4 =>
      cases q4 with
      | cons c2 q4 =>
       cases q4
       cases c1
       cases c2
       refine q1 _ _ sm4 ?_
       rw [h4]
       simp [kL,kV,sx]
   ·rw [uP pz pw]
    have r0:RpL G (upd H3 l (.lst (((cD ss).map sx).map V.str))) ((cD ss).map fun s=>V.str (sx s)) ((cD ss).map T.str) ((cD ss).map fun _=>[]):=qU fun s hs=>tok s ((dF ss).mem_iff.mp hs)
    have r:Rp G (upd H3 l (.lst (((cD ss).map sx).map V.str))) (.ref l) (.lst ((cD ss).map T.str)) (l :: ((cD ss).map fun _=>[]).flatten):=.lst (by rw [aH,YK];rfl) r0
    rw [pI] at r
    exact kk _ _ _ ((A.same.trans sm).trans (dw hl3)) r (Fp.new ((A.same.trans sm).free hl3) (by simp) Fp.nil)
  ·cases e2
 ·cases e0
end
end VS
end
section
namespace L2
open PySem PySem.Spec PyProof.Rows
end L2
namespace VS
open PySem PySem.Spec PyProof.Rows L2
section
variable {G:Gx} {X:Cx} {e b:Expr} {cs:Exs} {cb:Ex} {pos p p1 p2 kp apos cpos:Pos} {k k' kr:Nat} {x:Str} {ps:List Str} {g:Fn}
theorem uQ {gk:Fn} (F:FnAt X.prog X.w X.K X.mg X.base k x ps G gk) (hk:k+2<=k') (hcg:∀ t:Tx,iP t->gk [.str t]=some (.fr,.tup [.int t.length,.str t])) (hr:Room k' X.A) (hm:X.mg "sorted" = none) (ha:PVs G X [e] cs) (hgx:Gl X x) (hg:Gl X "sorted") (hc:X.calm=true) (hdx:(x == ("__debug__" : Str))=false)
  (he:backTo pos (starEach [e] X.env)=(false,eval e X.env) :: backTo pos (starEach [] X.env)) (hpl:(backTo pos (starEach [e] X.env)).any (·.1)=false) :
  PV G X (.Call (.Name "sorted" p) [e] [⟨some "key",.Name x p2,kp⟩] pos) (eN iW cs):=by
 obtain ⟨f,fd,h1,h2,h3,h4⟩:=F.ex
 exact zw h1 hcg (hr.mono hk) hgx h2 h4 hm ha hg hc hdx he hpl
theorem lZ {a b c:Expr} {ca cb cc:Ex} (ha:PV G X a ca) (hb:PV G X b cb) (hc:PV G X c cc) (hm:lastMarks [.LtE,.Lt] [b,c]=false):PVT G X (.Compare a [.LtE,.Lt] [b,c] pos) (eY oLe oLt ca cb cc) :=
 PT.weak (vz Bv xW ha hb hc hm) fun σ H Q h=>ql h (fun η m r e=>by
  unfold eY at e
  obtain ⟨x,ea,e⟩:=Zz.mp e
  obtain ⟨y,eb,e⟩:=Zz.mp e
  obtain ⟨⟨mz,z⟩,ez,e⟩:=Zz.mp e
  cases z with
  | bl q =>
   cases q with
   | false=>cases e;exact ⟨_,rfl⟩
   | true =>
    obtain ⟨z2,ec,e⟩:=Zz.mp (show (cc η).bind (fun z=>oLt y z)=some (m,r) from e)
    exact lq y z2 m r e
  | _=>cases e) fun Q h=>wM EF AV h
theorem BR {ce:Ex} (h:PV G X e ce) (hsw:swapsWith e none pos.line X.env=pure false):PSV G X (.Expr e pos) (sX (xP ce)) :=
 PS.weak (jx h hsw) fun D σ H hq=>by
  obtain ⟨Φ,η,out,s,e,k⟩:=hq
  unfold sX xP at e
  obtain ⟨⟨v,η'⟩,e1,e2⟩:=Zo.mp e
  obtain ⟨⟨m,t⟩,e3,e4⟩:=Zo.mp e1
  cases e4
  cases e2
  exact ⟨Φ,η,m,t,s,e3,fun v H' F e1 r1 f1=>k Φ σ H' (s.same e1) (Frm.same e1)⟩
@[simp] noncomputable def Gh (i:Nat) (c:Ex) (as:Exs) (η:VS.Env):Option (Val×VS.Env):=match η[i]? with
 | some (some (.ow (.lst l)))=>(c η).bind fun kv=>(int? kv.2).bind fun n=>(ixP l.length n).bind fun j=>(l[j]?).bind fun x=>(as η).bind fun xs=>(bg x xs).map fun z=>(z.2,η.set i (some (.ow (.lst (l.set j z.1)))))
 | _=>none
end
section
variable {G:Gx} {X:Cx} {a b e:Expr} {ca ck ce:Ex} {pos pos' p1:Pos} {kr:Nat}
theorem yy {j pos'} (ha:PV G X a ca):PVT G X (.Compare a [.IsNot] [.Constant .none j pos'] pos) (lU ca) :=
 PT.weak (CW (yN ha)) fun σ H Q h=>EN h (fun η m r e=>by
  unfold lU at e
  obtain ⟨x,_,e⟩:=Zz.mp e
  cases e
  exact ⟨_,rfl⟩) fun Q hq=>by
   obtain ⟨Φ,η,m,r,s,e,q⟩:=hq
   unfold lU at e
   obtain ⟨⟨n,x⟩,ea,e⟩:=Zz.mp e
   cases e
   refine ⟨Φ,η,n,x,s,ea,fun v H' F e1 r1 f1=>?_⟩
   show Q (.bl (!decide (v=.non))) H'
   rw [yL r1]
   exact q _ H' _ e1 (.bl _) Fp.nil
noncomputable def lC (i:Nat) (k e:Ex) (η:VS.Env):Option Out:=(e η).bind fun v=>match η[i]? with
 | some (some (.ow (.dct 0 l)))=>(k η).bind fun kv=>if ki kv.2/\imm v.2/\l.length < g9 then some (.nx (η.set i (some (.ow (.dct 0 (dput l kv.2 v.2)))))) else none
 | _=>none
theorem Bu (i:Nat) {x:Str} (hr:Room kr X.A) (hk:PV G X b ck) (he:PV G X e ce) (hN:X.N[i]?=some x) (hv:Vis X.env.scope x) (hd:(x == ("__debug__" : Str))=false) (hcd:(x == ("__classdict__" : Str))=false)
  (ha:∀ v,assign (.Subscript (.Name x p1) b pos') X.env v=(do
   let ov ← holding [v] (eval (.Name x p1) X.env)
   let iv ← holding [v,ov] (eval b X.env)
   standAt pos'
   holding [v,ov,iv] (setItem ov iv v)
   release [v,ov,iv] [])) (hs:swapsWithSole [.Subscript (.Name x p1) b pos'] e pos.line X.env=pure false) (hw:swappedStores [.Subscript (.Name x p1) b pos'] e X.env=pure none)
  (h1:(assignEach [.Subscript (.Name x p1) b pos'] X.env).map (·.2)=[assign (.Subscript (.Name x p1) b pos') X.env]):PSV G X (.Assign [.Subscript (.Name x p1) b pos'] e pos) (lC i ck ce) :=
 PS.weak (Br he (Bt (gu hN hv hd hcd) hk (Eh (vQ hr)) ha) hs hw h1) fun D σ H hq=>by
  obtain ⟨Φ,η,out,s,e,k⟩:=hq
  unfold lC at e
  obtain ⟨⟨mv,tv⟩,ev,e⟩:=Zz.mp e
  split at e
  ·rename_i l ht
   obtain ⟨⟨mk,tk⟩,ekk,e⟩:=Zz.mp e
   split at e
   ·rename_i hc
    obtain ⟨c1,c2,c3⟩:=hc
    cases e
    obtain ⟨w,g1,w2⟩:=s.rp _ _ ht
    have w3:=s.nd i _ ht
    refine ⟨Φ,η,mv,tv,s,ev,fun xv H1 Fv sm1 rv fv=>⟨w,g1,Φ,η,mk,tk,s.same sm1,ekk,fun kv H3 Fk sm3 rk fk=>?_⟩⟩
    have sm:aU H H3:=sm1.trans sm3
    have rv3:Rp G H3 xv tv Fv:=rv.same sm3
    have eF:=rv3.imm c2
    subst eF
    obtain ⟨a,ns,vs,ts,Fs,rfl,eF1,ha',hl,rfl,ra⟩:=iH w2
    rw [eF1] at w3
    obtain ⟨kk,rfl,ekk'⟩:=gZ rk c1
    subst ekk'
    have ha3:H3 a=some (.dK (ns.zip vs)):=sm a _ ha'
    have m3:Mut (H3 a):=by rw [ha3];exact True.intro
    have nd:=ZJ.mp w3
    obtain ⟨ks',vs',ts',Fs',q1,q2,q3,q4,q5⟩:=q0 (kk:=kk) rv3 hl (ra.same sm)
    have ln:(ns.zip vs).length < sizeLine:=by
     have:((ns.map aS).zip ts).length < 16777216:=c3
     rw [Ye,Zt] at this
     rw [Ye]
     have:=ra.len.1
     have:(sizeLine:Nat)=16777216:=rfl
     lia
    refine .inr ⟨a,_,rfl,wF.k ha3 ln,?_⟩
    have g:Chg G H (.ref a) (Φ i) (.dct 0 (dput ((ns.map aS).zip ts) (aS kk) tv)) (upd H3 a (.dK (putK (ns.zip vs) kk xv))) (a :: Fs'.flatten):=by
     rw [eF1,q1,q3]
     refine Chg.upd sm Zw m3 (.dct aH q2 (q4.off m3 fun z=>nd.1 (q5.subset z))) ?_ ?_
     ·exact ZJ.mpr ⟨fun z=>nd.1 (q5.subset z),nd.2.sublist q5⟩
     ·intro bb hb
      rcases Zr.mp hb with rfl | hb
      ·exact .inl Zw
      ·exact .inl (Zx _ (q5.subset hb))
    obtain ⟨z1,z2⟩:=s.mut ht g1 g
    exact k _ σ _ z1 z2
   ·cases e
  ·cases e
end
end VS
end
section
namespace DP
open PySem PySem.Spec PyProof.Rows
variable {prog:Program} {w:World} {A:Around} {E:Z9}
end DP
end
section
namespace DP
open PySem PySem.Spec PyProof.Rows L2
variable {prog:Program} {w:World} {A:Around} {E:Z9}
end DP
end
section
namespace DP
open PySem PySem.Spec PyProof.Rows L2
variable {prog:Program} {w:World} {A:Around} {E:Z9} {s:Shared}
end DP
end
section
namespace L2
open PySem PySem.Spec PyProof.Rows
end L2
end
section
namespace VS
open PySem PySem.Spec PyProof.Rows L2
section
variable {G:Gx} {X:Cx} {e:Expr} {cs:Exs} {p pos:Pos}
@[simp] noncomputable def Gj:Vw->Vv
 | [(_,.int i)]=>some (.fr,.int i)
 | [(_,.bl b)]=>some (.fr,.int (if b then 1 else 0))
 | _=>none
end
end VS
end
section
namespace L2
open PySem PySem.Spec PyProof.Rows
end L2
namespace VS
open PySem PySem.Spec PyProof.Rows L2
noncomputable def sca:T->Bool
 | .non=>true
 | .bl _=>true
 | .int _=>true
 | .str _=>true
 | _=>false
section
variable {G:Gx} {X:Cx} {a b c:Expr} {ca cb cc:Ex} {pos:Pos}
noncomputable def xK:Val->Val->Vv
 | (_,.int i),(_,.int j)=>if 0<=j/\j<=1000000/\i.natAbs < 18446744073709551616 then some (.fr,.int (i ^ j.toNat)) else none
 | _,_=>none
theorem BG:gp G (rI DR fun i j=>.int (i ^ j.toNat)) xK:=by
 intro Φ η H0 H x y u w F1 F2 m t Q tw e k
 obtain ⟨m1,x⟩:=x
 obtain ⟨m2,y⟩:=y
 obtain ⟨same,r1,r2,f1,f2,nd⟩:=tw
 unfold xK at e
 split at e
 ·rename_i e1 e2
  cases e1
  cases e2
  split at e
  ·rename_i h
   cases e
   exact ⟨_,_,r1.int_inv,r2.int_inv,h,bC k (.int _)⟩
  ·cases e
 ·cases e
theorem w_pow (ha:PV G X a ca) (hb:PV G X b cb):PV G X (.BinOp a .Pow b pos) (e2 xK ca cb):=nr Bn BG ha hb
end
end VS
end
section
namespace L2
open PySem PySem.Spec PyProof.Rows
noncomputable def pick {α:Type} (l:List α) (is:W9):List α:=is.filterMap (l[·]?)
noncomputable def FG {α:Type} (l:List α) (lo hi st:Option Int):List α:=pick l (sliceRange (sliceBounds lo hi st l.length).1 (sliceBounds lo hi st l.length).2.1 (sliceBounds lo hi st l.length).2.2)
end L2
namespace VS
open PySem PySem.Spec PyProof.Rows L2
section
variable {G:Gx} {X:Cx} {a:Expr} {ca:Ex} {pos:Pos}
noncomputable def sl3 (x:Val) (l h c:Option Int):Vv:=match x with
 | (_,.lst ts)=>if ts.all sca/\c ≠ some 0 then some (.fr,.lst (FG ts l h c)) else none
 | _=>none
end
end VS
end
section
namespace L2
open PySem PySem.Spec PyProof.Rows
end L2
namespace VS
open PySem PySem.Spec PyProof.Rows L2
end VS
end
section
namespace ST
open PySem PySem.Spec PyProof.Rows
variable {prog:Program} {w:World} {A:Around} {E:Z9} {s:Shared}
end ST
namespace L2
open PySem PySem.Spec PyProof.Rows TS
end L2
namespace VS
open PySem PySem.Spec PyProof.Rows L2
end VS
end
section
namespace L2
theorem Eo {α:Type} {n:Nat} {us:List α} (hl:us.length=n+1):∃ a t,us=a :: t/\t.length=n:=by
 obtain ⟨a,t,e⟩:=List.exists_cons_of_length_eq_add_one hl
 subst e
 exact ⟨a,t,rfl,Nat.succ.inj hl⟩
theorem n8 {α:Type} {us:List α} (hl:us.length=1):∃ a,us=[a]:=List.length_eq_one_iff.mp hl
theorem kF {α:Type} {us:List α} (hl:us.length=2):∃ a b,us=[a,b]:=by
 obtain ⟨a,t,rfl,ht⟩:=Eo hl
 obtain ⟨b,rfl⟩:=n8 ht
 exact ⟨a,b,rfl⟩
theorem Ep {α:Type} {us:List α} (hl:us.length=3):∃ a b c,us=[a,b,c]:=by
 obtain ⟨a,t,rfl,ht⟩:=Eo hl
 obtain ⟨b,c,rfl⟩:=kF ht
 exact ⟨a,b,c,rfl⟩
end L2
end
section
namespace ST
open PySem PySem.Spec PyProof.Rows
variable {prog:Program} {w:World} {A:Around} {E:Z9} {s:Shared}
end ST
namespace VS
end VS
namespace VS
open PySem PySem.Spec PyProof.Rows L2
theorem SR.any {G:Gx} {Φ:Fps} {η:VS.Env} {σ:L2.St} {H:Hp} {j:Nat} (s:SR G Φ η σ H) (hj:η[j]?=some none) (v:Option V):SR G Φ η (σ.set j v) H :=
 ⟨by rw [Xv];exact s.len,fun i c h=>by
  obtain ⟨u,h1,h2⟩:=s.rp i c h
  have n:j ≠ i:=fun z=>by
   rw [z,h] at hj
   cases hj
  exact ⟨u,by rw [YU n];exact h1,h2⟩,s.nd,s.sep⟩
end VS
end
section
namespace XN
open PySem PySem.Spec PyProof.Rows L2
noncomputable def Fl (fl:Value) (g:Heap) (H:Hp) (e:Addr) (cls:Value) (dd:Option Addr) (h:Heap):Prop :=
 g.get? e=none/\H e=none/\∃ oe vs,h.get? e=some oe/\(oe.cls=cls/\oe.dict=dd)/\oe.data=.fields vs/\1 < vs.size ∧
  (vs[1]?=some .none\/∃ T oT ts,vs[1]?=some (.ref T)/\g.get? T=none/\H T=none/\T ≠ e/\h.get? T=some oT/\oT.data=.fields ts/\ts[3]?=some fl)
structure Mv (g:Heap) (H:Hp) (fs:Xl) (h h':Heap):Prop where
 keep:∀ b o,h.get? b=some o->g.get? b ≠ none\/H b ≠ none->b ∉ fs->h'.get? b=some o
 slot:∀ b o,h.get? b=some o->(∀ vs,o.data ≠ .fields vs)->∃ sl,h'.get? b=some { o with slots:=sl }
 there:∀ b o,h.get? b=some o->∃ o',h'.get? b=some o'
 sz:h.objs.size<=h'.objs.size
theorem Mv.refl {g:Heap} {H:Hp} {fs:Xl} {h:Heap}:Mv g H fs h h:=⟨fun _ _ e _ _=>e,fun _ o e _=>⟨o.slots,e⟩,fun _ o e=>⟨o,e⟩,Zp _⟩
theorem Mv.trans {g:Heap} {H:Hp} {fs:Xl} {h h1 h2:Heap} (a:Mv g H fs h h1) (b:Mv g H fs h1 h2):Mv g H fs h h2 :=
 ⟨fun c o e k f=>b.keep c o (a.keep c o e k f) k f,fun c o e f=>by
  obtain ⟨sl,q⟩:=a.slot c o e f
  obtain ⟨sl2,q2⟩:=b.slot c _ q f
  exact ⟨sl2,q2⟩,fun c o e=>by
  obtain ⟨o1,q⟩:=a.there c o e
  exact b.there c o1 q,ZV a.sz b.sz⟩
theorem Mv.frames {g:Heap} {H:Hp} {fs:Xl} {h h' base:Heap} {l:List Env} (m:Mv g H fs h h') (f:h.FunFrames base l):h'.FunFrames base l :=
 f.of_keeps fun b o e k=>by
  obtain ⟨sl,q⟩:=m.slot b o e k
  exact ⟨_,q,rfl⟩
theorem Mv.put {g:Heap} {H:Hp} {fs:Xl} {h:Heap} {a:Addr} {o:Obj} {vs:Array Value} (f:Array Value->Array Value) (ho:h.get? a=some o) (hd:o.data=.fields vs) (hn:g.get? a=none) (hH:H a=none):Mv g H fs h (h.update a (Obj.mapFields f)):=by
 have self:=Y2 (Obj.mapFields f) ho (WS (Obj.data_mapFields hd f))
 refine ⟨fun b o' e k _=>?_,fun b o' e k=>?_,fun b o' e=>?_,by rw [YJ];exact Zp _⟩
 ·rw [Yq _ _ fun z=>by
   subst z
   rcases k with k | k
   ·exact k hn
   ·exact k hH]
  exact e
 ·have ne:a ≠ b:=fun z=>by
   subst z
   rw [ho] at e
   cases e
   exact k vs hd
  exact ⟨o'.slots,by rw [Yq _ _ ne];exact e⟩
 ·by_cases z:a=b
  ·subst z
   exact ⟨_,self⟩
  ·exact ⟨o',by rw [Yq _ _ z];exact e⟩
theorem Mv.push {g:Heap} {H:Hp} {fs:Xl} {h:Heap} (o:Obj):Mv g H fs h (h.push o) :=
 ⟨fun b o' e _ _=>Ze _ e,fun b o' e _=>⟨o'.slots,Ze _ e⟩,fun b o' e=>⟨o',Ze _ e⟩,by rw [Heap.size_push];exact Nat.le_succ _⟩
theorem Mv.slots {g:Heap} {H:Hp} {fs:Xl} {h h':Heap} (x:Heap.SlotsOnly fs h h'):Mv g H fs h h' :=
 ⟨fun b o e _ f=>(x.2.1 b f).trans e,fun b o e _=>x.2.2 b o e,fun b o e=>by
  obtain ⟨sl,q⟩:=x.2.2 b o e
  exact ⟨_,q⟩,by rw [x.1];exact Zp _⟩
section
variable {M:Model} {A:Around} {E:Z9} {s:Shared} {base:Heap} {env:Env} {outer:List Env} {L e:Addr} {g:Heap} {H:Hp} {cls:Value} {dd:Option Addr}
noncomputable abbrev fso (l:List Env):Xl:=l.filterMap (·.frame)
theorem pH {head:Value} {hadNext:Bool} {Q:Unit->Shared->Prop} {oe:Obj} {vs:Array Value} (hfr:A.frames=some (env :: outer)) (hl:s.heap.FunFrames base (env :: outer)) (hf:env.frame=some L)
  (he:s.heap.get? e=some oe) (hc:oe.cls=cls/\oe.dict=dd) (hd:oe.data=.fields vs) (hsz:1 < vs.size) (hn:g.get? e=none) (hH:H e=none) (hsn:∀ b,s.heap.objs.size<=b->g.get? b=none) (hHn:∀ b,s.heap.objs.size<=b->H b=none)
  (h:∀ h',Mv g H (fso (env :: outer)) s.heap h'->Fl (rawInt L) g H e cls dd h'->Q () { s with heap:=h' }) :
  wpAny M A (do let a ← frameOf env;let pl ← entryPlaceOf L hadNext;let b ← EntryCells.newEntry head a .none (rawInt L) .none pl;setField (.ref e) 1 b) Q E s:=by
 refine Zy (wpAny_frameOf_fun hfr hl hf fun h₁ hs=>Zy (wpAny_entryPlaceOf fun pl hq=>?_))
 unfold EntryCells.newEntry newFields
 refine Zy (XJ ?_ (hq.sizeOk5 ..))
 have hne:e ∉ fso (env :: outer):=fun hm=>by
  obtain ⟨_,o,ho,hnf⟩:=hl.mem hm
  rw [he] at ho
  cases ho
  exact hnf vs hd
 have e1:h₁.get? e=some oe:=(hs.2.1 e hne).trans he
 have sz:h₁.objs.size=s.heap.objs.size:=hs.1
 generalize hT:({ cls:=.type "traceback",dict:=none,data:=.fields ([head,.ref L,.none,rawInt L,.none]++(if pl.isEmpty then List.replicate 6 Value.none else pl)).toArray }:Obj)=oT
 have e2:(h₁.push oT).get? e=some oe:=Ze oT e1
 refine Wt e2 hd hsz (h _ ?_ ?_)
 ·exact ((Mv.slots hs).trans (Mv.push oT)).trans (Mv.put _ e2 hd hn hH)
 ·have hd3:=Obj.data_mapFields hd (·.setIfInBounds 1 (Value.ref h₁.objs.size))
  have ne:h₁.objs.size ≠ e:=WI (ZY e1)
  refine ⟨hn,hH,_,_,Y2 _ e2 (WS hd3),⟨(Obj.cls_mapFields _ _).trans hc.1,?_⟩,hd3,by simp [hsz],.inr ⟨h₁.objs.size,oT,([head,.ref L,.none,rawInt L,.none]++(if pl.isEmpty then List.replicate 6 Value.none else pl)).toArray,?_,hsn _ (by rw [sz];exact Zp _),hHn _ (by rw [sz];exact Zp _),ne,?_,by rw [← hT],?_⟩⟩
  ·rw [← hc.2]
   unfold Obj.mapFields
   split <;> rfl
  ·simp [hsz]
  ·rw [Yq _ _ (YI ne)]
   exact ZM _ (by rw [← hT];rfl)
  ·simp
theorem sR {fl:Value} {Q:Unit->Shared->Prop} (hfr:A.frames=some (env :: outer)) (hl:s.heap.FunFrames base (env :: outer)) (hf:env.frame=some L) (hfl:fl=.none\/fl=rawInt L) (hsn:∀ b,s.heap.objs.size<=b->g.get? b=none) (hHn:∀ b,s.heap.objs.size<=b->H b=none)
  (F:Fl fl g H e cls dd s.heap) (h:∀ h',Mv g H (fso (env :: outer)) s.heap h'->Fl (rawInt L) g H e cls dd h'->Q () { s with heap:=h' }):wpAny M A (noteFrame (.ref e) env) Q E s:=by
 obtain ⟨hn,hH,oe,vs,he,hc,hd,hsz,ht⟩:=F
 unfold noteFrame
 simp only [hf]
 rcases ht with h1 | ⟨T,oT,ts,h1,hnT,hHT,hTe,hT,hdT,h3⟩
 ·refine Zy (XO he hd h1 ?_)
  rw [Zn (by decide)]
  exact pH hfr hl hf he hc hd hsz hn hH hsn hHn h
 ·refine Zy (XO he hd h1 ?_)
  rw [Zq (show (Value.ref T != Value.none)=true from by simp)]
  refine Zy (XO hT hdT h3 ?_)
  rcases hfl with rfl | rfl
  ·rw [Zn (show ¬ ((Value.none == rawInt L)=true) from by simp [rawInt])]
   refine Zy (Wt hT hdT (Array.getElem?_eq_some_iff.mp h3).1 ?_)
   have m1:Mv g H (fso (env :: outer)) s.heap (s.heap.update T (Obj.mapFields (·.setIfInBounds 3 Value.none))):=Mv.put _ hT hdT hnT hHT
   have he':(s.heap.update T (Obj.mapFields (·.setIfInBounds 3 Value.none))).get? e=some oe:=by rw [Yq _ _ hTe];exact he
   refine pH (s:={ s with heap:=s.heap.update T (Obj.mapFields (·.setIfInBounds 3 Value.none)) }) hfr (m1.frames hl) hf he' hc hd hsz hn hH ?_ ?_ fun h' m2 f2=>h h' (m1.trans m2) f2
   ·intro b hb;rw [YJ] at hb;exact hsn b hb
   ·intro b hb;rw [YJ] at hb;exact hHn b hb
  ·rw [Zq (show (rawInt L == rawInt L)=true from by simp [rawInt])]
   exact Zs (h s.heap Mv.refl ⟨hn,hH,oe,vs,he,hc,hd,hsz,.inr ⟨T,oT,ts,h1,hnT,hHT,hTe,hT,hdT,h3⟩⟩)
theorem jQ {fl:Value} {fs:Xl} {Q:Unit->Shared->Prop} (F:Fl fl g H e cls dd s.heap) (h:∀ h',Mv g H fs s.heap h'->Fl .none g H e cls dd h'->Q () { s with heap:=h' }):wpAny M A (setFlight (.ref e) none) Q E s:=by
 obtain ⟨hn,hH,oe,vs,he,hc,hd,hsz,ht⟩:=F
 unfold setFlight
 rcases ht with h1 | ⟨T,oT,ts,h1,hnT,hHT,hTe,hT,hdT,h3⟩
 ·refine Zy (XO he hd h1 ?_)
  rw [Zn (by decide)]
  exact Zs (h s.heap Mv.refl ⟨hn,hH,oe,vs,he,hc,hd,hsz,.inl h1⟩)
 ·refine Zy (XO he hd h1 ?_)
  rw [Zq (show (Value.ref T != Value.none)=true from by simp)]
  have hd3:=Obj.data_mapFields hdT (·.setIfInBounds 3 (Option.elim none Value.none fun f=>rawInt f))
  have i3:=(Array.getElem?_eq_some_iff.mp h3).1
  refine Wt hT hdT i3 (h _ (Mv.put _ hT hdT hnT hHT) ⟨hn,hH,oe,vs,by rw [Yq _ _ hTe];exact he,hc,hd,hsz,.inr ⟨T,_,_,h1,hnT,hHT,hTe,Y2 _ hT (WS hd3),hd3,by simp [i3]⟩⟩)
theorem xu {Q:Unit->Shared->Prop} (hfr:A.frames=some (env :: outer)) (hl:s.heap.FunFrames base (env :: outer)) (hf:env.frame=some L) (hsn:∀ b,s.heap.objs.size<=b->g.get? b=none) (hHn:∀ b,s.heap.objs.size<=b->H b=none)
  (F:Fl .none g H e cls dd s.heap) (h:∀ h',Mv g H (fso (env :: outer)) s.heap h'->Fl .none g H e cls dd h'->Q () { s with heap:=h' }):wpAny M A (leaving env (.ref e)) Q E s:=by
 unfold leaving
 refine Zy (sR hfr hl hf (.inl rfl) hsn hHn F fun h1 m1 f1=>jQ (s:={ s with heap:=h1 }) f1 fun h2 m2 f2=>h h2 (m1.trans m2) f2)
end
theorem Fl.mono {fl:Value} {g g':Heap} {H:Hp} {e:Addr} {cls:Value} {dd:Option Addr} {h:Heap} (F:Fl fl g H e cls dd h) (hm:∀ b o,g'.get? b=some o->∃ o',g.get? b=some o'):Fl fl g' H e cls dd h:=by
 have no:∀ b,g.get? b=none->g'.get? b=none:=fun b q=>by
  cases z:g'.get? b with
  | none=>rfl
  | some o =>
   obtain ⟨o',q'⟩:=hm b o z
   rw [q] at q'
   cases q'
 obtain ⟨hn,hH,oe,vs,he,hc,hd,hsz,ht⟩:=F
 refine ⟨no _ hn,hH,oe,vs,he,hc,hd,hsz,ht.imp id ?_⟩
 rintro ⟨T,oT,ts,h1,hnT,r⟩
 exact ⟨T,oT,ts,h1,no _ hnT,r⟩
theorem xk {P:Program} {w:World} {g:Heap} {H:Hp} {fs:Xl} {h h':Heap} (x:HOk P w H h) (m:Mv g H fs h h') (hf:∀ b∈fs,H b=none):HOk P w H h':=fun a o e =>
 (x a o e).stay (fun b u k q=>m.keep b u q (.inr (by
   rcases k with rfl | k
   ·rw [e];exact fun z=>nomatch z
   ·rw [k];exact fun z=>nomatch z)) fun z=>by
    have:=hf b z
    rcases k with rfl | k
    ·rw [this] at e;cases e
    ·rw [this] at k;cases k) (fun _ q=>q) fun _ _ q=>q
theorem EE {fs fs' ex:Xl} {H0 H:Hp} {g h0 h h' base:Heap} {outer:List Env} (u:Un fs ex H0 H h0 h) (m:Mv g H fs' h h') (hg:∀ b o,h0.get? b=some o->g.get? b ≠ none) (hsub:∀ b∈fs',b∈fs\/h0.objs.size<=b) (hfs:fs=fso outer) (fr:h.FunFrames base outer):Un fs ex H0 H h0 h' where
 keep:=fun b o e n f x=>m.keep b o (u.keep b o e n f x) (.inl (hg b o e)) fun z=>(hsub b z).elim f fun q=>absurd (ZY e) (Nat.not_lt.mpr q)
 slot:=fun b o e n f x=>by
  obtain ⟨sl,q⟩:=u.slot b o e n f x
  rw [hfs] at f
  obtain ⟨_,o2,q2,nf⟩:=fr.mem f
  rw [q] at q2
  cases q2
  obtain ⟨sl2,q3⟩:=m.slot b _ q nf
  exact ⟨sl2,q3⟩
 free:=u.free
 there:=fun b o e x=>by
  obtain ⟨o',q⟩:=u.there b o e x
  exact m.there b o' q
 tups:=u.tups
 frzs:=u.frzs
 tbls:=u.tbls
noncomputable def CXE (P:Program) (w:World) (base:Heap):CXT:=fun outer H s E e s'=>∃ a cls dd H',e=.ref a/\s'.os=s.os/\AllBare s'.gens/\Un (frs outer) [] H H' s.heap s'.heap/\HOk P w H' s'.heap/\s'.heap.FunFrames base outer/\Fl .none s.heap H' a cls dd s'.heap/\E cls dd H'
structure Dom (X:Cx) (pins:Yz) (g h:Heap):Prop where
 old:∀ b o,X.s₀.heap.get? b=some o->g.get? b ≠ none
 pin:∀ p∈X.pn++pins,g.get? p.1 ≠ none
 new:∀ b,h.objs.size<=b->g.get? b=none
noncomputable def XR (X:Cx) (σ:L2.St) (cls:Value) (dd:Option Addr) (H:Hp):Prop:=∀ pins s a g,Inv X pins σ H s->Dom X pins g s.heap->Fl .none g H a cls dd s.heap->X.xe (.ref a) s
theorem Dom.here {X:Cx} {pins:Yz} {σ:L2.St} {H:Hp} {s:Shared} {h':Heap} (I:Inv X pins σ H s) (hex:X.ex=[]) (ht:∀ b o,s.heap.get? b=some o->∃ o',h'.get? b=some o'):Dom X pins s.heap h':=by
 refine ⟨fun b o e z=>?_,fun p hp z=>?_,fun b hb=>?_⟩
 ·obtain ⟨o',q⟩:=I.base.there b o e (by rw [hex];exact fun z=>nomatch z)
  rw [z] at q
  cases q
 ·rw [(I.pin p hp).1] at z
  cases z
 ·cases z:s.heap.get? b with
  | none=>rfl
  | some o =>
   obtain ⟨o',q⟩:=ht b o z
   exact absurd (ZY q) (Nat.not_lt.mpr hb)
section
variable {P:Program} {w:World} {K:Xy} {mg:Xm} {base:Heap} {N:List Str} {qual:Str} {scope:Scope} {f:Addr} {cd:Value} {A:Around} {outer:List Env} {s0:Shared} {H0:Hp} {E:XK}
theorem Fg {cls:Value} {dd:Option Addr} {H:Hp} {σ:L2.St} (hE:E cls dd H):XR (jC (CXE P w base) P w K mg base N qual scope f cd A outer s0 H0 E) σ cls dd H:=by
 intro pins s a g I dm F
 have stk:=I.stack
 have fr:=I.ok.frames
 have hok:=I.hok
 refine xu (base:=base) (outer:=outer) (L:=s0.heap.objs.size) (g:=g) (H:=H) fr stk rfl dm.new (fun b hb=>hok.fresh hb) F fun h' m f2=>?_
 have un:Un (frs outer) [] H0 H s0.heap h':=EE (outer:=outer) (base:=base) I.base m dm.old (fun b hb=>by
  rw [fso,XC] at hb
  rcases Zr.mp (show b∈s0.heap.objs.size :: frs outer from hb) with rfl | hb
  ·exact .inr (Zp _)
  ·exact .inl hb) rfl I.funs
 exact ⟨a,cls,dd,H,rfl,I.os,I.bare,un,xk hok m I.stkFree,m.frames I.funs,f2.mono (fun b o q=>Option.ne_none_iff_exists'.mp (dm.old b o q)),hE⟩
theorem XR.of_call {X:Cx} {pins:Yz} {σ:L2.St} {H:Hp} {s s':Shared} {E:XK} {e:Value} (I:Inv X pins σ H s) (h:CXE X.prog X.w X.base X.stack H s E e s') (hex:X.ex=[]) (k:∀ cls dd H',E cls dd H'->XR X σ cls dd H'):X.xe e s':=by
 obtain ⟨a,cls,dd,H',rfl,ho,hb,hu,hok,hf,hfl,hE⟩:=h
 exact k cls dd H' hE pins s' a s.heap (I.call' ho hu hok hb fun b hb=>nomatch hb) (Dom.here I hex fun b o e=>hu.there b o e fun z=>nomatch z) hfl
noncomputable def C9 (X:Cx) (sp:Sp) (t:TA):TE:=fun σ H Q=>t σ H fun vs H1=>sp vs H1 Q (XR X σ)
theorem yd {X:Cx} {k:Nat} {f:Addr} {fd:FuncData} {ps:List Str} {sp:Sp} {x:Str} {p pos:Pos} {e:Expr} {es:List Expr} {t:TA} (F:FnOk X.prog X.w X.K X.mg X.base (CXE X.prog X.w X.base) k f fd ps sp) (hr:Room k X.A) (hg:Gl X x) (hm:X.mg x=some (.ref f)) (hk:PySem.W.keepIn X.K (.ref f)=true) (hb:Binds X.K fd ps [])
  (ha:PA X (e :: es) t) (hdb:(x == ("__debug__" : Str))=false) (he:starEach (e :: es) X.env=(false,eval e X.env) :: starEach es X.env) (hpl:(backTo pos (starEach es X.env)).any (·.1)=false) (hex:X.ex=[]) :
  PE X (.Call (.Name x p) (e :: es) [] pos) (C9 X sp t):=by
 intro pins s σ H Q I h
 refine XQ (jo I hg hm ?_ hdb)
 refine PySem.W.callWith_K (h₀:=X.base) I.ok.mod.kin hk (thn (ha pos pins s σ H _ I h) fun us s1 hu=>?_) he hpl
 obtain ⟨vs,H1,I1,r,q⟩:=hu
 refine ⟨I1.kIn,?_⟩
 have hl:us.length=ps.length:=by rw [← r.length];exact F.len _ _ _ _ q
 have hb2:=hb s1 us I1.kIn (by rw [Z7];exact hl)
 rw [Z7] at hb2
 refine wpAny_call (Wz (F.run X.A X.stack s1 H1 ⟨us,[]⟩ us vs Q _ hr I1.env0 hb2 r q) fun rr s' hq=>?_)
 cases rr with
 | error e=>exact XR.of_call I1 hq hex fun _ _ _ z=>z
 | ok f =>
  cases f with
  | ret u=>exact I1.after hq
  | _=>exact hq.elim
end
end XN
end
section
namespace VS
open PySem PySem.Spec PyProof.Rows L2 XN
inductive Res where | ok (v:Val) | ex (x:Str)
inductive OutX where | ok (o:Out) | ex (x:Str) (η:VS.Env)
noncomputable abbrev ExX:=VS.Env->Option Res
noncomputable abbrev SxX:=VS.Env->Option OutX
noncomputable abbrev FnX:=Vu->Option Res
noncomputable def XRs (X:Cx) (σ:L2.St) (x:Str) (H:Hp):Prop:=∀ cls,X.mg x=some cls->XR X σ cls none H
noncomputable def EOk (G:Gx) (X:Cx) (Φ:Fps) (η:VS.Env) (σ:L2.St) (H:Hp) (Q:VK):Res->Prop
 | .ok v=>∀ u H' F,aU H H'->Rp G H' u v.2 F->Fp Φ η H v.1 F->Q u H'
 | .ex x=>∀ H',aU H H'->XRs X σ x H'
noncomputable def tEX (G:Gx) (X:Cx) (c:ExX):TE:=fun σ H Q=>∃ Φ η r,SR G Φ η σ H/\c η=some r/\EOk G X Φ η σ H Q r
noncomputable def OkX (G:Gx) (X:Cx) (Φ:Fps) (η:VS.Env) (H:Hp) (D:Ends):OutX->Prop
 | .ok o=>ng G Φ η H D o
 | .ex x η'=>∀ Φ' σ' H',SR G Φ' η' σ' H'->Frm Φ η H Φ' η' H'->XRs X σ' x H'
noncomputable def tSX (G:Gx) (X:Cx) (c:SxX):TS:=fun D σ H=>∃ Φ η o,SR G Φ η σ H/\c η=some o/\OkX G X Φ η H D o
noncomputable def PVX (G:Gx) (X:Cx) (e:Expr) (c:ExX):Prop:=PE X e (tEX G X c)
noncomputable def PSX (G:Gx) (X:Cx) (st:Stmt) (c:SxX):Prop:=PS X st (tSX G X c)
noncomputable def ft (G:Gx) (X:Cx) (st:List Stmt) (c:SxX):Prop:=PSs X st (tSX G X c)
noncomputable def sL (c:Sx):SxX:=fun η=>(c η).map .ok
noncomputable def iw (a b:SxX):SxX:=fun η=>(a η).bind fun o=>match o with
 | .ok (.nx η')=>b η'
 | o=>some o
noncomputable def xIf (t:Ex) (a b:SxX):SxX:=fun η=>(t η).bind fun x=>(tru x.2).bind fun r=>if r then a η else b η
noncomputable def okE (c:ExX):Ex:=fun η=>match c η with
 | some (.ok v)=>some v
 | _=>none
noncomputable def xOf (S:Ex->Sx) (c:ExX):SxX:=fun η=>(c η).bind fun r=>match r with
 | .ok _=>(S (okE c) η).map .ok
 | .ex x=>some (.ex x η)
noncomputable def plF (g:FnX):Fn:=fun ts=>match g ts with
 | some (.ok v)=>some v
 | _=>none
noncomputable def cj (g:FnX) (cs:Exs):ExX:=fun η=>(cs η).bind fun l=>(g (trees l)).bind fun r=>match r with
 | .ok _=>(aZ (plF g) cs η).map .ok
 | .ex x=>some (.ex x)
noncomputable def fnx (np nn:Nat) (body:SxX):FnX:=fun ts=>if ts.length=np then
 (body (ts.map (fun t=>some (.pu t))++List.replicate (nn - np) none)).bind fun o=>match o with
  | .ok (.rt v _)=>some (.ok v)
  | .ok (.nx _)=>some (.ok (.fr,.non))
  | .ex x _=>some (.ex x)
  | _=>none else none
noncomputable def spX (G:Gx) (mg:Xm) (g:FnX):Sp:=fun vs H Q E=>∃ ts Fs r,RpL G H vs ts Fs/\g ts=some r/\(match r with
 | .ok v=>∀ u H' F,aU H H'->Rp G H' u v.2 F->Fh H Fs v.1 F->Q u H'
 | .ex x=>∀ cls H',mg x=some cls->aU H H'->E cls none H')
section
variable {G:Gx} {X:Cx} {st:Stmt} {sts:List Stmt} {c:Sx} {a b:SxX} {pos p:Pos} {e:Expr} {es:List Expr} {ce:ExX}
theorem OkX.back {Φ Φ1:Fps} {η η1:VS.Env} {H H1:Hp} {D:Ends} (f:Frm Φ η H Φ1 η1 H1):∀ {o:OutX},OkX G X Φ η H D o->OkX G X Φ1 η1 H1 D o
 | .ok _,h=>ng.back f h
 | .ex _ _,h=>fun Φ' σ' H' s g=>h Φ' σ' H' s (f.trans g)
theorem Ag (h:dS G X.nox sts c):ft G X sts (sL c):=fun pins s σ H D I hq=>by
 obtain ⟨Φ,η,o,s',e,k⟩:=hq
 obtain ⟨o1,e1,rfl⟩:=Zo.mp e
 exact Yp (h pins s σ H D (I.wish _) ⟨Φ,η,o1,s',e1,k⟩) (fun _ _ q=>q.unwish) fun _ _ z=>False.elim z
theorem DU (h:PSX G X st a):ft G X [st] a:=tq h
theorem CV (h1:PSX G X st a) (h2:ft G X sts b):ft G X (st :: sts) (iw a b):=PSs.weak (qg h1 h2) fun D σ H hq=>by
 obtain ⟨Φ,η,o,s,e,k⟩:=hq
 unfold iw at e
 obtain ⟨o1,e1,e2⟩:=Zz.mp e
 refine ⟨Φ,η,o1,s,e1,?_⟩
 cases o1 with
 | ex x η1=>cases e2;exact k
 | ok o1 =>
  cases o1 with
  | nx η1=>exact fun Φ' σ' H' s' f=>⟨Φ',η1,o,s',e2,k.back f⟩
  | rt v η1=>cases e2;exact k
  | bk η1=>cases e2;exact k
  | ct η1=>cases e2;exact k
theorem FF {t:Expr} {ct:Ex} {A B:List Stmt} (hc:PVT G X.nox t ct) (ha:ft G X A a) (hb:ft G X B b):PSX G X (.If t A B pos) (xIf ct a b):=PS.weak (AL (PT.nox hc) ha hb) fun D σ H hq=>by
 obtain ⟨Φ,η,o,s,e,k⟩:=hq
 unfold xIf at e
 obtain ⟨⟨m,x⟩,ec,e1⟩:=Zz.mp e
 obtain ⟨b',eb,e2⟩:=Zz.mp e1
 refine ⟨Φ,η,m,x,b',s,ec,eb,fun H' e3=>?_⟩
 cases b' with
 | true =>
  rw [Zq rfl] at e2
  exact xC ⟨Φ,η,o,s.same e3,e2,k.back (Frm.same e3)⟩
 | false =>
  rw [Zn Zm] at e2
  exact xI ⟨Φ,η,o,s.same e3,e2,k.back (Frm.same e3)⟩
theorem BU (h:PVX G X e ce):PV G X e (okE ce):=PE.weak h fun σ H Q hq=>by
 obtain ⟨Φ,η,m,r,s,e,k⟩:=hq
 unfold okE at e
 split at e
 ·rename_i v hv
  cases e
  exact ⟨Φ,η,.ok (m,r),s,hv,k⟩
 ·cases e
theorem CD {S:Ex->Sx} {W:TE->TS} {R:Ends->L2.St->VK} (h:PVX G X e ce) (hS:∀ {c:Ex},PV G X e c->PSV G X st (S c)) (hW:∀ {t:TE},PE X e t->PS X st (W t)) (hR:∀ t D σ H,t σ H (R D σ)->W t D σ H):PSX G X st (xOf S ce):=fun pins s σ H D I hq=>by
 obtain ⟨Φ,η,o,s',e,k⟩:=hq
 unfold xOf at e
 obtain ⟨r,e1,e2⟩:=Zz.mp e
 cases r with
 | ok v =>
  obtain ⟨o1,e3,rfl⟩:=Zo.mp e2
  exact hS (BU h) pins s σ H D I ⟨Φ,η,o1,s',e3,k⟩
 | ex x =>
  cases e2
  exact hW h pins s σ H D I (hR _ D σ H ⟨Φ,η,.ex x,s',e1,fun H' sm=>k Φ σ H' (s'.same sm) (Frm.same sm)⟩)
theorem Dq (h:PVX G X e ce):PSX G X (.Return (some e) pos) (xOf dj ce):=CD (W:=Ew) (R:=fun D _=>D.rt) h rV nR fun _ _ _ _ q=>q
theorem BK (h:PVX G X e ce) (hsw:swapsWith e none pos.line X.env=pure false):PSX G X (.Expr e pos) (xOf (fun c=>sX (xP c)) ce) :=
 CD (W:=AU) (R:=fun D σ=>fun _ H'=>D.nx σ H') h (fun q=>BR q hsw) (fun q=>jx q hsw) fun _ _ _ _ q=>q
theorem Df {i:Nat} {x:Str} {pos':Pos} (h:PVX G X e ce) (hN:X.N.Nodup) (hi:X.N[i]?=some x) (hx:Loc X.env.scope x) (hs:swapsWith e (some (.Name x pos')) pos.line X.env=pure false)
  (hf:X.fn x=true\/X.env.scope.names.lookup x=some .local):PSX G X (.Assign [.Name x pos'] e pos) (xOf (aN i) ce) :=
 CD (W:=fun t=>C5 t (pQ i)) (R:=fun D σ=>fun v H'=>D.nx (σ.set i (some v)) H') h (fun q=>pZ q hN hi hx hs hf) (fun q=>qO hN hi hx q hs hf) fun _ _ _ _ q=>q
theorem x_call {k:Nat} {f:Addr} {fd:FuncData} {ps:List Str} {x:Str} {cs:Exs} {g:FnX} (F:FnOk X.prog X.w X.K X.mg X.base (CXE X.prog X.w X.base) k f fd ps (spX G X.mg g)) (hr:Room k X.A) (hg:Gl X x) (hm:X.mg x=some (.ref f)) (hk:PySem.W.keepIn X.K (.ref f)=true) (hb:Binds X.K fd ps [])
  (ha:PVs G X.nox (e :: es) cs) (hdb:(x == ("__debug__" : Str))=false) (he:starEach (e :: es) X.env=(false,eval e X.env) :: starEach es X.env) (hpl:(backTo pos (starEach es X.env)).any (·.1)=false) (hex:X.ex=[]) :
  PVX G X (.Call (.Name x p) (e :: es) [] pos) (cj g cs):=by
 have ha':PVs G X (e :: es) cs:=fun pos pins s σ H Q I hw=>Yp (ha pos pins s σ H Q (I.wish _) hw) (fun _ _ ⟨vs,H',I',r,q⟩=>⟨vs,H',I'.unwish,r,q⟩) fun _ _ z=>False.elim z
 refine PE.weak (yd F hr hg hm hk hb ha' hdb he hpl hex) fun σ H Q hq=>?_
 obtain ⟨Φ,η,r,s,e,k⟩:=hq
 unfold cj at e
 obtain ⟨l,el,e1⟩:=Zz.mp e
 obtain ⟨r0,er,e2⟩:=Zz.mp e1
 cases r0 with
 | ok v =>
  obtain ⟨v1,ev,rfl⟩:=Zo.mp e2
  have t1:tE G (aZ (plF g) cs) σ H Q:=⟨Φ,η,v1.1,v1.2,s,ev,k⟩
  obtain ⟨Φ2,η2,l2,s2,el2,k2⟩:=call_of (E:=XR X σ) t1
  refine ⟨Φ2,η2,l2,s2,el2,fun vs H1 Fs q1 q2 q3=>?_⟩
  have k3:spF G (plF g) (vs++[]) H1 Q (XR X σ):=k2 vs H1 Fs q1 q2 q3
  rw [Z7] at k3
  obtain ⟨ts,Fs',m,r,h1,h2,h3⟩:=k3
  unfold plF at h2
  split at h2
  ·rename_i v' hv
   cases h2
   exact ⟨ts,Fs',.ok (m,r),h1,hv,h3⟩
  ·cases h2
 | ex y =>
  cases e2
  refine ⟨Φ,η,l,s,el,fun vs H1 Fs q1 q2 q3=>⟨trees l,Fs,.ex y,q2,er,fun cls H' hm' sm=>k H' (q1.trans sm) cls hm'⟩⟩
end
section
variable {G:Gx} {P:Program} {w:World} {K:Xy} {mg:Xm} {base:Heap}
theorem fnX {x qual:Str} {st:Stmt} {f:Addr} {fd:FuncData} {N ps:List Str} {k np nn:Nat} {c:SxX} (F:Fun K x qual st f fd) (S:FnScope N ps (ao st)) (hp:ps.length=np) (hn:N.length=nn)
  (hb:∀ (cdv:Value) (A:Around) (outer:List PySem.Env) (s:Shared) (H:Hp) (E:XK),Room k (A.deeper (envOfC qual (ao st) s.heap.objs.size f cdv))->ft G (jC (CXE P w base) P w K mg base N qual (ao st) f cdv A outer s H E) (aK st) c) :
  FnOk P w K mg base (CXE P w base) (k+1) f fd ps (spX G mg (fnx np nn c)):=by
 obtain ⟨oc,od,kV,doc,pm,an,cdv,ct,osl,rfl,lk,hcd⟩:=F.ex
 refine Bb lk hcd S (fun vs H Q E h=>?_) fun A outer s H vs Q E hr h=>⟨_,hb cdv A outer s H E hr,?_⟩
 ·obtain ⟨ts,Fs,r,h1,h2,_⟩:=h
  unfold fnx at h2
  split at h2
  ·rename_i hl
   rw [h1.len.1,hl,hp]
  ·cases h2
 ·obtain ⟨ts,Fs,r,h1,h2,q⟩:=h
  unfold fnx at h2
  split at h2
  ·rename_i hl
   obtain ⟨o,e1,e2⟩:=Zz.mp h2
   have s0:=pX h1 nn vs.length rfl
   rw [hl] at s0
   have e3:L2.start N vs=vs.map some++List.replicate (nn - vs.length) none:=by
    unfold L2.start
    rw [hn]
   rw [e3]
   refine ⟨_,_,o,s0,e1,?_⟩
   cases o with
   | ex y η' =>
    cases e2
    exact fun Φ' σ' H' _ fr cls hm=>Fg (q cls H' hm fun a o h=>(fr.keep a o h cM).1)
   | ok o =>
    cases o with
    | nx η' =>
     cases e2
     intro Φ' σ' H' s' fr
     exact q .non H' [] (fun a o h=>(fr.keep a o h cM).1) .non ⟨List.nodup_nil,fun a h=>nomatch h⟩
    | rt v η' =>
     cases e2
     intro u H' F' Φ' σ' s' fr r' rf
     refine q u H' F' (fun a o h=>(fr.keep a o h cM).1) r' ?_
     obtain ⟨m,t⟩:=v
     cases m with
     | fr=>exact ⟨rf.1,fun a ha=>(rf.2 a ha).elim id fun z=>absurd z cM⟩
     | pu=>exact fun a ha=>(rf a ha).elim .inl fun z=>z.elim (fun z=>.inr (jy (H:=H) (vs:=vs) z)) fun z=>absurd z cM
     | bo=>exact fun a ha=>(rf a ha).elim .inl fun z=>z.elim (fun z=>.inr (jy (H:=H) (vs:=vs) z)) fun z=>absurd z cM
    | bk η'=>cases e2
    | ct η'=>cases e2
  ·cases h2
theorem t4 {f:Addr} {fd:FuncData} {ps:List Str} {k:Nat} {g:FnX} (F:FnOk P w K mg base (CXE P w base) k f fd ps (spX G mg g)):FnOk P w K mg base CX0 k f fd ps (spF G (plF g)) where
 len:=fun vs H Q E h=>by
  obtain ⟨ts,Fs,m,r,h1,h2,q⟩:=h
  unfold plF at h2
  split at h2
  ·rename_i v hv
   cases h2
   exact F.len vs H Q (fun _ _ _=>False) ⟨ts,Fs,.ok (m,r),h1,hv,q⟩
  ·cases h2
 run:=fun A outer s H args us vs Q E hr e0 hb r h=>by
  obtain ⟨ts,Fs,m,t,h1,h2,q⟩:=h
  unfold plF at h2
  split at h2
  ·rename_i v hv
   cases h2
   refine Wz (F.run A outer s H args us vs Q (fun _ _ _=>False) hr e0 hb r ⟨ts,Fs,.ok (m,t),h1,hv,q⟩) fun rr s' hq=>?_
   cases rr with
   | error e =>
    obtain ⟨_,_,_,_,_,_,_,_,_,_,_,z⟩:=hq
    exact z
   | ok f=>cases f <;> exact hq
  ·cases h2
structure FnXt (P:Program) (w:World) (K:Xy) (mg:Xm) (base:Heap) (k:Nat) (x:Str) (ps:List Str) (G:Gx) (g:FnX):Prop where
 ex:∃ f fd,FnOk P w K mg base (CXE P w base) k f fd ps (spX G mg g)/\mg x=some (.ref f)/\PySem.W.keepIn K (.ref f)=true/\Binds K fd ps []
theorem FnXt.plain {k:Nat} {x:Str} {ps:List Str} {g:FnX} (F:FnXt P w K mg base k x ps G g):FnAt P w K mg base k x ps G (plF g):=by
 obtain ⟨f,fd,h1,h2,h3,h4⟩:=F.ex
 exact ⟨f,fd,t4 h1,h2,h3,h4⟩
end
end VS
end
section
namespace XN
open PySem PySem.Spec PyProof.Rows L2
theorem Cy {K:Xy} {h:Heap} {C:Addr} {bmB:Xg} {newId:String} (X:K.In h) (e:PySem.W.excIn K C bmB newId=true):∃ bm N nm q bs hdct sn sub ab col dd k0 k1 k2 k3 k5 mN,
  h.get? C=some (excClassObj nm q C N bs bm hdct sn sub ab col dd k0 k1 k2 k3 k5 newId)/\h.Ns N mN/\mN "__init__" = none/\OwnTail h bmB bm:=by
 unfold PySem.W.excIn at e
 split at e
 ·rename_i dct c slots at_
  split at e
  ·rename_i C2 tl a0 a1 a2 a3 nid a5 em es
   rw [Z3,Z3,Z3,Z3,Z3] at e
   obtain ⟨⟨⟨⟨⟨i1,i2⟩,i3⟩,i4⟩,i5⟩,i6⟩:=e
   have j1:=eq_of_beq i1
   have j2:=eq_of_beq i2
   have j6:=eq_of_beq i6
   subst j1
   subst j2
   obtain ⟨f1,f2,f3,f4,f5,f6,f7,f8,f9,f10,f11⟩:=c
   have j3:f11=false:=by
    cases f11 with
    | false=>rfl
    | true=>cases i3
   have j7:slots=#[a0,a1,a2,a3,some (.builtin nid),a5]:=by
    cases slots
    exact congrArg Array.mk es
   have j8:f3=.ref C2 :: tl:=em
   subst j3
   subst j7
   subst j8
   exact ⟨tl,f4,f1,f5,f2,f6,f7,f8,f9,f10,dct,a0,a1,a2,a3,a5,h.nsMap f4,X _ _ at_,.of_isNs (PySem.W.isNs_of_in X i5),PySem.W.nsMap_none_of_in X i5 j6,PySem.W.tail_of_in X i4⟩
  ·cases e
 ·cases e
theorem nA {P:Program} {w:World} {H:Hp} {h:Heap} {a:Addr} {o:HO} (x:ba P w H h a o):∃ u,h.get? a=some u:=by
 cases o with
 | lst xs=>obtain ⟨_,_,_,_,e⟩:=x;exact ⟨_,e⟩
 | tup xs=>obtain ⟨_,_,_,_,p⟩:=x;obtain ⟨_,e,_⟩:=p;exact ⟨_,e⟩
 | dK kvs=>obtain ⟨_,_,_,_,o,_,_,e,_⟩:=x;exact ⟨_,e⟩
 | dT kvs=>obtain ⟨_,_,_,_,o,_,_,e,_⟩:=x;exact ⟨_,e⟩
 | set S n=>obtain ⟨o,_,_,_,e,_⟩:=x;exact ⟨_,e⟩
 | ins C dx fs=>obtain ⟨_,_,_,e,_⟩:=x;exact ⟨_,e⟩
 | own y=>exact x
 | xd fs=>obtain ⟨_,⟨_,_,_,e,_⟩,_⟩:=x;exact ⟨_,e⟩
 | rng lo hi=>obtain ⟨_,_,_,e⟩:=x;exact ⟨_,e⟩
 | frz o u=>exact ⟨_,x.1⟩
 | tbl ps=>exact ⟨_,x⟩
 | met f y=>exact ⟨_,x⟩
 | ext φ=>obtain ⟨_,⟨_,e⟩,_⟩:=x;exact ⟨_,e⟩
end XN
namespace VS
open PySem PySem.Spec PyProof.Rows L2 XN
section
variable {G:Gx} {X:Cx} {e:Expr} {cs:Exs} {pos np cpos:Pos} {x:Str} {C:Addr} {B newId initId:String} {bmB:Xg}
theorem x_raise (F:ExcBaseFacts B newId initId bmB) (hbb:bmB.contains (.type "BaseException")=true) (hq:PySem.W.excIn X.K C bmB newId=true) (hm:X.mg x=some (.ref C)) (hg:Gl X x) (hc:X.calm=true) (ha:PVs G X.nox [e] cs)
  (hdb:(x == ("__debug__" : Str))=false) (hs:starEach [e] X.env=(false,eval e X.env) :: starEach [] X.env) (hpl:(backTo cpos (starEach [] X.env)).any (·.1)=false) (hex:X.ex=[]) :
  PSX G X (.Raise (some (.Call (.Name x np) [e] [] cpos)) none pos) (fun η=>(cs η).bind fun l=>if l.length<=1000 then some (.ex x η) else none):=fun pins s σ H D I hw=>by
 obtain ⟨Φ,η,o,sr,eo,k⟩:=hw
 obtain ⟨l,el,e2⟩:=Zz.mp eo
 split at e2
 rotate_left
 ·cases e2
 rename_i hl
 cases e2
 obtain ⟨bm,N,nm,q,bs,hdct,sn,sub,ab,col,dd,k0,k1,k2,k3,k5,mN,hC,hN,hni,hT⟩:=Cy I.ok.mod.kin hq
 have hp2:(backTo cpos (starEach [e] X.env)).any (·.1)=false:=by
  rw [hs]
  exact hpl
 refine wpAny_Raise_call_subT (C:=C) (nm:=nm) (q:=q) (N:=N) (bs:=bs) (bm:=bm) (hdct:=hdct) (sn:=sn) (sub:=sub) (ab:=ab) (col:=col) (dd:=dd) (k0:=k0) (k1:=k1) (k2:=k2) (k3:=k3) (k5:=k5) (mN:=mN) F (hT.hasType hbb) (I.ok.hd hc) hp2 hni (jo I hg hm ⟨rfl,?_⟩ hdb)
 rw [hs]
 refine WB ?_
 have hw:=ha cpos pins s σ H (fun vs H1=>∃ Fs,aU H H1/\RpL G H1 vs (trees l) Fs) (I.wish _) ⟨Φ,η,l,sr,el,fun vs H1 Fs q1 q2 q3=>⟨Fs,q1,q2⟩⟩
 ·rw [hs] at hw
  refine Yp hw (fun us s2 hu=>?_) fun _ _ z=>False.elim z
  obtain ⟨vs,H1,I1,rv,Fs,sm,rp⟩:=hu
  have I2:Inv X pins σ H1 s2:=I1.unwish
  have bk:=I2.bk
  refine ⟨rfl,?_,bk _ _ hC,hN.keeps bk,hT.keeps bk,fun h' a mk=>?_⟩
  ·show us.length<=sizeLine
   rw [← rv.length,rp.len.1,trees,Zt]
   exact ZV hl (by decide)
  ·have I3:Inv X pins σ H1 { s2 with heap:=h' }:=I2.kept (t':=s2.toks) mk.keeps
   refine k Φ σ H1 (sr.same sm) (Frm.same sm) _ hm pins _ a s2.heap I3 (Dom.here I2 hex fun b o e=>⟨o,mk.keeps b o e⟩) ⟨mk.new,?_,?_⟩
   ·cases z:H1 a with
    | none=>rfl
    | some o =>
     obtain ⟨o',q'⟩:=nA (I2.hok a o z)
     rw [mk.new] at q'
     cases q'
   ·obtain ⟨t,h1,_,_⟩:=mk.there
    exact ⟨_,_,h1,⟨rfl,rfl⟩,rfl,(by decide:1 < 6),.inl rfl⟩
end
end VS
end
section
namespace XN
open PySem PySem.Spec PyProof.Rows L2
section
variable {X:Cx} {pins:Yz} {σ:L2.St} {H:Hp} {s:Shared} {g h':Heap} {fs:Xl} {a:Addr}
theorem qY (I:Inv X pins σ H s) (m:Mv g H fs s.heap h') (d:Dom X pins g s.heap) (hfs:∀ b∈fs,b∈frs X.stack):Inv X pins σ H { s with heap:=h' }:=by
 have sub:∀ b∈fs,b=X.env.locals\/b∈X.fs:=fun b hb=>Zr.mp (I.stkSub b (hfs b hb))
 have neL:∀ b o,X.s₀.heap.get? b=some o->b ≠ X.env.locals:=fun b o e=>Z0 (ZQ (ZY e) I.ok.above)
 have cellK:∀ c v,s.heap.IsCell c v->h'.IsCell c v:=fun c v hq=>by
  obtain ⟨o,ho,hd⟩:=hq
  obtain ⟨sl,q⟩:=m.slot c o ho fun vs z=>by rw [hd] at z;cases z
  exact ⟨_,q,hd⟩
 refine ⟨I.ok,I.os,I.bare,⟨fun b o e n hb hx=>?_,fun b o e n hb hx=>?_,I.base.free,fun b o e hx=>?_,I.base.tups,I.base.frzs,I.base.tbls⟩,?_,fun x c e=>?_,I.free,I.freeC,fun p hp=>?_,xk I.hok m fun b hb=>I.stkFree b (hfs b hb),I.len⟩
 ·exact m.keep b o (I.base.keep b o e n hb hx) (.inl (d.old b o e)) fun z=>(sub b z).elim (neL b o e) hb
 ·obtain ⟨sl,e1⟩:=I.base.slot b o e n hb hx
  obtain ⟨_,o2,q2,nf⟩:=I.funs.mem hb
  rw [e1] at q2
  cases q2
  obtain ⟨sl2,q3⟩:=m.slot b _ e1 nf
  exact ⟨sl2,q3⟩
 ·obtain ⟨o',e1⟩:=I.base.there b o e hx
  exact m.there b o' e1
 ·obtain ⟨mm,hn,hl⟩:=I.loc
  refine ⟨mm,Heap.UpToSlots.ns m.slot hn,fun i x v e1 e2 e3=>?_⟩
  obtain ⟨u,r,l⟩:=hl i x v e1 e2 e3
  refine ⟨u,r,?_⟩
  rcases l with l | ⟨k,c,e,z⟩
  ·exact .inl l
  ·exact .inr ⟨k,c,e,cellK c _ z⟩
 ·obtain ⟨v,z⟩:=I.cell x c e
  exact ⟨v,cellK c v z⟩
 ·obtain ⟨e,n,ne,nf,dd⟩:=I.pin p hp
  exact ⟨m.keep p.1 p.2 e (.inl (d.pin p hp)) fun z=>(sub _ z).elim ne nf,n,ne,nf,dd⟩
theorem uv {oe:Obj} {vs:Array Value} (I:Inv X pins σ H s) (d:Dom X pins g s.heap) (hg:g.get? a=none) (hH:H a=none) (he:s.heap.get? a=some oe) (hd:oe.data=.fields vs):Inv X pins σ (upd H a (.frz oe (.own a))) s:=by
 have ne:∀ b o,H b=some o->b ≠ a:=fun b o e z=>by rw [z,hH] at e;cases e
 have nL:X.env.locals ≠ a:=fun z=>by
  obtain ⟨m,⟨o,es,ep,ho,hdd,_⟩,_⟩:=I.loc
  rw [z,he] at ho
  cases ho
  rw [hd] at hdd
  cases hdd
 refine ⟨I.ok,I.os,I.bare,⟨I.base.keep,I.base.slot,fun b o e n hx=>?_,I.base.there,fun b xs e=>?_,fun b o u e=>?_,fun b ps e=>?_⟩,I.loc,I.cell,?_,fun x c e=>?_,fun p hp=>?_,fun b o e=>?_,I.len⟩
 ·rw [aw fun z=>d.old b o e (by rw [z];exact hg)]
  exact I.base.free b o e n hx
 ·have:=I.base.tups b xs e
  rw [aw (ne b _ this)]
  exact this
 ·have:=I.base.frzs b o u e
  rw [aw (ne b _ this)]
  exact this
 ·obtain ⟨more,this⟩:=I.base.tbls b ps e
  exact ⟨more,by rw [aw (ne b _ this)];exact this⟩
 ·rw [aw nL]
  exact I.free
 ·rw [aw fun z=>by
   obtain ⟨v,o,ho,hdd⟩:=I.cell x c e
   rw [z,he] at ho
   cases ho
   rw [hd] at hdd
   cases hdd]
  exact I.freeC x c e
 ·obtain ⟨e,n,r⟩:=I.pin p hp
  exact ⟨e,by rw [aw fun z=>d.pin p hp (by rw [z];exact hg)];exact n,r⟩
 ·by_cases hb:b=a
  ·subst hb
   rw [aH] at e
   cases e
   exact ⟨he,⟨oe,he⟩⟩
  ·rw [aw hb] at e
   refine (I.hok b o e).stay (fun _ _ _ q=>q) (fun c q=>?_) fun c xs q=>?_
   ·rw [aw (ne c _ q)];exact q
   ·rw [aw (ne c _ q)];exact q
theorem name_goes {A:Around} {E:Z9} {Q:Unit->Shared->Prop} {j:Nat} {n:Str} {pos:Pos} (I:Inv X pins σ H s) (hN:X.N.Nodup) (hj:X.N[j]?=some n) (hl:X.env.scope.names.lookup n=some .local) (h:∀ s',Inv X pins (σ.set j none) H s'->Q () s') :
  wpAny (model X.prog X.w) A (do bindName X.env n .none;unbindBehindTheSuite X.env n pos) Q E s:=by
 have hk:X.env.kindOf n=some .local:=hl
 have hcls:(X.env.scope.kind == .class || (X.env.scope.kind == .module && X.env.locals != X.env.globals))=false:=by rw [I.ok.kind];rfl
 refine Zy (wpAny_bindName (jJ I hN hj (.inl hl) (v:=V.non) rfl (fun s1 I1=>?_) (.inr hl)))
 unfold unbindBehindTheSuite
 refine wpAny_onRaise ?_
 unfold unbindName
 refine Zy (wpAny_point (Zy ?_))
 unfold deleteName
 simp only [hk,hcls]
 rw [Zn (by decide)]
 obtain ⟨m,hn,hlk⟩:=id I1.loc
 have hjs:j < σ.length:=by rw [I.len];exact (Zb.mp hj).1
 have mn:(m n).isSome=true:=by
  obtain ⟨u,r,l⟩:=hlk j n .non hj (by rw [Yc hjs]) (.inl hl)
  rcases l with ⟨_,l⟩ | ⟨k,_⟩
  ·rw [l];rfl
  ·rw [hk] at k
   rcases k with k | k <;> cases k
 refine Zy (wpAny_nsDel_keeps hn fun h2 v hn2 hs2=>?_)
 rw [mn]
 simp only [if_true,Xc,ZC,if_false]
 refine Zs (wpAny_point (h _ ?_))
 have oth:∀ b,b ≠ X.env.locals->h2.get? b=s1.heap.get? b:=fun b hb=>hs2.2 b hb
 have th:∀ b o,s1.heap.get? b=some o->∃ o',h2.get? b=some o':=fun b o e=>by
  by_cases z:b=X.env.locals
  ·subst z
   obtain ⟨o',_,_,q,_⟩:=hn2
   exact ⟨o',q⟩
  ·exact ⟨o,(oth b z).trans e⟩
 have neL:∀ b o,X.s₀.heap.get? b=some o->b ≠ X.env.locals:=fun b o e=>Z0 (ZQ (ZY e) I.ok.above)
 have cellK:∀ x c,X.env.cells.lookup x=some c->∀ v,s1.heap.IsCell c v->h2.IsCell c v:=fun x c e v hq=>by
  obtain ⟨o,ho,hd⟩:=hq
  exact ⟨o,(oth c (I.cne x c e)).trans ho,hd⟩
 have hokL:HOk X.prog X.w H h2:=fun b o e=>(I1.hok b o e).stay (fun c u k q=>(oth c fun z=>by
  have f:=I1.free
  rw [← z] at f
  rcases k with k | k
  ·rw [k,e] at f;cases f
  ·rw [k] at f;cases f).trans q) (fun _ q=>q) fun _ _ q=>q
 refine ⟨I1.ok,I1.os,I1.bare,⟨fun b o e n hb hx=>(oth b (neL b o e)).trans (I1.base.keep b o e n hb hx),fun b o e n hb hx=>?_,I1.base.free,fun b o e hx=>?_,I1.base.tups,I1.base.frzs,I1.base.tbls⟩,⟨_,hn2,fun i x w e1 e2 e3=>?_⟩,fun x c e=>?_,I1.free,I1.freeC,fun p hp=>?_,hokL,by rw [Xv];exact I.len⟩
 ·obtain ⟨sl,q⟩:=I1.base.slot b o e n hb hx
  exact ⟨sl,(oth b (neL b o e)).trans q⟩
 ·obtain ⟨o',q⟩:=I1.base.there b o e hx
  exact th b o' q
 ·have ij:i ≠ j:=fun z=>by
   subst z
   rw [Yc hjs] at e2
   cases e2
  rw [YU (YI ij)] at e2
  obtain ⟨u,r,l⟩:=hlk i x w e1 (by rw [YU (YI ij)];exact e2) e3
  refine ⟨u,r,?_⟩
  rcases l with ⟨k,l⟩ | ⟨k,c,e,z⟩
  ·refine .inl ⟨k,?_⟩
   have nx:x ≠ n:=fun z=>by
    subst z
    exact ij ((List.getElem?_inj (Zb.mp e1).1 hN).mp (e1.trans hj.symm))
   show (if x=n then v else m x)=some u
   rw [Zn nx]
   exact l
  ·exact .inr ⟨k,c,e,cellK x c e _ z⟩
 ·obtain ⟨v,z⟩:=I1.cell x c e
  exact ⟨v,cellK x c e v z⟩
 ·obtain ⟨e,n,ne,r⟩:=I1.pin p hp
  exact ⟨(oth _ ne).trans e,n,ne,r⟩
end
noncomputable abbrev Cx.hand (X:Cx) (a:Addr):Cx:={ X with A:=X.A.mark (some (.ref a)),calm:=false,xe:=fun _ _=>False }
theorem qJ {X:Cx} {pins:Yz} {σ:L2.St} {H:Hp} {s:Shared} (I:Inv X pins σ H s) (a:Addr):Inv (Cx.hand X a) pins σ H s :=
 have ok:=I.ok
 ⟨⟨ok.mod,ok.kind,ok.glob,ok.blt,ok.above,ok.inj,ok.has,ok.cab,(fun z=>nomatch z),ok.frames,ok.stk,ok.exf,ok.bs,ok.bsz,ok.noex,ok.exfs,ok.funs,ok.frf⟩,I.os,I.bare,I.base,I.loc,I.cell,I.free,I.freeC,I.pin,I.hok,I.len⟩
theorem g0 {X:Cx} {pins:Yz} {σ:L2.St} {H:Hp} {s:Shared} {a:Addr} (k:X.Ok) (I:Inv (Cx.hand X a) pins σ H s):Inv X pins σ H s :=
 ⟨k,I.os,I.bare,I.base,I.loc,I.cell,I.free,I.freeC,I.pin,I.hok,I.len⟩
end XN
namespace VS
open PySem PySem.Spec PyProof.Rows L2 XN
noncomputable def FB (j:Nat):Out->Out
 | .nx η=>.nx (η.set j none)
 | .rt v η=>.rt v (η.set j none)
 | .bk η=>.bk (η.set j none)
 | .ct η=>.ct (η.set j none)
noncomputable def uT (b:SxX) (j:Nat) (mt:Str->Option Nat) (hd:Sx):Sx:=fun η=>(b η).bind fun o=>match o with
 | .ok o=>some o
 | .ex x η'=>(mt x).bind fun c=>if j < η'.length then (hd (η'.set j (some (.pu (.obj c []))))).map (FB j) else none
section
variable {G:Gx} {X:Cx} {body suite:List Stmt} {b₀:Stmt} {cb:SxX} {ch:Sx} {j:Nat} {mt:Str->Option Nat} {y n:Str} {C:Value} {np pos hpos:Pos}
theorem DE (hst:X.stack=X.env :: X.outer) (hfr:X.env.frame=some X.env.locals) (hb:∀ (W:Z9) (pn:Yz),ft G { X with xe:=W,pn:=pn } body cb)
  (hh:∀ a,dS G (Cx.hand X a) (b₀ :: suite) ch) (hN:X.N.Nodup) (hj:X.N[j]?=some n) (hl:X.env.scope.names.lookup n=some .local) (hm:X.mg y=some C) (hg:Gl X y) (hdb:(y == ("__debug__" : Str))=false)
  (hmt:∀ x c,mt x=some c->X.mg x=some (.ref (G.ct c).1)/\PySem.W.exmOne X.K (.ref (G.ct c).1) C=some true) :
  PSV G X (.Try body [.ExceptHandler (some (.Name y np)) (some n) (b₀ :: suite) hpos] [] [] pos) (uT cb j mt ch):=fun pins s σ H D I hq=>by
 obtain ⟨Φ,η,o,sr,e,k⟩:=hq
 refine wpAny_Try_except ?_
 unfold uT at e
 obtain ⟨ox,e1,e2⟩:=Zz.mp e
 generalize hW:(fun (e:Value) (s₁:Shared)=>wpAny (model X.prog X.w) X.A (noteFrame e X.env) (fun _ s₂=>wpAny (model X.prog X.w) X.A (setFlight e none) (fun _ s₃=>wpAny (model X.prog X.w) X.A (handleBy e X.env [.ExceptHandler (some (.Name y np)) (some n) (b₀ :: suite) hpos]) (SP X pins D) X.xe s₃) X.xe s₂) X.xe s₁)=W
 have I':Inv { X with xe:=W,pn:=X.pn++pins } [] σ H s:=⟨⟨I.ok.mod,I.ok.kind,I.ok.glob,I.ok.blt,I.ok.above,I.ok.inj,I.ok.has,I.ok.cab,I.ok.hd,I.ok.frames,I.ok.stk,I.ok.exf,I.ok.bs,I.ok.bsz,I.ok.noex,I.ok.exfs,I.ok.funs,I.ok.frf⟩,I.os,I.bare,I.base,I.loc,I.cell,I.free,I.freeC,fun p hp=>I.pin p (by simpa using hp),I.hok,I.len⟩
 have back:∀ {pins':Yz} {σ':L2.St} {H':Hp} {s':Shared},Inv { X with xe:=W,pn:=X.pn++pins } pins' σ' H' s'->Inv X pins σ' H' s':=fun J=>⟨I.ok,J.os,J.bare,J.base,J.loc,J.cell,J.free,J.freeC,fun p hp=>J.pin p (YV _ hp),J.hok,J.len⟩
 refine Yp (hb W (X.pn++pins) [] s σ H D I' ⟨Φ,η,ox,sr,e1,?_⟩) (fun f s1 hf=>?_) fun _ _ z=>z
 ·cases ox with
  | ok o1 =>
   cases e2
   exact k
  | ex x η1 =>
   obtain ⟨c,ec,e3⟩:=Zz.mp e2
   split at e3
   rotate_left
   ·cases e3
   rename_i hjl
   obtain ⟨o2,e4,rfl⟩:=Zo.mp e3
   obtain ⟨mx,me⟩:=hmt x c ec
   intro Φ' σ' H' sr' fr cls hcls pins' s1 a g J dm F
   cases (show some (Value.ref (G.ct c).1)=some cls from mx.symm.trans hcls)
   have J1:=back J
   have dm1:Dom X pins g s1.heap:=⟨dm.old,fun p hp=>dm.pin p (YV _ hp),dm.new⟩
   have sb:∀ b∈fso (X.env :: X.outer),b∈L2.frs X.stack:=fun b hb=>by rw [hst];exact hb
   have stk:=J1.stack
   have frm:=J1.ok.frames
   rw [hst] at stk frm
   show W (.ref a) s1
   rw [← hW]
   refine sR (base:=X.base) (outer:=X.outer) (L:=X.env.locals) (g:=g) (H:=H') frm stk hfr (.inl rfl) dm1.new (fun b hb=>J1.hok.fresh hb) F fun h1 m1 f1=>?_
   have J2:=qY J1 m1 dm1 sb
   have dm2:Dom X pins g h1:=⟨dm1.old,dm1.pin,fun b hb=>dm1.new b (ZV m1.sz hb)⟩
   refine jQ (s:={ s1 with heap:=h1 }) (fs:=L2.frs X.stack) f1 fun h2 m2 f2=>?_
   have J3:Inv X pins σ' H' { s1 with heap:=h2 }:=qY (s:={ s1 with heap:=h1 }) J2 m2 dm2 fun b hb=>hb
   have dm3:Dom X pins g h2:=⟨dm1.old,dm1.pin,fun b hb=>dm2.new b (ZV m2.sz hb)⟩
   obtain ⟨ga,Ha,oe,vs,he,⟨hc,hdd⟩,hd,_,_⟩:=id f2
   have ty:PySem.W.Looks (model X.prog X.w) h2 (typeOf (.ref a)) (.ref (G.ct c).1):=hc ▸ (PySem.W.Looks.ld he).andThen .now
   refine wpAny_handleBy_cons (codeAny_handlers_test (jo (X:=Cx.hand X a) (qJ J3 a) hg hm ?_ hdb)) (fun z=>nomatch z)
   refine (PySem.W.exm_one J3.kIn ty me) _ _ _ _ (fun _ _ q=>q) ?_
   refine codeAny_handlers_suite_as ?_
   refine jQ (s:={ s1 with heap:=h2 }) (fs:=L2.frs X.stack) f2 fun h3 m3 f3=>?_
   have J4:Inv X pins σ' H' { s1 with heap:=h3 }:=qY (s:={ s1 with heap:=h2 }) J3 m3 dm3 fun b hb=>hb
   have dm4:Dom X pins g h3:=⟨dm1.old,dm1.pin,fun b hb=>dm3.new b (ZV m3.sz hb)⟩
   obtain ⟨ga,Ha,oe,vs,he,⟨hc,hdd⟩,hd,_,_⟩:=f3
   have J5:=uv (s:={ s1 with heap:=h3 }) J4 dm4 ga Ha he hd
   refine jJ J5 hN hj (.inl hl) (v:=V.ref a) rfl (fun s4 J6=>?_) (.inr hl)
   have sm:aU H' (upd H' a (.frz oe (.own a))):=fun b o q=>by
    rw [aw fun z=>by rw [z,Ha] at q;cases q]
    exact q
   have s5:SR G (hJ Φ' j []) (η1.set j (some (.pu (.obj c [])))) (σ'.set j (some (.ref a))) (upd H' a (.frz oe (.own a))) :=
    (sr'.same sm).put (c:=.pu (.obj c [])) hjl (.exc (aH ..) ⟨hc,hdd,vs,hd⟩) (fun _ _ _ _ _ q=>q) (fun _ z=>nomatch z) (fun _ z=>nomatch z) fun _ _ _ _ _ _ z=>nomatch z
   have f5:Frm Φ η H (hJ Φ' j []) (η1.set j (some (.pu (.obj c [])))) (upd H' a (.frz oe (.own a))):=fr.trans ⟨fun b o q nw=>⟨sm b o q,fun z=>by
     rcases jc z with ⟨_,z,_⟩ | z
     ·cases z
     ·exact nw z⟩,fun b q z=>q ((sm.free z)),fun b z=>by
     rcases jc z with ⟨_,z,_⟩ | z
     ·cases z
     ·exact .inl z,fun b z=>by
     rcases oC z with ⟨_,_,z⟩ | z
     ·cases z
     ·exact .inl z,Kept.of sm⟩
   have off:∀ {η2:VS.Env} {Φ2:Fps} {σ2:L2.St} {H2:Hp},SR G Φ2 η2 σ2 H2->j < η2.length->SR G Φ2 (η2.set j none) (σ2.set j none) H2:=fun q hlt=>(q.drop j).any (by rw [Yc hlt]) none
   have jlt:∀ {η2:VS.Env} {Φ2:Fps} {σ2:L2.St} {H2:Hp} {s2:Shared},SR G Φ2 η2 σ2 H2->Inv (Cx.hand X a) pins σ2 H2 s2->j < η2.length:=fun q J=>by
    rw [q.len,J.len]
    exact (Zb.mp hj).1
   have jl2:∀ {η2:VS.Env} {Φ2:Fps} {σ2:L2.St} {H2:Hp},SR G Φ2 η2 σ2 H2->σ2.length=X.N.length->SR G Φ2 (η2.set j none) (σ2.set j none) H2:=fun q hlen=>off q (by rw [q.len,hlen];exact (Zb.mp hj).1)
   refine Yp (hh a pins s4 _ _ { nx:=fun σ2 H2=>σ2.length=X.N.length->D.nx (σ2.set j none) H2,rt:=fun v H2=>D.rt v H2,bk:=fun σ2 H2=>σ2.length=X.N.length->D.bk (σ2.set j none) H2,ct:=fun σ2 H2=>σ2.length=X.N.length->D.ct (σ2.set j none) H2 } (qJ J6 a) ⟨_,_,o2,s5,e4,?_⟩) (fun f s6 hf=>?_) fun _ _ z=>False.elim z
   ·cases o2 with
    | nx η2=>exact fun Φ2 σ2 H2 q fr2 hlen=>k Φ2 _ H2 (jl2 q hlen) ((f5.trans fr2).trans (Frm.drop j))
    | bk η2=>exact fun Φ2 σ2 H2 q fr2 hlen=>k Φ2 _ H2 (jl2 q hlen) ((f5.trans fr2).trans (Frm.drop j))
    | ct η2=>exact fun Φ2 σ2 H2 q fr2 hlen=>k Φ2 _ H2 (jl2 q hlen) ((f5.trans fr2).trans (Frm.drop j))
    | rt v η2=>exact fun u H2 F2 Φ2 σ2 q fr2 r rf=>k u H2 F2 Φ2 _ (q.drop j) ((f5.trans fr2).trans (Frm.drop j)) r (rf.back f5)
   ·cases f with
    | next =>
     obtain ⟨σ2,H2,J,q⟩:=hf
     exact name_goes (g0 I.ok J) hN hj hl fun s' J'=>⟨_,H2,J',q J.len⟩
    | brk =>
     obtain ⟨σ2,H2,J,q⟩:=hf
     exact name_goes (g0 I.ok J) hN hj hl fun s' J'=>⟨_,H2,J',q J.len⟩
    | cont =>
     obtain ⟨σ2,H2,J,q⟩:=hf
     exact name_goes (g0 I.ok J) hN hj hl fun s' J'=>⟨_,H2,J',q J.len⟩
    | ret u =>
     obtain ⟨v,σ2,H2,J,r,q⟩:=hf
     exact name_goes (g0 I.ok J) hN hj hl fun s' J'=>⟨v,_,H2,J',r,q⟩
 ·cases f with
  | next =>
   obtain ⟨σ',H',J,q⟩:=hf
   exact X4 ⟨σ',H',back J,q⟩
  | brk=>obtain ⟨σ',H',J,q⟩:=hf;exact ⟨σ',H',back J,q⟩
  | cont=>obtain ⟨σ',H',J,q⟩:=hf;exact ⟨σ',H',back J,q⟩
  | ret u=>obtain ⟨v,σ',H',J,r,q⟩:=hf;exact ⟨v,σ',H',back J,r,q⟩
end
end VS
end
section
namespace XN
open PySem PySem.Spec PyProof.Rows L2 PySem.W
section
variable {prog:Program} {w:World} {A:Around} {E:Z9} {s:Shared} {K:Frag} {a D:Addr} {oe:Obj}
structure XCl (K:Frag) (D:Addr):Prop where
 ga:findIn K (.ref D) "__getattribute__" = some (some (.builtin "BaseException.__getattribute__"))
 gn:findIn K (.ref D) "__getattr__" = some none
 cl:findObj K D none "__class__" = some (.bind (.builtin "getset_descriptor.__get__") (.builtin "object.__class__"))
 mo:mroIn K D (.type "object")=some true
 mb:mroIn K D (.type "BaseException")=some true
theorem wc {M:Model} {nm:Value} {Q:Unit->Shared->Prop} {h:Heap} {g:Array GenState} {d:Drawn} {t:Nat} {os:OsState} (L4:Looks M h (isInstance (.ref a) (.type "BaseException")) true) (hq:Q () ⟨h,g,d,t,os⟩):wpAny M A (checkBuiltinCall "BaseException.__getattribute__" ⟨[.ref a,nm],[]⟩) Q E ⟨h,g,d,t,os⟩:=by
 have hk:builtinKind "BaseException.__getattribute__" = some .slot:=by decide +kernel
 have hsp:splitId "BaseException.__getattribute__" = some ("BaseException", "__getattribute__"):=by decide +kernel
 have hag:=F.args_bexc_ga (.ref a) nm
 simp only [checkBuiltinCall,hk,hsp]
 refine Zy (L4.at ?_)
 rw [Zn (by decide)]
 unfold argsOk at hag
 cases hs:Manifest.signature? "BaseException.__getattribute__" with
 | none=>exact Zs hq
 | some sig =>
  rw [hs] at hag
  exact (show wpAny M A (Bind.checkArgs "BaseException.__getattribute__" sig ⟨[.ref a,nm],[]⟩) Q E ⟨h,g,d,t,os⟩ from (congrArg (fun z=>wpAny M A z Q E ⟨h,g,d,t,os⟩) hag).mpr (Zs hq))
theorem uz (C:XCl K D) (X:K.In s.heap) (I:InstAt s.heap a oe D none) {Q:Wr->Shared->Prop} (h:Q (some (.ref D)) { s with toks:=s.toks+1 }):wpAny (model prog w) A (getAttr? (.ref a) "__class__") Q E s:=by
 obtain ⟨hh,g,d,t,os⟩:=s
 have L0:=I.type (M:=model prog w)
 have L1:=looks_findIn (M:=model prog w) X C.ga
 have L2:=looks_findIn (M:=model prog w) X C.gn
 have L3:=looks_find (M:=model prog w) X I C.cl
 have L4:Looks (model prog w) hh (isInstance (.ref a) (.type "BaseException")) true:=L0.andThen (looks_mroIn (M:=model prog w) X C.mb)
 have hx2:(Value.builtin "BaseException.__getattribute__" == Value.builtin "object.__getattribute__")=false:=by decide +kernel
 unfold getAttr? getAttrBy? getAttrBy
 refine Zy (wpAny_mkText (Zy (Wg (YN (Zy (L0.at (Zy (L1.at ?_))))))))
 dsimp only
 rw [hx2,Bool.and_false,Zn Zm]
 unfold getAttrByItsOwn hookBefore callGetattribute
 rw [Zq (show onTheHeap (Value.ref D)=true from rfl)]
 refine Zy (L2.at (Zy (Wg (YN ?_))))
 rw [Bool.false_and,Zn Zm]
 unfold boundAndCalled
 have f3:=(PySem.F.attr_Exception).ga.bind (.ref a)
 rw [f3]
 refine Zy (Zs ?_)
 dsimp only
 refine wpAny_call (codeAny_call_builtin (PySem.F.attr_Exception).ga.plain F.entry_bexc_ga (wc L4 ?_))
 unfold Builtin.«object.__getattribute__»
 refine Zy (Zs (a:=(Value.ref a,[Value.str (Str.ofString "__class__") t])) ?_)
 refine Zy (Zs (a:=Str.ofString "__class__") (Zy (L0.at (Zy (L3.at ?_)))))
 show wpAny _ _ (holding [_] (call (Value.builtin "getset_descriptor.__get__") [Value.builtin "object.__class__",Value.ref a,Value.ref D]) >>= ret) _ _ _
 refine Zy (YN (wpAny_call (class_get X I C.mo (Zs ?_))))
 exact handed_on rfl (Zs h)
theorem vw (C:XCl K D):KitX K (.ref a) (.ref D) (fun h=>InstAt h a oe D none):=by
 obtain ⟨cd,hcd,_⟩:=Zz.mp C.mo
 have at_:∃ c' d' sl',K.lookup D=some ⟨c',d',.cls cd,sl'⟩:=by
  unfold clsIn at hcd
  split at hcd
  ·rename_i c' d' cd' sl' ho
   cases hcd
   exact ⟨c',d',sl',ho⟩
  ·cases hcd
 obtain ⟨c',d',sl',ho⟩:=at_
 refine ⟨fun _ _ _ I=>I.type,fun _ _ X _ A' Q' E' s' k q=>?_,fun h tp dd its n sl X htp=>?_,fun X I k=>uz C X I k⟩
 ·unfold isType loadHead
  exact Zy (wpAny_loadPart (k _ _ (X _ _ ho)) (Zs q))
 ·refine Bool.eq_false_iff.mpr fun q=>?_
  cases Value.ref.inj (beq_iff_eq.mp q)
  rw [X _ _ ho] at htp
  cases htp
end
end XN
namespace VS
open PySem PySem.Spec PyProof.Rows L2 XN
noncomputable def hZ (tb:Nat->Option Bool) (ca:Ex):Ex:=fun η=>(ca η).bind fun v=>match v.2 with
 | .obj c []=>(tb c).map fun b=>(.fr,.bl b)
 | _=>none
noncomputable def FN (K:Xy) (u:V) (c:Value):List V->Hp->VK->Prop:=fun vs H Q=>∃ a o D b,vs=[.ref a,u]/\H a=some (.frz o (.own a))/\(o.cls=.ref D/\o.dict=none/\∃ vs,o.data=.fields vs)/\XCl K D/\PySem.W.kitOne K (.ref D) c=some b/\Q (.bl b) H
section
variable {G:Gx} {X:Cx} {a:Expr} {ca:Ex} {pos p1 p2:Pos} {x:Str} {u:V} {c:Value} {tb:Nat->Option Bool}
theorem yh (hu:∀ z,RelV u z->z=c):d9 X (.builtin "isinstance") (FN X.K u c):=by
 intro pins s σ H xs us Q I r h
 obtain ⟨a,o,D,b,rfl,ha,⟨h1,h2,vs,h3⟩,C,e,q⟩:=h
 obtain ⟨u1,w',rfl,r1,r2⟩:=vals2 r
 cases (show u1=Value.ref a from r1)
 cases hu _ r2
 obtain ⟨hg,_⟩:=(show ba X.prog X.w H s.heap a (.frz o (.own a)) from I.hok a _ ha)
 exact Yg (vw C) I.kIn ⟨hg,h1,by unfold PySem.W.notCls;rw [h3],by rw [h2];trivial⟩ e (fun z=>nomatch z) fun tk=>⟨.bl b,H,I.tok _,rfl,q⟩
theorem xO (ha:PV G X a ca) (hn:PE X (.Name x p2) (L2.tC u)) (hu:∀ z,RelV u z->z=c) (hK:X.K=G.K) (hg:Gl X "isinstance") (hm:X.mg "isinstance" = none) (htb:∀ k b,tb k=some b->XCl X.K (G.ct k).1/\PySem.W.kitOne X.K (.ref (G.ct k).1) c=some b)
  (hs:starEach [a,.Name x p2] X.env=(false,eval a X.env) :: starEach [.Name x p2] X.env) (hs2:starEach [.Name x p2] X.env=(false,eval (.Name x p2) X.env) :: starEach [] X.env) (hpl:(backTo pos (starEach [Expr.Name x p2] X.env)).any (·.1)=false) :
  PV G X (.Call (.Name "isinstance" p1) [a,.Name x p2] [] pos) (hZ tb ca) :=
 PE.weak (lJ (yh hu) hg hm boot_isinstance (de ha (de hn fI hs2) hs) (by decide) rfl hs hpl) fun σ H Q hq=>by
  obtain ⟨Φ,η,m,t,s,e,k⟩:=hq
  unfold hZ at e
  obtain ⟨⟨mx,y⟩,ea,e'⟩:=Zz.mp e
  split at e'
  ·rename_i n hy
   obtain ⟨b,eb,e2⟩:=Zo.mp e'
   cases e2
   obtain ⟨h1,h2⟩:=htb _ _ eb
   refine ⟨Φ,η,mx,y,s,ea,fun v H' F e1 r1 f1=>?_⟩
   dsimp only at hy
   subst hy
   generalize hz:T.obj n []=z at r1
   cases r1 with
   | exc q1 q2 =>
    cases hz
    exact ⟨_,_,_,b,rfl,q1,q2,h1,h2,k _ H' _ e1 (.bl _) Fp.nil⟩
   | _=>cases hz
  ·cases e'
theorem Du {D:Addr} (ha:PV G X a ca) (hg2:Gl X x) (hm2:X.mg x=some (.ref D)) (hdb:(x == ("__debug__" : Str))=false) (hK:X.K=G.K) (hg:Gl X "isinstance") (hm:X.mg "isinstance" = none) (htb:∀ k b,tb k=some b->XCl X.K (G.ct k).1/\PySem.W.kitOne X.K (.ref (G.ct k).1) (.ref D)=some b)
  (hs:starEach [a,.Name x p2] X.env=(false,eval a X.env) :: starEach [.Name x p2] X.env) (hs2:starEach [.Name x p2] X.env=(false,eval (.Name x p2) X.env) :: starEach [] X.env) (hpl:(backTo pos (starEach [Expr.Name x p2] X.env)).any (·.1)=false) :
  PV G X (.Call (.Name "isinstance" p1) [a,.Name x p2] [] pos) (hZ tb ca):=xO (u:=.ref D) (c:=.ref D) ha (rW (v:=.ref D) hg2 hm2 rfl hdb) (fun _ h=>h) hK hg hm htb hs hs2 hpl
theorem Ca {n:String} (ha:PV G X a ca) (hg2:Gl X x) (hm2:X.mg x=none) (hv:bootBuiltins x=some (.type n)) (hne:x ≠ "__name__") (hdb:(x == ("__debug__" : Str))=false) (hK:X.K=G.K) (hg:Gl X "isinstance") (hm:X.mg "isinstance" = none) (htb:∀ k b,tb k=some b->XCl X.K (G.ct k).1/\PySem.W.kitOne X.K (.ref (G.ct k).1) (.type n)=some b)
  (hs:starEach [a,.Name x p2] X.env=(false,eval a X.env) :: starEach [.Name x p2] X.env) (hs2:starEach [.Name x p2] X.env=(false,eval (.Name x p2) X.env) :: starEach [] X.env) (hpl:(backTo pos (starEach [Expr.Name x p2] X.env)).any (·.1)=false) :
  PV G X (.Call (.Name "isinstance" p1) [a,.Name x p2] [] pos) (hZ tb ca):=xO (u:=.ty n) (c:=.type n) ha (tf (v:=.ty n) hg2 hm2 hv rfl hne hdb) (fun _ h=>h) hK hg hm htb hs hs2 hpl
end
end VS
end
section
namespace VS
open PySem PySem.Spec PyProof.Rows L2 XN PySem.F
noncomputable def rM (x:Str) (cs:Exs):SxX:=fun η=>(cs η).bind fun l=>if l.length<=1000 then some (.ex x η) else none
noncomputable def mt1 (n:Str):Str->Option Nat:=fun x=>if x=n then some 0 else none
noncomputable def gxE (K:Xy) (C:Addr):Gx:=⟨K,fun _=>(C,fun k=>⟨#[k]⟩)⟩
theorem zY (K:Xy) (C:Addr):zA (gxE K C):=fun c k k' h=>zS K c k k' h
section
variable {G:Gx} {X:Cx} {e:Expr} {es:List Expr} {st:Stmt} {sts:List Stmt} {pos p:Pos} {k k':Nat} {x:Str} {ps:List Str} {cs:Exs}
theorem wN {xc:Sx} (h:dS G X.nox sts xc):ft G X sts (sL xc):=Ag h
theorem Bz {xa:SxX} (h:PSX G X st xa):ft G X [st] xa:=DU h
theorem Ak {xa xb:SxX} (h1:PSX G X st xa) (h2:ft G X sts xb):ft G X (st :: sts) (iw xa xb):=CV h1 h2
theorem D3 {t:Expr} {xt:Ex} {A B:List Stmt} {xa xb:SxX} (hc:PVT G X.nox t xt) (ha:ft G X A xa) (hb:ft G X B xb):PSX G X (.If t A B pos) (xIf xt xa xb):=FF hc ha hb
theorem BL {xe:ExX} (h:PVX G X e xe):PSX G X (.Return (some e) pos) (xOf dj xe):=Dq h
theorem zM {xe:ExX} (h:PVX G X e xe) (hsw:swapsWith e none pos.line X.env=pure false):PSX G X (.Expr e pos) (xOf (fun c=>sX (xP c)) xe):=BK h hsw
theorem BB {xe:ExX} (i:Nat) {pos':Pos} (h:PVX G X e xe) (hN:X.N.Nodup) (hi:X.N[i]?=some x) (hx:Loc X.env.scope x) (hs:swapsWith e (some (.Name x pos')) pos.line X.env=pure false) (hf:X.fn x=true\/X.env.scope.names.lookup x=some .local):PSX G X (.Assign [.Name x pos'] e pos) (xOf (aN i) xe):=Df h hN hi hx hs hf
theorem yz {xg:FnX} (F:FnXt X.prog X.w X.K X.mg X.base k x ps G xg) (hr:Room k' X.A) (ha:PVs G X.nox (e :: es) cs) (hk:k<=k') (hg:Gl X x) (hdb:(x == ("__debug__" : Str))=false)
  (he:starEach (e :: es) X.env=(false,eval e X.env) :: starEach es X.env) (hpl:(backTo pos (starEach es X.env)).any (·.1)=false) (hex:X.ex=[]):PVX G X (.Call (.Name x p) (e :: es) [] pos) (cj xg cs):=by
 obtain ⟨f,fd,h1,h2,h3,h4⟩:=F.ex
 exact x_call h1 (hr.mono hk) hg h2 h3 h4 ha hdb he hpl hex
theorem xU {C:Addr} {np cpos:Pos} (hq:PySem.W.excIn X.K C [.type "ValueError",.type "Exception",.type "BaseException",.type "object"] "ValueError.__new__" = true) (hm:X.mg x=some (.ref C)) (hg:Gl X x) (hc:X.calm=true) (ha:PVs G X.nox [e] cs)
  (hdb:(x == ("__debug__" : Str))=false) (hs:starEach [e] X.env=(false,eval e X.env) :: starEach [] X.env) (hpl:(backTo cpos (starEach [] X.env)).any (·.1)=false) (hex:X.ex=[]) :
  PSX G X (.Raise (some (.Call (.Name x np) [e] [] cpos)) none pos) (rM x cs):=x_raise excBase_ValueError (by decide +kernel) hq hm hg hc ha hdb hs hpl hex
theorem Dc {body suite:List Stmt} {b₀:Stmt} {xb:SxX} {xh:Sx} (j:Nat) {y n:Str} {C:Value} {np hpos:Pos} (hst:X.stack=X.env :: X.outer) (hfr:X.env.frame=some X.env.locals) (hb:∀ W pn,ft G { X with xe:=W,pn:=pn } body xb)
  (hh:∀ a,dS G (Cx.hand X a) (b₀ :: suite) xh) (hN:X.N.Nodup) (hj:X.N[j]?=some n) (hl:X.env.scope.names.lookup n=some .local) (hm:X.mg y=some C) (hg:Gl X y) (hdb:(y == ("__debug__" : Str))=false) {z:Str}
  (hz:X.mg z=some (.ref (G.ct 0).1)) (he:PySem.W.exmOne X.K (.ref (G.ct 0).1) C=some true) :
  PSV G X (.Try body [.ExceptHandler (some (.Name y np)) (some n) (b₀ :: suite) hpos] [] [] pos) (uT xb j (mt1 z) xh):=DE hst hfr hb hh hN hj hl hm hg hdb fun x c h=>by
 unfold mt1 at h
 split at h
 ·rename_i hx
  cases h
  rw [hx]
  exact ⟨hz,he⟩
 ·cases h
theorem Ez {a:Expr} {ca:Ex} {p1 p2:Pos} {D:Addr} (b:Bool) (ha:PV G X a ca) (hg2:Gl X x) (hm2:X.mg x=some (.ref D)) (hdb:(x == ("__debug__" : Str))=false) (hK:X.K=G.K) (hg:Gl X "isinstance") (hm:X.mg "isinstance" = none) (hx:∀ k,XCl X.K (G.ct k).1/\PySem.W.kitOne X.K (.ref (G.ct k).1) (.ref D)=some b)
  (hs:starEach [a,.Name x p2] X.env=(false,eval a X.env) :: starEach [.Name x p2] X.env) (hs2:starEach [.Name x p2] X.env=(false,eval (.Name x p2) X.env) :: starEach [] X.env) (hpl:(backTo pos (starEach [Expr.Name x p2] X.env)).any (·.1)=false) :
  PV G X (.Call (.Name "isinstance" p1) [a,.Name x p2] [] pos) (hZ (fun _=>some b) ca):=Du ha hg2 hm2 hdb hK hg hm (fun k _ h=>by cases h;exact hx k) hs hs2 hpl
theorem D7 {a:Expr} {ca:Ex} {p1 p2:Pos} {n:String} (b:Bool) (ha:PV G X a ca) (hg2:Gl X x) (hm2:X.mg x=none) (hv:bootBuiltins x=some (.type n)) (hne:x ≠ "__name__") (hdb:(x == ("__debug__" : Str))=false) (hK:X.K=G.K) (hg:Gl X "isinstance") (hm:X.mg "isinstance" = none) (hx:∀ k,XCl X.K (G.ct k).1/\PySem.W.kitOne X.K (.ref (G.ct k).1) (.type n)=some b)
  (hs:starEach [a,.Name x p2] X.env=(false,eval a X.env) :: starEach [.Name x p2] X.env) (hs2:starEach [.Name x p2] X.env=(false,eval (.Name x p2) X.env) :: starEach [] X.env) (hpl:(backTo pos (starEach [Expr.Name x p2] X.env)).any (·.1)=false) :
  PV G X (.Call (.Name "isinstance" p1) [a,.Name x p2] [] pos) (hZ (fun _=>some b) ca):=Ca ha hg2 hm2 hv hne hdb hK hg hm (fun k _ h=>by cases h;exact hx k) hs hs2 hpl
end
section
variable {P:Program} {w:World} {K:Xy} {mg:Xm} {base:Heap}
noncomputable def yY:Fn:=fun ts=>match ts with
 | [.scr _]=>some (.fr,.bl true)
 | _=>none
theorem Cq {k:Nat} {f C:Addr} {fd:FuncData} {y:Str} {g:Fn} (F:FnOk P w K mg base CX0 k f fd [y] (spF (gxE K C) g)) (hg:∀ ns:Vz,g [.scr ns]=some (.fr,.bl true)) :
  FnOk P w K mg base CX0 k f fd [y] (spF (gx0 K) yY):=F.imp fun vs H Q E h=>by
 obtain ⟨ts,Fs,m,r,h1,h2,q⟩:=h
 unfold yY at h2
 split at h2
 ·rename_i ns
  cases h2
  cases h1 with
  | cons r1 r2 =>
   cases r2
   cases r1 with
   | scr hs=>exact ⟨[.scr ns],[[]],.fr,.bl true,.cons (.scr hs) .nil,hg ns,fun v H' F e1 r f1=>q v H' F e1 (by cases r;exact .bl _) f1⟩
 ·cases h2
end
end VS
end
section
namespace VS
open PySem PySem.Spec PyProof.Rows L2 XN
structure Q (p:Prop):Prop where h:p
section
variable {G:Gx} {X:Cx} {a b c e tg iter elt:Expr} {es rest:List Expr} {ca cb cc ce:Ex} {cs:Exs} {pos pos' spos p p1 p2 apos cpos tpos:Pos} {k k' n i:Nat} {x:Str} {st:Stmt} {sts:List Stmt} {c1 c2:Sx} {sc:Scope} {N:List Str} {ci:Its} {g:Tg} {elts:List Expr} {ps:List Str}
theorem af {i j pos}:Q (PV G X (.Constant (.int i) j pos) (eC (.int i))):=⟨C8⟩
theorem nV {i j pos}:Q (PV G X (.Constant (.bool i) j pos) (eC (.bl i))):=⟨E1⟩
theorem mB {j pos}:Q (PV G X (.Constant .none j pos) (eC .non)):=⟨CA⟩
theorem d4 {x:Str} {t:Tx} {j pos} (h:x=sx t) (hl:iP t):Q (PV G X (.Constant (.str x) j pos) (eC (.str t))):=⟨CQ h hl⟩
theorem aa (i:Nat) {x:Str} {pos:Pos} (hN:X.N[i]?=some x) (hv:Vis X.env.scope x) (hd:(x == ("__debug__" : Str))=false) (hcd:(x == ("__classdict__" : Str))=false):Q (PV G X (.Name x pos) (aj i)):=⟨Dm i hN hv hd hcd⟩
theorem ag  : Q (PVs G X [] aA):=⟨Ax⟩
theorem ae (ha:Q (PV G X e ca)) (hr:Q (PVs G X es cs)) (hs:starEach (e :: es) X.env=(false,eval e X.env) :: starEach es X.env):Q (PVs G X (e :: es) (ah ca cs)):=⟨wz ha.h hr.h hs⟩
theorem bQ (h:Q (PVs G X es cs)):Q (PV G X (.List es pos) (gr cs)):=⟨CK h.h⟩
theorem gz {x1} (h:Q (PVs G X es cs)):Q (PV G X (.Tuple es x1 pos) (kI cs)):=⟨CM h.h⟩
theorem m8 (h:Q (PV G X a ca)) (hK:X.K=G.K) (he:∀ whole,isTrue a X.env whole=(do let v ← whole;standAt a.pos;holding [v] (truthy v))):Q (PVT G X a ca):=⟨zu h.h hK he⟩
theorem jY (h:Q (PVW G X e ca)):Q (PVT G X e ca):=⟨PVW.pvt h.h⟩
theorem mD (ha:Q (PVT G X a ca)):Q (PVW G X (.BoolOp .And [a] pos) ca):=⟨vR ha.h⟩
theorem uB (ha:Q (PVT G X a ca)):Q (PVW G X (.BoolOp .Or [a] pos) ca):=⟨zi ha.h⟩
theorem kf (ha:Q (PVT G X a ca)) (hb:Q (PVW G X (.BoolOp .And (b :: rest) pos) cb)):Q (PVW G X (.BoolOp .And (a :: b :: rest) pos) (i0 ca cb)):=⟨Ab ha.h hb.h⟩
theorem xS (ha:Q (PVT G X a ca)) (hb:Q (PVW G X (.BoolOp .Or (b :: rest) pos) cb)):Q (PVW G X (.BoolOp .Or (a :: b :: rest) pos) (eOr ca cb)):=⟨Bq ha.h hb.h⟩
theorem kl (ha:Q (PVT G X a ca)):Q (PVT G X (.UnaryOp .Not a pos) (gO ca)):=⟨yH ha.h⟩
theorem lP (ha:Q (PV G X a ca)):Q (PV G X (.UnaryOp .Not a pos) (gO ca)):=⟨CL ha.h⟩
theorem lQ {op} (h:Q (PV G X a ca)):Q (PV G X (.BoolOp op [a] pos) ca):=⟨CH h.h⟩
theorem jF (ha:Q (PV G X a ca)) (hb:Q (PV G X (.BoolOp .And (b :: rest) pos) cb)):Q (PV G X (.BoolOp .And (a :: b :: rest) pos) (i0 ca cb)):=⟨CJ ha.h hb.h⟩
theorem gJ  : Q (PVO G X none none):=⟨vy⟩
theorem cU (h:Q (PV G X a ca)):Q (PVO G X (some a) (some ca)):=⟨vp h.h⟩
theorem eJ {lo hi:Option Expr} {cl ch:Option Ex} {p2:Pos} (ha:Q (PV G X a ca)) (hl:Q (PVO G X lo cl)) (hh:Q (PVO G X hi ch)) (hK:X.K=G.K):Q (PV G X (.Subscript a (.Slice lo hi none p2) pos) (eSl ca cl ch)):=⟨wX ha.h hl.h hh.h hK⟩
theorem bH  : Q (dS G X [] ic):=⟨yB⟩
theorem ak (h1:Q (PSV G X st c1)) (h2:Q (dS G X sts c2)):Q (dS G X (st :: sts) (av c1 c2)):=⟨xV h1.h h2.h⟩
theorem ar (h1:Q (PSV G X st c1)):Q (dS G X [st] c1):=⟨Av h1.h⟩
theorem dX {t:Expr} {ct:Ex} {a b:List Stmt} (hc:Q (PVT G X t ct)) (ha:Q (dS G X a c1)) (hb:Q (dS G X b c2)):Q (PSV G X (.If t a b pos) (sIf ct c1 c2)):=⟨Dl hc.h ha.h hb.h⟩
theorem bt (he:Q (PV G X e ce)):Q (PSV G X (.Return (some e) pos) (dj ce)):=⟨rV he.h⟩
theorem dI (i:Nat) {x:Str} {p:Pos} (hN:X.N[i]?=some x) (hv:Vis X.env.scope x) (hd:(x == ("__debug__" : Str))=false) (hcd:(x == ("__classdict__" : Str))=false):Q (PSV G X (.Return (some (.Name x p)) pos) (iT i)):=⟨vf i hN hv hd hcd⟩
theorem cW {i:Nat} {x:Str} {pos':Pos} (he:Q (PV G X e ce)) (hN:X.N.Nodup) (hi:X.N[i]?=some x) (hx:Loc X.env.scope x) (hs:swapsWith e (some (.Name x pos')) pos.line X.env=pure false) (hf:X.fn x=true\/X.env.scope.names.lookup x=some .local):Q (PSV G X (.Assign [.Name x pos'] e pos) (kE i ce)):=⟨yO he.h hN hi hx hs hf⟩
theorem aq {i:Nat} {x:Str} {pos':Pos} (he:Q (PV G X e ce)) (hN:X.N.Nodup) (hi:X.N[i]?=some x) (hx:Loc X.env.scope x) (hs:swapsWith e (some (.Name x pos')) pos.line X.env=pure false) (hf:X.fn x=true\/X.env.scope.names.lookup x=some .local):Q (PSV G X (.Assign [.Name x pos'] e pos) (aN i ce)):=⟨pZ he.h hN hi hx hs hf⟩
theorem mW {c:Sx} (i:Nat) (h:Q (dS G X sts c)):Q (dS G X sts (av (wJ i) c)):=⟨zy i h.h⟩
theorem bS (ha:Q (PV G X a ca)) (hg:Gl X "range") (hm:X.mg "range" = none) (hs:starEach [a] X.env=(false,eval a X.env) :: starEach [] X.env) (hs':starEach [a] X.env=[(false,eval a X.env)]):Q (PVI G X tg (.Call (.Name "range" p) [a] [] pos) (cw ca)):=⟨rK ha.h hg hm hs hs'⟩
theorem nS (ha:Q (PV G X a ca)) (hb:Q (PV G X b cb)) (hg:Gl X "range") (hm:X.mg "range" = none) (hs:starEach [a,b] X.env=(false,eval a X.env) :: starEach [b] X.env) (hs':starEach [a,b] X.env=[(false,eval a X.env),(false,eval b X.env)]) (hs1:starEach [b] X.env=(false,eval b X.env) :: starEach [] X.env) (hs2:starEach [b] X.env=[(false,eval b X.env)]):Q (PVI G X tg (.Call (.Name "range" p) [a,b] [] pos) (kT ca cb)):=⟨qS ha.h hb.h hg hm hs hs' hs1 hs2⟩
theorem aJ (i:Nat) {x:Str} (hN:X.N.Nodup) (hi:X.N[i]?=some x) (hx:Loc X.env.scope x) (hf:X.fn x=true\/X.env.scope.names.lookup x=some .local):Q (PVG G X (.Name x pos) (bE i)):=⟨ye i hN hi hx hf⟩
theorem gI  : Q (oO G X [] []):=⟨vO⟩
theorem b9 {g:Tg} {gs:List Tg} (h1:Q (PVG G X e g)) (h2:Q (oO G X es gs)) (hs:(assignEach (e :: es) X.env).map (·.2)=assign e X.env :: (assignEach es X.env).map (·.2)):Q (oO G X (e :: es) (g :: gs)):=⟨ub h1.h h2.h hs⟩
theorem iC {gs:List Tg} {k:Nat} (hc:X.calm=true) (h:Q (oO G X es gs)) (hn:(assignEach es X.env).length=gs.length) (hst:(assignEach es X.env).findIdx? (·.1)=none) (hK:X.K=G.K):Q (PVG G X (.Tuple es k pos) (ja gs)):=⟨zG hc h.h hn hst hK⟩
theorem bh {iter:Expr} {body:List Stmt} {ci:Its} {g:Tg} {cb:Sx} (hp:PassesOwn (model X.prog X.w) X.A X.env X.xe) (hc:X.calm=true) (hi:Q (PVI G X tg iter ci)) (hg:Q (PVG G X tg g)) (hb:Q (dS G X body cb)) (hs:∀ x,foldedSetIterable iter X.env x=pure x):Q (PSV G X (.For tg iter body [] pos) (eW g ci cb)):=⟨Ah hp hc hi.h hg.h hb.h hs⟩
theorem nI (k:Nat) (N:List Str) (hcalm:X.calm=true) (hi:Q (PVI G X tg iter ci)) (hin:mH k g) (hg:∀ cl C s H fp,Q (PVG G (bx X N sc cl C s H fp) tg g)) (he:∀ cl C s H fp,Q (PV G (bx X N sc cl C s H fp) elt ce)) (hsc:lM X.env sc=true) (hnm:jv sc (N.drop k) X.N=true) (hNl:k<=N.length) (hs:∀ x,foldedSetIterable iter X.env x=pure x):Q (PV G X (.ListComp elt [⟨tg,iter,[],0⟩] sc pos) (h9 k g ci none ce)):=⟨yk k N hcalm hi.h hin (fun cl C s H fp=>(hg cl C s H fp).h) (fun cl C s H fp=>(he cl C s H fp).h) hsc hnm hNl hs⟩
theorem pF (k:Nat) (N:List Str) (hcalm:X.calm=true) (hi:Q (PVI G X tg iter ci)) (hin:mH k g) (hg:∀ cl C s H fp,Q (PVG G (bx X N sc cl C s H fp) tg g)) (hc:∀ cl C s H fp,Q (PVT G (bx X N sc cl C s H fp) c cc)) (he:∀ cl C s H fp,Q (PV G (bx X N sc cl C s H fp) elt ce)) (hsc:lM X.env sc=true) (hnm:jv sc (N.drop k) X.N=true) (hNl:k<=N.length) (hs:∀ x,foldedSetIterable iter X.env x=pure x):Q (PV G X (.ListComp elt [⟨tg,iter,[c],0⟩] sc pos) (h9 k g ci (some cc) ce)):=⟨t8 k N hcalm hi.h hin (fun cl C s H fp=>(hg cl C s H fp).h) (fun cl C s H fp=>(hc cl C s H fp).h) (fun cl C s H fp=>(he cl C s H fp).h) hsc hnm hNl hs⟩
theorem gS (ha:Q (PV G X a ca)) (hg:Gl X "enumerate") (hm:X.mg "enumerate" = none) (hs:starEach [a] X.env=(false,eval a X.env) :: starEach [] X.env) (hs':starEach [a] X.env=[(false,eval a X.env)]):Q (PVI G X (.Tuple elts n tpos) (.Call (.Name "enumerate" p) [a] [] pos) (ky ca)):=⟨wK ha.h hg hm hs hs'⟩
theorem aY (ha:Q (PV G X a ca)) (hb:Q (PV G X b cb)):Q (PV G X (.BinOp a .Add b pos) (e2 bR ca cb)):=⟨w_add ha.h hb.h⟩
theorem fY (ha:Q (PV G X a ca)) (hb:Q (PV G X b cb)):Q (PV G X (.BinOp a .Sub b pos) (e2 kJ ca cb)):=⟨w_sub ha.h hb.h⟩
theorem dW (ha:Q (PV G X a ca)) (hb:Q (PV G X b cb)):Q (PV G X (.BinOp a .Mult b pos) (e2 eI ca cb)):=⟨w_mul ha.h hb.h⟩
theorem dU (ha:Q (PV G X a ca)) (hb:Q (PV G X b cb)):Q (PV G X (.BinOp a .FloorDiv b pos) (e2 fz ca cb)):=⟨Bh ha.h hb.h⟩
theorem bq (ha:Q (PV G X a ca)) (hb:Q (PV G X b cb)):Q (PV G X (.BinOp a .Mod b pos) (e2 oMod ca cb)):=⟨w_mod ha.h hb.h⟩
theorem zW (ha:Q (PV G X a ca)) (hb:Q (PV G X b cb)):Q (PVT G X (.Compare a [.Lt] [b] pos) (e2 oLt ca cb)):=⟨DM ha.h hb.h⟩
theorem rn (hr:Room k X.A) (ha:Q (PV G X a ca)) (hb:Q (PV G X b cb)):Q (PV G X (.Compare a [.Eq] [b] pos) (e2 oEq ca cb)):=⟨w_eq hr ha.h hb.h⟩
theorem fQ (hr:Room k X.A) (ha:Q (PV G X a ca)) (hb:Q (PV G X b cb)):Q (PVT G X (.Compare a [.Eq] [b] pos) (e2 oEq ca cb)):=⟨Ed hr ha.h hb.h⟩
theorem sG (hr:Room k X.A) (ha:Q (PV G X a ca)) (hb:Q (PV G X b cb)):Q (PVT G X (.Compare a [.NotEq] [b] pos) (e2 oNe ca cb)):=⟨D6 hr ha.h hb.h⟩
theorem aL (ha:Q (PV G X a ca)) (hb:Q (PV G X b cb)) (hs:gQ b) (hK:X.K=G.K):Q (PV G X (.Subscript a b pos) (e2 aV ca cb)):=⟨E2 ha.h hb.h hs hK⟩
theorem cm (hm:X.mg "len" = none) (ha:Q (PVs G X [e] cs)) (hg:Gl X "len") (hK:X.K=G.K) (he:starEach [e] X.env=(false,eval e X.env) :: starEach [] X.env):Q (PV G X (.Call (.Name "len" p) [e] [] pos) (eN d8 cs)):=⟨EW hm ha.h hg hK he⟩
theorem qj (hm:X.mg "min" = none) (ha:Q (PVs G X [a,b] cs)) (hc:X.calm=true) (hg:Gl X "min") (he:starEach [a,b] X.env=(false,eval a X.env) :: starEach [b] X.env) (hpl:(backTo pos (starEach [b] X.env)).any (·.1)=false):Q (PV G X (.Call (.Name "min" p) [a,b] [] pos) (eN nc cs)):=⟨B7 hm ha.h hc hg he hpl⟩
theorem wR (t:Ty) (hm:X.mg "isinstance" = none) (hm2:X.mg (tyN t)=none) (ha:Q (PV G X a ca)) (hg:Gl X "isinstance") (hg2:Gl X (tyN t)) (hK:X.K=G.K) (hs:starEach [a,.Name (tyN t) p2] X.env=(false,eval a X.env) :: starEach [.Name (tyN t) p2] X.env):Q (PV G X (.Call (.Name "isinstance" p1) [a,.Name (tyN t) p2] [] pos) (eIs t ca)):=⟨w_is t hm hm2 ha.h hg hg2 hK hs⟩
theorem eO (i:Nat) {x:Str} (ha:Q (PVs G X [e] cs)) (hK:X.K=G.K) (hN:X.N[i]?=some x) (hv:Vis X.env.scope x) (hd:(x == ("__debug__" : Str))=false) (hcd:(x == ("__classdict__" : Str))=false) (hfew:((backTo cpos (starEach [e] X.env)).all (fun x=>!x.1) && (backToKw cpos (keywordEach [] X.env)).all (fun x=>x.1.isSome)
   && decide ([e].length+([]:List Keyword).length+(if ([]:List Keyword).isEmpty then 0 else 1) < 30))=true) (hline:(apos.endLine == cpos.line)=true) (hs:starEach [e] X.env=(false,eval e X.env) :: starEach [] X.env):Q (PSV G X (.Expr (.Call (.Attribute (.Name x p1) "append" apos) [e] [] cpos) pos) (sX (lz i [] bg cs))):=⟨v3 i ha.h hK hN hv hd hcd hfew hline hs⟩
theorem aQ {g:Fn} (F:FnAt X.prog X.w X.K X.mg X.base k x ps G g) (hr:Room k' X.A) (ha:Q (PVs G X (e :: es) cs)) (hk:k<=k') (hg:Gl X x) (hdb:(x == ("__debug__" : Str))=false) (he:starEach (e :: es) X.env=(false,eval e X.env) :: starEach es X.env) (hpl:(backTo pos (starEach es X.env)).any (·.1)=false):Q (PV G X (.Call (.Name x p) (e :: es) [] pos) (aZ g cs)):=⟨CN F hr ha.h hk hg hdb he hpl⟩
theorem fj (ha:Q (PV G X a ca)) (hK:X.K=G.K):Q (PVI G X tg a (kG ca)):=⟨yC ha.h hK⟩
theorem zc (hm:X.mg "any" = none) (ha:Q (PVs G X [e] cs)) (hg:Gl X "any") (hK:X.K=G.K) (hc:X.calm=true) (he:starEach [e] X.env=(false,eval e X.env) :: starEach [] X.env):Q (PV G X (.Call (.Name "any" p) [e] [] pos) (eN xi cs)):=⟨w_any hm ha.h hg hK hc he⟩
theorem nj (hm:X.mg "tuple" = none) (ha:Q (PVs G X [e] cs)) (hg:Gl X "tuple") (hK:X.K=G.K) (he:starEach [e] X.env=(false,eval e X.env) :: starEach [] X.env):Q (PV G X (.Call (.Name "tuple" p) [e] [] pos) (eN fW cs)):=⟨yE hm ha.h hg hK he⟩
theorem oA (ha:Q (PV G X a ca)) (hb:Q (PV G X b cb)):Q (PVT G X (.Compare a [.Gt] [b] pos) (e2 oGt ca cb)):=⟨DC ha.h hb.h⟩
theorem sI (ha:Q (PV G X a ca)) (hb:Q (PV G X b cb)):Q (PVT G X (.Compare a [.GtE] [b] pos) (e2 oGe ca cb)):=⟨DL ha.h hb.h⟩
theorem qE  : Q (PV G X (.Dict [] [] pos) (kg 0 [])):=⟨Ce⟩
theorem kB {body:List Stmt} {cb:Sx} (hp:PassesOwn (model X.prog X.w) X.A X.env X.xe) (hc:Q (PVT G X c cc)) (hb:Q (dS G X body cb)):Q (PSV G X (.While c body [] pos) (mq cc cb)):=⟨uE hp hc.h hb.h⟩
theorem nN (hr:Room k X.A) (ha:Q (PV G X a ca)) (hb:Q (PV G X b cb)) (hs:gQ b) (hK:X.K=G.K):Q (PV G X (.Subscript a b pos) (e2 oIx ca cb)):=⟨FE hr ha.h hb.h hs hK⟩
theorem yG (hr:Room k X.A) (ha:Q (PV G X a ca)) (hb:Q (PV G X b cb)) (hm:behindInMarks .In b=false) (hK:X.K=G.K):Q (PVT G X (.Compare a [.In] [b] pos) (e2 lV ca cb)):=⟨E4 hr ha.h hb.h hm hK⟩
theorem uk (hm:X.mg "list" = none) (ha:Q (PVs G X [e] cs)) (hg:Gl X "list") (hK:X.K=G.K) (hc:X.calm=true) (he:starEach [e] X.env=(false,eval e X.env) :: starEach [] X.env):Q (PV G X (.Call (.Name "list" p) [e] [] pos) (eN ka cs)):=⟨Ai hm ha.h hg hK hc he⟩
theorem kR {G:Gx} {X:Cx} {i:Int} {j:Nat} {pos p:Pos}:Q (PV G X (.UnaryOp .USub (.Constant (.int i) j p) pos) (eC (.int (-i)))):=⟨EZ⟩
theorem rA (J:zA G) (i:Nat) {x:Str} (hk:Q (PV G X b ck)) (hv:Q (PVs G X [e] cs)) (hK:X.K=G.K) (hN:X.N[i]?=some x) (hvis:Vis X.env.scope x) (hd:(x == ("__debug__" : Str))=false) (hcd:(x == ("__classdict__" : Str))=false) (hb1:attributeBase (.Name x p1) "setdefault" X.env (eval (.Name x p1) X.env)=eval (.Name x p1) X.env) (hf1:((backTo cp1 (starEach [b,.List [] lp] X.env)).all (fun x=>!x.1) && (backToKw cp1 (keywordEach [] X.env)).all (fun x=>x.1.isSome)
   && decide ([b,Expr.List [] lp].length+([]:List Keyword).length+(if ([]:List Keyword).isEmpty then 0 else 1) < 30))=true) (hl1:(ap1.endLine == cp1.line)=true) (hs1:starEach [b,.List [] lp] X.env=(false,eval b X.env) :: starEach [.List [] lp] X.env) (hs1':starEach [.List [] lp] X.env=(false,eval (.List [] lp) X.env) :: starEach [] X.env) (hp1:(backTo cp1 (starEach [.List [] lp] X.env)).any (·.1)=false) (hb2:attributeBase (.Call (.Attribute (.Name x p1) "setdefault" ap1) [b,.List [] lp] [] cp1) "append" X.env (eval (.Call (.Attribute (.Name x p1) "setdefault" ap1) [b,.List [] lp] [] cp1) X.env)=eval (.Call (.Attribute (.Name x p1) "setdefault" ap1) [b,.List [] lp] [] cp1) X.env) (hf2:((backTo cpos (starEach [e] X.env)).all (fun x=>!x.1) && (backToKw cpos (keywordEach [] X.env)).all (fun x=>x.1.isSome)
   && decide ([e].length+([]:List Keyword).length+(if ([]:List Keyword).isEmpty then 0 else 1) < 30))=true) (hl2:(apos.endLine == cpos.line)=true) (hs2:starEach [e] X.env=(false,eval e X.env) :: starEach [] X.env) (hp2:(backTo cpos (starEach [] X.env)).any (·.1)=false) (hsw:swapsWith (.Call (.Attribute (.Call (.Attribute (.Name x p1) "setdefault" ap1) [b,.List [] lp] [] cp1) "append" apos) [e] [] cpos) none pos.line X.env=pure false):Q (PSV G X (.Expr (.Call (.Attribute (.Call (.Attribute (.Name x p1) "setdefault" ap1) [b,.List [] lp] [] cp1) "append" apos) [e] [] cpos) pos) (iM i ck cs)):=⟨wt J i hk.h hv.h hK hN hvis hd hcd hb1 hf1 hl1 hs1 hs1' hp1 hb2 hf2 hl2 hs2 hp2 hsw⟩
theorem pT (i:Nat) {x:Str} (hr:Room kr X.A) (hk:Q (PV G X b ck)) (hv:Q (PVs G X [e] cs)) (hK:X.K=G.K) (hN:X.N[i]?=some x) (hvis:Vis X.env.scope x) (hd:(x == ("__debug__" : Str))=false) (hcd:(x == ("__classdict__" : Str))=false) (hb1:attributeBase (.Name x p1) "setdefault" X.env (eval (.Name x p1) X.env)=eval (.Name x p1) X.env) (hf1:((backTo cp1 (starEach [b,.List [] lp] X.env)).all (fun x=>!x.1) && (backToKw cp1 (keywordEach [] X.env)).all (fun x=>x.1.isSome)
   && decide ([b,Expr.List [] lp].length+([]:List Keyword).length+(if ([]:List Keyword).isEmpty then 0 else 1) < 30))=true) (hl1:(ap1.endLine == cp1.line)=true) (hs1:starEach [b,.List [] lp] X.env=(false,eval b X.env) :: starEach [.List [] lp] X.env) (hs1':starEach [.List [] lp] X.env=(false,eval (.List [] lp) X.env) :: starEach [] X.env) (hp1:(backTo cp1 (starEach [.List [] lp] X.env)).any (·.1)=false) (hb2:attributeBase (.Call (.Attribute (.Name x p1) "setdefault" ap1) [b,.List [] lp] [] cp1) "append" X.env (eval (.Call (.Attribute (.Name x p1) "setdefault" ap1) [b,.List [] lp] [] cp1) X.env)=eval (.Call (.Attribute (.Name x p1) "setdefault" ap1) [b,.List [] lp] [] cp1) X.env) (hf2:((backTo cpos (starEach [e] X.env)).all (fun x=>!x.1) && (backToKw cpos (keywordEach [] X.env)).all (fun x=>x.1.isSome)
   && decide ([e].length+([]:List Keyword).length+(if ([]:List Keyword).isEmpty then 0 else 1) < 30))=true) (hl2:(apos.endLine == cpos.line)=true) (hs2:starEach [e] X.env=(false,eval e X.env) :: starEach [] X.env) (hp2:(backTo cpos (starEach [] X.env)).any (·.1)=false) (hsw:swapsWith (.Call (.Attribute (.Call (.Attribute (.Name x p1) "setdefault" ap1) [b,.List [] lp] [] cp1) "append" apos) [e] [] cpos) none pos.line X.env=pure false):Q (PSV G X (.Expr (.Call (.Attribute (.Call (.Attribute (.Name x p1) "setdefault" ap1) [b,.List [] lp] [] cp1) "append" apos) [e] [] cpos) pos) (gD i ck cs)):=⟨uU i hr hk.h hv.h hK hN hvis hd hcd hb1 hf1 hl1 hs1 hs1' hp1 hb2 hf2 hl2 hs2 hp2 hsw⟩
theorem uM  : Q (PV G X (.Dict [] [] pos) (kg 2 [])):=⟨AD⟩
theorem oS (i:Nat) (N:List Str) {x y:Str} (hr:Room kr X.A) (hcalm:X.calm=true) (hN:X.N[i]?=some x) (hv:Vis X.env.scope x) (hd:(x == ("__debug__" : Str))=false) (hcd:(x == ("__classdict__" : Str))=false) (hin:∀ cl C s H fp,PG (bx X N sc cl C s H fp) (.Name y p3) (pQ 0)/\PE (bx X N sc cl C s H fp) (.Name x p1) (uG (i+1))/\PE (bx X N sc cl C s H fp) (.Name y p2) (uG 0)/\(bx X N sc cl C s H fp).A.units=X.A.units) (hix:gQ (.Name y p2)) (hsc:lM X.env sc=true) (hnm:jv sc (N.drop 1) X.N=true) (hNl:1<=N.length) (hs:∀ z,foldedSetIterable (.Name x p4) X.env z=pure z):Q (PSV G X (.Return (some (.ListComp (.Subscript (.Name x p1) (.Name y p2) p) [⟨.Name y p3,.Name x p4,[],0⟩] sc pos)) spos) (jH i)):=⟨tN i N hr hcalm hN hv hd hcd hin hix hsc hnm hNl hs⟩
theorem t6 {x:Str} {t:Tx} {j:Nat} {q q':Pos} (h:x=sx t) (hl:iP t):Q (PV G X (.Dict [some (.Constant (.str x) j q)] [.List [] q'] pos) (kg 0 [(eC (.str t),gr aA)])):=⟨yX h hl⟩
theorem qG {gk:Fn} (F:FnAt X.prog X.w X.K X.mg X.base k x ps G gk) (hk:k+2<=k') (hcg:∀ t:Tx,iP t->gk [.str t]=some (.fr,.tup [.int t.length,.str t])) (hr:Room k' X.A) (hm:X.mg "sorted" = none) (ha:Q (PVs G X [e] cs)) (hgx:Gl X x) (hg:Gl X "sorted") (hc:X.calm=true) (hdx:(x == ("__debug__" : Str))=false) (he:backTo pos (starEach [e] X.env)=(false,eval e X.env) :: backTo pos (starEach [] X.env)) (hpl:(backTo pos (starEach [e] X.env)).any (·.1)=false):Q (PV G X (.Call (.Name "sorted" p) [e] [⟨some "key",.Name x p2,kp⟩] pos) (eN iW cs)):=⟨uQ F hk hcg hr hm ha.h hgx hg hc hdx he hpl⟩
theorem kj {a b c:Expr} {ca cb cc:Ex} (ha:Q (PV G X a ca)) (hb:Q (PV G X b cb)) (hc:Q (PV G X c cc)) (hm:lastMarks [.LtE,.Lt] [b,c]=false):Q (PVT G X (.Compare a [.LtE,.Lt] [b,c] pos) (eY oLe oLt ca cb cc)):=⟨lZ ha.h hb.h hc.h hm⟩
theorem uH {j pos'} (ha:Q (PV G X a ca)):Q (PVT G X (.Compare a [.IsNot] [.Constant .none j pos'] pos) (lU ca)):=⟨yy ha.h⟩
theorem pK (i:Nat) {x:Str} (hr:Room kr X.A) (hk:Q (PV G X b ck)) (he:Q (PV G X e ce)) (hN:X.N[i]?=some x) (hv:Vis X.env.scope x) (hd:(x == ("__debug__" : Str))=false) (hcd:(x == ("__classdict__" : Str))=false) (ha:∀ v,assign (.Subscript (.Name x p1) b pos') X.env v=(do
   let ov ← holding [v] (eval (.Name x p1) X.env)
   let iv ← holding [v,ov] (eval b X.env)
   standAt pos'
   holding [v,ov,iv] (setItem ov iv v)
   release [v,ov,iv] [])) (hs:swapsWithSole [.Subscript (.Name x p1) b pos'] e pos.line X.env=pure false) (hw:swappedStores [.Subscript (.Name x p1) b pos'] e X.env=pure none) (h1:(assignEach [.Subscript (.Name x p1) b pos'] X.env).map (·.2)=[assign (.Subscript (.Name x p1) b pos') X.env]):Q (PSV G X (.Assign [.Subscript (.Name x p1) b pos'] e pos) (lC i ck ce)):=⟨Bu i hr hk.h he.h hN hv hd hcd ha hs hw h1⟩
theorem zl (ha:Q (PV G X a ca)) (hb:Q (PV G X b cb)):Q (PV G X (.BinOp a .Pow b pos) (e2 xK ca cb)):=⟨w_pow ha.h hb.h⟩
theorem bV {xc:Sx} (h:Q (dS G X.nox sts xc)):Q (ft G X sts (sL xc)):=⟨wN h.h⟩
theorem eV {xa:SxX} (h:Q (PSX G X st xa)):Q (ft G X [st] xa):=⟨Bz h.h⟩
theorem dc {xa xb:SxX} (h1:Q (PSX G X st xa)) (h2:Q (ft G X sts xb)):Q (ft G X (st :: sts) (iw xa xb)):=⟨Ak h1.h h2.h⟩
theorem jl {t:Expr} {xt:Ex} {A B:List Stmt} {xa xb:SxX} (hc:Q (PVT G X.nox t xt)) (ha:Q (ft G X A xa)) (hb:Q (ft G X B xb)):Q (PSX G X (.If t A B pos) (xIf xt xa xb)):=⟨D3 hc.h ha.h hb.h⟩
theorem ik {xe:ExX} (h:Q (PVX G X e xe)):Q (PSX G X (.Return (some e) pos) (xOf dj xe)):=⟨BL h.h⟩
theorem iK {xe:ExX} (h:Q (PVX G X e xe)) (hsw:swapsWith e none pos.line X.env=pure false):Q (PSX G X (.Expr e pos) (xOf (fun c=>sX (xP c)) xe)):=⟨zM h.h hsw⟩
theorem oP {xe:ExX} (i:Nat) {pos':Pos} (h:Q (PVX G X e xe)) (hN:X.N.Nodup) (hi:X.N[i]?=some x) (hx:Loc X.env.scope x) (hs:swapsWith e (some (.Name x pos')) pos.line X.env=pure false) (hf:X.fn x=true\/X.env.scope.names.lookup x=some .local):Q (PSX G X (.Assign [.Name x pos'] e pos) (xOf (aN i) xe)):=⟨BB i h.h hN hi hx hs hf⟩
theorem b5 {xg:FnX} (F:FnXt X.prog X.w X.K X.mg X.base k x ps G xg) (hr:Room k' X.A) (ha:Q (PVs G X.nox (e :: es) cs)) (hk:k<=k') (hg:Gl X x) (hdb:(x == ("__debug__" : Str))=false) (he:starEach (e :: es) X.env=(false,eval e X.env) :: starEach es X.env) (hpl:(backTo pos (starEach es X.env)).any (·.1)=false) (hex:X.ex=[]):Q (PVX G X (.Call (.Name x p) (e :: es) [] pos) (cj xg cs)):=⟨yz F hr ha.h hk hg hdb he hpl hex⟩
theorem qN {C:Addr} {np cpos:Pos} (hq:PySem.W.excIn X.K C [.type "ValueError",.type "Exception",.type "BaseException",.type "object"] "ValueError.__new__" = true) (hm:X.mg x=some (.ref C)) (hg:Gl X x) (hc:X.calm=true) (ha:Q (PVs G X.nox [e] cs)) (hdb:(x == ("__debug__" : Str))=false) (hs:starEach [e] X.env=(false,eval e X.env) :: starEach [] X.env) (hpl:(backTo cpos (starEach [] X.env)).any (·.1)=false) (hex:X.ex=[]):Q (PSX G X (.Raise (some (.Call (.Name x np) [e] [] cpos)) none pos) (rM x cs)):=⟨xU hq hm hg hc ha.h hdb hs hpl hex⟩
theorem wV {body suite:List Stmt} {b₀:Stmt} {xb:SxX} {xh:Sx} (j:Nat) {y n:Str} {C:Value} {np hpos:Pos} (hst:X.stack=X.env :: X.outer) (hfr:X.env.frame=some X.env.locals) (hb:∀ W pn,Q (ft G { X with xe:=W,pn:=pn } body xb)) (hh:∀ a,Q (dS G (Cx.hand X a) (b₀ :: suite) xh)) (hN:X.N.Nodup) (hj:X.N[j]?=some n) (hl:X.env.scope.names.lookup n=some .local) (hm:X.mg y=some C) (hg:Gl X y) (hdb:(y == ("__debug__" : Str))=false) {z:Str} (hz:X.mg z=some (.ref (G.ct 0).1)) (he:PySem.W.exmOne X.K (.ref (G.ct 0).1) C=some true):Q (PSV G X (.Try body [.ExceptHandler (some (.Name y np)) (some n) (b₀ :: suite) hpos] [] [] pos) (uT xb j (mt1 z) xh)):=⟨Dc j hst hfr (fun W pn=>(hb W pn).h) (fun a=>(hh a).h) hN hj hl hm hg hdb hz he⟩
theorem fS {a:Expr} {ca:Ex} {p1 p2:Pos} {D:Addr} (b:Bool) (ha:Q (PV G X a ca)) (hg2:Gl X x) (hm2:X.mg x=some (.ref D)) (hdb:(x == ("__debug__" : Str))=false) (hK:X.K=G.K) (hg:Gl X "isinstance") (hm:X.mg "isinstance" = none) (hx:∀ k,XCl X.K (G.ct k).1/\PySem.W.kitOne X.K (.ref (G.ct k).1) (.ref D)=some b) (hs:starEach [a,.Name x p2] X.env=(false,eval a X.env) :: starEach [.Name x p2] X.env) (hs2:starEach [.Name x p2] X.env=(false,eval (.Name x p2) X.env) :: starEach [] X.env) (hpl:(backTo pos (starEach [Expr.Name x p2] X.env)).any (·.1)=false):Q (PV G X (.Call (.Name "isinstance" p1) [a,.Name x p2] [] pos) (hZ (fun _=>some b) ca)):=⟨Ez b ha.h hg2 hm2 hdb hK hg hm hx hs hs2 hpl⟩
theorem yM {a:Expr} {ca:Ex} {p1 p2:Pos} {n:String} (b:Bool) (ha:Q (PV G X a ca)) (hg2:Gl X x) (hm2:X.mg x=none) (hv:bootBuiltins x=some (.type n)) (hne:x ≠ "__name__") (hdb:(x == ("__debug__" : Str))=false) (hK:X.K=G.K) (hg:Gl X "isinstance") (hm:X.mg "isinstance" = none) (hx:∀ k,XCl X.K (G.ct k).1/\PySem.W.kitOne X.K (.ref (G.ct k).1) (.type n)=some b) (hs:starEach [a,.Name x p2] X.env=(false,eval a X.env) :: starEach [.Name x p2] X.env) (hs2:starEach [.Name x p2] X.env=(false,eval (.Name x p2) X.env) :: starEach [] X.env) (hpl:(backTo pos (starEach [Expr.Name x p2] X.env)).any (·.1)=false):Q (PV G X (.Call (.Name "isinstance" p1) [a,.Name x p2] [] pos) (hZ (fun _=>some b) ca)):=⟨D7 b ha.h hg2 hm2 hv hne hdb hK hg hm hx hs hs2 hpl⟩
end
section
variable {G:Gx} {P:Program} {w:World} {K:Xy} {mg:Xm} {base:Heap}
theorem gc {x:Str} {st:Stmt} {f:Addr} {fd:FuncData} {N ps:List Str} {k np nn:Nat} {c:Sx} (F:Fun K x x st f fd) (hm:mg x=some (.ref f)) (S:FnScope N ps (ao st)) (hp:ps.length=np) (hn:N.length=nn)
  (hbd:∀ (kV doc pm:Value) (an:Option Addr) (cdv ct:Value) (us:Xg),us.length=ps.length->bindArgs (PySem.W.fnOf x x (aR st) (aK st) (ao st) .none kV doc pm an cdv ct) ⟨us,[]⟩=pure (ps.zip us))
  (hb:∀ (cdv:Value) (A:Around) (outer:List PySem.Env) (s:Shared) (H:Hp) (E:XK),Room k (A.deeper (envOfC x (ao st) s.heap.objs.size f cdv))->Q (dS G (jC CX0 P w K mg base N x (ao st) f cdv A outer s H E).nox (aK st) c)) :
  FnAt P w K mg base (k+1) x ps G (fn np nn c):=Et F hm S hp hn hbd fun cdv A outer s H E hr=>(hb cdv A outer s H E hr).h
theorem F8 {x qual:Str} {st:Stmt} {f:Addr} {fd:FuncData} {N ps:List Str} {k np nn:Nat} {c:Sx} (F:Fun K x qual st f fd) (S:FnScope N ps (ao st)) (hp:ps.length=np) (hn:N.length=nn)
  (hb:∀ (cdv:Value) (A:Around) (outer:List PySem.Env) (s:Shared) (H:Hp) (E:XK),Room k (A.deeper (envOfC qual (ao st) s.heap.objs.size f cdv))->Q (dS G (jC CX0 P w K mg base N qual (ao st) f cdv A outer s H E).nox (aK st) c)) :
  FnOk P w K mg base CX0 (k+1) f fd ps (spF G (fn np nn c)):=fnV F S hp hn fun cdv A outer s H E hr=>(hb cdv A outer s H E hr).h
theorem iU {x:Str} {st:Stmt} {f:Addr} {fd:FuncData} {N ps:List Str} {k np nn:Nat} {c:SxX} (F:Fun K x x st f fd) (hm:mg x=some (.ref f)) (S:FnScope N ps (ao st)) (hp:ps.length=np) (hn:N.length=nn)
  (hbd:∀ (kV doc pm:Value) (an:Option Addr) (cdv ct:Value) (us:Xg),us.length=ps.length->bindArgs (PySem.W.fnOf x x (aR st) (aK st) (ao st) .none kV doc pm an cdv ct) ⟨us,[]⟩=pure (ps.zip us))
  (hb:∀ (cdv:Value) (A:Around) (outer:List PySem.Env) (s:Shared) (H:Hp) (E:XK),Room k (A.deeper (envOfC x (ao st) s.heap.objs.size f cdv))->Q (ft G (jC (XN.CXE P w base) P w K mg base N x (ao st) f cdv A outer s H E) (aK st) c)) :
  FnXt P w K mg base (k+1) x ps G (fnx np nn c):=⟨f,fd,fnX F S hp hn fun cdv A outer s H E hr=>(hb cdv A outer s H E hr).h,hm,F.kp,F.binds hbd⟩
end
end VS
end
section
namespace T16
open VS
noncomputable def fA:Fn:=fn 1 1
  (dj (i0 (eIs .int (aj 0)) (gO (eIs .bool (aj 0)))))
noncomputable def aG:FnX:=fnx 2 2
  (xIf (eOr (gO (aZ fA (ah (aj 1) aA))) (gO (eY oLe oLt (eC (.int 0)) (aj 1) (eN d8 (ah (aj 0) aA))))) (rM ("NoStand" : PySem.Str) (ah (eC (.str [116,104,101,114,101,32,105,115,32,110,111,32,115,116,97,110,100,32,111,102,32,116,104,105,115,32,110,117,109,98,101,114])) aA)) (sL ic))
noncomputable def cL:Sx :=
  (sIf (e2 oEq (e2 aV (e2 aV (aj 0) (e2 aV (aj 4) (eC (.int 1)))) (eC (.int 1))) (e2 bR (e2 aV (aj 3) (eC (.int 1))) (eC (.int 1)))) (lC 1 (e2 aV (aj 4) (eC (.int 1))) (kI (ah (aj 2) (ah (e2 aV (aj 4) (eC (.int 0))) aA)))) ic)
noncomputable def dY:Sx :=
  (eW (bE 4) (kG (e2 aV (aj 3) (eC (.int 3)))) cL)
noncomputable def cT:Fn:=fn 1 5
  (av (kE 1 (kg 0 []))
  (av (eW (ja [(bE 2),(bE 3)]) (ky (aj 0)) dY)
  (iT 1)))
noncomputable def fi:Sx :=
  (av (aN 4 (e2 oIx (aj 2) (aj 1)))
  (av (aN 3 (e2 bR (e2 aV (aj 4) (eC (.int 1))) (aj 3)))
  (aN 1 (e2 aV (aj 4) (eC (.int 0))))))
noncomputable def bF:FnX:=fnx 2 5
  (iw (xOf (fun c=>sX (xP c)) (cj aG (ah (aj 0) (ah (aj 1) aA))))
  (sL (av (aN 2 (aZ cT (ah (aj 0) aA)))
  (av (aN 3 (eC (.str [])))
  (av (mq (e2 oNe (aj 1) (eC (.int 0))) fi)
  (iT 3))))))
noncomputable def mR:Fn:=plF bF
noncomputable def fC:FnX:=fnx 2 3
  (iw (xOf (aN 2) (cj bF (ah (aj 0) (ah (aj 1) aA))))
  (sL (dj (eSl (aj 2) (some (e2 kJ (eN d8 (ah (aj 2) aA)) (e2 aV (e2 aV (aj 0) (aj 1)) (eC (.int 0))))) none))))
noncomputable def ju:FnX:=fnx 2 3
  (iw (xOf (aN 2) (cj bF (ah (aj 0) (ah (aj 1) aA))))
  (sL (dj (h9 1 (bE 0) (kT (e2 aV (e2 aV (aj 0) (aj 1)) (eC (.int 0))) (e2 bR (e2 aV (e2 aV (aj 0) (aj 1)) (eC (.int 1))) (eC (.int 1)))) none (eSl (aj 3) (some (e2 kJ (eN d8 (ah (aj 3) aA)) (aj 0))) none)))))
noncomputable def fG:Sx :=
  (av (sX (lz 2 [] bg (ah (aj 1) aA)))
  (aN 1 (e2 aV (e2 aV (aj 0) (aj 1)) (eC (.int 2)))))
noncomputable def fh:FnX:=fnx 2 3
  (iw (xOf (fun c=>sX (xP c)) (cj aG (ah (aj 0) (ah (aj 1) aA))))
  (sL (av (kE 2 (gr aA))
  (av (mq (lU (aj 1)) fG)
  (iT 2)))))
noncomputable def rR:Fn:=plF fh
noncomputable def ma:FnX:=fnx 2 2
  (iw (xOf (fun c=>sX (xP c)) (cj aG (ah (aj 0) (ah (aj 1) aA))))
  (sL (dj (h9 2 (ja [(bE 0),(bE 1)]) (ky (aj 0)) (some (e2 oEq (e2 aV (aj 1) (eC (.int 2))) (aj 3))) (aj 0)))))
noncomputable def eL:Fn:=fn 2 2
  (av (sIf (e2 oLt (aj 1) (eN d8 (ah (aj 0) aA))) (dj (e2 aV (aj 0) (aj 1))) ic)
  (dj (eC (.int 0))))
noncomputable def aM:Fn:=fn 2 4
  (av (aN 2 (eC (.int 7)))
  (av (sIf (e2 oGt (eN d8 (ah (aj 0) aA)) (eC (.int 0))) (aN 2 (e2 aV (aj 0) (e2 oMod (aj 1) (eN d8 (ah (aj 0) aA))))) ic)
  (av (aN 3 (e2 oMod (e2 eI (e2 bR (e2 bR (e2 oMod (aj 2) (eC (.int 2147483629))) (e2 eI (eC (.int 40503)) (aj 1))) (eC (.int 1))) (eC (.int 48271))) (eC (.int 2147483647))))
  (av (aN 3 (e2 oMod (e2 eI (aj 3) (aj 3)) (eC (.int 2147483629))))
  (av (aN 3 (e2 oMod (e2 eI (e2 bR (aj 3) (aj 1)) (eC (.int 69621))) (eC (.int 2147483587))))
  (dj (e2 fz (e2 oMod (e2 eI (aj 3) (aj 3)) (eC (.int 2147483563))) (eC (.int 3)))))))))
noncomputable def cO:Fn:=fn 1 3
  (av (aN 1 (e2 oMod (aj 0) (eC (.int 26))))
  (av (aN 2 (e2 aV (gr (ah (eC (.int 1)) (ah (eC (.int 3)) (ah (eC (.int 5)) (ah (eC (.int 7)) (ah (eC (.int 9)) aA)))))) (e2 oMod (e2 fz (aj 0) (eC (.int 26))) (eC (.int 5)))))
  (dj (h9 1 (bE 0) (cw (eC (.int 26))) none (e2 aV (eC (.str [97,98,99,100,101,102,103,104,105,106,107,108,109,110,111,112,113,114,115,116,117,118,119,120,121,122])) (e2 oMod (e2 bR (aj 2) (e2 eI (aj 3) (aj 0))) (eC (.int 26))))))))
noncomputable def dG:Sx :=
  (av (aN 8 (e2 bR (aj 8) (e2 aV (aj 1) (e2 oMod (aj 0) (aj 2)))))
  (aN 0 (e2 fz (aj 0) (aj 2))))
noncomputable def cf:Sx :=
  (av (aN 7 (eN nc (ah (aj 4) (ah (e2 oMod (aj 0) (eC (.int 25))) aA))))
  (av (aN 0 (e2 fz (aj 0) (eC (.int 25))))
  (av (aN 4 (e2 kJ (aj 4) (aj 7)))
  (av (aN 8 (eC (.str [])))
  (av (eW (bE 9) (cw (aj 7)) dG)
  (sX (lz 5 [] bg (ah (aj 8) aA))))))))
noncomputable def cB:Fn:=fn 1 10
  (av (aN 1 (aZ cO (ah (aj 0) aA)))
  (av (aN 2 (e2 aV (gr (ah (eC (.int 1)) (ah (eC (.int 2)) (ah (eC (.int 3)) (ah (eC (.int 4)) (ah (eC (.int 2)) (ah (eC (.int 3)) (ah (eC (.int 4)) (ah (eC (.int 26)) aA))))))))) (e2 oMod (e2 fz (aj 0) (eC (.int 130))) (eC (.int 8)))))
  (av (aN 3 (e2 oMod (e2 fz (aj 0) (eC (.int 1040))) (eC (.int 5))))
  (av (aN 0 (e2 fz (aj 0) (eC (.int 5200))))
  (av (aN 4 (eC (.int 24)))
  (av (kE 5 (gr aA))
  (av (eW (bE 6) (cw (aj 3)) cf)
  (iT 5))))))))
noncomputable def cp:Sx :=
  (av (aN 11 (aZ aM (ah (aj 0) (ah (e2 bR (e2 bR (e2 eI (eC (.int 20)) (aj 6)) (eC (.int 6))) (aj 10)) aA))))
  (sIf (i0 (e2 oGe (eN d8 (ah (aj 9) aA)) (aj 8)) (e2 oGt (e2 oMod (aj 11) (eC (.int 4))) (eC (.int 0)))) (aN 9 (e2 bR (aj 9) (e2 aV (aj 9) (e2 kJ (eN d8 (ah (aj 9) aA)) (aj 8))))) (aN 9 (e2 bR (aj 9) (e2 aV (aj 2) (e2 oMod (e2 fz (aj 11) (eC (.int 4))) (aj 3)))))))
noncomputable def cq:Sx :=
  (av (aN 7 (eN nc (ah (aj 4) (ah (e2 oMod (aZ aM (ah (aj 0) (ah (e2 bR (e2 eI (eC (.int 20)) (aj 6)) (eC (.int 4))) aA))) (e2 bR (aj 1) (eC (.int 1)))) aA))))
  (av (aN 4 (e2 kJ (aj 4) (aj 7)))
  (av (aN 8 (e2 bR (eC (.int 1)) (e2 oMod (aZ aM (ah (aj 0) (ah (e2 bR (e2 eI (eC (.int 20)) (aj 6)) (eC (.int 5))) aA))) (eC (.int 5)))))
  (av (aN 9 (eC (.str [])))
  (av (eW (bE 10) (cw (aj 7)) cp)
  (av (sX (lz 5 [] bg (ah (aj 9) aA)))
  (sIf (i0 (e2 oGt (aj 7) (eC (.int 2))) (i0 (e2 oEq (e2 oMod (aZ aM (ah (aj 0) (ah (e2 bR (e2 eI (eC (.int 20)) (aj 6)) (eC (.int 5))) aA))) (eC (.int 3))) (eC (.int 0))) (e2 oGe (aj 4) (eC (.int 2))))) (av (sX (lz 5 [] bg (ah (eSl (aj 9) (some (eC (.int 1))) (some (eC (.int 3)))) aA)))
  (aN 4 (e2 kJ (aj 4) (eC (.int 2))))) ic)))))))
noncomputable def cx:Fn:=fn 2 12
  (av (aN 2 (aZ cO (ah (aZ aM (ah (aj 0) (ah (eC (.int 1)) aA))) aA)))
  (av (aN 3 (e2 aV (gr (ah (eC (.int 1)) (ah (eC (.int 2)) (ah (eC (.int 3)) (ah (eC (.int 4)) (ah (eC (.int 2)) (ah (eC (.int 3)) (ah (eC (.int 9)) (ah (eC (.int 26)) aA))))))))) (e2 oMod (aZ aM (ah (aj 0) (ah (eC (.int 2)) aA))) (eC (.int 8)))))
  (av (aN 4 (aj 1))
  (av (kE 5 (gr aA))
  (av (eW (bE 6) (cw (e2 oMod (aZ aM (ah (aj 0) (ah (eC (.int 3)) aA))) (eC (.int 6)))) cq)
  (av (wJ 5)
  (dj (eSl (aj 5) none (some (eC (.int 8)))))))))))
noncomputable def eE:Fn:=fn 2 2
  (av (sIf (e2 oEq (e2 oMod (aZ eL (ah (aj 0) (ah (eC (.int 0)) aA))) (eC (.int 2))) (eC (.int 0))) (dj (aZ cB (ah (e2 fz (aZ eL (ah (aj 0) (ah (eC (.int 0)) aA))) (eC (.int 2))) aA))) ic)
  (dj (aZ cx (ah (aj 0) (ah (e2 aV (gr (ah (eC (.int 24)) (ah (eC (.int 24)) (ah (eC (.int 24)) (ah (aj 1) aA))))) (e2 oMod (aZ aM (ah (aj 0) (ah (eC (.int 0)) aA))) (eC (.int 4)))) aA)))))
noncomputable def dC:Sx :=
  (iM 1 (eSl (aj 3) (some (aj 5)) (some (aj 4))) (ah (kI (ah (aj 2) (ah (aj 4) aA))) aA))
noncomputable def dB:Sx :=
  (eW (bE 5) (cw (e2 bR (aj 4) (eC (.int 1)))) dC)
noncomputable def cA:Sx :=
  (eW (bE 4) (cw (e2 bR (eN d8 (ah (aj 3) aA)) (eC (.int 1)))) dB)
noncomputable def cY:Fn:=fn 1 6
  (av (kE 1 (kg 0 [((eC (.str [])),(gr aA))]))
  (av (eW (ja [(bE 2),(bE 3)]) (ky (aj 0)) cA)
  (iT 1)))
noncomputable def eR:Fn:=fn 1 1
  (dj (kI (ah (eN d8 (ah (aj 0) aA)) (ah (aj 0) aA))))
noncomputable def dD:Sx :=
  (gD 1 (eN fW (ah (e2 oIx (aj 0) (aj 2)) aA)) (ah (aj 2) aA))
noncomputable def cZ:Fn:=fn 1 3
  (av (kE 1 (kg 2 []))
  (av (eW (bE 2) (kG (eN iW (ah (aj 0) aA))) dD)
  (jH 1)))
noncomputable def dh:Sx :=
  (lC 1 (aj 4) (aj 2))
noncomputable def eB:Sx :=
  (eW (bE 4) (kG (aj 3)) dh)
noncomputable def cF:Fn:=fn 1 5
  (av (kE 1 (kg 0 []))
  (av (eW (ja [(bE 2),(bE 3)]) (ky (aj 0)) eB)
  (iT 1)))
noncomputable def il:Sx :=
  (sIf (e2 lV (e2 bR (e2 aV (aj 3) (eC (.int 0))) (aj 5)) (aj 1)) (sX (lz 4 [] bg (ah (kI (ah (aj 5) (ah (e2 oIx (aj 1) (e2 bR (e2 aV (aj 3) (eC (.int 0))) (aj 5))) aA))) aA))) ic)
noncomputable def dZ:Sx :=
  (av (kE 4 (gr aA))
  (av (eW (bE 5) (kG (eC (.str [97,98,99,100,101,102,103,104,105,106,107,108,109,110,111,112,113,114,115,116,117,118,119,120,121,122]))) il)
  (av (wJ 4)
  (av (aN 6 (eC .non))
  (av (sIf (e2 oNe (e2 aV (aj 3) (eC (.int 0))) (eC (.str []))) (aN 6 (e2 oIx (aj 1) (eSl (e2 aV (aj 3) (eC (.int 0))) (some (eC (.int 1))) none))) ic)
  (sX (lz 2 [] bg (ah (kI (ah (eN d8 (ah (e2 aV (aj 3) (eC (.int 0))) aA)) (ah (eN d8 (ah (e2 aV (aj 3) (eC (.int (-1)))) aA)) (ah (aj 6) (ah (eN fW (ah (aj 4) aA)) aA))))) aA))))))))
noncomputable def dN:Fn:=fn 2 7
  (av (kE 2 (gr aA))
  (av (eW (bE 3) (kG (aj 0)) dZ)
  (iT 2)))
noncomputable def dP:FnX:=fnx 3 3
  (iw (xIf (e2 oEq (aj 2) (eC (.int 0))) (xOf dj (cj bF (ah (aj 0) (ah (aj 1) aA)))) (sL ic))
  (iw (xIf (e2 oEq (aj 2) (eC (.int 1))) (xOf dj (cj fC (ah (aj 0) (ah (aj 1) aA)))) (sL ic))
  (iw (xIf (e2 oEq (aj 2) (eC (.int 2))) (xOf dj (cj ju (ah (aj 0) (ah (aj 1) aA)))) (sL ic))
  (iw (xIf (e2 oEq (aj 2) (eC (.int 3))) (xOf dj (cj fh (ah (aj 0) (ah (aj 1) aA)))) (sL ic))
  (xOf dj (cj ma (ah (aj 0) (ah (aj 1) aA))))))))
noncomputable def dy:Fn:=fn 3 6
  (av (aN 3 (eC .non))
  (av (uT (xOf (fun c=>sX (xP c)) (cj dP (ah (aj 0) (ah (aj 1) (ah (aj 2) aA))))) 5 (mt1 ("NoStand" : PySem.Str)) (aN 3 (aj 5)))
  (av (aN 4 (gr (ah (hZ (fun _=>some false) (aj 3)) (ah (hZ (fun _=>some false) (aj 3)) (ah (hZ (fun _=>some false) (aj 3)) aA)))))
  (av (aN 4 (e2 bR (aj 4) (gr (ah (hZ (fun _=>some false) (aj 3)) (ah (hZ (fun _=>some false) (aj 3)) (ah (hZ (fun _=>some false) (aj 3)) aA))))))
  (av (aN 4 (e2 bR (aj 4) (gr (ah (hZ (fun _=>some false) (aj 3)) (ah (gO (hZ (fun _=>some true) (aj 3))) aA)))))
  (dj (i0 (hZ (fun _=>some true) (aj 3)) (gO (eN xi (ah (aj 4) aA))))))))))
noncomputable def lG:Sx :=
  (sIf (gO (aZ dy (ah (aj 4) (ah (aj 7) (ah (aj 8) aA))))) (dj (eC (.bl false))) ic)
noncomputable def jI:Sx :=
  (eW (bE 8) (cw (eC (.int 5))) lG)
noncomputable def pA:Fn:=fn 1 10
  (av (aN 1 (aZ eE (ah (aj 0) (ah (eC (.int 24)) aA))))
  (av (aN 2 (aZ cZ (ah (aZ cY (ah (aj 1) aA)) aA)))
  (av (aN 3 (aZ dN (ah (aj 2) (ah (aZ cF (ah (aj 2) aA)) aA))))
  (av (aN 4 (eN ka (ah (aj 3) aA)))
  (av (aN 5 (e2 eI (aZ aM (ah (aj 0) (ah (eC (.int 300)) aA))) (e2 xK (eC (.int 10)) (eC (.int 40)))))
  (av (aN 6 (gr (ah (eC (.int (-1))) (ah (eN d8 (ah (aj 3) aA)) (ah (e2 bR (e2 bR (eN d8 (ah (aj 3) aA)) (eC (.int 1))) (aj 5)) (ah (e2 kJ (eC (.int (-2))) (aj 5)) (ah (eC .non) (ah (eC (.bl true)) (ah (eC (.bl false)) (ah (eC (.str [])) (ah (eC (.str [48])) (ah (kI (ah (eC (.int 0)) aA)) (ah (gr (ah (eC (.int 0)) aA)) aA)))))))))))))
  (av (eW (bE 7) (kG (aj 6)) jI)
  (av (aN 9 (e2 kJ (eN d8 (ah (aj 3) aA)) (eC (.int 1))))
  (dj (i0 (e2 oEq (aj 4) (aj 3)) (i0 (e2 oEq (aZ mR (ah (aj 4) (ah (aj 9) aA))) (e2 aV (e2 aV (aj 2) (aj 9)) (eC (.int (-1))))) (e2 oEq (e2 aV (aZ rR (ah (aj 4) (ah (aj 9) aA))) (eC (.int 0))) (aj 9)))))))))))))
theorem mE (t:Tx) (h:iP t):eR [.str t]=some (.fr,.tup [.int t.length,.str t]):=by
 have h1:=h.1
 simp [eR,fn,d8,E8,pS]
 rw [Zq (by decide)]
 rfl
theorem e2v {f:Val->Val->Vv} {a b:Ex} {η:Env} {x y z:Val} (h1:a η=some x) (h2:b η=some y) (h3:f x y=some z):e2 f a b η=some z:=by
 show (a η).bind _=_
 rw [h1,Zk,h2]
 exact h3
theorem xv {a:Ex} {r:Exs} {η:Env} {x:Val} {xs:Vw} (h1:a η=some x) (h2:r η=some xs):ah a r η=some (x :: xs):=by
 show (a η).bind _=_
 rw [h1,Zk,h2]
 rfl
theorem oV {c:Ex} {a b:Sx} {η:Env} {m:Md} (h:c η=some (m,.bl true)):sIf c a b η=a η:=by
 show (c η).bind _=_
 rw [h]
 rfl
theorem qZ {c:Ex} {a b:Sx} {η:Env} {m:Md} (h:c η=some (m,.bl false)):sIf c a b η=b η:=by
 show (c η).bind _=_
 rw [h]
 rfl
theorem jU {f:Vw->Vv} {as:Exs} {η:Env} {xs:Vw} {v:Val} (h:as η=some xs) (h2:f xs=some v):eN f as η=some v:=by
 show (as η).bind f=_
 rw [h,Zk,h2]
theorem kc {e:Ex} {η:Env} {t:T} (h:e η=some (.fr,t)):dj e η=some (.rt (.fr,t) η):=by
 show (e η).bind _=_
 rw [h]
 rfl
theorem tj {a b:Sx} {η η1:Env} {v:Val} (h:a η=some (.rt v η1)):av a b η=some (.rt v η1):=by
 show (a η).bind _=_
 rw [h]
 rfl
theorem A8 {n:Nat} {i:Int} (h0:0<=i) (h1:i < n):ixP n i=some i.toNat:=by rw [ixP,Zq h0,Zq h1]
theorem rP {m n:Md} (l:Vz) (i:Int) (h0:0<=i) (h1:i < l.length):aV (m,.scr l) (n,.int i)=some (.fr,.int (l.getD i.toNat 0)):=by
 have b2:i.toNat < l.length:=by lia
 show (ixP l.length i).bind _=_
 rw [A8 h0 h1,Zk,ZE,Za b2]
 rfl
theorem Bl (ns:Vz):∃ c,eL [.scr ns,.int 0]=some (.fr,.int c):=by
 cases ns with
 | cons a r =>
  have h2:(0:Int) < ((a :: r).length:Int):=by rw [Zi];lia
  exact ⟨_,vA [some (.pu (.scr (a :: r))),some (.pu (.int 0))] rfl rfl (tj ((oV (m:=.fr) (e2v (x:=(.fr,.int 0)) rfl (jU (xv rfl rfl) rfl) (congrArg (fun b=>some (Md.fr,T.bl b)) (decide_eq_true h2)))).trans (kc (e2v (x:=(.fr,.scr (a :: r))) rfl rfl (rP _ 0 (by decide) h2)))))⟩
 | nil=>exact ⟨0,rfl⟩
theorem gf (ns:Vz) (k:Int) (h0:0<=k) (h1:k < 1000):∃ n,aM [.scr ns,.int k]=some (.fr,.int n)/\0<=n/\n < 2147483648:=by
 obtain ⟨c,hc⟩:∃ c,(sIf (e2 oGt (eN d8 (ah (aj 0) aA)) (eC (.int 0))) (aN 2 (e2 aV (aj 0) (e2 oMod (aj 1) (eN d8 (ah (aj 0) aA))))) ic) [some (.pu (.scr ns)),some (.pu (.int k)),some (.pu (.int 7)),none]=some (.nx [some (.pu (.scr ns)),some (.pu (.int k)),some (.pu (.int c)),none]):=by
  cases ns with
  | nil=>exact ⟨7,rfl⟩
  | cons a r =>
   have hp:(0:Int) < ((a :: r).length:Int):=by rw [Zi];lia
   exact ⟨_,(oV (m:=.fr) (e2v (jU (xv rfl rfl) rfl) rfl (congrArg (fun b=>some (Md.fr,T.bl b)) (decide_eq_true hp)))).trans (aI (m:=.fr) (e2v (x:=(.fr,.scr (a :: r))) rfl (e2v (x:=(.fr,.int k)) rfl (jU (xv rfl rfl) rfl) (bu hp)) (rP _ _ (Z4 k (Int.ne_of_gt hp)) (ZP k hp))) (by decide) (by decide:2 < 4))⟩
 have a0:=Z4 c (b:=2147483629) (by decide)
 have a1:=ZP c (b:=2147483629) (by decide)
 generalize hx1:c % 2147483629=x1 at a0 a1
 have b0:=Z4 ((x1+40503 * k+1) * 48271) (b:=2147483647) (by decide)
 have b1:=ZP ((x1+40503 * k+1) * 48271) (b:=2147483647) (by decide)
 generalize hx2:(x1+40503 * k+1) * 48271 % 2147483647=x2 at b0 b1
 have c0:=Z4 (x2 * x2) (b:=2147483629) (by decide)
 have c1:=ZP (x2 * x2) (b:=2147483629) (by decide)
 generalize hx3:x2 * x2 % 2147483629=x3 at c0 c1
 have d0:=Z4 ((x3+k) * 69621) (b:=2147483587) (by decide)
 have d1:=ZP ((x3+k) * 69621) (b:=2147483587) (by decide)
 generalize hx4:(x3+k) * 69621 % 2147483587=x4 at d0 d1
 have e0:=Z4 (x4 * x4) (b:=2147483563) (by decide)
 have e1:=ZP (x4 * x4) (b:=2147483563) (by decide)
 refine ⟨x4 * x4 % 2147483563 / 3,?_,by lia,by lia⟩
 have m1:∀ m n,eI (m,.int (x1+40503 * k+1)) (n,.int 48271)=some (.fr,.int ((x1+40503 * k+1) * 48271)):=fun m n=>jb (by lia)
 have m2:∀ m n,eI (m,.int x2) (n,.int x2)=some (.fr,.int (x2 * x2)):=fun m n=>jb (by lia)
 have m3:∀ m n,eI (m,.int (x3+k)) (n,.int 69621)=some (.fr,.int ((x3+k) * 69621)):=fun m n=>jb (by lia)
 have m4:∀ m n,eI (m,.int x4) (n,.int x4)=some (.fr,.int (x4 * x4)):=fun m n=>jb (by lia)
 have m0:∀ m n,eI (m,.int 40503) (n,.int k)=some (.fr,.int (40503 * k)):=fun m n=>jb (by decide)
 unfold aM
 refine vA [some (.pu (.scr ns)),some (.pu (.int k)),none,none] (η':=[some (.pu (.scr ns)),some (.pu (.int k)),some (.pu (.int c)),some (.pu (.int x4))]) rfl rfl ?_
 rw [fM (η':=[some (.pu (.scr ns)),some (.pu (.int k)),some (.pu (.int 7)),none]) rfl,fM hc]
 rw [fM (aI (m:=.fr) (t:=.int x2) (e2v (e2v (e2v (e2v (e2v rfl rfl ((bu (by decide)).trans (by rw [hx1]))) (e2v rfl rfl (m0 _ _)) rfl) rfl rfl) rfl (m1 _ _)) rfl ((bu (by decide)).trans (by rw [hx2]))) (by decide) (by decide:3 < 4))]
 refine (show av _ _ [some (.pu (.scr ns)),some (.pu (.int k)),some (.pu (.int c)),some (.pu (.int x2))]=_ from ?_)
 rw [fM (aI (m:=.fr) (t:=.int x3) (e2v (e2v rfl rfl (m2 _ _)) rfl ((bu (by decide)).trans (by rw [hx3]))) (by decide) (by decide:3 < 4))]
 refine (show av _ _ [some (.pu (.scr ns)),some (.pu (.int k)),some (.pu (.int c)),some (.pu (.int x3))]=_ from ?_)
 rw [fM (aI (m:=.fr) (t:=.int x4) (e2v (e2v (e2v rfl rfl rfl) rfl (m3 _ _)) rfl ((bu (by decide)).trans (by rw [hx4]))) (by decide) (by decide:3 < 4))]
 refine (show dj _ [some (.pu (.scr ns)),some (.pu (.int k)),some (.pu (.int c)),some (.pu (.int x4))]=_ from ?_)
 refine kc ?_
 have r:=e2v (f:=fz) (η:=[some (.pu (.scr ns)),some (.pu (.int k)),some (.pu (.int c)),some (.pu (.int x4))]) (e2v (f:=oMod) (a:=e2 eI (aj 3) (aj 3)) (b:=eC (.int 2147483563)) (e2v rfl rfl (m4 _ _)) rfl (bu (by decide))) (show eC (.int 3) _=some (.fr,.int 3) from rfl) (fE (by decide))
 exact r
noncomputable abbrev abc:Tx:=[97,98,99,100,101,102,103,104,105,106,107,108,109,110,111,112,113,114,115,116,117,118,119,120,121,122]
theorem xy {m n:Md} (t:Tx) (i:Int) (h0:0<=i) (h1:i < t.length):aV (m,.str t) (n,.int i)=some (.fr,.str [t.getD i.toNat 0]):=by
 have b2:i.toNat < t.length:=by lia
 show (ixP t.length i).bind _=_
 rw [A8 h0 h1,Zk,ZE,Za b2]
 rfl
theorem Bw (i:Nat) (h:i < 26):97<=abc.getD i 0/\abc.getD i 0<=122:=by
 have:∀ i,i < 26->97<=abc.getD i 0/\abc.getD i 0<=122:=by decide
 exact this i h
theorem sD (c:Int):∃ sg:W9,cO [.int c]=some (.fr,.lst (sg.map fun x=>T.str [x]))/\sg.length=26/\∀ x∈sg,97<=x/\x<=122:=by
 have a0:=Z4 (c / 26) (b:=5) (by decide)
 have a1:=ZP (c / 26) (b:=5) (by decide)
 have li:=lO (m:=.fr) (n:=.fr) T.int [1,3,5,7,9] (c / 26 % 5) 0 a0 (by simpa using a1) rfl
 simp only [Zu,YR] at li
 obtain ⟨st,hst,s0,s1⟩:∃ st:Int,List.getD [1,3,5,7,9] (c / 26 % 5).toNat 0=st/\0<=st/\st < 10:=by
  have pk:∀ i,i < 5->0<=(List.getD [1,3,5,7,9] i 0:Int)/\(List.getD [1,3,5,7,9] i 0:Int) < 10:=by decide
  have h:=pk (c / 26 % 5).toNat (by lia)
  exact ⟨_,rfl,h.1,h.2⟩
 rw [hst] at li
 have k0:=Z4 c (b:=26) (by decide)
 have k1:=ZP c (b:=26) (by decide)
 generalize hs:c % 26=s at k0 k1
 have comp:=uY (k:=1) (tg:=bE 0) (it:=cw (eC (.int 26))) (elt:=e2 aV (eC (.str abc)) (e2 oMod (e2 bR (aj 2) (e2 eI (aj 3) (aj 0))) (eC (.int 26))))
  (η:=[some (.pu (.int c)),some (.pu (.int s)),some (.pu (.int st))]) (m:=.fr) (fun (j:Nat)=>T.int (j:Int)) (fun j:Nat=>T.str [abc.getD ((s+st * (j:Int)) % 26).toNat 0]) (List.range 26)
  (by rw [lh (m:=.fr) (j:=26) rfl (by lia),qm];rfl) rfl (by decide) (fun j hj=>⟨[some (.pu (.int j)),some (.pu (.int c)),some (.pu (.int s)),some (.pu (.int st))],rfl,by
   have e0:=Z4 (s+st * (j:Int)) (b:=26) (by decide)
   have e1:=ZP (s+st * (j:Int)) (b:=26) (by decide)
   have ix:=xy (m:=.fr) (n:=.fr) abc ((s+st * (j:Int)) % 26) e0 (by exact e1)
   have mu:∀ m n,eI (m,.int st) (n,.int (j:Int))=some (.fr,.int (st * (j:Int))):=fun m n=>jb (by lia)
   exact e2v (x:=(.fr,.str abc)) rfl (e2v (x:=(.fr,.int (s+st * (j:Int)))) (e2v (x:=(.fr,.int s)) rfl (e2v (x:=(.fr,.int st)) rfl rfl (mu _ _)) rfl) rfl (bu (by decide))) ix⟩)
 refine ⟨(List.range 26).map fun j:Nat=>abc.getD ((s+st * (j:Int)) % 26).toNat 0,?_,by simp,fun x hx=>?_⟩
 ·unfold cO
  refine vA [some (.pu (.int c)),none,none] (η':=[some (.pu (.int c)),some (.pu (.int s)),some (.pu (.int st))]) rfl rfl ?_
  rw [fM (η':=[some (.pu (.int c)),some (.pu (.int s)),none]) (aI (m:=.fr) (e2v (x:=(.fr,.int c)) rfl rfl ((bu (by decide)).trans (by rw [hs]))) (by decide) (by decide:1 < 3)),
   fM (η':=[some (.pu (.int c)),some (.pu (.int s)),some (.pu (.int st))]) (aI (m:=.fr) (e2v rfl (e2v (e2v (x:=(.fr,.int c)) rfl rfl (fE (by decide))) rfl (bu (by decide))) li) (by decide) (by decide:2 < 3))]
  refine (kc comp).trans ?_
  rw [YK]
  rfl
 ·obtain ⟨j,_,rfl⟩:=Yv.mp hx
  have e0:=Z4 (s+st * (j:Int)) (b:=26) (by decide)
  have e1:=ZP (s+st * (j:Int)) (b:=26) (by decide)
  exact Bw _ (by lia)
noncomputable def Az (t:W9):Prop:=∀ x∈t,97<=x/\x<=122
theorem Az.app {s t:W9} (a:Az s) (b:Az t):Az (s++t):=fun x hx=>(Zh.mp hx).elim (a x) (b x)
noncomputable abbrev sgT (sg:W9):T:=.lst (sg.map fun x=>T.str [x])
theorem vF {m n:Md} (sg:W9) (i:Int) (h0:0<=i) (h1:i < sg.length):aV (m,sgT sg) (n,.int i)=some (.fr,.str [sg.getD i.toNat 0]):=lO (fun x=>T.str [x]) sg i 0 h0 h1 rfl
theorem nW {sg:W9} (h:Az sg) {i:Nat} (hi:i < sg.length):Az [sg.getD i 0]:=fun x hx=>by
 rw [Zg.mp hx,ZE,Za hi]
 exact h _ (Xh hi)
noncomputable abbrev ED (c:Int) (sg:W9) (so many room:Int) (bk:Vu) (z6 z7 z8 z9:Vx):Env:=[some (.pu (.int c)),some (.pu (sgT sg)),some (.pu (.int so)),some (.pu (.int many)),some (.pu (.int room)),some (.ow (.lst bk)),z6,z7,z8,z9]
theorem au {a b:Sx} {η η1:Env} (h:a η=some (.nx η1)):av a b η=b η1:=by simp [av,h]
theorem FQ (sg:W9) (hsg:Az sg) (so many room size:Int) (h0:0 < so) (h1:so<=sg.length) (h2:so < 1000) (bk:Vu) (k6:Vx) (ks:W9):∀ (c:Int) (t:Tx) (z:Vx),t.length+ks.length<=1000->Az t →
  ∃ c' t' z',forL (bE 9) dG (ks.map fun (k:Nat)=>T.int (k:Int)) (ED c sg so many room bk k6 (some (.pu (.int size))) (some (.pu (.str t))) z)=some (.nx (ED c' sg so many room bk k6 (some (.pu (.int size))) (some (.pu (.str t'))) z'))/\t'.length=t.length+ks.length/\Az t':=by
 induction ks with
 | nil=>exact fun c t z _ ht=>⟨c,t,z,rfl,rfl,ht⟩
 | cons k ks ih =>
  intro c t z hl ht
  have e0:=Z4 c (b:=so) (by lia)
  have e1:=ZP c (b:=so) h0
  rw [Zi] at hl
  have ad:bR (.fr,.str t) (.fr,.str [sg.getD (c % so).toNat 0])=some (.fr,.str (t++[sg.getD (c % so).toNat 0])):=jA (show t.length+1<=16777216 by lia)
  obtain ⟨c',t',z',e,hl',ht'⟩:=ih (c / so) (t++[sg.getD (c % so).toNat 0]) (some (.pu (.int k))) (by rw [Zv,ZX];lia) (ht.app (nW hsg (by lia)))
  refine ⟨c',t',z',?_,by rw [hl',Zv,ZX,Zi];lia,ht'⟩
  rw [Zu,bw (η1:=ED c sg so many room bk k6 (some (.pu (.int size))) (some (.pu (.str t))) (some (.pu (.int k)))) (η2:=ED (c / so) sg so many room bk k6 (some (.pu (.int size))) (some (.pu (.str (t++[sg.getD (c % so).toNat 0])))) (some (.pu (.int k)))) rfl (by
   unfold dG
   rw [au (η1:=ED c sg so many room bk k6 (some (.pu (.int size))) (some (.pu (.str (t++[sg.getD (c % so).toNat 0])))) (some (.pu (.int k)))) (aI (m:=.fr) (e2v (x:=(.fr,.str t)) rfl (e2v (x:=(.pu,sgT sg)) rfl (e2v rfl rfl (bu h0)) (vF sg _ e0 (by lia))) ad) (by decide) (by decide:8 < 10))]
   exact aI (m:=.fr) (e2v rfl rfl (fE (show 0 < so/\so < 1073741824 by lia))) (by decide) (by decide:0 < 10)),e]
structure Bk (most:Nat) (bk:List Tx):Prop where
 n:bk.flatten.length<=most
 az:∀ t∈bk,Az t
theorem Bk.snoc {m m':Nat} {bk:List Tx} {t:Tx} (B:Bk m bk) (h:m+t.length<=m') (ht:Az t):Bk m' (bk++[t]):=by
 refine ⟨?_,fun s hs=>?_⟩
 ·have:=B.n
  rw [Z2,Zv,show [t].flatten=t by simp]
  lia
 ·rcases Zh.mp hs with hs | hs
  ·exact B.az s hs
  ·rw [Zg.mp hs];exact ht
theorem nG {a:Ex} {η:Env} {m:Md} {n:Nat} (e:a η=some (m,.int (n:Int))) (h:n < 100000):cw a η=some (.fr,(List.range n).map fun (k:Nat)=>T.int (k:Int)):=by
 rw [lh e (by lia),qm]
 rfl
theorem gv {tg:Tg} {it:Its} {body:Sx} {η:Env} {l:Vu} (h:it η=some (.fr,l)):eW tg it body η=forL tg body l η:=by
 simp [eW,h]
theorem j4 {i:Nat} {η:Env} {l:Vu} {t:T} {e:Ex} (h:η[i]?=some (some (.ow (.lst l)))) (he:e η=some (.fr,t)) (hl:l.length < 16777216):(sX (lz i [] bg (ah e aA))) η=some (.nx (η.set i (some (.ow (.lst (l++[t])))))):=by
 simp [h,he,fJ hl]
theorem uD (sg:W9) (hsg:Az sg) (so many:Int) (h0:0 < so) (h1:so<=sg.length) (h2:so < 1000) (k:Nat) (c:Int) (room:Nat) (bk:List Tx) (z7 z8 z9:Vx) (hr:room<=24) (B:Bk (24 - room) bk) (hl:bk.length < 1000) :
  ∃ (c1:Int) (sz:Nat) (t1:Tx) (z1:Vx),sz<=room/\Bk (24 - (room - sz)) (bk++[t1])/\cf (ED c sg so many room (bk.map T.str) (some (.pu (.int k))) z7 z8 z9)=some (.nx (ED c1 sg so many ((room - sz:Nat):Int) ((bk++[t1]).map T.str) (some (.pu (.int k))) (some (.pu (.int sz))) (some (.pu (.str t1))) z1)):=by
 have e0:=Z4 c (b:=25) (by decide)
 have e1:=ZP c (b:=25) (by decide)
 obtain ⟨sz,hsz,hsr,hs2⟩:∃ sz:Nat,(if c % 25 < (room:Int) then c % 25 else (room:Int))=(sz:Int)/\sz<=room/\sz<=24:=by
  by_cases h:c % 25 < (room:Int)
  ·exact ⟨(c % 25).toNat,by rw [Zq h];lia,by lia,by lia⟩
  ·exact ⟨room,by rw [Zn h],Zp _,hr⟩
 have er:((room:Int) - (sz:Int))=((room - sz:Nat):Int):=by lia
 generalize ht:(room - sz:Nat)=r1 at er
 obtain ⟨c1,t1,z1,ee,hl1,ht1⟩:=FQ sg hsg so many (r1:Int) (sz:Int) h0 h1 h2 (bk.map T.str) (some (.pu (.int k))) (List.range sz) (c / 25) [] z9 (by rw [Yt,Yd];lia) (fun x hx=>nomatch hx)
 rw [Yt,Yd,Y7] at hl1
 refine ⟨c1,sz,t1,z1,hsr,B.snoc (by lia) ht1,?_⟩
 rw [ht]
 unfold cf
 rw [au (η1:=ED c sg so many room (bk.map T.str) (some (.pu (.int k))) (some (.pu (.int sz))) z8 z9) (aI (m:=.fr) (t:=.int sz) (by rw [← hsz];rfl) (by decide) (by decide:7 < 10))]
 rw [au (η1:=ED (c / 25) sg so many room (bk.map T.str) (some (.pu (.int k))) (some (.pu (.int sz))) z8 z9) rfl]
 rw [au (η1:=ED (c / 25) sg so many r1 (bk.map T.str) (some (.pu (.int k))) (some (.pu (.int sz))) z8 z9) (aI (m:=.fr) (t:=.int r1) (by rw [← er];rfl) (by decide) (by decide:4 < 10))]
 rw [au (η1:=ED (c / 25) sg so many r1 (bk.map T.str) (some (.pu (.int k))) (some (.pu (.int sz))) (some (.pu (.str []))) z9) rfl]
 rw [au (η1:=ED c1 sg so many r1 (bk.map T.str) (some (.pu (.int k))) (some (.pu (.int sz))) (some (.pu (.str t1))) z1) (by rw [gv (nG (m:=.fr) (n:=sz) rfl (by lia))];exact ee)]
 rw [j4 (l:=bk.map T.str) (t:=.str t1) rfl rfl (by rw [Zt];lia),Ym]
 rfl
theorem Fq (sg:W9) (hsg:Az sg) (so many:Int) (h0:0 < so) (h1:so<=sg.length) (h2:so < 1000) (ks:W9):∀ (c:Int) (room:Nat) (bk:List Tx) (z6 z7 z8 z9:Vx),room<=24->Bk (24 - room) bk->bk.length+ks.length<=1000 →
  ∃ c' r' bk' z6' z7' z8' z9',forL (bE 6) cf (ks.map fun (k:Nat)=>T.int (k:Int)) (ED c sg so many room (bk.map T.str) z6 z7 z8 z9)=some (.nx (ED c' sg so many r' (bk'.map T.str) z6' z7' z8' z9'))/\Bk 24 bk'/\bk'.length=bk.length+ks.length:=by
 induction ks with
 | nil=>exact fun c room bk z6 z7 z8 z9 hr B _=>⟨c,room,bk,z6,z7,z8,z9,rfl,⟨ZV B.n (YT _ _),B.az⟩,rfl⟩
 | cons k ks ih =>
  intro c room bk z6 z7 z8 z9 hr B hl
  rw [Zi] at hl
  obtain ⟨c1,sz,t1,z1,hsr,B1,eb⟩:=uD sg hsg so many h0 h1 h2 k c room bk z7 z8 z9 hr B (by lia)
  obtain ⟨c',r',bk',z6',z7',z8',z9',e,B',hl'⟩:=ih c1 (room - sz) (bk++[t1]) (some (.pu (.int k))) (some (.pu (.int sz))) (some (.pu (.str t1))) z1 (ZV (YT _ _) hr) B1 (by rw [Zv,ZX];lia)
  refine ⟨c',r',bk',z6',z7',z8',z9',?_,B',by rw [hl',Zv,ZX,Zi];lia⟩
  rw [Zu,bw rfl eb,e]
theorem iu {np nn:Nat} {b:Sx} {ts:Vu} {v:Val} {η:Env} (hl:ts.length=np) (h:b (ts.map (fun t=>some (.pu t))++List.replicate (nn - np) none)=some (.rt v η)):fn np nn b ts=some v:=by
 unfold fn
 rw [Zq hl]
 subst hl
 rw [h]
 rfl
theorem wI (c:Int):∃ bk:List Tx,cB [.int c]=some (.fr,.lst (bk.map T.str))/\Bk 24 bk/\bk.length<=4:=by
 obtain ⟨sg,hs,hl,haz⟩:=sD c
 have a0:=Z4 (c / 130) (b:=8) (by decide)
 have a1:=ZP (c / 130) (b:=8) (by decide)
 have li:aV (.fr,.lst [.int 1,.int 2,.int 3,.int 4,.int 2,.int 3,.int 4,.int 26]) (.fr,.int (c / 130 % 8))=_:=lO T.int [1,2,3,4,2,3,4,26] (c / 130 % 8) 0 a0 a1 rfl
 obtain ⟨so,hso,s0,s1⟩:∃ so:Int,List.getD [1,2,3,4,2,3,4,26] (c / 130 % 8).toNat 0=so/\0 < so/\so<=26:=by
  have pk:∀ i,i < 8->0 < (List.getD [1,2,3,4,2,3,4,26] i 0:Int)/\(List.getD [1,2,3,4,2,3,4,26] i 0:Int)<=26:=by decide
  have h:=pk (c / 130 % 8).toNat (by lia)
  exact ⟨_,rfl,h.1,h.2⟩
 rw [hso] at li
 have b0:=Z4 (c / 1040) (b:=5) (by decide)
 have b1:=ZP (c / 1040) (b:=5) (by decide)
 obtain ⟨mn,hmn,m1⟩:∃ mn:Nat,c / 1040 % 5=(mn:Int)/\mn<=4:=⟨(c / 1040 % 5).toNat,by lia,by lia⟩
 obtain ⟨c',r',bk',z6',z7',z8',z9',e,B',hl'⟩:=Fq sg haz so mn s0 (by lia) (by lia) (List.range mn) (c / 5200) 24 [] none none none none (Zp _) ⟨ZU _,fun t ht=>nomatch ht⟩ (by rw [Yt,Yd];lia)
 rw [Yt,Yd,Y7] at hl'
 refine ⟨bk',?_,B',by lia⟩
 unfold cB
 refine iu rfl (η:=[some (.pu (.int c')),some (.pu (sgT sg)),some (.pu (.int so)),some (.pu (.int mn)),some (.pu (.int r')),none,z6',z7',z8',z9']) ?_
 refine (show av _ _ [some (.pu (.int c)),none,none,none,none,none,none,none,none,none]=_ from ?_)
 rw [au (η1:=[some (.pu (.int c)),some (.pu (sgT sg)),none,none,none,none,none,none,none,none]) (aI (aX (xs:=[(.fr,.int c)]) rfl hs) (by decide) (by decide:1 < 10))]
 rw [au (η1:=[some (.pu (.int c)),some (.pu (sgT sg)),some (.pu (.int so)),none,none,none,none,none,none,none]) (aI (m:=.fr) (e2v rfl (e2v (e2v rfl rfl (fE (j:=130) (by decide))) rfl (bu (j:=8) (by decide))) li) (by decide) (by decide:2 < 10))]
 rw [au (η1:=[some (.pu (.int c)),some (.pu (sgT sg)),some (.pu (.int so)),some (.pu (.int mn)),none,none,none,none,none,none]) (aI (m:=.fr) (e2v (e2v rfl rfl (fE (j:=1040) (by decide))) rfl (by rw [← hmn];exact bu (j:=5) (by decide))) (by decide) (by decide:3 < 10))]
 rw [au (η1:=[some (.pu (.int (c / 5200))),some (.pu (sgT sg)),some (.pu (.int so)),some (.pu (.int mn)),none,none,none,none,none,none]) rfl]
 rw [au (η1:=[some (.pu (.int (c / 5200))),some (.pu (sgT sg)),some (.pu (.int so)),some (.pu (.int mn)),some (.pu (.int ((24:Nat):Int))),none,none,none,none,none]) rfl]
 rw [au (η1:=ED (c / 5200) sg so mn ((24:Nat):Int) (([]:List Tx).map T.str) none none none none) rfl]
 rw [au (show eW _ _ _ _=_ from by
  rw [gv (nG (m:=.fr) (n:=mn) rfl (by lia))]
  exact e)]
 rfl
noncomputable abbrev EM (ns:Vz) (sg:W9) (most so room:Int) (bk:Vu) (k:Nat) (z7 z8 z9 z10 z11:Vx):Env:=[some (.pu (.scr ns)),some (.pu (.int most)),some (.pu (sgT sg)),some (.pu (.int so)),some (.pu (.int room)),some (.ow (.lst bk)),some (.pu (.int k)),z7,z8,z9,z10,z11]
noncomputable abbrev cI (i:Int):Vx:=some (.pu (.int i))
noncomputable abbrev cS (t:Tx):Vx:=some (.pu (.str t))
theorem iO {a b:Ex} {η:Env} {x y:Bool} (h1:a η=some (.fr,.bl x)) (h2:b η=some (.fr,.bl y)):i0 a b η=some (.fr,.bl (x && y)):=by
 unfold i0
 rw [h1,Zk]
 cases x with
 | true=>exact h2
 | false=>rfl
theorem uO (ns:Vz) (sg:W9) (hsg:Az sg) (most so room size:Int) (h0:0 < so) (h1:so<=sg.length) (bk:Vu) (k back:Nat) (hk:k < 6) (hb:1<=back) (hb2:back<=5) (j:Nat) (hj:j < 200) (t:Tx) (ht:Az t) (hl:t.length<=1000) (z11:Vx) :
  ∃ x n,Az [x]/\cp (EM ns sg most so room bk k (cI size) (cI back) (cS t) (cI j) z11)=some (.nx (EM ns sg most so room bk k (cI size) (cI back) (cS (t++[x])) (cI j) (cI n))):=by
 obtain ⟨n,hn,n0,n1⟩:=gf ns (20 * (k:Int)+6+(j:Int)) (by lia) (by lia)
 have ad:∀ x:Nat,bR (.fr,.str t) (.fr,.str [x])=some (.fr,.str (t++[x])):=fun x=>jA (ZV (Nat.add_le_add_right hl 1) (by decide))
 have c1:e2 oGe (eN d8 (ah (aj 9) aA)) (aj 8) (EM ns sg most so room bk k (cI size) (cI back) (cS t) (cI j) (cI n))=some (.fr,.bl (decide ((back:Int)<=(t.length:Int)))):=rfl
 have c2:e2 oGt (e2 oMod (aj 11) (eC (.int 4))) (eC (.int 0)) (EM ns sg most so room bk k (cI size) (cI back) (cS t) (cI j) (cI n))=some (.fr,.bl (decide (0 < n % 4))):=e2v (e2v rfl rfl (bu (by decide))) rfl rfl
 have st:∀ {e:Ex} {x:Nat},e (EM ns sg most so room bk k (cI size) (cI back) (cS t) (cI j) (cI n))=some (.fr,.str [x])->aN 9 (e2 bR (aj 9) e) (EM ns sg most so room bk k (cI size) (cI back) (cS t) (cI j) (cI n))=some (.nx (EM ns sg most so room bk k (cI size) (cI back) (cS (t++[x])) (cI j) (cI n))):=fun {e x} h =>
  aI (m:=.fr) (e2v (x:=(.fr,.str t)) rfl h (ad x)) (by decide) (by decide:9 < 12)
 unfold cp
 rw [au (η1:=EM ns sg most so room bk k (cI size) (cI back) (cS t) (cI j) (cI n)) (aI (aX (xs:=[(.fr,.scr ns),(.fr,.int (20 * (k:Int)+6+(j:Int)))]) rfl hn) (by decide) (by decide:11 < 12))]
 by_cases p:(back:Int)<=(t.length:Int)/\0 < n % 4
 ·refine ⟨t.getD ((t.length:Int) - (back:Int)).toNat 0,n,nW ht (by lia),?_⟩
  rw [oV (m:=.fr) (by rw [iO c1 c2,decide_eq_true p.1,decide_eq_true p.2];rfl)]
  exact st (e2v (x:=(.fr,.str t)) (y:=(.fr,.int ((t.length:Int) - (back:Int)))) rfl rfl (xy t _ (by lia) (by lia)))
 ·have e0:=Z4 (n / 4) (b:=so) (by lia)
  have e1:=ZP (n / 4) (b:=so) h0
  refine ⟨sg.getD (n / 4 % so).toNat 0,n,nW hsg (by lia),?_⟩
  rw [qZ (m:=.fr) (by
   rw [iO c1 c2,← Bool.decide_and,ZL p])]
  exact st (e2v (x:=(.pu,sgT sg)) rfl (e2v (e2v rfl rfl (fE (by decide))) rfl (bu h0)) (vF sg _ e0 (by lia)))
theorem FJ (ns:Vz) (sg:W9) (hsg:Az sg) (most so room size:Int) (h0:0 < so) (h1:so<=sg.length) (bk:Vu) (k back:Nat) (hk:k < 6) (hb:1<=back) (hb2:back<=5) (js:W9):∀ (t:Tx) (z10 z11:Vx),(∀ j∈js,j < 200)->t.length+js.length<=1000->Az t →
  ∃ t' z10' z11',forL (bE 10) cp (js.map fun (j:Nat)=>T.int (j:Int)) (EM ns sg most so room bk k (cI size) (cI back) (cS t) z10 z11)=some (.nx (EM ns sg most so room bk k (cI size) (cI back) (cS t') z10' z11'))/\t'.length=t.length+js.length/\Az t':=by
 induction js with
 | nil=>exact fun t z10 z11 _ _ ht=>⟨t,z10,z11,rfl,rfl,ht⟩
 | cons j js ih =>
  intro t z10 z11 hj hl ht
  rw [Zi] at hl
  obtain ⟨x,n,hx,eb⟩:=uO ns sg hsg most so room size h0 h1 bk k back hk hb hb2 j (hj j Zw) t ht (by lia) z11
  obtain ⟨t',a,b,e,hl',ht'⟩:=ih (t++[x]) (cI j) (cI n) (fun i hi=>hj i (Zx _ hi)) (by rw [Zv,ZX];lia) (ht.app hx)
  refine ⟨t',a,b,?_,by rw [hl',Zv,ZX,Zi];lia,ht'⟩
  rw [Zu,bw rfl eb,e]
theorem sU (t:Tx) (i L:Nat) (h:i<=t.length):cut t (some (i:Int)) (some ((i:Int)+(L:Int)))=(t.drop i).take L:=by
 have h1:¬ ((i:Int) < 0):=by lia
 have h2:¬ ((i:Int)+(L:Int) < 0):=by lia
 simp only [cut,clip,Zn h1,Zn h2,X8]
 rw [show ((i:Int)+(L:Int)).toNat=i+L by lia,Yf h]
 by_cases q:i+L<=t.length
 ·rw [Yf q,show i+L - i=L by exact YH _ _]
 ·rw [Wp (by exact Xi q),Z5 (l:=t.drop i) (by simp),Z5 (l:=t.drop i) (by simp;lia)]
theorem tU (ns:Vz) (sg:W9) (hsg:Az sg) (most so:Int) (hm0:0<=most) (hm1:most<=120) (h0:0 < so) (h1:so<=sg.length) (k:Nat) (hk:k < 6) (room:Nat) (hr:(room:Int)<=most) (bk:List Tx) (B:Bk (most.toNat - room) bk) (hl:bk.length<=100) (z7 z8 z9 z10 z11:Vx) :
  ∃ (room':Nat) (bk':List Tx) (y7 y8 y9 y10 y11:Vx),room'<=room/\Bk (most.toNat - room') bk'/\bk'.length<=bk.length+2/\cq (EM ns sg most so room (bk.map T.str) k z7 z8 z9 z10 z11)=some (.nx (EM ns sg most so room' (bk'.map T.str) k y7 y8 y9 y10 y11)):=by
 obtain ⟨n4,hn4,n40,n41⟩:=gf ns (20 * (k:Int)+4) (by lia) (by lia)
 obtain ⟨n5,hn5,n50,n51⟩:=gf ns (20 * (k:Int)+5) (by lia) (by lia)
 have e0:=Z4 n4 (b:=most+1) (by lia)
 have e1:=ZP n4 (b:=most+1) (by lia)
 have f0:=Z4 n5 (b:=5) (by decide)
 have f1:=ZP n5 (b:=5) (by decide)
 obtain ⟨sz,hsz,hsr⟩:∃ sz:Nat,(if n4 % (most+1) < (room:Int) then n4 % (most+1) else (room:Int))=(sz:Int)/\sz<=room:=by
  by_cases h:n4 % (most+1) < (room:Int)
  ·exact ⟨(n4 % (most+1)).toNat,by rw [Zq h];lia,by lia⟩
  ·exact ⟨room,by rw [Zn h],Zp _⟩
 have er:((room:Int) - (sz:Int))=((room - sz:Nat):Int):=by lia
 generalize ht:(room - sz:Nat)=r1 at er
 obtain ⟨bc,hbc,c0,c1⟩:∃ bc:Nat,1+n5 % 5=(bc:Int)/\1<=bc/\bc<=5:=⟨(1+n5 % 5).toNat,by lia,by lia,by lia⟩
 obtain ⟨t1,y10,y11,ee,hl1,ht1⟩:=FJ ns sg hsg most so (r1:Int) (sz:Int) h0 h1 (bk.map T.str) k bc hk c0 c1 (List.range sz) [] z10 z11 (fun j hj=>by have:=Yx.mp hj;lia) (by rw [Yt,Yd];lia) (fun x hx=>nomatch hx)
 rw [Yt,Yd,Y7] at hl1
 have B1:Bk (most.toNat - r1) (bk++[t1]):=B.snoc (by lia) ht1
 have m5:∀ (r:Int) (b:Vu) (z7 z8 z9 z10 z11:Vx),aZ aM (ah (aj 0) (ah (e2 bR (e2 eI (eC (.int 20)) (aj 6)) (eC (.int 5))) aA)) (EM ns sg most so r b k z7 z8 z9 z10 z11)=some (.fr,.int n5):=fun r b _ _ _ _ _=>aX (xs:=[(.fr,.scr ns),(.fr,.int (20 * (k:Int)+5))]) rfl hn5
 have m4:aZ aM (ah (aj 0) (ah (e2 bR (e2 eI (eC (.int 20)) (aj 6)) (eC (.int 4))) aA)) (EM ns sg most so room (bk.map T.str) k z7 z8 z9 z10 z11)=some (.fr,.int n4):=aX (xs:=[(.fr,.scr ns),(.fr,.int (20 * (k:Int)+4))]) rfl hn4
 have mp:∀ (b:List Tx) (t:Tx),(b++[t]).map T.str=b.map T.str++[T.str t]:=fun b t=>by rw [Ym];rfl
 unfold cq
 rw [au (η1:=EM ns sg most so room (bk.map T.str) k (cI sz) z8 z9 z10 z11) (aI (m:=.fr) (t:=.int sz) (by
  have a:=xv (a:=aj 4) (x:=(.fr,.int room)) (η:=EM ns sg most so room (bk.map T.str) k z7 z8 z9 z10 z11) rfl (xv (e2v (z:=(.fr,.int (n4 % (most+1)))) m4 (b:=e2 bR (aj 1) (eC (.int 1))) (y:=(.fr,.int (most+1))) rfl (bu (by lia))) (xs:=[]) (r:=aA) rfl)
  show (ah _ _ _).bind _=_
  rw [a,← hsz]
  rfl) (by decide) (by decide:7 < 12))]
 rw [au (η1:=EM ns sg most so r1 (bk.map T.str) k (cI sz) z8 z9 z10 z11) (aI (m:=.fr) (t:=.int r1) (by rw [← er];rfl) (by decide) (by decide:4 < 12))]
 rw [au (η1:=EM ns sg most so r1 (bk.map T.str) k (cI sz) (cI bc) z9 z10 z11) (aI (m:=.fr) (t:=.int bc) (e2v (x:=(.fr,.int 1)) rfl (e2v (m5 r1 _ _ _ _ _ _) rfl (bu (j:=5) (by decide))) (by rw [← hbc];rfl)) (by decide) (by decide:8 < 12))]
 rw [au (η1:=EM ns sg most so r1 (bk.map T.str) k (cI sz) (cI bc) (cS []) z10 z11) rfl]
 rw [au (η1:=EM ns sg most so r1 (bk.map T.str) k (cI sz) (cI bc) (cS t1) y10 y11) (by rw [gv (nG (m:=.fr) (n:=sz) rfl (by lia))];exact ee)]
 rw [au (η1:=EM ns sg most so r1 ((bk++[t1]).map T.str) k (cI sz) (cI bc) (cS t1) y10 y11) (by rw [mp,j4 (l:=bk.map T.str) (t:=.str t1) rfl rfl (by rw [Zt];lia)];rfl)]
 have g1:e2 oGt (aj 7) (eC (.int 2)) (EM ns sg most so r1 ((bk++[t1]).map T.str) k (cI sz) (cI bc) (cS t1) y10 y11)=some (.fr,.bl (decide ((2:Int) < (sz:Int)))):=rfl
 have g2:e2 oEq (e2 oMod (aZ aM (ah (aj 0) (ah (e2 bR (e2 eI (eC (.int 20)) (aj 6)) (eC (.int 5))) aA))) (eC (.int 3))) (eC (.int 0)) (EM ns sg most so r1 ((bk++[t1]).map T.str) k (cI sz) (cI bc) (cS t1) y10 y11)=some (.fr,.bl (n5 % 3 == 0)):=e2v (e2v (m5 _ _ _ _ _ _ _) rfl (bu (by decide))) rfl rfl
 have g3:e2 oGe (aj 4) (eC (.int 2)) (EM ns sg most so r1 ((bk++[t1]).map T.str) k (cI sz) (cI bc) (cS t1) y10 y11)=some (.fr,.bl (decide ((2:Int)<=(r1:Int)))):=rfl
 have g:=iO g1 (iO g2 g3)
 cases hg:(decide ((2:Int) < (sz:Int)) && ((n5 % 3 == 0) && decide ((2:Int)<=(r1:Int)))) with
 | true =>
  rw [hg] at g
  have q:=XG.mp hg
  have q3:=of_decide_eq_true (XG.mp q.2).2
  have q1:=of_decide_eq_true q.1
  have cu:cut t1 (some 1) (some 3)=(t1.drop 1).take 2:=sU t1 1 2 (by lia)
  have az2:Az ((t1.drop 1).take 2):=fun x hx=>ht1 x (YW (Yi hx))
  have l2:((t1.drop 1).take 2).length<=2:=by rw [ZS];exact Nat.min_le_left _ _
  have e2':((r1:Int) - 2)=((r1 - 2:Nat):Int):=by lia
  refine ⟨r1 - 2,bk++[t1]++[(t1.drop 1).take 2],cI sz,cI bc,cS t1,y10,y11,by lia,B1.snoc (by lia) az2,by rw [Zv,Zv,ZX,ZX];exact Zp _,?_⟩
  rw [oV (m:=.fr) g]
  rw [au (η1:=EM ns sg most so r1 ((bk++[t1]++[(t1.drop 1).take 2]).map T.str) k (cI sz) (cI bc) (cS t1) y10 y11) (by
   rw [mp (bk++[t1]),j4 (l:=(bk++[t1]).map T.str) (t:=.str ((t1.drop 1).take 2)) rfl (by rw [← cu];rfl) (by rw [Zt,Zv,ZX];lia)];rfl)]
  rw [← e2']
  rfl
 | false =>
  rw [hg] at g
  refine ⟨r1,bk++[t1],cI sz,cI bc,cS t1,y10,y11,by lia,B1,by rw [Zv,ZX];exact Nat.le_succ _,?_⟩
  rw [qZ (m:=.fr) g]
  rfl
theorem F9 (ns:Vz) (sg:W9) (hsg:Az sg) (most so:Int) (hm0:0<=most) (hm1:most<=120) (h0:0 < so) (h1:so<=sg.length) (ks:W9):∀ (room:Nat) (bk:List Tx) (z6 z7 z8 z9 z10 z11:Vx),(∀ k∈ks,k < 6)->(room:Int)<=most->Bk (most.toNat - room) bk->bk.length+2 * ks.length<=100 →
  ∃ (room':Int) (bk':List Tx) (y6 y7 y8 y9 y10 y11:Vx),Bk most.toNat bk'/\bk'.length<=bk.length+2 * ks.length/\forL (bE 6) cq (ks.map fun (k:Nat)=>T.int (k:Int)) [some (.pu (.scr ns)),some (.pu (.int most)),some (.pu (sgT sg)),some (.pu (.int so)),some (.pu (.int (room:Int))),some (.ow (.lst (bk.map T.str))),z6,z7,z8,z9,z10,z11] =
   some (.nx [some (.pu (.scr ns)),some (.pu (.int most)),some (.pu (sgT sg)),some (.pu (.int so)),some (.pu (.int room')),some (.ow (.lst (bk'.map T.str))),y6,y7,y8,y9,y10,y11]):=by
 induction ks with
 | nil=>exact fun room bk z6 z7 z8 z9 z10 z11 _ hr B _=>⟨room,bk,z6,z7,z8,z9,z10,z11,⟨ZV B.n (YT _ _),B.az⟩,Zp _,rfl⟩
 | cons k ks ih =>
  intro room bk z6 z7 z8 z9 z10 z11 hk hr B hl
  rw [Zi] at hl
  obtain ⟨r1,b1,y7,y8,y9,y10,y11,hr1,B1,hl1,eb⟩:=tU ns sg hsg most so hm0 hm1 h0 h1 k (hk k Zw) room hr bk B (by lia) z7 z8 z9 z10 z11
  obtain ⟨r2,b2,x6,x7,x8,x9,x10,x11,B2,hl2,e⟩:=ih r1 b1 (cI k) y7 y8 y9 y10 y11 (fun i hi=>hk i (Zx _ hi)) (by lia) B1 (by lia)
  refine ⟨r2,b2,x6,x7,x8,x9,x10,x11,B2,by rw [Zi];lia,?_⟩
  rw [Zu,bw rfl eb,e]
theorem Ft {α:Type} (l:List α):cut l none (some 8)=l.take 8:=by
 simp only [cut,clip]
 by_cases h:8<=l.length
 ·simp [Yf h]
 ·simp [Wp (ZO (W4 h))]
  rw [Z5 (by exact Xi h)]
theorem Bk.take {m:Nat} {bk:List Tx} (B:Bk m bk) (n:Nat):Bk m (bk.take n):=by
 refine ⟨?_,fun t ht=>B.az t (Yi ht)⟩
 have h:bk.flatten=(bk.take n).flatten++(bk.drop n).flatten:=by rw [← Z2,YX]
 have:=B.n
 rw [h,Zv] at this
 lia
theorem vj (l:List Tx):fN (l.map T.str)=true:=by
 induction l with
 | nil=>rfl
 | cons a l ih=>simpa [fN,imm] using ih
theorem u0 (ns:Vz) (most:Int) (hm0:0<=most) (hm1:most<=120):∃ bk:List Tx,cx [.scr ns,.int most]=some (.fr,.lst (bk.map T.str))/\Bk most.toNat bk/\bk.length<=8:=by
 obtain ⟨n1,hn1,_,_⟩:=gf ns 1 (by decide) (by decide)
 obtain ⟨n2,hn2,_,_⟩:=gf ns 2 (by decide) (by decide)
 obtain ⟨n3,hn3,_,_⟩:=gf ns 3 (by decide) (by decide)
 obtain ⟨sg,hs,hl,haz⟩:=sD n1
 have a0:=Z4 n2 (b:=8) (by decide)
 have a1:=ZP n2 (b:=8) (by decide)
 have li:aV (.fr,.lst [.int 1,.int 2,.int 3,.int 4,.int 2,.int 3,.int 9,.int 26]) (.fr,.int (n2 % 8))=_:=lO T.int [1,2,3,4,2,3,9,26] (n2 % 8) 0 a0 a1 rfl
 obtain ⟨so,hso,s0,s1⟩:∃ so:Int,List.getD [1,2,3,4,2,3,9,26] (n2 % 8).toNat 0=so/\0 < so/\so<=26:=by
  have pk:∀ i,i < 8->0 < (List.getD [1,2,3,4,2,3,9,26] i 0:Int)/\(List.getD [1,2,3,4,2,3,9,26] i 0:Int)<=26:=by decide
  have h:=pk (n2 % 8).toNat (by lia)
  exact ⟨_,rfl,h.1,h.2⟩
 rw [hso] at li
 have b0:=Z4 n3 (b:=6) (by decide)
 have b1:=ZP n3 (b:=6) (by decide)
 obtain ⟨mn,hmn,m1⟩:∃ mn:Nat,n3 % 6=(mn:Int)/\mn < 6:=⟨(n3 % 6).toNat,by lia,by lia⟩
 obtain ⟨rm,rfl⟩:∃ rm:Nat,most=(rm:Int):=⟨most.toNat,by lia⟩
 obtain ⟨r2,b2,x6,x7,x8,x9,x10,x11,B2,hl2,e⟩:=F9 ns sg haz rm so hm0 hm1 s0 (by lia) (List.range mn) rm [] none none none none none none (fun k hk=>Nat.lt_trans (Yx.mp hk) m1) (Int.le_refl _) ⟨ZU _,fun t ht=>nomatch ht⟩ (by rw [Yt,Yd];lia)
 have mx:∀ (i n:Int) (r:Env),aM [.scr ns,.int i]=some (.fr,.int n)->aZ aM (ah (aj 0) (ah (eC (.int i)) aA)) (some (.pu (.scr ns)) :: r)=some (.fr,.int n):=fun i n r h=>aX (xs:=[(.fr,.scr ns),(.fr,.int i)]) rfl h
 have mk:mkL .pu ((b2.take 8).map T.str)=some (.fr,.lst ((b2.take 8).map T.str)):=by
  unfold mkL
  rw [Zq (show ((b2.take 8).map T.str).length<=g9 by rw [Zt,ZS];exact ZV (Nat.min_le_left _ _) (by decide)),Zq (vj _)]
 refine ⟨b2.take 8,?_,B2.take 8,by rw [ZS];exact Nat.min_le_left _ _⟩
 unfold cx
 refine iu rfl (η:=[some (.pu (.scr ns)),some (.pu (.int rm)),some (.pu (sgT sg)),some (.pu (.int so)),some (.pu (.int r2)),some (.pu (.lst (b2.map T.str))),x6,x7,x8,x9,x10,x11]) ?_
 refine (show av _ _ [some (.pu (.scr ns)),some (.pu (.int rm)),none,none,none,none,none,none,none,none,none,none]=_ from ?_)
 rw [au (η1:=[some (.pu (.scr ns)),some (.pu (.int rm)),some (.pu (sgT sg)),none,none,none,none,none,none,none,none,none]) (aI (aX (xs:=[(.fr,.int n1)]) (xv (mx 1 n1 _ hn1) rfl) hs) (by decide) (by decide:2 < 12))]
 rw [au (η1:=[some (.pu (.scr ns)),some (.pu (.int rm)),some (.pu (sgT sg)),some (.pu (.int so)),none,none,none,none,none,none,none,none]) (aI (m:=.fr) (e2v rfl (e2v (mx 2 n2 _ hn2) rfl (bu (j:=8) (by decide))) li) (by decide) (by decide:3 < 12))]
 rw [au (η1:=[some (.pu (.scr ns)),some (.pu (.int rm)),some (.pu (sgT sg)),some (.pu (.int so)),some (.pu (.int (rm:Int))),none,none,none,none,none,none,none]) rfl]
 rw [au (η1:=[some (.pu (.scr ns)),some (.pu (.int rm)),some (.pu (sgT sg)),some (.pu (.int so)),some (.pu (.int (rm:Int))),some (.ow (.lst (([]:List Tx).map T.str))),none,none,none,none,none,none]) rfl]
 rw [au (show eW _ _ _ _=_ from by
  rw [gv (nG (m:=.fr) (n:=mn) (e2v (mx 3 n3 _ hn3) rfl (by rw [← hmn];exact bu (by decide))) (by lia))]
  exact e)]
 rw [au (η1:=[some (.pu (.scr ns)),some (.pu (.int rm)),some (.pu (sgT sg)),some (.pu (.int so)),some (.pu (.int r2)),some (.pu (.lst (b2.map T.str))),x6,x7,x8,x9,x10,x11]) rfl]
 have sl:eSl (aj 5) none (some (eC (.int 8))) [some (.pu (.scr ns)),some (.pu (.int rm)),some (.pu (sgT sg)),some (.pu (.int so)),some (.pu (.int r2)),some (.pu (.lst (b2.map T.str))),x6,x7,x8,x9,x10,x11]=some (.fr,.lst ((b2.take 8).map T.str)):=by
  show mkL .pu (cut (b2.map T.str) none (some 8))=_
  rw [Ft,← List.map_take,mk]
 simp only [dj,sl,Zk]
theorem Bk.up {m n:Nat} {bk:List Tx} (B:Bk m bk) (h:m<=n):Bk n bk:=⟨ZV B.n h,B.az⟩
theorem eq0 {m n:Md} (i:Int):oEq (m,.int i) (n,.int 0)=some (.fr,.bl (decide (i=0))):=by
 show (if _ then some (Md.fr,T.bl (eqT (.int i) (.int 0))) else none)=_
 rw [Zq ⟨rfl,rfl⟩]
 rfl
theorem C7 (ns:Vz):∃ bk:List Tx,eE [.scr ns,.int 24]=some (.fr,.lst (bk.map T.str))/\Bk 120 bk/\bk.length<=8:=by
 obtain ⟨c,hc⟩:=Bl ns
 obtain ⟨n0,hn0,_,_⟩:=gf ns 0 (by decide) (by decide)
 have ca:aZ eL (ah (aj 0) (ah (eC (.int 0)) aA)) [some (.pu (.scr ns)),some (.pu (.int 24))]=some (.fr,.int c):=aX (xs:=[(.fr,.scr ns),(.fr,.int 0)]) rfl hc
 have c1:=e2v (f:=oEq) (b:=eC (.int 0)) (e2v (f:=oMod) (b:=eC (.int 2)) ca rfl (bu (by decide))) rfl (eq0 (c % 2))
 unfold eE
 by_cases p:c % 2=0
 ·rw [decide_eq_true p] at c1
  obtain ⟨bk,hb,B,hl⟩:=wI (c / 2)
  exact ⟨bk,iu rfl (tj ((oV c1).trans (kc (aX (xs:=[(.fr,.int (c / 2))]) (xv (e2v ca rfl (fE (by decide))) rfl) hb)))),B.up (by decide),ZV hl (by decide)⟩
 rw [ZL p] at c1
 have a0:=Z4 n0 (b:=4) (by decide)
 have a1:=ZP n0 (b:=4) (by decide)
 have li:=fun m n=>lO (m:=m) (n:=n) T.int [24,24,24,24] (n0 % 4) 0 a0 a1 rfl
 obtain ⟨mo,hmo,m0,m1⟩:∃ mo:Int,List.getD [24,24,24,24] (n0 % 4).toNat 0=mo/\0<=mo/\mo<=120:=by
  have pk:∀ i,i < 4->0<=(List.getD [24,24,24,24] i 0:Int)/\(List.getD [24,24,24,24] i 0:Int)<=120:=by decide
  have h:=pk (n0 % 4).toNat (by lia)
  exact ⟨_,rfl,h.1,h.2⟩
 rw [hmo] at li
 obtain ⟨bk,hb,B,hl⟩:=u0 ns mo m0 m1
 exact ⟨bk,iu rfl ((au (qZ c1)).trans (kc (aX (xs:=[(.fr,.scr ns),(.fr,.int mo)]) (xv rfl (xv (e2v rfl (e2v (aX (xs:=[(.fr,.scr ns),(.fr,.int 0)]) rfl hn0) rfl (bu (by decide))) (li _ _)) rfl)) hb))),B.up (by lia),hl⟩
noncomputable abbrev Pl:=Nat×Nat
noncomputable def tP (p:Pl):T:=.tup [.int p.1,.int p.2]
noncomputable abbrev Fd:=List (Tx×List Pl)
noncomputable def dT (d:Fd):List (T×T):=d.map fun p=>(T.str p.1,T.lst (p.2.map tP))
noncomputable def cV:Fd->Tx->Pl->Fd
 | [],w,p=>[(w,[p])]
 | (x,l) :: d,w,p=>if x=w then (x,l++[p]) :: d else (x,l) :: cV d w p
noncomputable def rC (f:T->Option (T×Val)) (w:Tx) (L:List (T×T)):Option (List (T×T)):=(L.findIdx? fun q=>eqT q.1 (.str w)).bind fun i=>(L[i]?).bind fun q=>(f q.2).map fun z=>L.set i (q.1,z.1)
theorem t5 {f:T->Option (T×Val)} {w:Tx} {a:T×T} {L:List (T×T)} (h:eqT a.1 (.str w)=false):rC f w (a :: L)=(rC f w L).map (a :: ·):=by
 unfold rC
 rw [Yh,Zn (by rw [h];simp)]
 cases e:L.findIdx? fun q=>eqT q.1 (.str w) with
 | none=>rfl
 | some i =>
  simp only [YO,Zk,Wm]
  cases e2:L[i]? with
  | none=>rfl
  | some q =>
   simp only [Zk]
   cases f q.2 with
   | none=>rfl
   | some z=>rfl
theorem p6 {f:T->Option (T×Val)} {w:Tx} {a:T×T} {L:List (T×T)} (h:eqT a.1 (.str w)=true):rC f w (a :: L)=(f a.2).map fun z=>(a.1,z.1) :: L:=by
 unfold rC
 rw [Yh,Zq h]
 rfl
theorem p5 {k:T} {a:T×T} {L:List (T×T)} (h:eqT a.1 k=false):cK (a :: L) k=a :: cK L k:=by
 unfold cK dq
 rw [Z6,h]
 dsimp only
 by_cases q:(Option.map (fun x=>x.2) (L.find? fun p=>eqT p.1 k)).isSome=true
 ·rw [Zq q,Zq q]
 ·rw [Zn q,Zn q]
  rfl
theorem rD {k:T} {a:T×T} {L:List (T×T)} (h:eqT a.1 k=true):cK (a :: L) k=a :: L:=by
 unfold cK dq
 rw [Z6,h]
 rfl
theorem q0 (d:Fd) (w:Tx) (p:Pl) (hl:∀ q∈d,q.2.length < 16777216):rC (fun x=>bg x [(.fr,tP p)]) w (cK (dT d) (.str w))=some (dT (cV d w p)):=by
 induction d with
 | nil =>
  have:cK (dT []) (.str w)=[(.str w,.lst [])]:=rfl
  rw [this,p6 (by simp),fJ (by decide)]
  rfl
 | cons a d ih =>
  obtain ⟨x,l⟩:=a
  by_cases e:x=w
  ·subst e
   have h:eqT (T.str x) (.str x)=true:=by simp
   rw [show dT ((x,l) :: d)=(T.str x,T.lst (l.map tP)) :: dT d from rfl,rD h,p6 h,fJ (by rw [Zt];exact hl (x,l) Zw)]
   simp [cV,dT]
  ·have h:eqT (T.str x) (.str w)=false:=by simpa using e
   rw [show dT ((x,l) :: d)=(T.str x,T.lst (l.map tP)) :: dT d from rfl,p5 h,t5 h,ih fun q hq=>hl q (Zx _ hq)]
   simp [cV,dT,e]
theorem uh {i:Nat} {ck:Ex} {cv:Ex} {η:Env} {d:Fd} {w:Tx} {p:Pl} {m:Md} (h:η[i]?=some (some (.ow (.dct 0 (dT d))))) (hk:ck η=some (m,.str w)) (hv:∀ c,cv (η.set i c)=some (.fr,tP p)) (hl:∀ q∈d,q.2.length < 16777216) (hd:d.length < 16777216) :
  iM i ck (ah cv aA) η=some (.nx (η.set i (some (.ow (.dct 0 (dT (cV d w p))))))):=by
 unfold iM
 simp only [h]
 rw [hk,Zk,Zq ⟨rfl,by rw [dT,Zt];exact hd⟩]
 have e:ah cv aA (η.set i (some (.ow (.dct 0 (cK (dT d) (.str w))))))=some [(.fr,tP p)]:=by simp [hv]
 rw [e,Zk]
 have pk:=q0 d w p hl
 unfold rC at pk
 obtain ⟨j,h1,pk⟩:=Zz.mp pk
 obtain ⟨q,h2,pk⟩:=Zz.mp pk
 obtain ⟨z,h3,pk⟩:=Zo.mp pk
 have hp:pm (fun x=>bg x [(.fr,tP p)]) [.at (.str w)] (.dct 0 (cK (dT d) (.str w)))=some (.dct 0 (dT (cV d w p)),z.2):=by
  show (if ki (.str w) then _ else none)=_
  rw [Zq (show ki (.str w)=true from rfl),h1,Zk,h2,Zk]
  show (bg q.2 [(.fr,tP p)]).map _=_
  rw [show bg q.2 [(.fr,tP p)]=some z from h3,YO,pk]
 rw [hp]
 rfl
noncomputable def Sz (N:Nat) (d:Fd):Prop:=d.length<=N/\∀ q∈d,q.2.length<=N
theorem wL (d:Fd) (w:Tx) (p:Pl):(cV d w p).length<=d.length+1:=by
 induction d with
 | nil=>simp [cV]
 | cons a d ih =>
  obtain ⟨x,l⟩:=a
  unfold cV
  split
  ·simp
  ·simp only [Zi];exact Y4 ih
theorem u6 (d:Fd) (w:Tx) (p:Pl) (N:Nat) (h:∀ q∈d,q.2.length<=N):∀ q∈cV d w p,q.2.length<=N+1:=by
 induction d with
 | nil=>intro q hq;simp [cV] at hq;rw [hq];simp
 | cons a d ih =>
  obtain ⟨x,l⟩:=a
  have h1:=h (x,l) Zw
  have ih:=ih fun q hq=>h q (Zx _ hq)
  unfold cV
  split
  ·intro q hq
   rcases Zr.mp hq with rfl | hq
   ·simp only [Zv,ZX];simp only at h1;exact Y4 h1
   ·have:=h q (Zx _ hq);exact Y8 this
  ·intro q hq
   rcases Zr.mp hq with rfl | hq
   ·simp only at h1 ⊢;exact Y8 h1
   ·exact ih q hq
theorem Sz.add {N:Nat} {d:Fd} (h:Sz N d) (w:Tx) (p:Pl):Sz (N+1) (cV d w p):=⟨by have:=wL d w p;have:=h.1;lia,u6 d w p N h.2⟩
noncomputable def adds (n:Nat) (t:Tx) (e:Nat) (ss:W9) (d:Fd):Fd:=ss.foldl (fun d s=>cV d ((t.drop s).take (e - s)) (n,e)) d
theorem pl1 (bk:T) (n:Nat) (t:Tx) (e:Nat) (he:e<=t.length) (ss:W9):∀ (d:Fd) (N:Nat) (z:Vx),(∀ s∈ss,s<=e)->Sz N d->N+ss.length < 16777216 →
  ∃ z',forL (bE 5) dC (ss.map fun (s:Nat)=>T.int (s:Int)) [some (.pu bk),some (.ow (.dct 0 (dT d))),some (.pu (.int n)),some (.pu (.str t)),some (.pu (.int e)),z] =
   some (.nx [some (.pu bk),some (.ow (.dct 0 (dT (adds n t e ss d)))),some (.pu (.int n)),some (.pu (.str t)),some (.pu (.int e)),z'])/\Sz (N+ss.length) (adds n t e ss d):=by
 induction ss with
 | nil=>exact fun d N z _ h _=>⟨z,by simp [forL,adds],by simpa [adds] using h⟩
 | cons s ss ih =>
  intro d N z hs h hN
  rw [Zi] at hN
  have hse:s<=e:=hs s Zw
  have cu:cut t (some (s:Int)) (some (e:Int))=(t.drop s).take (e - s):=by
   have:=sU t s (e - s) (by exact ZV hse he)
   rwa [show ((s:Int)+((e - s:Nat):Int))=(e:Int) by lia] at this
  obtain ⟨z',ee,hz⟩:=ih (cV d ((t.drop s).take (e - s)) (n,e)) (N+1) (some (.pu (.int s))) (fun i hi=>hs i (Zx _ hi)) (h.add _ _) (by lia)
  refine ⟨z',?_,by rw [Zi];rw [show N+(ss.length+1)=N+1+ss.length by lia];exact hz⟩
  have bo:dC [some (.pu bk),some (.ow (.dct 0 (dT d))),some (.pu (.int n)),some (.pu (.str t)),some (.pu (.int e)),some (.pu (.int s))] =
    some (.nx [some (.pu bk),some (.ow (.dct 0 (dT (cV d ((t.drop s).take (e - s)) (n,e))))),some (.pu (.int n)),some (.pu (.str t)),some (.pu (.int e)),some (.pu (.int s))]):=by
   unfold dC
   rw [uh (d:=d) (w:=(t.drop s).take (e - s)) (p:=(n,e)) (m:=.fr) rfl (by simp [cu]) (fun c=>by simp [lW,tP,up,imm,fN]) (fun q hq=>by have:=h.2 q hq;lia) (by have:=h.1;lia)]
   simp
  rw [Zu,bw rfl bo,ee]
  rfl
noncomputable def gK (n:Nat) (t:Tx) (es:W9) (d:Fd):Fd:=es.foldl (fun d e=>adds n t e (List.range (e+1)) d) d
theorem pl2 (bk:T) (n:Nat) (t:Tx) (ht:t.length<=120) (es:W9):∀ (d:Fd) (N:Nat) (z4 z5:Vx),(∀ e∈es,e<=t.length)->Sz N d->N+121 * es.length < 16777216 →
  ∃ z4' z5',forL (bE 4) dB (es.map fun (e:Nat)=>T.int (e:Int)) [some (.pu bk),some (.ow (.dct 0 (dT d))),some (.pu (.int n)),some (.pu (.str t)),z4,z5] =
   some (.nx [some (.pu bk),some (.ow (.dct 0 (dT (gK n t es d)))),some (.pu (.int n)),some (.pu (.str t)),z4',z5'])/\Sz (N+121 * es.length) (gK n t es d):=by
 induction es with
 | nil=>exact fun d N z4 z5 _ h _=>⟨z4,z5,by simp [forL,gK],by simpa [gK] using h⟩
 | cons e es ih =>
  intro d N z4 z5 hs h hN
  rw [Zi] at hN
  have he:e<=t.length:=hs e Zw
  obtain ⟨y5,e1,h1⟩:=pl1 bk n t e he (List.range (e+1)) d N z5 (fun s hs=>by have:=Yx.mp hs;exact YY this) h (by rw [Yt];lia)
  rw [Yt] at h1
  have h2:Sz (N+121) (adds n t e (List.range (e+1)) d):=⟨by have:=h1.1;lia,fun q hq=>by have:=h1.2 q hq;lia⟩
  obtain ⟨x4,x5,ee,hz⟩:=ih (adds n t e (List.range (e+1)) d) (N+121) (some (.pu (.int e))) y5 (fun i hi=>hs i (Zx _ hi)) h2 (by lia)
  refine ⟨x4,x5,?_,by rw [Zi,show N+121 * (es.length+1)=N+121+121 * es.length by lia];exact hz⟩
  have bo:dB [some (.pu bk),some (.ow (.dct 0 (dT d))),some (.pu (.int n)),some (.pu (.str t)),some (.pu (.int e)),z5] =
    some (.nx [some (.pu bk),some (.ow (.dct 0 (dT (adds n t e (List.range (e+1)) d)))),some (.pu (.int n)),some (.pu (.str t)),some (.pu (.int e)),y5]):=by
   unfold dB
   rw [gv (nG (m:=.fr) (n:=e+1) rfl (by lia))]
   exact e1
  rw [Zu,bw rfl bo,ee]
  rfl
theorem pl3 (bk:T) (n:Nat) (t:Tx) (ht:t.length<=120) (d:Fd) (N:Nat) (z4 z5:Vx) (h:Sz N d) (hN:N+14641 < 16777216):∃ z4' z5',cA [some (.pu bk),some (.ow (.dct 0 (dT d))),some (.pu (.int n)),some (.pu (.str t)),z4,z5] =
   some (.nx [some (.pu bk),some (.ow (.dct 0 (dT (gK n t (List.range (t.length+1)) d)))),some (.pu (.int n)),some (.pu (.str t)),z4',z5'])/\Sz (N+14641) (gK n t (List.range (t.length+1)) d):=by
 obtain ⟨z4',z5',e,hz⟩:=pl2 bk n t ht (List.range (t.length+1)) d N z4 z5 (fun e he=>by have:=Yx.mp he;exact YY this) h (by rw [Yt];lia)
 rw [Yt] at hz
 refine ⟨z4',z5',?_,⟨by have:=hz.1;lia,fun q hq=>by have:=hz.2 q hq;lia⟩⟩
 unfold cA
 rw [gv (nG (m:=.fr) (n:=t.length+1) rfl (by lia))]
 exact e
noncomputable def iR:Nat->List Tx->Fd->Fd
 | _,[],d=>d
 | n,t :: l,d=>iR (n+1) l (gK n t (List.range (t.length+1)) d)
theorem pl4 (bk:T) (l:List Tx):∀ (n:Nat) (d:Fd) (N:Nat) (z2 z3 z4 z5:Vx),(∀ t∈l,t.length<=120)->Sz N d->N+14641 * l.length < 16000000 →
  ∃ z2' z3' z4' z5',forL (ja [bE 2,bE 3]) cA ((l.zipIdx n).map fun p=>T.tup [.int p.2,.str p.1]) [some (.pu bk),some (.ow (.dct 0 (dT d))),z2,z3,z4,z5] =
   some (.nx [some (.pu bk),some (.ow (.dct 0 (dT (iR n l d)))),z2',z3',z4',z5'])/\Sz (N+14641 * l.length) (iR n l d):=by
 induction l with
 | nil=>exact fun n d N z2 z3 z4 z5 _ h _=>⟨z2,z3,z4,z5,by simp [forL,iR],by simpa [iR] using h⟩
 | cons t l ih =>
  intro n d N z2 z3 z4 z5 ht h hN
  rw [Zi] at hN
  obtain ⟨y4,y5,e1,h1⟩:=pl3 bk n t (ht t Zw) d N z4 z5 h (by lia)
  obtain ⟨x2,x3,x4,x5,ee,hz⟩:=ih (n+1) (gK n t (List.range (t.length+1)) d) (N+14641) (some (.pu (.int n))) (some (.pu (.str t))) y4 y5 (fun s hs=>ht s (Zx _ hs)) h1 (by lia)
  refine ⟨x2,x3,x4,x5,?_,by rw [Zi,show N+14641 * (l.length+1)=N+14641+14641 * l.length by lia];exact hz⟩
  rw [Wo,Zu,bw (η1:=[some (.pu bk),some (.ow (.dct 0 (dT d))),some (.pu (.int n)),some (.pu (.str t)),z4,z5]) rfl e1,ee]
  rfl
theorem enum_zip (l:List Tx):∀ n:Nat,d5 n (l.map T.str)=(l.zipIdx n).map fun p=>T.tup [.int p.2,.str p.1]:=by
 induction l with
 | nil=>intro n;rfl
 | cons t l ih=>intro n;rw [Wo,Zu,Zu,d5,ih (n+1)]
noncomputable def found (bk:List Tx):Fd:=iR 0 bk [([],[])]
theorem vS (bk:List Tx) (B:Bk 120 bk) (hl:bk.length<=8):cY [.lst (bk.map T.str)]=some (.fr,.dct 0 (dT (found bk)))/\Sz 117129 (found bk):=by
 have hlen:∀ t∈bk,t.length<=120:=fun t ht=>by
  have h:t.length<=bk.flatten.length:=by
   obtain ⟨a,b,rfl⟩:=WO ht
   simp only [Z2,Zf,Zv]
   lia
  have:=B.n
  exact ZV h this
 obtain ⟨z2,z3,z4,z5,e,hz⟩:=pl4 (.lst (bk.map T.str)) bk 0 [([],[])] 1 none none none none hlen ⟨by simp,fun q hq=>by rw [Zg.mp hq];simp⟩ (by lia)
 refine ⟨?_,⟨by have:=hz.1;unfold found;lia,fun q hq=>by have:=hz.2 q hq;lia⟩⟩
 unfold cY
 refine iu rfl (η:=[some (.pu (.lst (bk.map T.str))),none,z2,z3,z4,z5]) ?_
 refine (show av _ _ [some (.pu (.lst (bk.map T.str))),none,none,none,none,none]=_ from ?_)
 rw [au (η1:=[some (.pu (.lst (bk.map T.str))),some (.ow (.dct 0 (dT [([],[])]))),none,none,none,none]) (by
  have:kg 0 [((eC (.str [])),(gr aA))] [some (.pu (.lst (bk.map T.str))),none,none,none,none,none]=some (.fr,.dct 0 (dT [([],[])])):=rfl
  simp [this])]
 have fo:eW (ja [bE 2,bE 3]) (ky (aj 0)) cA [some (.pu (.lst (bk.map T.str))),some (.ow (.dct 0 (dT [([],[])]))),none,none,none,none]=some (.nx [some (.pu (.lst (bk.map T.str))),some (.ow (.dct 0 (dT (iR 0 bk [([],[])])))),z2,z3,z4,z5]):=by
  rw [← enum_zip] at e
  simp [-forL,AX]
  exact e
 rw [au fo]
 simp [found]
noncomputable def aW (d:Fd):List Tx:=d.map (·.1)
theorem rL (d:Fd) (w:Tx) (p:Pl):aW (cV d w p)=if w∈aW d then aW d else aW d++[w]:=by
 induction d with
 | nil=>simp [aW,cV]
 | cons a d ih =>
  obtain ⟨x,l⟩:=a
  unfold cV
  by_cases e:x=w
  ·rw [Zq e];subst e;simp [aW]
  ·rw [Zn e]
   have:aW ((x,l) :: cV d w p)=x :: aW (cV d w p):=rfl
   rw [this,ih]
   have e':¬ w=x:=fun z=>e z.symm
   by_cases m:w∈aW d
   ·rw [Zq m,Zq (by simp only [aW,Zu,Zr];exact .inr m)];rfl
   ·rw [Zn m,Zn (by simp only [aW,Zu,Zr,not_or];exact ⟨e',m⟩)];rfl
theorem zD {d:Fd} {w x:Tx} {p:Pl}:x∈aW (cV d w p) ↔ x∈aW d\/x=w:=by
 rw [rL]
 by_cases m:w∈aW d
 ·rw [Zq m]
  constructor
  ·exact .inl
  ·rintro (h | rfl)
   ·exact h
   ·exact m
 ·rw [Zn m];simp
theorem BC {d:Fd} (w:Tx) (p:Pl) (h:(aW d).Nodup):(aW (cV d w p)).Nodup:=by
 rw [rL]
 by_cases m:w∈aW d
 ·rw [Zq m];exact h
 ·rw [Zn m]
  exact ZD.mpr ⟨h,by simp,fun a ha b hb e=>m (by rw [Zg] at hb;rw [← hb,← e];exact ha)⟩
theorem Cm {d:Fd} {r:List Tx} (w:Tx) (p:Pl) (h:aW d=[] :: r):∃ r',aW (cV d w p)=[] :: r':=by
 rw [rL]
 split
 ·exact ⟨r,h⟩
 ·exact ⟨r++[w],by rw [h];rfl⟩
theorem nH {P:Fd->Prop} (hP:∀ d w p,P d->P (cV d w p)):∀ (l:List Tx) (n:Nat) (d:Fd),P d->P (iR n l d):=by
 have h1:∀ (n:Nat) (t:Tx) (e:Nat) (ss:W9) (d:Fd),P d->P (adds n t e ss d):=by
  intro n t e ss
  induction ss with
  | nil=>exact fun d h=>h
  | cons s ss ih=>exact fun d h=>ih _ (hP _ _ _ h)
 have h2:∀ (n:Nat) (t:Tx) (es:W9) (d:Fd),P d->P (gK n t es d):=by
  intro n t es
  induction es with
  | nil=>exact fun d h=>h
  | cons e es ih=>exact fun d h=>ih _ (h1 n t e _ d h)
 intro l
 induction l with
 | nil=>exact fun n d h=>h
 | cons t l ih=>exact fun n d h=>ih (n+1) _ (h2 n t _ d h)
theorem qi (bk:List Tx):(aW (found bk)).Nodup:=nH (P:=fun d=>(aW d).Nodup) (fun d w p h=>BC w p h) bk 0 _ (by simp [aW])
theorem pj (bk:List Tx):∃ r,aW (found bk)=[] :: r:=nH (P:=fun d=>∃ r,aW d=[] :: r) (fun d w p ⟨r,h⟩=>Cm w p h) bk 0 _ ⟨[],rfl⟩
theorem vE (n:Nat) (t:Tx) (e:Nat) (x:Tx) (ss:W9):∀ d,x∈aW (adds n t e ss d) ↔ x∈aW d\/∃ s∈ss,x=(t.drop s).take (e - s):=by
 induction ss with
 | nil=>intro d;simp [adds]
 | cons s ss ih =>
  intro d
  have:=ih (cV d ((t.drop s).take (e - s)) (n,e))
  rw [show adds n t e (s :: ss) d=adds n t e ss (cV d ((t.drop s).take (e - s)) (n,e)) from rfl,this,zD]
  simp [or_assoc]
theorem xG (n:Nat) (t:Tx) (x:Tx) (es:W9):∀ d,x∈aW (gK n t es d) ↔ x∈aW d\/∃ e∈es,∃ s∈List.range (e+1),x=(t.drop s).take (e - s):=by
 induction es with
 | nil=>intro d;simp [gK]
 | cons e es ih =>
  intro d
  rw [show gK n t (e :: es) d=gK n t es (adds n t e (List.range (e+1)) d) from rfl,ih,vE,or_assoc]
  simp only [Zr,exists_eq_or_imp]
theorem lT (x:Tx) (l:List Tx):∀ n d,x∈aW (iR n l d) ↔ x∈aW d\/∃ t∈l,∃ e∈List.range (t.length+1),∃ s∈List.range (e+1),x=(t.drop s).take (e - s):=by
 induction l with
 | nil=>intro n d;simp [iR]
 | cons t l ih =>
  intro n d
  rw [show iR n (t :: l) d=iR (n+1) l (gK n t (List.range (t.length+1)) d) from rfl,ih,xG,or_assoc]
  simp only [Zr,exists_eq_or_imp]
theorem qL (bk:List Tx) (x:Tx) (h:x∈aW (found bk)):x.drop 1∈aW (found bk):=by
 unfold found at h ⊢
 rw [lT] at h ⊢
 rcases h with h | ⟨t,ht,e,he,s,hs,rfl⟩
 ·left
  simp [aW] at h ⊢
  rw [h];rfl
 ·have h1:=Yx.mp he
  have h2:=Yx.mp hs
  by_cases q:s=e
  ·left
   subst q
   simp [aW]
  ·right
   refine ⟨t,ht,e,he,s+1,Yx.mpr (by lia),?_⟩
   rw [X2,List.drop_drop]
   congr 1
theorem pP (bk:List Tx) (B:Bk 120 bk) (x:Tx) (h:x∈aW (found bk)):Az x/\x.length<=120:=by
 unfold found at h
 rw [lT] at h
 rcases h with h | ⟨t,ht,e,he,s,hs,rfl⟩
 ·simp [aW] at h
  subst h
  exact ⟨fun c hc=>by simp at hc,by simp⟩
 ·refine ⟨fun c hc=>B.az t ht c (YW (Yi hc)),?_⟩
  have h1:=Yx.mp he
  have hl:t.length<=bk.flatten.length:=by
   obtain ⟨a,b,rfl⟩:=WO ht
   simp only [Z2,Zf,Zv]
   lia
  have:=B.n
  rw [ZS]
  lia
end T16
end
section
namespace T16
open VS L2
noncomputable abbrev Gr:=List (List Pl×List Tx)
noncomputable def nkP (l:List Pl):bj:=l.map fun q=>[(q.1:Int),(q.2:Int)]
theorem sv:∀ {x y:List Pl},nkP x=nkP y->x=y
 | [],[],_=>rfl
 | [],_ :: _,h=>by simp [nkP] at h
 | _ :: _,[],h=>by simp [nkP] at h
 | (a,b) :: x,(c,d) :: y,h=>by
  simp only [nkP,Zu,YF,Int.natCast_inj,and_true] at h
  obtain ⟨⟨rfl,rfl⟩,h⟩:=h
  rw [sv h]
theorem El (l:List Pl):nkT (nkP l)=T.tup (l.map tP):=by simp [nkT,nkP,tP]
theorem yK (l:List Pl):ym (T.tup (l.map tP))=some (nkP l):=by
 show (l.map tP).mapM nk1=_
 induction l with
 | nil=>rfl
 | cons a l ih =>
  rw [Zu,List.mapM_cons,ih]
  rfl
noncomputable def gT (g:Gr):List (T×T):=g.map fun p=>(nkT (nkP p.1),T.lst (p.2.map T.str))
noncomputable def du:Gr->List Pl->Tx->Gr
 | [],k,w=>[(k,[w])]
 | (x,l) :: g,k,w=>if x=k then (x,l++[w]) :: g else (x,l) :: du g k w
theorem t7 {f:T->Option (T×Val)} {k:T} {a:T×T} {L:List (T×T)} (h:eqT a.1 k=false):qu f (a :: L) k=(qu f L k).map (a :: ·):=by
 unfold qu
 rw [Yh,Zn (by rw [h];simp)]
 cases e:L.findIdx? fun q=>eqT q.1 k with
 | none=>rfl
 | some i =>
  simp only [YO,Zk,Wm]
  cases e2:L[i]? with
  | none=>rfl
  | some q =>
   simp only [Zk]
   cases f q.2 with
   | none=>rfl
   | some z=>rfl
theorem qD {f:T->Option (T×Val)} {k:T} {a:T×T} {L:List (T×T)} (h:eqT a.1 k=true):qu f (a :: L) k=(f a.2).map fun z=>(a.1,z.1) :: L:=by
 unfold qu
 rw [Yh,Zq h]
 rfl
theorem nK {k:T} {a:T×T} {L:List (T×T)} (h:eqT a.1 k=false):bK (a :: L) k=a :: bK L k:=by
 have q:(a :: L).findIdx? (fun q=>eqT q.1 k)=(L.findIdx? fun q=>eqT q.1 k).map (·+1):=by
  rw [Yh,Zn (by rw [h];exact Zm)]
 unfold bK
 rw [q]
 cases e:L.findIdx? fun q=>eqT q.1 k with
 | none=>rfl
 | some i=>rfl
theorem qk {k:T} {a:T×T} {L:List (T×T)} (h:eqT a.1 k=true):bK (a :: L) k=a :: L:=by
 unfold bK
 rw [Yh,Zq h]
 rfl
theorem zQ (g:Gr) (k:List Pl) (w:Tx) (hl:∀ q∈g,q.2.length < 16777216):qu (fun x=>bg x [(.fr,.str w)]) (bK (gT g) (nkT (nkP k))) (nkT (nkP k))=some (gT (du g k w)):=by
 induction g with
 | nil =>
  have:bK (gT []) (nkT (nkP k))=[(nkT (nkP k),.lst [])]:=rfl
  rw [this,qD (by rw [lX];simp),fJ (by decide)]
  rfl
 | cons a g ih =>
  obtain ⟨x,l⟩:=a
  by_cases e:x=k
  ·subst e
   have h:eqT (nkT (nkP x)) (nkT (nkP x))=true:=by rw [lX];simp
   rw [show gT ((x,l) :: g)=(nkT (nkP x),T.lst (l.map T.str)) :: gT g from rfl,qk h,qD h,fJ (by rw [Zt];exact hl (x,l) Zw)]
   simp [du,gT]
  ·have h:eqT (nkT (nkP x)) (nkT (nkP k))=false:=by rw [lX];exact ZL fun z=>e (sv z)
   rw [show gT ((x,l) :: g)=(nkT (nkP x),T.lst (l.map T.str)) :: gT g from rfl,nK h,t7 h,ih fun q hq=>hl q (Zx _ hq)]
   simp [du,gT,e]
theorem qK {i:Nat} {ck:Ex} {cv:Ex} {η:Env} {g:Gr} {w:Tx} {k:List Pl} {m:Md} (h:η[i]?=some (some (.ow (.dct 2 (gT g))))) (hk:ck η=some (m,.tup (k.map tP))) (hv:∀ c,cv (η.set i c)=some (.fr,.str w)) (hl:∀ q∈g,q.2.length < 16777216) (hd:g.length < 16777216) :
  gD i ck (ah cv aA) η=some (.nx (η.set i (some (.ow (.dct 2 (gT (du g k w))))))):=by
 unfold gD
 simp only [h]
 rw [hk,Zk,Zq ⟨by rw [yK];rfl,by rw [gT,Zt];exact hd⟩]
 have e:ah cv aA (η.set i (some (.ow (.dct 2 (bK (gT g) (T.tup (k.map tP)))))))=some [(.fr,.str w)]:=xv (hv _) rfl
 rw [e,Zk,← El,zQ g k w hl]
 rfl
noncomputable def look:Fd->Tx->List Pl
 | [],_=>[]
 | (x,l) :: d,w=>if x=w then l else look d w
theorem xo (d:Fd) (w:Tx) (h:w∈aW d):dq (dT d) (.str w)=some (.lst ((look d w).map tP)):=by
 induction d with
 | nil=>simp [aW] at h
 | cons a d ih =>
  obtain ⟨x,l⟩:=a
  rw [show dT ((x,l) :: d)=(T.str x,T.lst (l.map tP)) :: dT d from rfl]
  unfold dq
  by_cases e:x=w
  ·rw [Z6,show eqT (T.str x) (T.str w)=true by simp [e]]
   simp [look,e]
  ·rw [Z6,show eqT (T.str x) (T.str w)=false by simpa using e]
   have hm:w∈aW d:=by
    rcases Zr.mp (show w∈x :: aW d from h) with h | h
    ·exact absurd h.symm e
    ·exact h
   rw [show look ((x,l) :: d) w=look d w by simp [look,e]]
   exact ih hm
theorem vX (d:Fd) (w:Tx) (N:Nat) (h:∀ q∈d,q.2.length<=N):(look d w).length<=N:=by
 induction d with
 | nil=>simp [look]
 | cons a d ih =>
  obtain ⟨x,l⟩:=a
  unfold look
  split
  ·exact h _ Zw
  ·exact ih fun q hq=>h q (Zx _ hq)
noncomputable def grp (d:Fd) (ws:List Tx) (g:Gr):Gr:=ws.foldl (fun g w=>du g (look d w) w) g
theorem yI (g:Gr) (k:List Pl) (w:Tx) (N:Nat) (h:g.length<=N/\∀ q∈g,q.2.length<=N):(du g k w).length<=N+1/\∀ q∈du g k w,q.2.length<=N+1:=by
 induction g generalizing N with
 | nil=>simp [du]
 | cons a g ih =>
  obtain ⟨x,l⟩:=a
  have h1:=h.2 (x,l) Zw
  have h0:=h.1
  unfold du
  split
  ·refine ⟨by simp only [Zi] at h0 ⊢;exact Y8 h0,fun q hq=>?_⟩
   rcases Zr.mp hq with rfl | hq
   ·simp only [Zv,ZX];simp only at h1;exact Y4 h1
   ·have:=h.2 q (Zx _ hq);exact Y8 this
  ·have hN:∀ (g:Gr),(du g k w).length<=g.length+1:=by
    intro g
    induction g with
    | nil=>simp [du]
    | cons a g ih=>obtain ⟨x,l⟩:=a;unfold du;split <;> simp only [Zi] <;> lia
   refine ⟨by have:=hN g;simp only [Zi] at h0 ⊢;lia,fun q hq=>?_⟩
   rcases Zr.mp hq with rfl | hq
   ·simp only at h1 ⊢;exact Y8 h1
   ·exact (ih N ⟨by simp only [Zi] at h0;exact XU h0,fun q hq=>h.2 q (Zx _ hq)⟩).2 q hq
theorem st1 (d:Fd) (hd:∀ q∈d,q.2.length<=117129) (ws:List Tx):∀ (g:Gr) (N:Nat) (z:Vx),(∀ w∈ws,w∈aW d)->(g.length<=N/\∀ q∈g,q.2.length<=N)->N+ws.length < 16777216 →
  ∃ z',forL (bE 2) dD (ws.map T.str) [some (.pu (.dct 0 (dT d))),some (.ow (.dct 2 (gT g))),z]=some (.nx [some (.pu (.dct 0 (dT d))),some (.ow (.dct 2 (gT (grp d ws g)))),z']):=by
 induction ws with
 | nil=>exact fun g N z _ _ _=>⟨z,rfl⟩
 | cons w ws ih =>
  intro g N z hw hN hl
  rw [Zi] at hl
  obtain ⟨z',e⟩:=ih (du g (look d w) w) (N+1) (some (.pu (.str w))) (fun x hx=>hw x (Zx _ hx)) (yI g _ w N hN) (by lia)
  refine ⟨z',?_⟩
  have lk:=xo d w (hw w Zw)
  have ll:=vX d w 117129 hd
  have bo:dD [some (.pu (.dct 0 (dT d))),some (.ow (.dct 2 (gT g))),some (.pu (.str w))]=some (.nx [some (.pu (.dct 0 (dT d))),some (.ow (.dct 2 (gT (du g (look d w) w)))),some (.pu (.str w))]):=by
   unfold dD
   have im:fN ((look d w).map tP)=true:=jr tP (fun _=>rfl) _
   have h2:fW [(.pu,.lst ((look d w).map tP))]=some (.fr,.tup ((look d w).map tP)):=by
    show (if _ then _ else _)=_
    rw [Zq (by rw [Zt];exact ZV ll (by decide)),up,imm,im]
    rfl
   exact qK (g:=g) (w:=w) (k:=look d w) (m:=.fr) rfl (jU (xv (e2v (x:=(.pu,.dct 0 (dT d))) (y:=(.fr,.str w)) rfl rfl (by
    show (dq (dT d) (.str w)).map _=_
    rw [lk]
    rfl)) rfl) h2) (fun c=>rfl) (fun q hq=>by have:=hN.2 q hq;lia) (by have:=hN.1;lia)
  rw [Zu,bw rfl bo,e]
  rfl
noncomputable def stT (st:Vy):T:=.lst (st.map fun s=>T.lst (s.map T.str))
noncomputable def bM (d:Fd):Vy:=(grp d (cD (aW d)) []).map (·.2)
theorem vG (d:Fd) (hz:Sz 117129 d) (haz:∀ x∈aW d,Az x/\x.length<=120):cZ [.dct 0 (dT d)]=some (.fr,stT (bM d)):=by
 have pm:=dF (aW d)
 obtain ⟨z',e⟩:=st1 d hz.2 (cD (aW d)) [] 0 none (fun w hw=>pm.mem_iff.mp hw) ⟨by simp,fun q hq=>by simp at hq⟩ (by rw [pm.length_eq,aW,Zt];have:=hz.1;lia)
 have so:iW [(.pu,.dct 0 (dT d))]=some (.fr,.lst ((cD (aW d)).map T.str)):=by
  show ((strs? ((dT d).map (·.1))).bind _)=_
  rw [show (dT d).map (·.1)=d.map fun p=>T.str p.1 by simp [dT],strs_map (fun p:Tx×List Pl=>p.1) d,Zk,show d.map (fun p=>p.1)=aW d from rfl,Zq (show ((aW d).all txB)=true from Yb.mpr fun x hx=>by
   obtain ⟨h1,h2⟩:=haz x hx
   simp only [txB,Z3,decide_eq_true_eq,Yb]
   exact ⟨ZV h2 (by decide),fun c hc=>by have:=h1 c hc;lia⟩)]
 unfold cZ
 refine iu rfl (η:=[some (.pu (.dct 0 (dT d))),none,z']) ?_
 refine (show av _ _ [some (.pu (.dct 0 (dT d))),none,none]=_ from ?_)
 rw [au (η1:=[some (.pu (.dct 0 (dT d))),some (.ow (.dct 2 (gT []))),none]) rfl,
  au ((gv (l:=(cD (aW d)).map T.str) (by
   show (eN iW (ah (aj 0) aA) _).bind _=_
   rw [jU (xv (x:=(.pu,.dct 0 (dT d))) rfl rfl) so]
   rfl)).trans e)]
 show some _=_
 rw [gT,YK,stT,bM,YK]
 rfl
structure Stn (st:Vy) (ks:List Tx):Prop where
 ne:∀ s∈st,s ≠ []
 pm:st.flatten.Perm ks
 hd:∃ a b,st=([] :: a) :: b
theorem zb (g:Gr) (k:List Pl) (w:Tx) (h:∀ q∈g,q.2 ≠ []):∀ q∈du g k w,q.2 ≠ []:=by
 induction g with
 | nil=>intro q hq;simp [du] at hq;rw [hq];simp
 | cons a g ih =>
  obtain ⟨x,l⟩:=a
  have ih:=ih fun q hq=>h q (Zx _ hq)
  unfold du
  split
  ·intro q hq
   rcases Zr.mp hq with rfl | hq
   ·simp
   ·exact h q (Zx _ hq)
  ·intro q hq
   rcases Zr.mp hq with rfl | hq
   ·exact h _ Zw
   ·exact ih q hq
theorem Aq (g:Gr) (k:List Pl) (w:Tx):((du g k w).map (·.2)).flatten.Perm (w :: (g.map (·.2)).flatten):=by
 induction g with
 | nil=>simp [du]
 | cons a g ih =>
  obtain ⟨x,l⟩:=a
  unfold du
  split
  ·rw [Zu,Zf,Zu,Zf]
   show (l++[w]++_).Perm (w :: (l++_))
   rw [Zc]
   exact W5
  ·rw [Zu,Zf,Zu,Zf]
   exact (List.Perm.append_left l ih).trans W5
theorem yo (g:Gr) (k:List Pl) (w:Tx) (k0:List Pl) (a:List Tx) (b:Gr) (h:g=(k0,[] :: a) :: b):∃ a' b',du g k w=(k0,[] :: a') :: b':=by
 subst h
 unfold du
 split
 ·exact ⟨a++[w],b,rfl⟩
 ·exact ⟨a,_,rfl⟩
theorem Ck (d:Fd) (ws:List Tx):∀ g:Gr,(∀ q∈g,q.2 ≠ [])->∀ q∈grp d ws g,q.2 ≠ []:=by
 induction ws with
 | nil=>exact fun g h=>h
 | cons w ws ih=>exact fun g h=>ih _ (zb g _ w h)
theorem Cw (d:Fd) (ws:List Tx):∀ g:Gr,((grp d ws g).map (·.2)).flatten.Perm (ws++(g.map (·.2)).flatten):=by
 induction ws with
 | nil=>exact fun g=>by simp [grp]
 | cons w ws ih =>
  intro g
  refine (ih (du g (look d w) w)).trans ?_
  refine ((Aq g (look d w) w).append_left ws).trans ?_
  exact W5
theorem Ct (d:Fd) (ws:List Tx):∀ (g:Gr) (k0:List Pl) (a:List Tx) (b:Gr),g=(k0,[] :: a) :: b->∃ a' b',grp d ws g=(k0,[] :: a') :: b':=by
 induction ws with
 | nil=>exact fun g k0 a b h=>⟨a,b,h⟩
 | cons w ws ih =>
  intro g k0 a b h
  obtain ⟨a',b',h'⟩:=yo g (look d w) w k0 a b h
  exact ih _ k0 a' b' h'
theorem u7 (l:List Tx) (h:[]∈l):∃ r,cD l=[] :: r:=by
 have pm:=dF l
 have pw:=jE l
 have m:[]∈cD l:=pm.mem_iff.mpr h
 cases e:cD l with
 | nil=>rw [e] at m;simp at m
 | cons x r =>
  rw [e] at m pw
  rcases Zr.mp m with m1 | m2
  ·exact ⟨r,by rw [m1]⟩
  ·cases x with
   | nil=>exact ⟨r,rfl⟩
   | cons c x=>exact absurd (.inl (by simp)) ((XY.mp pw).1 [] m2)
theorem vC (d:Fd) (h:[]∈aW d):Stn (bM d) (aW d):=by
 refine ⟨fun s hs=>?_,?_,?_⟩
 ·obtain ⟨q,hq,rfl⟩:=Yv.mp hs
  exact Ck d _ [] (fun q hq=>by simp at hq) q hq
 ·have:=Cw d (cD (aW d)) []
  simp only [YR,List.flatten_nil,Z7] at this
  exact this.trans (dF _)
 ·obtain ⟨r,e⟩:=u7 _ h
  obtain ⟨a,b,h'⟩:=Ct d r (du [] (look d []) []) (look d []) [] [] rfl
  refine ⟨a,b.map (·.2),?_⟩
  unfold bM
  rw [e,show grp d ([] :: r) []=grp d r (du [] (look d []) []) from rfl,h']
  rfl
noncomputable def num:Vy->Tx->Nat
 | [],_=>0
 | s :: st,w=>if w∈s then 0 else num st w+1
theorem jT (st:Vy) (w:Tx) (h:w∈st.flatten):num st w < st.length:=by
 induction st with
 | nil=>simp at h
 | cons s st ih =>
  unfold num
  split
  ·simp
  ·rename_i hn
   have:w∈st.flatten:=by
    rw [Zf] at h
    exact (Zh.mp h).resolve_left hn
   have:=ih this
   simp only [Zi];exact Nat.succ_lt_succ this
noncomputable def nT (m:List (Tx×Nat)):List (T×T):=m.map fun p=>(T.str p.1,T.int (p.2:Int))
noncomputable def nums:Nat->Vy->List (Tx×Nat)
 | _,[]=>[]
 | k,s :: st=>s.map (fun w=>(w,k))++nums (k+1) st
theorem we (a b:List (T×T)) (k:T):dq (a++b) k=(dq a k).or (dq b k):=by
 unfold dq
 rw [List.find?_append]
 cases a.find? fun p=>eqT p.1 k <;> rfl
theorem vx (s:List Tx) (k:Nat) (w:Tx):dq (nT (s.map fun w=>(w,k))) (.str w)=if w∈s then some (.int (k:Int)) else none:=by
 induction s with
 | nil=>rfl
 | cons x s ih =>
  rw [Zu,show nT ((x,k) :: s.map fun w=>(w,k))=(T.str x,T.int (k:Int)) :: nT (s.map fun w=>(w,k)) from rfl]
  by_cases e:x=w
  ·rw [dq,Z6,show eqT (T.str x) (T.str w)=true by simp [e],Zq (by rw [e];simp)]
   rfl
  ·rw [dq,Z6,show eqT (T.str x) (T.str w)=false by simpa using e]
   have e':¬ w=x:=fun z=>e z.symm
   refine (show dq (nT (s.map fun w=>(w,k))) (.str w)=_ from ?_)
   rw [ih]
   by_cases q:w∈s
   ·rw [Zq q,Zq (Zx _ q)]
   ·rw [Zn q,Zn fun z=>(Zr.mp z).elim e' q]
theorem nC (st:Vy) (w:Tx):∀ k,dq (nT (nums k st)) (.str w)=if w∈st.flatten then some (.int ((k+num st w:Nat):Int)) else none:=by
 induction st with
 | nil=>exact fun k=>rfl
 | cons s st ih =>
  intro k
  rw [nums,nT,Ym,we]
  rw [show dq ((s.map fun w=>(w,k)).map fun p=>(T.str p.1,T.int (p.2:Int))) (.str w)=_ from vx s k w]
  rw [show dq ((nums (k+1) st).map fun p=>(T.str p.1,T.int (p.2:Int))) (.str w)=_ from ih (k+1),Zf]
  by_cases h:w∈s
  ·rw [Zq h,Zq (Zh.mpr (.inl h)),show num (s :: st) w=0 by simp [num,h]]
   rfl
  ·rw [Zn h]
   by_cases h2:w∈st.flatten
   ·rw [Zq h2,Zq (Zh.mpr (.inr h2)),show num (s :: st) w=num st w+1 by simp [num,h],show k+(num st w+1)=k+1+num st w by lia]
    rfl
   ·rw [Zn h2,Zn fun z=>(Zh.mp z).elim h h2]
    rfl
theorem zt (m:List (Tx×Nat)) (w:Tx) (k:Nat) (h:w ∉ m.map (·.1)):dput (nT m) (.str w) (.int (k:Int))=nT (m++[(w,k)]):=by
 unfold dput
 rw [Zn (by
  simp only [List.any_eq_true,not_exists,not_and]
  intro p hp
  obtain ⟨q,hq,rfl⟩:=Yv.mp hp
  simp only [eqT,beq_iff_eq]
  intro e
  exact h (Yv.mpr ⟨q,hq,e⟩))]
 simp [nT]
theorem r9 {i:Nat} {k e:Ex} {η:Env} {l:List (T×T)} {kv v:T} {m n:Md} (h:η[i]?=some (some (.ow (.dct 0 l)))) (he:e η=some (m,v)) (hk:k η=some (n,kv)) (h1:ki kv=true) (h2:imm v=true) (h3:l.length < 16777216):lC i k e η=some (.nx (η.set i (some (.ow (.dct 0 (dput l kv v)))))):=by
 unfold lC
 rw [he,Zk,h,hk]
 exact Zq ⟨h1,h2,h3⟩
theorem nm1 (st:T) (some_:T) (k:Nat) (s:List Tx):∀ (m:List (Tx×Nat)) (z:Vx),(m.map (·.1)++s).Nodup->m.length+s.length < 16777216 →
  ∃ z',forL (bE 4) dh (s.map T.str) [some (.pu st),some (.ow (.dct 0 (nT m))),some (.pu (.int k)),some (.pu some_),z]=some (.nx [some (.pu st),some (.ow (.dct 0 (nT (m++s.map fun w=>(w,k))))),some (.pu (.int k)),some (.pu some_),z']):=by
 induction s with
 | nil=>exact fun m z _ _=>⟨z,by simp [forL]⟩
 | cons w s ih =>
  intro m z hn hl
  rw [Zi] at hl
  obtain ⟨z',e⟩:=ih (m++[(w,k)]) (some (.pu (.str w))) (by simpa using hn) (by rw [Zv,ZX];lia)
  refine ⟨z',?_⟩
  have nw:w ∉ m.map (·.1):=fun hm=>by
   have:=(ZD.mp hn).2.2 w hm w Zw
   exact this rfl
  have bo:dh [some (.pu st),some (.ow (.dct 0 (nT m))),some (.pu (.int k)),some (.pu some_),some (.pu (.str w))]=some (.nx [some (.pu st),some (.ow (.dct 0 (nT (m++[(w,k)])))),some (.pu (.int k)),some (.pu some_),some (.pu (.str w))]):=by
   unfold dh
   rw [r9 (l:=nT m) (kv:=.str w) (v:=.int (k:Int)) (m:=.fr) (n:=.fr) rfl rfl rfl rfl rfl (by rw [nT,Zt];lia),zt m w k nw]
   rfl
  rw [Zu,bw rfl bo,e]
  simp
theorem nm2 (st:T) (l:Vy):∀ (n:Nat) (m:List (Tx×Nat)) (z2 z3 z4:Vx),(m.map (·.1)++l.flatten).Nodup->m.length+l.flatten.length < 16777216 →
  ∃ z2' z3' z4',forL (ja [bE 2,bE 3]) eB (d5 n (l.map fun s=>T.lst (s.map T.str))) [some (.pu st),some (.ow (.dct 0 (nT m))),z2,z3,z4]=some (.nx [some (.pu st),some (.ow (.dct 0 (nT (m++nums n l)))),z2',z3',z4']):=by
 induction l with
 | nil=>exact fun n m z2 z3 z4 _ _=>⟨z2,z3,z4,by simp [forL,d5,nums]⟩
 | cons s l ih =>
  intro n m z2 z3 z4 hn hl
  rw [Zf,Zv] at hl
  rw [Zf,← Zc] at hn
  obtain ⟨y4,e1⟩:=nm1 st (.lst (s.map T.str)) n s m z4 (ZD.mp hn).1 (by lia)
  obtain ⟨x2,x3,x4,e⟩:=ih (n+1) (m++s.map fun w=>(w,n)) (some (.pu (.int n))) (some (.pu (.lst (s.map T.str)))) y4 (by rw [Ym,YK,show ((fun x:Tx×Nat=>x.1) ∘ fun w:Tx=>(w,n))=id from rfl,List.map_id];exact hn) (by rw [Zv,Zt];lia)
  refine ⟨x2,x3,x4,?_⟩
  rw [Zu,d5,bw (η1:=[some (.pu st),some (.ow (.dct 0 (nT m))),some (.pu (.int n)),some (.pu (.lst (s.map T.str))),z4]) rfl (by
   unfold eB
   rw [ji (m:=.pu) (l:=s.map T.str) rfl rfl,e1]),e,Zc]
  rfl
theorem ui (st:Vy) (hn:st.flatten.Nodup) (hl:st.flatten.length < 16777216):cF [stT st]=some (.fr,.dct 0 (nT (nums 0 st))):=by
 obtain ⟨z2,z3,z4,e⟩:=nm2 (stT st) st 0 [] none none none (by simpa using hn) (by simpa using hl)
 unfold cF
 refine iu rfl (η:=[some (.pu (stT st)),none,z2,z3,z4]) ?_
 refine (show av _ _ [some (.pu (stT st)),none,none,none,none]=_ from ?_)
 rw [au (η1:=[some (.pu (stT st)),some (.ow (.dct 0 (nT []))),none,none,none]) (by
  have:kg 0 [] [some (.pu (stT st)),none,none,none,none]=some (.fr,.dct 0 (nT [])):=rfl
  simp [this])]
 rw [au (η1:=[some (.pu (stT st)),some (.ow (.dct 0 (nT (nums 0 st)))),z2,z3,z4]) (by
  rw [ji (m:=.pu) (l:=d5 0 (st.map fun s=>T.lst (s.map T.str))) rfl rfl]
  exact e)]
 simp
noncomputable def hdW (s:List Tx):Tx:=s.headD []
noncomputable def laW (s:List Tx):Tx:=s.getLast?.getD []
theorem sW {m n:Md} {s:List Tx} (h:s ≠ []):aV (m,.lst (s.map T.str)) (n,.int 0)=some (.fr,.str (hdW s)):=by
 cases s with
 | nil=>exact absurd rfl h
 | cons a s =>
  have:ixP ((T.str a :: s.map T.str).length) 0=some 0:=kS (k:=0) (by simp)
  show (ixP ((T.str a :: s.map T.str).length) 0).bind _=_
  rw [this]
  rfl
theorem AS {m n:Md} {s:List Tx} (h:s ≠ []):aV (m,.lst (s.map T.str)) (n,.int (-1))=some (.fr,.str (laW s)):=by
 have hl:0 < s.length:=WW.mpr h
 have:ixP ((s.map T.str).length) (-1)=some (s.length - 1):=by
  unfold ixP
  rw [Zn (by lia),Zt,Zq (by lia)]
  congr 1
  lia
 show (ixP ((s.map T.str).length) (-1)).bind _=_
 rw [this,Zk,Z1,Za (show s.length - 1 < s.length by omega)]
 unfold laW
 rw [List.getLast?_eq_getElem?,Za (show s.length - 1 < s.length by omega)]
 rfl
noncomputable def wT (p:Nat×Nat):T:=.tup [.str [p.1],.int (p.2:Int)]
noncomputable def jG (st:Vy) (h:Tx) (c:Nat):List (Nat×Nat):=if h++[c]∈st.flatten then [(c,num st (h++[c]))] else []
noncomputable def eu (st:Vy) (h:Tx) (cs:W9):List (Nat×Nat):=cs.flatMap (jG st h)
theorem pW (st:Vy) (h:Tx) (cs:W9):(eu st h cs).length<=cs.length:=by
 induction cs with
 | nil=>simp [eu]
 | cons c cs ih =>
  have:eu st h (c :: cs)=jG st h c++eu st h cs:=rfl
  rw [this,Zv,Zi]
  have:(jG st h c).length<=1:=by unfold jG;split <;> simp
  lia
noncomputable abbrev ET (st:Vy) (S tb:T) (s:List Tx) (z4 z5 z6:Vx):Env:=[some (.pu S),some (.pu (.dct 0 (nT (nums 0 st)))),some (.ow tb),some (.pu (.lst (s.map T.str))),z4,z5,z6]
theorem Em {m n:Md} {l:List (T×T)} {k:Tx} {r:Option T} (h:dq l (.str k)=r):lV (m,.str k) (n,.dct 0 l)=some (.fr,.bl r.isSome):=by
 subst h
 rfl
theorem AR {m n:Md} {l:List (T×T)} {k:Tx} {i:Int} (h:dq l (.str k)=some (.int i)):oIx (m,.dct 0 l) (n,.str k)=some (.fr,.int i):=by
 show (dq l (.str k)).map _=_
 rw [h]
 rfl
theorem xQ {as:Exs} {η:Env} {l:Vw} {t:T} (h:as η=some l) (hl:l.length<=16777216) (ht:T.tup (trees l)=t) (hi:imm t=true):kI as η=some (.fr,t):=by
 subst ht
 show (as η).bind pS=_
 rw [h,Zk,lW hl,up,hi]
 rfl
theorem tb1 (st:Vy) (S:T) (tb:T) (s:List Tx) (hs:s ≠ []) (hl:(hdW s).length<=120) (l6:Vx) (cs:W9):∀ (ws:List (Nat×Nat)) (z:Vx),ws.length+cs.length < 1000 →
  ∃ z',forL (bE 5) il (cs.map fun c=>T.str [c]) (ET st S tb s (some (.ow (.lst (ws.map wT)))) z l6)=some (.nx (ET st S tb s (some (.ow (.lst ((ws++eu st (hdW s) cs).map wT)))) z' l6)):=by
 induction cs with
 | nil=>exact fun ws z _=>⟨z,by rw [show eu st (hdW s) []=[] from rfl,Z7];rfl⟩
 | cons c cs ih =>
  intro ws z hw
  rw [Zi] at hw
  have hq:=nC st (hdW s++[c]) 0
  rw [Y7] at hq
  have ad:e2 bR (e2 aV (aj 3) (eC (.int 0))) (aj 5) (ET st S tb s (some (.ow (.lst (ws.map wT)))) (some (.pu (.str [c]))) l6)=some (.fr,.str (hdW s++[c])):=e2v (y:=(.fr,.str [c])) (e2v rfl rfl (sW hs)) rfl (jA (show (hdW s).length+1<=16777216 by lia))
  have cd:=e2v (f:=lV) (b:=aj 1) ad rfl (Em hq)
  rw [show eu st (hdW s) (c :: cs)=jG st (hdW s) c++eu st (hdW s) cs from rfl,← Zc,Zu]
  by_cases p:hdW s++[c]∈st.flatten
  ·rw [Zq p] at hq cd
   rw [jG,Zq p]
   obtain ⟨z',e⟩:=ih (ws++[(c,num st (hdW s++[c]))]) (some (.pu (.str [c]))) (by rw [Zv,ZX];lia)
   refine ⟨z',?_⟩
   rw [← e]
   refine bw rfl ((oV cd).trans ((j4 (l:=ws.map wT) (t:=wT (c,num st (hdW s++[c]))) rfl (xQ (l:=[(.fr,.str [c]),(.fr,.int (num st (hdW s++[c])))]) (xv rfl (xv (e2v rfl ad (AR hq)) rfl)) (show 2<=16777216 by decide) rfl rfl) (by rw [Zt];lia)).trans ?_))
   rw [Ym]
   rfl
  ·rw [Zn p] at cd
   rw [jG,Zn p,Z7]
   obtain ⟨z',e⟩:=ih ws (some (.pu (.str [c]))) (by lia)
   exact ⟨z',(bw rfl (qZ cd)).trans e⟩
noncomputable def gg:W9:=[97,98,99,100,101,102,103,104,105,106,107,108,109,110,111,112,113,114,115,116,117,118,119,120,121,122]
noncomputable def lkT (st:Vy) (s:List Tx):T:=if hdW s=[] then .non else .int (num st ((hdW s).drop 1):Nat)
noncomputable def bD (st:Vy) (s:List Tx):T:=.tup [.int (hdW s).length,.int (laW s).length,lkT st s,.tup ((eu st (hdW s) gg).map wT)]
theorem oB (l:List (Nat×Nat)):fN (l.map wT)=true:=jr wT (fun x=>by simp [wT]) l
theorem sV (st:Vy) (s:List Tx):imm (lkT st s)=true:=by unfold lkT;split <;> rfl
theorem jB (st:Vy) (s:List Tx):imm (bD st s)=true:=by simp [bD,sV,oB]
theorem FH (t:Tx):cut t (some 1) none=t.drop 1:=by
 unfold cut clip
 simp only [show ¬ ((1:Int) < 0) by lia,if_false]
 by_cases h:1<=t.length
 ·rw [Yf (by simpa using h),show (1:Int).toNat=1 from rfl,Z5 (by simp)]
 ·have:t=[]:=Wn.mp (by lia)
  subst this
  rfl
theorem ne_nil {m n:Md} (t:Tx):oNe (m,.str t) (n,.str [])=some (.fr,.bl (!decide (t=[]))):=by
 cases t with
 | nil=>rfl
 | cons a t=>rfl
theorem uZ (st:Vy) (S:T) (s:List Tx) (hs:s ≠ []) (hl:(hdW s).length<=120) (ht:hdW s ≠ []->(hdW s).drop 1∈st.flatten) (tb:Vu) (hb:tb.length < 16777216) (z4 z5 z6:Vx) :
  ∃ z4' z5' z6',dZ (ET st S (.lst tb) s z4 z5 z6)=some (.nx (ET st S (.lst (tb++[bD st s])) s z4' z5' z6')):=by
 obtain ⟨z',e⟩:=tb1 st S (.lst tb) s hs hl z6 gg [] z5 (by decide)
 rw [YG] at e
 refine ⟨some (.pu (.lst ((eu st (hdW s) gg).map wT))),z',some (.pu (lkT st s)),?_⟩
 unfold dZ
 rw [au (η1:=ET st S (.lst tb) s (some (.ow (.lst (([]:List (Nat×Nat)).map wT)))) z5 z6) rfl,
  au ((gv (l:=gg.map fun c=>T.str [c]) rfl).trans e),
  au (η1:=ET st S (.lst tb) s (some (.pu (.lst ((eu st (hdW s) gg).map wT)))) z' z6) rfl,
  au (η1:=ET st S (.lst tb) s (some (.pu (.lst ((eu st (hdW s) gg).map wT)))) z' (some (.pu .non))) rfl,
  au (η1:=ET st S (.lst tb) s (some (.pu (.lst ((eu st (hdW s) gg).map wT)))) z' (some (.pu (lkT st s)))) (by
  have cd:=e2v (f:=oNe) (η:=ET st S (.lst tb) s (some (.pu (.lst ((eu st (hdW s) gg).map wT)))) z' (some (.pu .non))) (b:=eC (.str [])) (e2v (a:=aj 3) (b:=eC (.int 0)) rfl rfl (sW hs)) rfl (ne_nil _)
  unfold lkT
  by_cases p:hdW s=[]
  ·rw [decide_eq_true p] at cd
   rw [Zq p]
   exact qZ cd
  ·have hq:=nC st ((hdW s).drop 1) 0
   rw [Y7,Zq (ht p)] at hq
   rw [ZL p] at cd
   rw [Zn p]
   refine (oV cd).trans (aI (m:=.fr) (e2v (y:=(.fr,.str ((hdW s).drop 1))) rfl ?_ (AR hq)) (by decide) (by decide:6 < 7))
   show (e2 aV (aj 3) (eC (.int 0)) _).bind _=_
   rw [e2v (a:=aj 3) (b:=eC (.int 0)) rfl rfl (sW hs),Zk]
   exact congrArg (fun t=>some (Md.fr,T.str t)) (FH _))]
 have wi:=oB (eu st (hdW s) gg)
 have wl:(eu st (hdW s) gg).length<=16777216:=ZV (pW _ _ _) (by decide)
 have tl:∀ m,fW [(m,.lst ((eu st (hdW s) gg).map wT))]=some (.fr,.tup ((eu st (hdW s) gg).map wT)):=fun m=>by
  show (if _ then _ else _)=_
  rw [Zq (by rw [Zt];exact wl),up,imm,wi]
  rfl
 exact j4 (l:=tb) (t:=bD st s) rfl (xQ (xv (jU (xv (e2v rfl rfl (sW hs)) rfl) rfl) (xv (jU (xv (e2v rfl rfl (AS hs)) rfl) rfl) (xv (x:=(_,lkT st s)) rfl (xv (jU (xv rfl rfl) (tl _)) (xs:=[]) rfl)))) (show 4<=16777216 by decide) rfl (jB st s)) hb
theorem tb2 (st:Vy) (S:T) (l:Vy):∀ (tb:Vu) (z3 z4 z5 z6:Vx),(∀ s∈l,s ≠ []/\(hdW s).length<=120/\(hdW s ≠ []->(hdW s).drop 1∈st.flatten))->tb.length+l.length < 16777216 →
  ∃ z3' z4' z5' z6',forL (bE 3) dZ (l.map fun s=>T.lst (s.map T.str)) [some (.pu S),some (.pu (.dct 0 (nT (nums 0 st)))),some (.ow (.lst tb)),z3,z4,z5,z6] =
   some (.nx [some (.pu S),some (.pu (.dct 0 (nT (nums 0 st)))),some (.ow (.lst (tb++l.map (bD st)))),z3',z4',z5',z6']):=by
 induction l with
 | nil=>exact fun tb z3 z4 z5 z6 _ _=>⟨z3,z4,z5,z6,by rw [YR,YR,Z7];rfl⟩
 | cons s l ih =>
  intro tb z3 z4 z5 z6 h hl
  rw [Zi] at hl
  obtain ⟨h1,h2,h3⟩:=h s Zw
  obtain ⟨y4,y5,y6,eb⟩:=uZ st S s h1 h2 h3 tb (by lia) z4 z5 z6
  obtain ⟨x3,x4,x5,x6,e⟩:=ih (tb++[bD st s]) (some (.pu (.lst (s.map T.str)))) y4 y5 y6 (fun x hx=>h x (Zx _ hx)) (by rw [Zv,ZX];lia)
  refine ⟨x3,x4,x5,x6,?_⟩
  rw [Zu,bw rfl eb,e,Zc]
  rfl
noncomputable def bG (st:Vy):T:=.lst (st.map (bD st))
theorem yP (st:Vy) (h:∀ s∈st,s ≠ []/\(hdW s).length<=120/\(hdW s ≠ []->(hdW s).drop 1∈st.flatten)) (hl:st.length < 16777216):dN [stT st,.dct 0 (nT (nums 0 st))]=some (.fr,bG st):=by
 obtain ⟨z3,z4,z5,z6,e⟩:=tb2 st (stT st) st [] none none none none h (by simpa using hl)
 rw [YG] at e
 unfold dN
 refine iu rfl (η:=[some (.pu (stT st)),some (.pu (.dct 0 (nT (nums 0 st)))),none,z3,z4,z5,z6]) ?_
 refine (show av _ _ [some (.pu (stT st)),some (.pu (.dct 0 (nT (nums 0 st)))),none,none,none,none,none]=_ from ?_)
 rw [au (η1:=[some (.pu (stT st)),some (.pu (.dct 0 (nT (nums 0 st)))),some (.ow (.lst [])),none,none,none,none]) rfl]
 rw [au (η1:=[some (.pu (stT st)),some (.pu (.dct 0 (nT (nums 0 st)))),some (.ow (.lst (st.map (bD st)))),z3,z4,z5,z6]) (by
  rw [ji (m:=.pu) (l:=st.map fun s=>T.lst (s.map T.str)) rfl rfl]
  exact e)]
 simp [bG]
structure GI (f:Tx->List Pl) (g:Gr) (pre:List Tx):Prop where
 nd:(g.map (·.1)).Nodup
 eq:∀ q∈g,q.2=pre.filter fun w=>decide (f w=q.1)
 al:∀ w∈pre,f w∈g.map (·.1)
theorem m9 (g:Gr) (k:List Pl) (w:Tx):(du g k w).map (·.1)=if k∈g.map (·.1) then g.map (·.1) else g.map (·.1)++[k]:=by
 induction g with
 | nil=>simp [du]
 | cons a g ih =>
  obtain ⟨x,l⟩:=a
  unfold du
  by_cases e:x=k
  ·rw [Zq e];subst e;simp
  ·rw [Zn e,Zu,ih]
   have e':¬ k=x:=fun z=>e z.symm
   by_cases m:k∈g.map (·.1)
   ·rw [Zq m,Zq (by rw [Zu];exact Zx _ m)];rfl
   ·rw [Zn m,Zn (by rw [Zu,Zr,not_or];exact ⟨e',m⟩)];rfl
theorem xX (g:Gr) (k:List Pl) (w:Tx) (nd:(g.map (·.1)).Nodup) (q:List Pl×List Tx) (h:q∈du g k w):(q.1 ≠ k/\q∈g)\/(q.1=k/\((∃ l,(k,l)∈g/\q.2=l++[w])\/(k ∉ g.map (·.1)/\q.2=[w]))):=by
 induction g with
 | nil =>
  simp only [du,Zg] at h
  subst h
  exact .inr ⟨rfl,.inr ⟨by simp,rfl⟩⟩
 | cons a g ih =>
  obtain ⟨x,l⟩:=a
  rw [Zu,ZJ] at nd
  unfold du at h
  by_cases e:x=k
  ·rw [Zq e] at h
   rcases Zr.mp h with rfl | h
   ·exact .inr ⟨e,.inl ⟨l,by rw [← e];exact Zw,rfl⟩⟩
   ·exact .inl ⟨fun z=>nd.1 (Yv.mpr ⟨q,h,z.trans e.symm⟩),Zx _ h⟩
  ·rw [Zn e] at h
   rcases Zr.mp h with rfl | h
   ·exact .inl ⟨e,Zw⟩
   ·rcases ih nd.2 h with ⟨h1,h2⟩ | ⟨h1,⟨l',h2,h3⟩ | ⟨h2,h3⟩⟩
    ·exact .inl ⟨h1,Zx _ h2⟩
    ·exact .inr ⟨h1,.inl ⟨l',Zx _ h2,h3⟩⟩
    ·exact .inr ⟨h1,.inr ⟨by rw [Zu,Zr,not_or];exact ⟨fun z=>e z.symm,h2⟩,h3⟩⟩
theorem GI.add {f:Tx->List Pl} {g:Gr} {pre:List Tx} (I:GI f g pre) (w:Tx):GI f (du g (f w) w) (pre++[w]):=by
 refine ⟨?_,fun q hq=>?_,fun x hx=>?_⟩
 ·rw [m9]
  by_cases m:f w∈g.map (·.1)
  ·rw [Zq m];exact I.nd
  ·rw [Zn m]
   exact ZD.mpr ⟨I.nd,by simp,fun a ha b hb e=>m (by rw [Zg] at hb;rw [← hb,← e];exact ha)⟩
 ·rw [List.filter_append]
  rcases xX g (f w) w I.nd q hq with ⟨h1,h2⟩ | ⟨h1,⟨l,h2,h3⟩ | ⟨h2,h3⟩⟩
  ·rw [I.eq q h2,show [w].filter (fun w=>decide (f w=q.1))=[] by rw [XX (by simp only [decide_eq_true_eq];exact fun z=>h1 z.symm)];rfl,Z7]
  ·rw [h3,show l=pre.filter fun w'=>decide (f w'=f w) from I.eq (f w,l) h2,h1,show [w].filter (fun w'=>decide (f w'=f w))=[w] by simp]
  ·rw [h3,h1,show [w].filter (fun w'=>decide (f w'=f w))=[w] by simp,List.filter_eq_nil_iff.mpr fun x hx=>by
    have:=I.al x hx
    simp only [decide_eq_true_eq]
    intro z
    rw [z] at this
    exact h2 this]
   rfl
 ·rw [m9]
  rcases Zh.mp hx with hx | hx
  ·have:=I.al x hx
   by_cases m:f w∈g.map (·.1)
   ·rw [Zq m];exact this
   ·rw [Zn m];exact Zh.mpr (.inl this)
  ·rw [Zg.mp hx]
   by_cases m:f w∈g.map (·.1)
   ·rw [Zq m];exact m
   ·rw [Zn m];simp
theorem GI.grp {d:Fd} (ws:List Tx):∀ {g:Gr} {pre:List Tx},GI (look d) g pre->GI (look d) (grp d ws g) (pre++ws):=by
 induction ws with
 | nil=>intro g pre I;rw [Z7];exact I
 | cons w ws ih =>
  intro g pre I
  have:=ih (I.add w)
  rw [Zc] at this
  exact this
theorem DT (d:Fd):GI (look d) (grp d (cD (aW d)) []) (cD (aW d)):=GI.grp (cD (aW d)) (g:=[]) (pre:=[]) ⟨by simp,fun q hq=>by simp at hq,fun w hw=>by simp at hw⟩
theorem AN (d:Fd) (s:List Tx) (h:s∈bM d):∃ k,s=(cD (aW d)).filter fun w=>decide (look d w=k):=by
 obtain ⟨q,hq,rfl⟩:=Yv.mp h
 exact ⟨q.1,(DT d).eq q hq⟩
theorem xE (d:Fd) (s:List Tx) (h:s∈bM d):s.Pairwise (fun a b=>¬ lL b a):=by
 obtain ⟨k,rfl⟩:=AN d s h
 exact (jE _).filter _
theorem je (d:Fd) (s:List Tx) (h:s∈bM d) (w:Tx) (hw:w∈s):(hdW s).length<=w.length:=by
 have p:=xE d s h
 cases s with
 | nil=>simp at hw
 | cons a s =>
  rcases Zr.mp hw with rfl | hw
  ·exact Zp _
  ·have:=(XY.mp p).1 w hw
   unfold lL at this
   show a.length<=_
   lia
theorem oF (st:Vy) (w:Tx) (h:w∈st.flatten):w∈st.getD (num st w) []:=by
 induction st with
 | nil=>simp at h
 | cons s st ih =>
  by_cases m:w∈s
  ·rw [show num (s :: st) w=0 by simp [num,m]];exact m
  ·rw [show num (s :: st) w=num st w+1 by simp [num,m],Xe]
   rw [Zf] at h
   exact ih ((Zh.mp h).resolve_left m)
theorem getD_mem (st:Vy) (i:Nat) (h:i < st.length):st.getD i []∈st:=by
 rw [ZE,Za h]
 exact Xh h
theorem xr (d:Fd) (w x:Tx) (p:Pl):look (cV d w p) x=if x=w then look d x++[p] else look d x:=by
 induction d with
 | nil =>
  by_cases e:x=w
  ·simp [cV,look,e]
  ·have e':¬ w=x:=fun z=>e z.symm
   simp [cV,look,e,e']
 | cons a d ih =>
  obtain ⟨y,l⟩:=a
  unfold cV
  by_cases e:y=w
  ·rw [Zq e]
   subst e
   by_cases e2:y=x
   ·simp [look,e2]
   ·have e3:¬ x=y:=fun z=>e2 z.symm
    simp [look,e2,e3]
  ·rw [Zn e]
   by_cases e2:y=x
   ·have e3:¬ x=w:=fun z=>e (e2.trans z)
    simp [look,e2,e3]
   ·rw [show look ((y,l) :: cV d w p) x=look (cV d w p) x by simp [look,e2],show look ((y,l) :: d) x=look d x by simp [look,e2],ih]
theorem tZ (n:Nat) (t:Tx) (e:Nat) (x:Tx) (ss:W9):∀ d,look (adds n t e ss d) x=look d x++(ss.filter fun s=>decide ((t.drop s).take (e - s)=x)).map fun _=>(n,e):=by
 induction ss with
 | nil=>intro d;simp [adds]
 | cons s ss ih =>
  intro d
  rw [show adds n t e (s :: ss) d=adds n t e ss (cV d ((t.drop s).take (e - s)) (n,e)) from rfl,ih,xr]
  by_cases h:x=(t.drop s).take (e - s)
  ·rw [Zq h,Wl (by simpa using h.symm)]
   simp
  ·rw [Zn h,XX (by simpa using fun z=>h z.symm)]
theorem lg {P:Nat->Bool} {s0:Nat}:∀ {l:W9},l.Nodup->(∀ s∈l,P s=true->s=s0)->l.filter P=if s0∈l/\P s0=true then [s0] else []
 | [],_,_=>by simp
 | a :: l,hn,h=>by
  obtain ⟨h1,h2⟩:=ZJ.mp hn
  have ih:=lg h2 fun s hs=>h s (Zx _ hs)
  by_cases q:P a=true
  ·have e:=h a Zw q
   subst e
   rw [Wl q,ih,Zn fun z=>h1 z.1,Zq ⟨Zw,q⟩]
  ·rw [XX q,ih]
   by_cases z:s0∈l/\P s0=true
   ·rw [Zq z,Zq ⟨Zx _ z.1,z.2⟩]
   ·rw [Zn z,Zn]
    rintro ⟨z1,z2⟩
    rcases Zr.mp z1 with rfl | z1
    ·exact q z2
    ·exact z ⟨z1,z2⟩
theorem starts (t x:Tx) (e:Nat) (he:e<=t.length):((List.range (e+1)).filter fun s=>decide ((t.drop s).take (e - s)=x)).map (fun _=>())=if x <:+ t.take e then [()] else []:=by
 have cut:∀ s,s<=e->(t.drop s).take (e - s)=(t.take e).drop s:=fun s hs=>by rw [X2]
 have len:∀ s,s<=e->((t.take e).drop s).length=e - s:=fun s hs=>by rw [ZR,ZS];lia
 rw [lg (s0:=e - x.length) List.nodup_range fun s hs hp=>by
  have h1:=Yx.mp hs
  have h2:=of_decide_eq_true hp
  rw [cut s (by exact YY h1)] at h2
  have:=len s (by exact YY h1)
  rw [h2] at this
  omega]
 by_cases h:x <:+ t.take e
 ·have hl:x.length<=e:=by have:=h.length_le;rw [ZS] at this;lia
  rw [Zq h,Zq]
  ·rfl
  ·refine ⟨Yx.mpr (by omega),decide_eq_true ?_⟩
   rw [cut _ (by exact YT _ _)]
   obtain ⟨y,hy⟩:=h
   have h1:(t.take e).length=e:=by rw [ZS];exact Yf he
   rw [← hy,Zv] at h1
   rw [← hy,show e - x.length=y.length by lia,List.drop_left]
 ·rw [Zn h,Zn]
  ·rfl
  ·rintro ⟨h1,h2⟩
   have h1:=Yx.mp h1
   have h2:=of_decide_eq_true h2
   rw [cut _ (by exact YT _ _)] at h2
   exact h (by rw [← h2];exact W8 _ _)
theorem tR (n:Nat) (t x:Tx) (es:W9):∀ d,(∀ e∈es,e<=t.length)->look (gK n t es d) x=look d x++(es.filter fun e=>decide (x <:+ t.take e)).map fun e=>(n,e):=by
 induction es with
 | nil=>intro d _;simp [gK]
 | cons e es ih =>
  intro d h
  rw [show gK n t (e :: es) d=gK n t es (adds n t e (List.range (e+1)) d) from rfl,ih _ fun i hi=>h i (Zx _ hi),tZ]
  have st:=starts t x e (h e Zw)
  have:((List.range (e+1)).filter fun s=>decide ((t.drop s).take (e - s)=x)).map (fun _=>(n,e))=(if x <:+ t.take e then [()] else []).map fun _=>(n,e):=by
   rw [← st,YK];rfl
  rw [this]
  by_cases q:x <:+ t.take e
  ·rw [Zq q,Wl (by simpa using q)]
   simp
  ·rw [Zn q,XX (by simpa using q)]
   simp
noncomputable def jt:Nat->List Tx->List Pl
 | _,[]=>[]
 | n,t :: l=>(List.range (t.length+1)).map (fun e=>(n,e))++jt (n+1) l
theorem yS (l:List Tx):∀ n p,p∈jt n l->n<=p.1:=by
 induction l with
 | nil=>intro n p h;simp [jt] at h
 | cons t l ih =>
  intro n p h
  rcases Zh.mp h with h | h
  ·obtain ⟨e,_,rfl⟩:=Yv.mp h
   exact Zp _
  ·have:=ih (n+1) p h
   exact XU this
theorem um (x:Tx) (l:List Tx):∀ n d,look (iR n l d) x=look d x++(jt n l).filter fun p=>decide (x <:+ (l.getD (p.1 - n) []).take p.2):=by
 induction l with
 | nil=>intro n d;simp [iR,jt]
 | cons t l ih =>
  intro n d
  rw [show iR n (t :: l) d=iR (n+1) l (gK n t (List.range (t.length+1)) d) from rfl,ih,tR n t x _ d fun e he=>by have:=Yx.mp he;exact YY this,Zc]
  congr 1
  rw [jt,List.filter_append,List.filter_map]
  congr 1
  ·congr 1
   apply WC
   intro e _
   simp
  ·apply WC
   intro p hp
   have:=yS l (n+1) p hp
   rw [show p.1 - n=(p.1 - (n+1))+1 by lia,Xe]
noncomputable def En (bk:List Tx) (x:Tx) (p:Pl):Prop:=x <:+ (bk.getD p.1 []).take p.2
noncomputable instance (bk:List Tx) (x:Tx) (p:Pl):Decidable (En bk x p):=inferInstanceAs (Decidable (_ <:+ _))
theorem i9 (bk:List Tx) (x:Tx):look (found bk) x=(jt 0 bk).filter fun p=>decide (En bk x p):=by
 unfold found
 rw [um,show look [([],[])] x=[] by unfold look;split <;> rfl,YG]
 rfl
theorem qv {bk:List Tx} {x:Tx} {p:Pl}:p∈look (found bk) x ↔ p∈jt 0 bk/\En bk x p:=by
 rw [i9,XE,decide_eq_true_eq]
theorem Wa {bk:List Tx} {x y:Tx}:look (found bk) x=look (found bk) y ↔ ∀ p∈jt 0 bk,En bk x p ↔ En bk y p:=by
 constructor
 ·intro h p hp
  have h1:=qv (bk:=bk) (x:=x) (p:=p)
  have h2:=qv (bk:=bk) (x:=y) (p:=p)
  rw [h] at h1
  exact ⟨fun z=>(h2.mp (h1.mpr ⟨hp,z⟩)).2,fun z=>(h1.mp (h2.mpr ⟨hp,z⟩)).2⟩
 ·intro h
  rw [i9,i9]
  apply WC
  intro p hp
  exact decide_eq_decide.mpr (h p hp)
theorem eT (l:List Tx):∀ n p,p∈jt n l ↔ n<=p.1/\p.1 < n+l.length/\p.2<=(l.getD (p.1 - n) []).length:=by
 induction l with
 | nil=>intro n p;simp [jt];lia
 | cons t l ih =>
  intro n p
  obtain ⟨i,e⟩:=p
  rw [jt,Zh,ih,Yv]
  simp only [Yx,Prod.mk.injEq,Zi]
  constructor
  ·rintro (⟨a,h1,h2,h3⟩ | ⟨h1,h2,h3⟩)
   ·subst h2 h3
    simp
    exact YY h1
   ·refine ⟨by exact XU h1,by lia,?_⟩
    rw [show i - n=(i - (n+1))+1 by lia,Xe]
    exact h3
  ·rintro ⟨h1,h2,h3⟩
   by_cases q:i=n
   ·subst q
    simp at h3
    exact .inl ⟨e,by exact Nat.lt_succ_of_le h3,rfl,rfl⟩
   ·rw [show i - n=(i - (n+1))+1 by lia,Xe] at h3
    exact .inr ⟨by lia,by lia,h3⟩
theorem i8 {bk:List Tx} {x:Tx}:x∈aW (found bk) ↔ x=[]\/∃ p∈jt 0 bk,En bk x p:=by
 unfold found
 rw [lT]
 constructor
 ·rintro (h | ⟨t,ht,e,he,s,hs,rfl⟩)
  ·left;simpa [aW] using h
  ·right
   obtain ⟨i,hi,rfl⟩:=Yu ht
   have h1:=Yx.mp he
   refine ⟨(i,e),(eT bk 0 (i,e)).mpr ⟨ZU _,by simpa using hi,?_⟩,?_⟩
   ·simp [hi];exact YY h1
   ·show _ <:+ (bk.getD i []).take e
    rw [ZE,Za hi,Xk,← X2]
    exact W8 _ _
 ·rintro (h | ⟨⟨i,e⟩,hp,h⟩)
  ·left;rw [h];simp [aW]
  ·right
   obtain ⟨_,h2,h3⟩:=(eT bk 0 (i,e)).mp hp
   have hi:i < bk.length:=by simpa using h2
   have hg:bk.getD i []=bk[i]:=by rw [ZE,Za hi,Xk]
   have h3:e<=bk[i].length:=by simpa [hi] using h3
   have h4:x <:+ bk[i].take e:=by rw [← hg];exact h
   have hl:x.length<=e:=by have:=h4.length_le;rw [ZS] at this;lia
   refine ⟨bk[i],Xh hi,e,Yx.mpr (by exact Nat.lt_succ_of_le h3),e - x.length,Yx.mpr (by lia),?_⟩
   obtain ⟨y,hy⟩:=h4
   have h5:(bk[i].take e).length=e:=by rw [ZS];exact Yf h3
   rw [← hy,Zv] at h5
   rw [← X2,← hy,show e - x.length=y.length by lia,List.drop_left]
theorem nP {s:List Tx} (h:s ≠ []):hdW s∈s:=by
 cases s with
 | nil=>exact absurd rfl h
 | cons a s=>exact Zw
theorem iD {s:List Tx} (h:s ≠ []):laW s∈s:=by
 unfold laW
 rw [List.getLast?_eq_some_getLast h]
 exact List.getLast_mem h
theorem oJ {d:Fd} {s:List Tx} (hs:s∈bM d) (hne:s ≠ []) (w:Tx):w∈s ↔ w∈aW d/\look d w=look d (hdW s):=by
 obtain ⟨k,e⟩:=AN d s hs
 have hk:look d (hdW s)=k:=by
  have:=nP hne
  rw [e] at this
  have:=(XE.mp this).2
  rw [← e] at this
  exact of_decide_eq_true this
 rw [hk]
 conv=>lhs;rw [e]
 rw [XE,decide_eq_true_eq,(dF (aW d)).mem_iff]
theorem ug (st:Vy) (u v:Tx) (h:∀ s∈st,u∈s ↔ v∈s):num st u=num st v:=by
 induction st with
 | nil=>rfl
 | cons s st ih =>
  have e:=ih fun x hx=>h x (Zx _ hx)
  have e2:=h s Zw
  unfold num
  by_cases q:u∈s
  ·rw [Zq q,Zq (e2.mp q)]
  ·rw [Zn q,Zn fun z=>q (e2.mpr z),e]
theorem wH {d:Fd} (h0:∀ s∈bM d,s ≠ []) {u v:Tx} (hu:u∈aW d) (hv:v∈aW d) (h:look d u=look d v):num (bM d) u=num (bM d) v :=
 ug _ u v fun s hs=>by rw [oJ hs (h0 s hs),oJ hs (h0 s hs),h];exact ⟨fun z=>⟨hv,z.2⟩,fun z=>⟨hu,z.2⟩⟩
theorem ou {bk:List Tx} {x y:Tx} {p:Pl} (h:x <:+ y) (e:En bk y p):En bk x p:=h.trans e
theorem qX {bk:List Tx} {x:Tx} {c n e:Nat} (h:e+1<=(bk.getD n []).length):En bk (x++[c]) (n,e+1) ↔ En bk x (n,e)/\(bk.getD n [])[e]?=some c:=by
 unfold En
 dsimp only
 have ht:(bk.getD n []).take (e+1)=(bk.getD n []).take e++[(bk.getD n [])[e]]:=by rw [List.take_add_one,Za (show e < (bk.getD n []).length by exact WG h)];rfl
 rw [ht,Za (show e < (bk.getD n []).length by exact WG h)]
 constructor
 ·rintro ⟨y,hy⟩
  rw [← Zc] at hy
  obtain ⟨h1,h2⟩:=List.append_inj' hy rfl
  refine ⟨⟨y,h1⟩,?_⟩
  simp only [YF,and_true] at h2
  rw [h2]
 ·rintro ⟨⟨y,hy⟩,h2⟩
  refine ⟨y,?_⟩
  rw [← Zc,hy,ZK h2]
theorem kN {bk:List Tx} {x:Tx} {n:Nat} (h:En bk x (n,0)):x=[]:=by
 unfold En at h
 simpa using h
theorem p8 {bk:List Tx} {x y:Tx} (c:Nat) (h:look (found bk) x=look (found bk) y):look (found bk) (x++[c])=look (found bk) (y++[c]):=by
 rw [Wa] at h ⊢
 rintro ⟨n,e⟩ hp
 cases e with
 | zero=>exact ⟨fun z=>absurd (kN z) (by simp),fun z=>absurd (kN z) (by simp)⟩
 | succ e =>
  have hp':=(eT bk 0 (n,e+1)).mp hp
  have hl:e+1<=(bk.getD n []).length:=by simpa using hp'.2.2
  rw [qX hl,qX hl]
  have hq:(n,e)∈jt 0 bk:=(eT bk 0 (n,e)).mpr ⟨hp'.1,hp'.2.1,by simpa using (by (exact XU hl):e<=(bk.getD n []).length)⟩
  rw [h _ hq]
theorem rY {bk:List Tx} {x y:Tx} (hx:x ≠ []) (hy:y ≠ []) (h:look (found bk) x=look (found bk) y):x∈aW (found bk) ↔ y∈aW (found bk):=by
 rw [Wa] at h
 rw [i8,i8]
 constructor
 ·rintro (z | ⟨p,hp,z⟩)
  ·exact absurd z hx
  ·exact .inr ⟨p,hp,(h p hp).mp z⟩
 ·rintro (z | ⟨p,hp,z⟩)
  ·exact absurd z hy
  ·exact .inr ⟨p,hp,(h p hp).mpr z⟩
theorem zX {bk:List Tx} {x:Tx} {c:Nat} (h:x++[c]∈aW (found bk)):x∈aW (found bk):=by
 rw [i8] at h ⊢
 rcases h with h | ⟨⟨n,e⟩,hp,h⟩
 ·simp at h
 ·cases e with
  | zero=>have:=kN h;simp at this
  | succ e =>
   have hp':=(eT bk 0 (n,e+1)).mp hp
   have hl:e+1<=(bk.getD n []).length:=by simpa using hp'.2.2
   exact .inr ⟨(n,e),(eT bk 0 (n,e)).mpr ⟨hp'.1,hp'.2.1,by simpa using (by (exact XU hl):e<=(bk.getD n []).length)⟩,((qX hl).mp h).1⟩
theorem vI {bk:List Tx} {x:Tx} (hx:x∈aW (found bk)) (h:look (found bk) x=look (found bk) []):x=[]:=by
 rcases i8.mp hx with z | ⟨p,hp,z⟩
 ·exact z
 ·have hp':=(eT bk 0 p).mp hp
  rw [Wa] at h
  exact kN ((h (p.1,0) ((eT bk 0 (p.1,0)).mpr ⟨hp'.1,hp'.2.1,ZU _⟩)).mpr (by unfold En;simp))
theorem nZ (d:Fd) (s:List Tx) (h:s∈bM d) (w:Tx) (hw:w∈s):w.length<=(laW s).length:=by
 have p:=xE d s h
 have hne:s ≠ []:=List.ne_nil_of_mem hw
 obtain ⟨a,b,rfl⟩:∃ a b,s=a++[b]:=⟨_,_,(List.dropLast_concat_getLast hne).symm⟩
 rw [show laW (a++[b])=b by simp [laW]]
 rcases Zh.mp hw with hw | hw
 ·have:=(ZF.mp p).2.2 w hw b (by simp)
  unfold lL at this
  lia
 ·rw [Zg.mp hw]
  exact Zp _
noncomputable def jM (h L:Tx):List Tx:=(List.range' h.length (L.length - h.length+1)).map fun l=>L.drop (L.length - l)
theorem nB {h L y:Tx} (hl:h.length<=L.length):y∈jM h L ↔ y <:+ L/\h.length<=y.length:=by
 unfold jM
 rw [Yv]
 constructor
 ·rintro ⟨l,hl',rfl⟩
  have:=X6.mp hl'
  exact ⟨W8 _ _,by rw [ZR];omega⟩
 ·rintro ⟨h1,h2⟩
  have:=h1.length_le
  exact ⟨y.length,X6.mpr ⟨h2,by lia⟩,(List.suffix_iff_eq_drop.mp h1).symm⟩
theorem va (h L:Tx) (hl:h.length<=L.length):(jM h L).Pairwise (fun a b=>a.length < b.length):=by
 unfold jM
 rw [WD]
 have pw:=List.pairwise_lt_range' (s:=h.length) (n:=L.length - h.length+1)
 exact pw.imp_of_mem fun {a b} ha hb hab=>by
  have h1:=X6.mp ha
  have h2:=X6.mp hb
  rw [ZR,ZR]
  omega
theorem u4 (bk:List Tx) (s:List Tx) (hs:s∈bM (found bk)) (hne:s ≠ []) (hn:s.Nodup):s=jM (hdW s) (laW s):=by
 have hh:=nP hne
 have hL:=iD hne
 have hl:=je (found bk) s hs _ hL
 have m:=fun w=>oJ hs hne (d:=found bk) w
 have kL:=(m _).mp hL
 have suf:∀ x∈s,x <:+ laW s:=fun x hx=>by
  have hx':=(m x).mp hx
  have len:=nZ (found bk) s hs x hx
  rcases i8.mp kL.1 with z | ⟨p,hp,z⟩
  ·rw [z] at len
   have:x=[]:=Wn.mp (by simpa using len)
   rw [this];exact List.nil_suffix
  ·have zx:En bk x p:=(Wa.mp (hx'.2.trans kL.2.symm) p hp).mpr z
   exact W0 zx z len
 have mem:∀ y,y∈s ↔ y∈jM (hdW s) (laW s):=fun y=>by
  rw [nB hl]
  constructor
  ·exact fun hy=>⟨suf y hy,je (found bk) s hs y hy⟩
  ·rintro ⟨h1,h2⟩
   have h3:hdW s <:+ y:=W0 (suf _ hh) h1 h2
   have hlk:look (found bk) y=look (found bk) (hdW s):=by
    rw [Wa]
    intro p hp
    exact ⟨ou h3,fun z=>ou h1 ((Wa.mp kL.2 p hp).mpr z)⟩
   refine (m y).mpr ⟨?_,hlk⟩
   rcases i8.mp kL.1 with z | ⟨p,hp,z⟩
   ·rw [z] at h1
    rw [List.suffix_nil.mp h1,← z]
    exact kL.1
   ·exact i8.mpr (.inr ⟨p,hp,ou h1 z⟩)
 have pw:=va (hdW s) (laW s) hl
 have nd:(jM (hdW s) (laW s)).Nodup:=pw.imp fun h e=>by rw [e] at h;lia
 have pm:(jM (hdW s) (laW s)).Perm s:=(List.perm_ext_iff_of_nodup nd hn).mpr fun y=>(mem y).symm
 have e1:=iV pm (pw.imp fun h=>by unfold lL;lia)
 have e2:=iV (XS s) (xE (found bk) s hs)
 rw [e1,← e2]
theorem gE {f:Val->Val->Vv} {a b:Ex} {η:Env} {x y:Val} (h1:a η=some x) (h2:b η=some y):e2 f a b η=f x y:=by
 show (a η).bind _=_
 rw [h1,Zk,h2]
 rfl
theorem AY {a:Ex} {r:Exs} {η:Env} {x:Val} {xs:Vw} (h1:a η=some x) (h2:r η=some xs):ah a r η=some (x :: xs):=xv h1 h2
theorem sM {f g:Val->Val->Vv} {a b c:Ex} {η:Env} {x y z v:Val} (h1:a η=some x) (h2:b η=some y) (h3:f x y=some (.fr,.bl true)) (h4:c η=some z) (h5:g y z=some v):eY f g a b c η=some v:=by
 show (a η).bind _=_
 rw [h1,Zk,h2,Zk,h3,Zk]
 show (c η).bind _=_
 rw [h4]
 exact h5
theorem Ac {f g:Val->Val->Vv} {a b c:Ex} {η:Env} {x y:Val} (h1:a η=some x) (h2:b η=some y) (h3:f x y=some (.fr,.bl false)):eY f g a b c η=some (.fr,.bl false):=by
 show (a η).bind _=_
 rw [h1,Zk,h2,Zk,h3]
 rfl
theorem rJ {a:Ex} {η:Env} {b:Bool} (h:a η=some (.fr,.bl b)):gO a η=some (.fr,.bl (!b)):=by
 show (a η).bind _=_
 rw [h]
 rfl
noncomputable abbrev NS:PySem.Str := "NoStand"
theorem Be {c:Sx} {η:Env} {o:Out} (h:c η=some o):sL c η=some (.ok o):=by
 unfold sL
 rw [h]
 rfl
theorem g7 {a b:SxX} {η η1:Env} (h:a η=some (.ok (.nx η1))):iw a b η=b η1:=by
 unfold iw
 rw [h]
 rfl
theorem jm {a b:SxX} {η η1:Env} {x:PySem.Str} (h:a η=some (.ex x η1)):iw a b η=some (.ex x η1):=by
 unfold iw
 rw [h]
 rfl
theorem pd {g:FnX} {cs:Exs} {η:Env} {xs:Vw} {t:T} (h:cs η=some xs) (h2:g (trees xs)=some (.ok (.fr,t))):cj g cs η=some (.ok (.fr,t)):=by
 have p:plF g (trees xs)=some (.fr,t):=by
  unfold plF
  rw [h2]
 unfold cj
 rw [h,Zk,h2,Zk]
 show (aZ (plF g) cs η).map _=_
 rw [aX h p]
 rfl
theorem cQ {g:FnX} {cs:Exs} {η:Env} {xs:Vw} {x:PySem.Str} (h:cs η=some xs) (h2:g (trees xs)=some (.ex x)):cj g cs η=some (.ex x):=by
 unfold cj
 rw [h,Zk,h2]
 rfl
theorem iz {S:Ex->Sx} {ce:ExX} {η:Env} {x:PySem.Str} (h:ce η=some (.ex x)):xOf S ce η=some (.ex x η):=by
 unfold xOf
 rw [h]
 rfl
theorem AO {ce:ExX} {η:Env} {v:Val} (h:ce η=some (.ok v)):xOf (fun c=>sX (xP c)) ce η=some (.ok (.nx η)):=by
 have p:okE ce η=some v:=by
  unfold okE
  rw [h]
 unfold xOf
 rw [h,Zk]
 show ((okE ce η).map _ |>.map _).map _=_
 rw [p]
 rfl
theorem xY {np nn:Nat} {b:SxX} {ts:Vu} {v:Val} {η:Env} (hl:ts.length=np) (h:b (ts.map (fun t=>some (.pu t))++List.replicate (nn - np) none)=some (.ok (.rt v η))):fnx np nn b ts=some (.ok v):=by
 unfold fnx
 rw [Zq hl,h]
 rfl
theorem ff {np nn:Nat} {b:SxX} {ts:Vu} {x:PySem.Str} {η:Env} (hl:ts.length=np) (h:b (ts.map (fun t=>some (.pu t))++List.replicate (nn - np) none)=some (.ex x η)):fnx np nn b ts=some (.ex x):=by
 unfold fnx
 rw [Zq hl,h]
 rfl
theorem vk {g:FnX} {ts:Vu} {v:Val} (h:g ts=some (.ok v)):plF g ts=some v:=by
 unfold plF
 rw [h]
theorem mM {c:Ex} {a b:SxX} {η:Env} {m:Md} (h:c η=some (m,.bl true)):xIf c a b η=a η:=by
 show (c η).bind _=_
 rw [h]
 rfl
theorem iy {c:Ex} {a b:SxX} {η:Env} {m:Md} (h:c η=some (m,.bl false)):xIf c a b η=b η:=by
 show (c η).bind _=_
 rw [h]
 rfl
theorem pb (l:Vu) (k:Nat) (h:k < l.length):aG [.lst l,.int k]=some (.ok (.fr,.non)):=by
 have c2:gO (eY oLe oLt (eC (.int 0)) (aj 1) (eN d8 (ah (aj 0) aA))) [some (.pu (.lst l)),some (.pu (.int k))]=some (.fr,.bl false):=rJ (b:=true) (sM (x:=(.fr,.int 0)) (y:=(.fr,.int k)) rfl rfl (congrArg (fun b=>some (Md.fr,T.bl b)) (decide_eq_true (by lia:(0:Int)<=(k:Int)))) (jU (xv rfl rfl) rfl) (congrArg (fun b=>some (Md.fr,T.bl b)) (decide_eq_true (show (k:Int) < (l.length:Int) by lia))))
 have c3:eOr (gO (aZ fA (ah (aj 1) aA))) (gO (eY oLe oLt (eC (.int 0)) (aj 1) (eN d8 (ah (aj 0) aA)))) [some (.pu (.lst l)),some (.pu (.int k))]=some (.fr,.bl false):=c2
 unfold aG fnx
 rw [Zq (show [T.lst l,T.int k].length=2 from rfl)]
 exact congrArg (fun z:Option OutX=>z.bind _) (iy c3)
noncomputable def Odd (n:Nat) (t:T):Prop:=t=.non\/(∃ b,t=.bl b)\/(∃ s,t=.str s)\/(∃ l,t=.tup l)\/(∃ l,t=.lst l)\/∃ i:Int,t=.int i/\¬ (0<=i/\i < (n:Int))
theorem EU (l:Vu) (t:T) (h:Odd l.length t):aG [.lst l,t]=some (.ex NS):=by
 rcases h with rfl | ⟨b,rfl⟩ | ⟨s,rfl⟩ | ⟨l',rfl⟩ | ⟨l',rfl⟩ | ⟨i,rfl,hi⟩
 ·rfl
 ·rfl
 ·rfl
 ·unfold aG
  refine ff rfl ((mM (m:=.fr) ?_).trans rfl)
  rfl
 ·rfl
 ·have c2:gO (eY oLe oLt (eC (.int 0)) (aj 1) (eN d8 (ah (aj 0) aA))) [some (.pu (.lst l)),some (.pu (.int i))]=some (.fr,.bl true):=by
   refine rJ (b:=false) ?_
   by_cases p:0<=i
   ·exact sM (x:=(.fr,.int 0)) (y:=(.fr,.int i)) rfl rfl (congrArg (fun b=>some (Md.fr,T.bl b)) (decide_eq_true p)) (jU (xv rfl rfl) rfl) (congrArg (fun b=>some (Md.fr,T.bl b)) (ZL (show ¬ i < (l.length:Int) from fun z=>hi ⟨p,z⟩)))
   ·exact Ac (x:=(.fr,.int 0)) (y:=(.fr,.int i)) rfl rfl (congrArg (fun b=>some (Md.fr,T.bl b)) (ZL p))
  have c3:eOr (gO (aZ fA (ah (aj 1) aA))) (gO (eY oLe oLt (eC (.int 0)) (aj 1) (eN d8 (ah (aj 0) aA)))) [some (.pu (.lst l)),some (.pu (.int i))]=some (.fr,.bl true):=c2
  unfold aG
  exact ff (η:=[some (.pu (.lst l)),some (.pu (.int i))]) rfl ((mM c3).trans rfl)
theorem Ei {m n:Md} (st:Vy) (i:Nat) (h:i < st.length):aV (m,stT st) (n,.int (i:Int))=some (m,.lst ((st.getD i []).map T.str)):=by
 show (ixP ((st.map fun s=>T.lst (s.map T.str)).length) (i:Int)).bind _=_
 rw [kS (by rw [Zt];exact h),Zk,Z1,Za h,ZE,Za h]
 rfl
theorem Af (st:Vy) (s:List Tx) (n:Nat):eqD (n+3) (bD st s)=true:=by
 have d1:eqD (n+2) (lkT st s)=true:=by unfold lkT;split <;> rfl
 have d2:((eu st (hdW s) gg).map wT).all (eqD (n+1))=true:=by
  rw [Yb]
  intro x hx
  obtain ⟨p,_,rfl⟩:=Yv.mp hx
  simp [wT]
 unfold bD
 rw [eqD]
 simp only [Wv,List.all_nil,d1,eqD,d2,Bool.and_self,Bool.true_and]
theorem zz (st:Vy):eqD 60 (bG st)=true:=by
 unfold bG
 rw [eqD,Yb]
 intro x hx
 obtain ⟨s,_,rfl⟩:=Yv.mp hx
 exact Af st s 56
theorem E7 (l:Vy):(∀ s∈l,s ≠ [])->l.length<=l.flatten.length:=by
 induction l with
 | nil=>exact fun _=>by simp
 | cons s l ih =>
  intro h
  have h1:=WW.mpr (h s Zw)
  have h2:=ih fun x hx=>h x (Zx _ hx)
  rw [Zf,Zv,Zi]
  lia
theorem CG (st:Vy) (h:st.length < 16777216):ka [(.pu,bG st)]=some (.fr,bG st):=by
 have im:fN (st.map (bD st))=true:=jr (bD st) (fun s=>jB st s) st
 show mkL .pu (st.map (bD st))=_
 rw [vM (by rw [Zt];exact ZO h),im]
 rfl
theorem v7 {m n:Md} (st:Vy) (i:Nat) (h:i < st.length):aV (m,bG st) (n,.int (i:Int))=some (.fr,bD st (st.getD i [])):=by
 show (ixP ((st.map (bD st)).length) (i:Int)).bind _=_
 rw [kS (by rw [Zt];exact h),Zk,Z1,Za h,ZE,Za h,YO,YO,Xk]
 unfold sub up
 rw [jB,Zq rfl]
theorem Fe {m n:Md} (st:Vy) (s:List Tx):aV (m,bD st s) (n,.int 2)=some (.fr,lkT st s):=by
 show some (sub m (lkT st s))=_
 rw [sub,up,sV,Zq rfl]
noncomputable abbrev S (st:Vy) (i:Nat):List Tx:=st.getD i []
structure Sd (st:Vy):Prop where
 ne:∀ s∈st,s ≠ []
 len:st.length<=117129
 z0:S st 0=[[]]
 tl:∀ s∈st,s=jM (hdW s) (laW s)
 sz:∀ s∈st,(laW s).length<=120
 le:∀ s∈st,(hdW s).length<=(laW s).length
 wy:∀ i < st.length,∀ c,hdW (S st i)++[c]∈st.flatten->laW (S st i)++[c]∈S st (num st (hdW (S st i)++[c]))
 ex:∀ j < st.length,j ≠ 0->∃ i < st.length,∃ c∈gg,hdW (S st i)++[c]∈st.flatten/\num st (hdW (S st i)++[c])=j/\(laW (S st j)).length=(laW (S st i)).length+1
theorem Sd.in {st:Vy} (D:Sd st) {i:Nat} (h:i < st.length):S st i∈st:=getD_mem st i h
theorem Sd.non {st:Vy} (D:Sd st) {i:Nat} (h:i < st.length):S st i ≠ []:=D.ne _ (D.in h)
noncomputable def Good (st:Vy) (i c j:Nat):Prop:=i < st.length/\laW (S st j)=laW (S st i)++[c]
theorem Sd.good {st:Vy} (D:Sd st) {i c:Nat} (h:i < st.length) (hc:hdW (S st i)++[c]∈st.flatten) (hl:(laW (S st (num st (hdW (S st i)++[c])))).length=(laW (S st i)).length+1):Good st i c (num st (hdW (S st i)++[c])):=by
 refine ⟨h,?_⟩
 have hj:=jT st _ hc
 have hin:=D.in hj
 have h1:=D.wy i h c hc
 rw [D.tl _ hin,nB (D.le _ hin)] at h1
 exact (h1.1.eq_of_length (by rw [Zv,ZX,hl])).symm
noncomputable def vB (v:Nat×Nat):T:=.tup [.int (v.1:Int),.str [v.2]]
noncomputable abbrev Bm:=List (Nat×(Nat×Nat))
noncomputable def bT (m:Bm):List (T×T):=m.map fun p=>(T.int (p.1:Int),vB p.2)
noncomputable def mJ (m:Bm) (j:Nat) (v:Nat×Nat):Bm:=if j∈m.map (·.1) then m.map (fun p=>if p.1=j then (p.1,v) else p) else m++[(j,v)]
theorem ni (a b:Nat):eqT (T.int (a:Int)) (T.int (b:Int))=decide (a=b):=by
 simp only [eqT]
 by_cases h:a=b
 ·simp [h]
 ·have h':¬ (a:Int)=(b:Int):=by omega
  rw [ZL h]
  exact beq_eq_false_iff_ne.mpr h'
theorem AE (m:Bm) (j:Nat) (v:Nat×Nat):dput (bT m) (.int (j:Int)) (vB v)=bT (mJ m j v):=by
 have h1:(bT m).any (fun p=>eqT p.1 (.int (j:Int)))=decide (j∈m.map (·.1)):=by
  induction m with
  | nil=>rfl
  | cons a m ih =>
   rw [show bT (a :: m)=(T.int (a.1:Int),vB a.2) :: bT m from rfl,YE,ih,ni,Zu]
   by_cases q:a.1=j
   ·simp [q]
   ·have q':¬ j=a.1:=fun z=>q z.symm
    simp [q,q']
 unfold dput mJ
 rw [h1]
 by_cases q:j∈m.map (·.1)
 ·rw [Zq (by simpa using q),Zq q]
  unfold bT
  rw [YK,YK]
  apply List.map_congr_left
  intro p _
  simp only [Function.comp,ni]
  by_cases r:p.1=j
  ·simp [r]
  ·simp [r]
 ·rw [Zn (by simpa using q),Zn q]
  simp [bT]
theorem vb (m:Bm) (j:Nat) (v:Nat×Nat):(mJ m j v).length<=m.length+1:=by
 unfold mJ
 split <;> simp
theorem nE (m:Bm) (j:Nat) (v:Nat×Nat) (k:Nat) (h:k∈m.map (·.1)\/k=j):k∈(mJ m j v).map (·.1):=by
 unfold mJ
 split
 ·rename_i q
  have hk:k∈m.map (·.1):=h.elim id fun z=>z ▸ q
  obtain ⟨p,hp,rfl⟩:=Yv.mp hk
  refine Yv.mpr ⟨_,Yv.mpr ⟨p,hp,rfl⟩,?_⟩
  by_cases r:p.1=j
  ·rw [Zq r]
  ·rw [Zn r]
 ·rw [Ym,Zh]
  exact h.imp id fun z=>by simp [z]
theorem wa (m:Bm) (j:Nat) (v:Nat×Nat) (q:Nat×(Nat×Nat)) (h:q∈mJ m j v):q∈m\/q=(j,v):=by
 unfold mJ at h
 split at h
 ·obtain ⟨p,hp,rfl⟩:=Yv.mp h
  by_cases r:p.1=j
  ·rw [Zq r];right;rw [r]
  ·rw [Zn r];exact .inl hp
 ·rcases Zh.mp h with h | h
  ·exact .inl h
  ·exact .inr (Zg.mp h)
theorem EO (m:Bm) (i:Nat) (h:i∈m.map (·.1)):∃ v,dq (bT m) (.int (i:Int))=some (vB v)/\(i,v)∈m:=by
 induction m with
 | nil=>simp at h
 | cons a m ih =>
  obtain ⟨j,v⟩:=a
  rw [show bT ((j,v) :: m)=(T.int (j:Int),vB v) :: bT m from rfl]
  unfold dq
  by_cases q:j=i
  ·subst q
   exact ⟨v,by rw [Z6,ni];simp,Zw⟩
  ·rw [Z6,ni,ZL q]
   rw [Zu,Zr] at h
   obtain ⟨v',h1,h2⟩:=ih (h.resolve_left fun z=>q z.symm)
   exact ⟨v',h1,Zx _ h2⟩
theorem DB {m n:Md} (st:Vy) (s:List Tx):aV (m,bD st s) (n,.int 1)=some (.fr,.int ((laW s).length:Nat)):=by
 unfold bD
 simp [ixP]
theorem FT {m n:Md} (st:Vy) (s:List Tx):aV (m,bD st s) (n,.int 3)=some (.fr,.tup ((eu st (hdW s) gg).map wT)):=by
 have wi:=oB (eu st (hdW s) gg)
 unfold bD
 simp [ixP,wi]
noncomputable abbrev E5 (st:Vy) (m:Bm) (z2 z3 z4:Vx):Env:=[some (.pu (bG st)),some (.ow (.dct 0 (bT m))),z2,z3,z4]
theorem vg (st:Vy) (m:Bm) (i:Nat) (s:List Tx) (z:Vx):aj 3 (E5 st m (some (.pu (.int i))) (some (.pu (bD st s))) z)=some (.fr,bD st s):=by
 have ri:=jB st s
 simp only [aj,Wm,List.getElem?_cons_zero,up,ri,if_true]
theorem xM {st:Vy} (D:Sd st) (i:Nat) (s:List Tx) (w:Nat×Nat) (hw:w.2 < st.length) (m:Bm) (hm:m.length < 16777216) :
  cL (E5 st m (some (.pu (.int i))) (some (.pu (bD st s))) (some (.pu (wT w)))) =
   some (.nx (E5 st (if (laW (S st w.2)).length=(laW s).length+1 then mJ m w.2 (i,w.1) else m) (some (.pu (.int i))) (some (.pu (bD st s))) (some (.pu (wT w))))):=by
 have h1:e2 aV (aj 4) (eC (.int 1)) (E5 st m (some (.pu (.int i))) (some (.pu (bD st s))) (some (.pu (wT w))))=some (.fr,.int (w.2:Int)):=by
  simp [wT,ixP]
 have h0:e2 aV (aj 4) (eC (.int 0)) (E5 st m (some (.pu (.int i))) (some (.pu (bD st s))) (some (.pu (wT w))))=some (.fr,.str [w.1]):=by
  simp [wT,ixP]
 have h2:e2 aV (e2 aV (aj 0) (e2 aV (aj 4) (eC (.int 1)))) (eC (.int 1)) (E5 st m (some (.pu (.int i))) (some (.pu (bD st s))) (some (.pu (wT w))))=some (.fr,.int ((laW (S st w.2)).length:Nat)):=by
  rw [gE (x:=(.fr,bD st (S st w.2))) (y:=(.fr,.int 1)) (by rw [gE (x:=(.pu,bG st)) (by simp [bG]) h1,v7 st w.2 hw]) rfl,DB]
 have h3:e2 bR (e2 aV (aj 3) (eC (.int 1))) (eC (.int 1)) (E5 st m (some (.pu (.int i))) (some (.pu (bD st s))) (some (.pu (wT w))))=some (.fr,.int (((laW s).length+1:Nat):Int)):=by
  rw [gE (x:=(.fr,.int ((laW s).length:Nat))) (y:=(.fr,.int 1)) (by rw [gE (vg st m i s _) (y:=(.fr,.int 1)) rfl,DB]) rfl,vd]
  rfl
 have cd:e2 oEq (e2 aV (e2 aV (aj 0) (e2 aV (aj 4) (eC (.int 1)))) (eC (.int 1))) (e2 bR (e2 aV (aj 3) (eC (.int 1))) (eC (.int 1))) (E5 st m (some (.pu (.int i))) (some (.pu (bD st s))) (some (.pu (wT w))))=some (.fr,.bl (decide ((laW (S st w.2)).length=(laW s).length+1))):=by
  rw [gE h2 h3]
  show (if _ then some (Md.fr,T.bl (eqT _ _)) else none)=_
  rw [Zq ⟨rfl,rfl⟩,ni]
 unfold cL
 by_cases q:(laW (S st w.2)).length=(laW s).length+1
 ·rw [oV (m:=.fr) (by rw [cd,decide_eq_true q]),Zq q]
  have tv:kI (ah (aj 2) (ah (e2 aV (aj 4) (eC (.int 0))) aA)) (E5 st m (some (.pu (.int i))) (some (.pu (bD st s))) (some (.pu (wT w))))=some (.fr,vB (i,w.1)):=by
   have:ah (aj 2) (ah (e2 aV (aj 4) (eC (.int 0))) aA) (E5 st m (some (.pu (.int i))) (some (.pu (bD st s))) (some (.pu (wT w))))=some [(.fr,.int (i:Int)),(.fr,.str [w.1])]:=AY (by simp) (AY h0 rfl)
   unfold kI
   rw [this,Zk,lW (by simp)]
   rfl
  rw [r9 (l:=bT m) rfl tv h1 rfl rfl (by rw [bT,Zt];exact hm),AE]
  rfl
 ·rw [qZ (m:=.fr) (by rw [cd,ZL q]),Zn q]
  rfl
theorem sb1 {st:Vy} (D:Sd st) (i:Nat) (hi:i < st.length) (ws:List (Nat×Nat)):∀ (m:Bm) (z:Vx),(∀ w∈ws,hdW (S st i)++[w.1]∈st.flatten/\w.2=num st (hdW (S st i)++[w.1]))->(∀ q∈m,Good st q.2.1 q.2.2 q.1)->m.length+ws.length < 16777216 →
  ∃ m' z',forL (bE 4) cL (ws.map wT) (E5 st m (some (.pu (.int i))) (some (.pu (bD st (S st i)))) z)=some (.nx (E5 st m' (some (.pu (.int i))) (some (.pu (bD st (S st i)))) z')) ∧
   (∀ q∈m',Good st q.2.1 q.2.2 q.1)/\(∀ k∈m.map (·.1),k∈m'.map (·.1))/\(∀ w∈ws,(laW (S st w.2)).length=(laW (S st i)).length+1->w.2∈m'.map (·.1))/\m'.length<=m.length+ws.length:=by
 induction ws with
 | nil=>exact fun m z _ g _=>⟨m,z,by simp [forL],g,fun k hk=>hk,fun w hw=>by simp at hw,by simp⟩
 | cons w ws ih =>
  intro m z hw g hl
  rw [Zi] at hl
  obtain ⟨w1,w2⟩:=hw w Zw
  have hlt:w.2 < st.length:=by rw [w2];exact jT st _ w1
  have bo:=xM D i (S st i) w hlt m (by lia)
  obtain ⟨m1,hm1⟩:∃ m1,m1=(if (laW (S st w.2)).length=(laW (S st i)).length+1 then mJ m w.2 (i,w.1) else m):=⟨_,rfl⟩
  rw [← hm1] at bo
  have l1:m1.length<=m.length+1:=by
   rw [hm1];split
   ·exact vb _ _ _
   ·lia
  have g1:∀ q∈m1,Good st q.2.1 q.2.2 q.1:=by
   rw [hm1];split
   ·rename_i c
    intro q hq
    rcases wa _ _ _ q hq with h | rfl
    ·exact g q h
    ·show Good st i w.1 w.2
     rw [w2] at c ⊢
     exact D.good hi w1 c
   ·exact g
  have k1:∀ k∈m.map (·.1),k∈m1.map (·.1):=by
   rw [hm1];split
   ·exact fun k hk=>nE _ _ _ k (.inl hk)
   ·exact fun k hk=>hk
  have k2:(laW (S st w.2)).length=(laW (S st i)).length+1->w.2∈m1.map (·.1):=fun c=>by
   rw [hm1,Zq c];exact nE _ _ _ _ (.inr rfl)
  obtain ⟨m2,z2,e,g2,k3,k4,l2⟩:=ih m1 (some (.pu (wT w))) (fun x hx=>hw x (Zx _ hx)) g1 (by lia)
  refine ⟨m2,z2,?_,g2,fun k hk=>k3 k (k1 k hk),fun x hx c=>?_,by rw [Zi];lia⟩
  ·rw [Zu,bw (by simp) bo,e]
  ·rcases Zr.mp hx with rfl | hx
   ·exact k3 _ (k2 c)
   ·exact k4 x hx c
theorem pE {st:Vy} {h:Tx} {cs:W9} {w:Nat×Nat}:w∈eu st h cs ↔ w.1∈cs/\h++[w.1]∈st.flatten/\w.2=num st (h++[w.1]):=by
 unfold eu
 rw [List.mem_flatMap]
 constructor
 ·rintro ⟨c,hc,hw⟩
  unfold jG at hw
  split at hw
  ·rename_i q
   rw [Zg] at hw
   subst hw
   exact ⟨hc,q,rfl⟩
  ·simp at hw
 ·rintro ⟨h1,h2,h3⟩
  refine ⟨w.1,h1,?_⟩
  unfold jG
  rw [Zq h2,Zg,← h3]
theorem sb2 {st:Vy} (D:Sd st) (l:Vy):∀ (n:Nat) (m:Bm) (z2 z3 z4:Vx),st.drop n=l->(∀ q∈m,Good st q.2.1 q.2.2 q.1)->m.length+26 * l.length < 16777216 →
  ∃ m' z2' z3' z4',forL (ja [bE 2,bE 3]) dY (d5 n (l.map (bD st))) (E5 st m z2 z3 z4)=some (.nx (E5 st m' z2' z3' z4')) ∧
   (∀ q∈m',Good st q.2.1 q.2.2 q.1)/\(∀ k∈m.map (·.1),k∈m'.map (·.1))/\(∀ i,n<=i->i < st.length->∀ w∈eu st (hdW (S st i)) gg,(laW (S st w.2)).length=(laW (S st i)).length+1->w.2∈m'.map (·.1)):=by
 induction l with
 | nil =>
  intro n m z2 z3 z4 hd g _
  refine ⟨m,z2,z3,z4,by simp [forL,d5],g,fun k hk=>hk,fun i h1 h2=>?_⟩
  have:=congrArg List.length hd
  rw [ZR,Yd] at this
  lia
 | cons s l ih =>
  intro n m z2 z3 z4 hd g hl
  rw [Zi] at hl
  have hn:n < st.length:=by
   have:=congrArg List.length hd
   rw [ZR,Zi] at this
   lia
  have hs:S st n=s:=by
   rw [Ya hn] at hd
   show st.getD n []=s
   rw [ZE,Za hn,Xk]
   exact (List.cons.inj hd).1
  have hd':st.drop (n+1)=l:=by
   rw [Ya hn] at hd
   exact (List.cons.inj hd).2
  have wl:(eu st (hdW (S st n)) gg).length<=26:=pW _ _ _
  obtain ⟨m1,y4,e1,g1,k1,k2,l1⟩:=sb1 D n hn (eu st (hdW (S st n)) gg) m z4 (fun w hw=>(pE.mp hw).2) g (by lia)
  obtain ⟨m2,x2,x3,x4,e,g2,k3,k4⟩:=ih (n+1) m1 (some (.pu (.int n))) (some (.pu (bD st s))) y4 hd' g1 (by lia)
  refine ⟨m2,x2,x3,x4,?_,g2,fun k hk=>k3 k (k1 k hk),fun i h1 h2 w hw c=>?_⟩
  ·rw [Zu,d5,bw (η1:=E5 st m (some (.pu (.int n))) (some (.pu (bD st s))) z4) (by simp) (by
    unfold dY
    rw [gv (l:=(eu st (hdW s) gg).map wT) (by
     unfold kG
     rw [gE (vg st m n s z4) (y:=(.fr,.int 3)) rfl,FT]
     rfl)]
    rw [hs] at e1
    exact e1),e]
  ·by_cases q:i=n
   ·subst q
    exact k3 _ (k2 w hw c)
   ·exact k4 i (by lia) h2 w hw c
theorem wq {st:Vy} (D:Sd st):∃ m:Bm,cT [bG st]=some (.fr,.dct 0 (bT m))/\(∀ q∈m,Good st q.2.1 q.2.2 q.1)/\∀ j < st.length,j ≠ 0->j∈m.map (·.1):=by
 have hl:=D.len
 obtain ⟨m,z2,z3,z4,e,g,_,k⟩:=sb2 D st 0 [] none none none rfl (fun q hq=>by simp at hq) (by simp;lia)
 refine ⟨m,?_,g,fun j hj h0=>?_⟩
 ·unfold cT
  refine iu rfl (η:=[some (.pu (bG st)),none,z2,z3,z4]) ?_
  refine (show av _ _ [some (.pu (bG st)),none,none,none,none]=_ from ?_)
  rw [au (η1:=E5 st [] none none none) (by
   have:kg 0 [] [some (.pu (bG st)),none,none,none,none]=some (.fr,.dct 0 (bT [])):=rfl
   simp [this])]
  rw [au (η1:=E5 st m z2 z3 z4) (by
   rw [ji (m:=.pu) (l:=d5 0 (st.map (bD st))) (by simp [bG]) rfl]
   exact e)]
  simp
 ·obtain ⟨i,hi,c,hc,h1,h2,h3⟩:=D.ex j hj h0
  have:=k i (ZU _) hi (c,j) (pE.mpr ⟨hc,h1,h2.symm⟩) h3
  exact this
theorem nO {c:Ex} {body:Sx} {f:Nat} {η η2:Env} {m:Md} (h:c η=some (m,.bl true)) (hb:body η=some (.nx η2)):dH c body (f+1) η=dH c body f η2:=by
 simp [dH,h,hb]
theorem oi {c:Ex} {body:Sx} {f:Nat} {η:Env} {m:Md} (h:c η=some (m,.bl false)):dH c body (f+1) η=some (.nx η):=by
 simp [dH,h]
noncomputable abbrev E6 (st:Vy) (m:Bm) (i:Nat) (u:Tx) (z:Vx):Env:=[some (.pu (bG st)),some (.pu (.int (i:Int))),some (.pu (.dct 0 (bT m))),some (.pu (.str u)),z]
theorem ze (st:Vy) (m:Bm) (i i' c:Nat) (u:Tx) (z:Vx) (hg:dq (bT m) (.int (i:Int))=some (vB (i',c))) (hu:u.length<=1000) :
  fi (E6 st m i u z)=some (.nx (E6 st m i' ([c]++u) (some (.pu (vB (i',c)))))):=by
 have h4:∀ (i:Nat) (u:Tx),aj 4 (E6 st m i u (some (.pu (vB (i',c)))))=some (.fr,vB (i',c)):=fun i u=>rfl
 unfold fi
 rw [au (η1:=E6 st m i u (some (.pu (vB (i',c))))) (by
  rw [aI (m:=.fr) (t:=vB (i',c)) (by
   rw [gE (x:=(.pu,.dct 0 (bT m))) (y:=(.fr,.int (i:Int))) (by simp) (by simp)]
   show (if ki (T.int (i:Int))=true then (dq (bT m) (T.int (i:Int))).map (sub .pu) else none)=_
   rw [hg]
   rfl) (by decide) (by simp)]
  rfl)]
 rw [au (η1:=E6 st m i ([c]++u) (some (.pu (vB (i',c))))) (by
  rw [aI (m:=.fr) (t:=.str ([c]++u)) (by
   rw [gE (x:=(.fr,.str [c])) (y:=(.fr,.str u)) (by rw [gE (h4 i u) (y:=(.fr,.int 1)) rfl];rfl) (by simp),jA (by simp;lia)]) (by decide) (by simp)]
  rfl)]
 rw [aI (m:=.fr) (t:=.int (i':Int)) (by rw [gE (h4 i ([c]++u)) (y:=(.fr,.int 0)) rfl];rfl) (by decide) (by simp)]
 rfl
theorem wC (st:Vy) (m:Bm) (i:Nat) (u:Tx) (z:Vx):e2 oNe (aj 1) (eC (.int 0)) (E6 st m i u z)=some (.fr,.bl (!decide (i=0))):=by
 rw [gE (x:=(.fr,.int (i:Int))) (y:=(.fr,.int ((0:Nat):Int))) (by simp) rfl]
 show (if _ then some (Md.fr,T.bl (!eqT _ _)) else none)=_
 rw [Zq ⟨rfl,rfl⟩,ni]
theorem lg1 {st:Vy} (D:Sd st) (m:Bm) (g:∀ q∈m,Good st q.2.1 q.2.2 q.1) (k:∀ j < st.length,j ≠ 0->j∈m.map (·.1)) (n:Nat):∀ (i:Nat) (u:Tx) (fuel:Nat) (z:Vx),i < st.length->(laW (S st i)).length<=n->n+1<=fuel->u.length+n<=500 →
  ∃ z',dH (e2 oNe (aj 1) (eC (.int 0))) fi fuel (E6 st m i u z)=some (.nx (E6 st m 0 (laW (S st i)++u) z')):=by
 induction n with
 | zero =>
  intro i u fuel z hi hn hf hu
  obtain ⟨f,rfl⟩:∃ f,fuel=f+1:=⟨fuel - 1,by lia⟩
  by_cases p:i=0
  ·subst p
   exact ⟨z,by rw [oi (m:=.fr) (wC st m 0 u z),D.z0];rfl⟩
  ·obtain ⟨v,hv,hm⟩:=EO m i (k i hi p)
   have:=congrArg List.length (g _ hm).2
   rw [Zv,ZX] at this
   exact absurd hn (by dsimp only at this;lia)
 | succ n ih =>
  intro i u fuel z hi hn hf hu
  obtain ⟨f,rfl⟩:∃ f,fuel=f+1:=⟨fuel - 1,by lia⟩
  by_cases p:i=0
  ·subst p
   exact ⟨z,by rw [oi (m:=.fr) (wC st m 0 u z),D.z0];rfl⟩
  ·obtain ⟨⟨i',c⟩,hv,hm⟩:=EO m i (k i hi p)
   obtain ⟨g1,g2⟩:=g _ hm
   have hl:(laW (S st i)).length=(laW (S st i')).length+1:=by
    have:=congrArg List.length g2
    rw [Zv,ZX] at this
    exact this
   obtain ⟨z',e⟩:=ih i' ([c]++u) f (some (.pu (vB (i',c)))) g1 (by lia) (by lia) (by rw [Zv,ZX];lia)
   refine ⟨z',?_⟩
   rw [nO (m:=.fr) (by rw [wC,ZL p];rfl) (ze st m i i' c u z hv (by lia)),e,show laW (S st i)=laW (S st i')++[c] from g2,Zc]
theorem uX {st:Vy} (D:Sd st) (k:Nat) (h:k < st.length):mR [bG st,.int k]=some (.fr,.str (laW (S st k))):=by
 have rf:=pb (st.map (bD st)) k (by rw [Zt];exact h)
 obtain ⟨m,hb,g,kk⟩:=wq D
 obtain ⟨z',e⟩:=lg1 D m g kk 120 k [] AG none h (D.sz _ (D.in h)) (by unfold AG;lia) (by simp)
 rw [Z7] at e
 refine vk (g:=bF) ?_
 unfold bF
 refine xY rfl (η:=E6 st m 0 (laW (S st k)) z') ((g7 (η1:=[some (.pu (bG st)),some (.pu (.int k)),none,none,none]) (AO (pd (xs:=[(.pu,bG st),(.fr,.int k)]) rfl rf))).trans (Be ?_))
 rw [au (η1:=[some (.pu (bG st)),some (.pu (.int k)),some (.pu (.dct 0 (bT m))),none,none]) (aI (aX (xs:=[(.pu,bG st)]) rfl hb) (by decide) (by decide:2 < 5))]
 rw [au (η1:=E6 st m k [] none) rfl]
 rw [au (η1:=E6 st m 0 (laW (S st k)) z') (by unfold mq;exact e)]
 rfl
theorem qA {st:Vy} (h:st.flatten.Nodup) {s:List Tx} (hs:s∈st):s.Nodup:=by
 obtain ⟨a,b,rfl⟩:=WO hs
 rw [Z2,Zf] at h
 exact (ZD.mp (ZD.mp h).2.1).1
theorem jd {st:Vy} (h:st.flatten.Nodup) {x:Tx}:∀ {j:Nat},x∈st.getD j []->num st x=j:=by
 induction st with
 | nil=>intro j hx;simp at hx
 | cons s st ih =>
  rw [Zf] at h
  obtain ⟨h1,h2,h3⟩:=ZD.mp h
  intro j hx
  cases j with
  | zero=>rw [List.getD_cons_zero] at hx;simp [num,hx]
  | succ j =>
   rw [Xe] at hx
   have hn:x ∉ s:=fun z=>by
    have hj:j < st.length:=by
     rcases XA j st.length with q | q
     ·exact q
     ·rw [ZE,We q] at hx
      simp at hx
    exact h3 x z x (W6.mpr ⟨_,getD_mem st j hj,hx⟩) rfl
   rw [num,Zn hn,ih h2 hx]
theorem zL:∀ c,c < 123->97<=c->c∈gg:=by decide
theorem Dt (bk:List Tx) (B:Bk 120 bk) (hz:Sz 117129 (found bk)):Sd (bM (found bk)):=by
 obtain ⟨r,hd⟩:=pj bk
 have haz:=pP bk B
 have S0:=vC (found bk) (by rw [hd];exact Zw)
 have nf:(bM (found bk)).flatten.Nodup:=S0.pm.nodup_iff.mpr (qi bk)
 have fl:(bM (found bk)).flatten.length<=117129:=by rw [S0.pm.length_eq,aW,Zt];exact hz.1
 have sl:=E7 _ S0.ne
 have sm:=fun {s:List Tx} (hs:s∈bM (found bk)) w=>oJ hs (S0.ne s hs) w
 have inn:=fun {i:Nat} (hi:i < (bM (found bk)).length)=>getD_mem (bM (found bk)) i hi
 have ksf:=fun {x:Tx}=>S0.pm.mem_iff (a:=x)
 have z0:S (bM (found bk)) 0=[[]]:=by
  obtain ⟨a,b,hst⟩:=S0.hd
  have h0:S (bM (found bk)) 0=[] :: a:=by rw [S,hst,List.getD_cons_zero]
  have hin:([] :: a)∈bM (found bk):=by rw [hst];exact Zw
  have nd:=qA nf hin
  have ha:a=[]:=by
   cases a with
   | nil=>rfl
   | cons x a =>
    have hx:=(sm hin x).mp (by simp)
    have:x=[]:=vI hx.1 hx.2
    rw [this] at nd
    simp at nd
  rw [h0,ha]
 have wy:∀ i < (bM (found bk)).length,∀ c,hdW (S (bM (found bk)) i)++[c]∈(bM (found bk)).flatten->∀ v∈S (bM (found bk)) i,v++[c]∈S (bM (found bk)) (num (bM (found bk)) (hdW (S (bM (found bk)) i)++[c])):=fun i hi c hc v hv=>by
  have hj:=jT _ _ hc
  have h1:=(sm (inn hj) _).mp (oF _ _ hc)
  have h2:=((sm (inn hi) v).mp hv).2
  have h3:=p8 c h2
  exact (sm (inn hj) _).mpr ⟨(rY (by simp) (by simp) h3).mpr h1.1,h3.trans h1.2⟩
 refine ⟨S0.ne,by lia,z0,fun s hs=>u4 bk s hs (S0.ne s hs) (qA nf hs),fun s hs=>?_,fun s hs=>je (found bk) s hs _ (iD (S0.ne s hs)),fun i hi c hc=>wy i hi c hc _ (iD (S0.ne _ (inn hi))),fun j hj h0=>?_⟩
 ·exact (haz _ (((sm hs _).mp (iD (S0.ne s hs))).1)).2
 ·have hw:=iD (S0.ne _ (inn hj))
  have hk:=((sm (inn hj) _).mp hw).1
  obtain ⟨w,hwe⟩:∃ w,w=laW (S (bM (found bk)) j):=⟨_,rfl⟩
  rw [← hwe] at hw hk
  have hne:w ≠ []:=fun z=>by
   rw [z] at hw
   have e1:=jd nf hw
   have e2:=jd (x:=[]) nf (j:=0) (by show []∈S (bM (found bk)) 0;rw [z0];simp)
   exact h0 (e1.symm.trans e2)
  obtain ⟨u,c,hu⟩:∃ u c,w=u++[c]:=⟨_,_,(List.dropLast_concat_getLast hne).symm⟩
  rw [hu] at hw hk
  have ku:=zX hk
  have hi:=jT _ _ (ksf.mpr ku)
  have hm:=oF _ _ (ksf.mpr ku)
  obtain ⟨i,ei⟩:∃ i,i=num (bM (found bk)) u:=⟨_,rfl⟩
  rw [← ei] at hi hm
  have lu:=((sm (inn hi) u).mp hm).2
  have lx:=p8 c lu
  have kx:=(rY (by simp) (by simp) lx).mp hk
  have nx:num (bM (found bk)) (hdW (S (bM (found bk)) i)++[c])=j:=by
   rw [wH S0.ne kx hk lx.symm]
   exact jd nf hw
  have haz':=(haz _ hk).1 c (by simp)
  refine ⟨i,hi,c,zL c (by lia) haz'.1,ksf.mpr kx,nx,?_⟩
  have h1:u.length<=(laW (S (bM (found bk)) i)).length:=nZ (found bk) _ (inn hi) u hm
  have h2:=wy i hi c (ksf.mpr kx) _ (iD (S0.ne _ (inn hi)))
  rw [nx] at h2
  have h3:=nZ (found bk) _ (inn hj) _ h2
  rw [← hwe,hu] at h3 ⊢
  rw [Zv,Zv] at h3
  rw [Zv]
  simp only [ZX] at h3 ⊢
  lia
noncomputable def lk (st:Vy) (i:Nat):Nat:=num st ((hdW (st.getD i [])).drop 1)
noncomputable def chF (st:Vy):Nat->Nat->W9
 | 0,i=>[i]
 | n+1,i=>i :: (if hdW (st.getD i [])=[] then [] else chF st n (lk st i))
structure Lk (st:Vy):Prop where
 ne:∀ s∈st,s ≠ []
 len:st.length < 1000000
 lt:∀ i < st.length,(hdW (st.getD i [])).drop 1∈st.flatten
 dn:∀ i < st.length,hdW (st.getD i []) ≠ []->(hdW (st.getD (lk st i) [])).length < (hdW (st.getD i [])).length
 sz:∀ i < st.length,(hdW (st.getD i [])).length<=120
theorem Lk.in {st:Vy} (L:Lk st) {i:Nat} (h:i < st.length):lk st i < st.length:=jT st _ (L.lt i h)
noncomputable abbrev EC (st:Vy) (c:T) (ms:W9):Env:=[some (.pu (bG st)),some (.pu c),some (.ow (.lst (ms.map fun i:Nat=>T.int (i:Int))))]
theorem su {st:Vy} (L:Lk st) {i:Nat} (h:i < st.length) (ms:W9) (hl:ms.length < 16777216):fG (EC st (.int i) ms)=some (.nx (EC st (lkT st (st.getD i [])) (ms++[i]))):=by
 unfold fG
 rw [au (η1:=EC st (.int i) (ms++[i])) (by
  rw [j4 (l:=ms.map fun i:Nat=>T.int (i:Int)) (t:=.int i) rfl (by simp) (by rw [Zt];exact hl)]
  simp)]
 rw [aI (m:=.fr) (t:=lkT st (st.getD i [])) (by
  rw [gE (x:=(.fr,bD st (st.getD i []))) (y:=(.fr,.int 2)) (by
   rw [gE (x:=(.pu,bG st)) (y:=(.fr,.int i)) (by simp [bG]) (by simp),v7 st i h]) rfl,Fe]) (by decide) (by simp)]
 rfl
theorem vJ {st:Vy} (L:Lk st) {i:Nat} (hi:i < st.length) (ms:W9) (hm:ms.length < 16777216) (f:Nat) (p:hdW (st.getD i [])=[]):dH (lU (aj 1)) fG (f+2) (EC st (.int i) ms)=some (.nx (EC st .non (ms++[i]))):=by
 rw [nO (m:=.fr) rfl (su L hi ms hm),show lkT st (st.getD i [])=.non by unfold lkT;rw [Zq p],oi (m:=.fr) rfl]
theorem ch1 {st:Vy} (L:Lk st) (n:Nat):∀ (i:Nat) (ms:W9) (f:Nat),i < st.length->(hdW (st.getD i [])).length<=n->n<=f->ms.length+n+1 < 16777216 →
  dH (lU (aj 1)) fG (f+2) (EC st (.int i) ms)=some (.nx (EC st .non (ms++chF st n i))):=by
 induction n with
 | zero=>exact fun i ms f hi hn hf hm=>vJ L hi ms (YA hm) f (Wn.mp (Nat.le_zero.mp hn))
 | succ n ih =>
  intro i ms f hi hn hf hm
  by_cases p:hdW (st.getD i [])=[]
  ·rw [chF,Zq p]
   exact vJ L hi ms (by lia) f p
  ·obtain ⟨g,rfl⟩:=Nat.exists_eq_add_of_le' hf
   have d:=L.dn i hi p
   rw [nO (m:=.fr) rfl (su L hi ms (by lia)),show lkT st (st.getD i [])=.int (lk st i:Nat) by unfold lkT lk;rw [Zn p]]
   refine (ih (lk st i) (ms++[i]) (g+n) (L.in hi) (by lia) (YB _ _) (by rw [Zv,ZX];lia)).trans ?_
   rw [chF,Zn p,Zc]
   rfl
theorem BW (st:Vy) (n i:Nat):∃ r,chF st n i=i :: r:=by
 cases n with
 | zero=>exact ⟨_,rfl⟩
 | succ n =>
  unfold chF
  split
  ·exact ⟨_,rfl⟩
  ·exact ⟨_,rfl⟩
theorem yQ {st:Vy} (L:Lk st) (k:Nat) (h:k < st.length):rR [bG st,.int k]=some (.fr,.lst ((chF st 120 k).map fun i:Nat=>T.int (i:Int))):=by
 have rf:=pb (st.map (bD st)) k (by rw [Zt];exact h)
 refine vk (g:=fh) ?_
 unfold fh
 refine xY rfl (η:=[some (.pu (bG st)),some (.pu .non),none]) ((g7 (η1:=[some (.pu (bG st)),some (.pu (.int k)),none]) (AO (pd (xs:=[(.pu,bG st),(.fr,.int k)]) rfl rf))).trans (Be ?_))
 rw [au (η1:=EC st (.int k) []) rfl]
 rw [au (η1:=EC st .non (chF st 120 k)) (by
  refine (show dH _ _ (999998+2) _=_ from ?_)
  rw [ch1 L 120 k [] 999998 h (L.sz k h) (by decide) (by decide)]
  rfl)]
 rfl
section
variable {l:Vu} {t:T} (hr:aG [.lst l,t]=some (.ex NS))
include hr
theorem jN:bF [.lst l,t]=some (.ex NS):=by
 unfold bF
 exact ff rfl (jm (iz (cQ (xs:=[VS.up .pu (.lst l),VS.up .pu t]) rfl hr)))
theorem qM:fC [.lst l,t]=some (.ex NS):=by
 unfold fC
 exact ff rfl (jm (iz (cQ (xs:=[VS.up .pu (.lst l),VS.up .pu t]) rfl (jN hr))))
theorem zU:ju [.lst l,t]=some (.ex NS):=by
 unfold ju
 exact ff rfl (jm (iz (cQ (xs:=[VS.up .pu (.lst l),VS.up .pu t]) rfl (jN hr))))
theorem zI:fh [.lst l,t]=some (.ex NS):=by
 unfold fh
 exact ff rfl (jm (iz (cQ (xs:=[VS.up .pu (.lst l),VS.up .pu t]) rfl hr)))
theorem Cp:ma [.lst l,t]=some (.ex NS):=by
 unfold ma
 exact ff rfl (jm (iz (cQ (xs:=[VS.up .pu (.lst l),VS.up .pu t]) rfl hr)))
noncomputable abbrev EQ (l:Vu) (t:T) (w:Int):Env:=[some (.pu (.lst l)),some (.pu t),some (.pu (.int w))]
omit hr in
theorem vU (l:Vu) (t:T) (w:Int):(ah (aj 0) (ah (aj 1) aA)) (EQ l t w)=some [VS.up .pu (.lst l),VS.up .pu t]:=rfl
theorem AF (w:Nat) (hw:w < 5):dP [.lst l,t,.int (w:Int)]=some (.ex NS):=by
 have r0:=iz (S:=dj) (cQ (vU l t w) (jN hr))
 have r1:=iz (S:=dj) (cQ (vU l t w) (qM hr))
 have r2:=iz (S:=dj) (cQ (vU l t w) (zU hr))
 have r3:=iz (S:=dj) (cQ (vU l t w) (zI hr))
 have r4:=iz (S:=dj) (cQ (vU l t w) (Cp hr))
 unfold dP
 obtain rfl | rfl | rfl | rfl | rfl:w=0\/w=1\/w=2\/w=3\/w=4:=by lia
 ·exact ff rfl (jm ((mM (m:=.fr) rfl).trans r0))
 ·exact ff rfl ((g7 ((iy (m:=.fr) rfl).trans rfl)).trans (jm ((mM (m:=.fr) rfl).trans r1)))
 ·exact ff rfl ((g7 ((iy (m:=.fr) rfl).trans rfl)).trans ((g7 ((iy (m:=.fr) rfl).trans rfl)).trans (jm ((mM (m:=.fr) rfl).trans r2))))
 ·exact ff rfl ((g7 ((iy (m:=.fr) rfl).trans rfl)).trans ((g7 ((iy (m:=.fr) rfl).trans rfl)).trans ((g7 ((iy (m:=.fr) rfl).trans rfl)).trans (jm ((mM (m:=.fr) rfl).trans r3)))))
 ·exact ff rfl ((g7 ((iy (m:=.fr) rfl).trans rfl)).trans ((g7 ((iy (m:=.fr) rfl).trans rfl)).trans ((g7 ((iy (m:=.fr) rfl).trans rfl)).trans ((g7 ((iy (m:=.fr) rfl).trans rfl)).trans r4))))
noncomputable abbrev ER (l:Vu) (t:T) (w:Int) (a b c:Vx):Env:=[some (.pu (.lst l)),some (.pu t),some (.pu (.int w)),a,b,c]
theorem uK (w:Nat) (hw:w < 5):dy [.lst l,t,.int (w:Int)]=some (.fr,.bl true):=by
 have hA:=AF hr w hw
 have hT:=iz (S:=fun c=>sX (xP c)) (cQ (g:=dP) (cs:=ah (aj 0) (ah (aj 1) (ah (aj 2) aA))) (η:=ER l t w (some (.pu .non)) none none) (xs:=[VS.up .pu (.lst l),VS.up .pu t,(.fr,.int w)]) rfl hA)
 unfold dy
 refine iu rfl (η:=ER l t w (some (.pu (.obj 0 []))) (some (.pu (.lst [.bl false,.bl false,.bl false,.bl false,.bl false,.bl false,.bl false,.bl false]))) none) ?_
 refine (show av _ _ (ER l t w none none none)=_ from ?_)
 rw [au (η1:=ER l t w (some (.pu .non)) none none) rfl]
 rw [au (η1:=ER l t w (some (.pu (.obj 0 []))) none none) (by
  unfold uT
  rw [hT,Zk]
  show ((mt1 NS NS).bind _)=_
  rw [show mt1 NS NS=some 0 from Zq rfl]
  rfl)]
 rfl
end
noncomputable abbrev EL (c0 c1 c2 c3 c5 c6:Vx) (l:Vu) (z7 z8 z9:Vx):Env:=[c0,c1,c2,c3,some (.pu (.lst l)),c5,c6,z7,z8,z9]
section
variable (c0 c1 c2 c3 c5 c6:Vx) (l:Vu)
theorem lw1 (t:T) (h:Odd l.length t) (w:Nat) (hw:w < 5) (z9:Vx):lG (EL c0 c1 c2 c3 c5 c6 l (some (.pu t)) (some (.pu (.int (w:Int)))) z9)=some (.nx (EL c0 c1 c2 c3 c5 c6 l (some (.pu t)) (some (.pu (.int (w:Int)))) z9)):=by
 have rf:=uK (EU l t h) w hw
 unfold lG
 exact qZ (m:=.fr) (rJ (b:=true) (aX (xs:=[VS.up .pu (.lst l),VS.up .pu t,(.fr,.int w)]) rfl rf))
theorem lw2 (t:T) (h:Odd l.length t) (z8 z9:Vx):jI (EL c0 c1 c2 c3 c5 c6 l (some (.pu t)) z8 z9)=some (.nx (EL c0 c1 c2 c3 c5 c6 l (some (.pu t)) (some (.pu (.int ((4:Nat):Int)))) z9)):=by
 have st:=fun w hw=>lw1 c0 c1 c2 c3 c5 c6 l t h w hw z9
 unfold jI
 refine (gv (l:=[T.int ((0:Nat):Int),T.int ((1:Nat):Int),T.int ((2:Nat):Int),T.int ((3:Nat):Int),T.int ((4:Nat):Int)]) rfl).trans ?_
 exact (bw rfl (st 0 (by decide))).trans ((bw rfl (st 1 (by decide))).trans ((bw rfl (st 2 (by decide))).trans ((bw rfl (st 3 (by decide))).trans ((bw rfl (st 4 (by decide))).trans rfl))))
theorem lw3 (ts:Vu):∀ z7 z8 z9:Vx,(∀ t∈ts,Odd l.length t)->∃ z7' z8',forL (bE 7) jI ts (EL c0 c1 c2 c3 c5 c6 l z7 z8 z9)=some (.nx (EL c0 c1 c2 c3 c5 c6 l z7' z8' z9)):=by
 induction ts with
 | nil=>exact fun z7 z8 z9 _=>⟨z7,z8,rfl⟩
 | cons t ts ih =>
  intro z7 z8 z9 h
  obtain ⟨y7,y8,e⟩:=ih (some (.pu t)) (some (.pu (.int ((4:Nat):Int)))) z9 fun x hx=>h x (Zx _ hx)
  exact ⟨y7,y8,(bw (η1:=EL c0 c1 c2 c3 c5 c6 l (some (.pu t)) z8 z9) rfl (lw2 c0 c1 c2 c3 c5 c6 l t (h t Zw) z8 z9)).trans e⟩
end
noncomputable def mK (n f:Int):Vu:=[.int (-1),.int n,.int (n+1+f),.int (-2 - f),.non,.bl true,.bl false,.str [],.str [48],.tup [.int 0],.lst [.int 0]]
theorem yJ (n:Nat) (f:Int) (hf:0<=f):∀ t∈mK n f,Odd n t:=by
 intro t ht
 unfold mK at ht
 rcases Zr.mp ht with rfl | ht
 ·exact .inr (.inr (.inr (.inr (.inr ⟨_,rfl,by lia⟩))))
 rcases Zr.mp ht with rfl | ht
 ·exact .inr (.inr (.inr (.inr (.inr ⟨_,rfl,by lia⟩))))
 rcases Zr.mp ht with rfl | ht
 ·exact .inr (.inr (.inr (.inr (.inr ⟨_,rfl,by lia⟩))))
 rcases Zr.mp ht with rfl | ht
 ·exact .inr (.inr (.inr (.inr (.inr ⟨_,rfl,by lia⟩))))
 rcases Zr.mp ht with rfl | ht
 ·exact .inl rfl
 rcases Zr.mp ht with rfl | ht
 ·exact .inr (.inl ⟨_,rfl⟩)
 rcases Zr.mp ht with rfl | ht
 ·exact .inr (.inl ⟨_,rfl⟩)
 rcases Zr.mp ht with rfl | ht
 ·exact .inr (.inr (.inl ⟨_,rfl⟩))
 rcases Zr.mp ht with rfl | ht
 ·exact .inr (.inr (.inl ⟨_,rfl⟩))
 rcases Zr.mp ht with rfl | ht
 ·exact .inr (.inr (.inr (.inl ⟨_,rfl⟩)))
 rcases Zr.mp ht with rfl | ht
 ·exact .inr (.inr (.inr (.inr (.inl ⟨_,rfl⟩))))
 cases ht
theorem Dh (ns:Vz) (bk:List Tx) (d:Fd) (st:Vy) (D:Sd st) (L:Lk st) (pos:0 < st.length)
  (hb:eE [.scr ns,.int 24]=some (.fr,.lst (bk.map T.str))) (hp:cY [.lst (bk.map T.str)]=some (.fr,.dct 0 (dT d))) (hsd:cZ [.dct 0 (dT d)]=some (.fr,stT st))
  (hn:cF [stT st]=some (.fr,.dct 0 (nT (nums 0 st)))) (ht:dN [stT st,.dct 0 (nT (nums 0 st))]=some (.fr,bG st)):pA [.scr ns]=some (.fr,.bl true):=by
 have sl:=D.len
 obtain ⟨n,hmx,n0,n1⟩:=gf ns 300 (by decide) (by decide)
 generalize hf:n * 10 ^ 40=f
 have f0:0<=f:=by rw [← hf];exact Int.mul_nonneg n0 (by decide)
 have tl:(st.map (bD st)).length=st.length:=Zt ..
 obtain ⟨z7,z8,e⟩:=lw3 (some (.pu (.scr ns))) (some (.pu (.lst (bk.map T.str)))) (some (.pu (stT st))) (some (.pu (bG st))) (some (.pu (.int f))) (some (.pu (.lst (mK st.length f)))) (st.map (bD st)) (mK st.length f) none none none (by rw [tl];exact yJ st.length f f0)
 have last:(st.length:Int) - 1=((st.length - 1:Nat):Int):=by lia
 have hk:st.length - 1 < st.length:=by lia
 have lo:=uX D (st.length - 1) hk
 have lc:=yQ L (st.length - 1) hk
 obtain ⟨cr,hcr⟩:=BW st 120 (st.length - 1)
 rw [hcr] at lc
 unfold pA
 refine iu rfl (η:=EL (some (.pu (.scr ns))) (some (.pu (.lst (bk.map T.str)))) (some (.pu (stT st))) (some (.pu (bG st))) (some (.pu (.int f))) (some (.pu (.lst (mK st.length f)))) (st.map (bD st)) z7 z8 (some (.pu (.int ((st.length - 1:Nat):Int))))) ?_
 refine (show av _ _ [some (.pu (.scr ns)),none,none,none,none,none,none,none,none,none]=_ from ?_)
 rw [au (η1:=[some (.pu (.scr ns)),some (.pu (.lst (bk.map T.str))),none,none,none,none,none,none,none,none]) (aI (aX (xs:=[(.fr,.scr ns),(.fr,.int 24)]) rfl hb) (by decide) (by decide:1 < 10))]
 rw [au (η1:=[some (.pu (.scr ns)),some (.pu (.lst (bk.map T.str))),some (.pu (stT st)),none,none,none,none,none,none,none]) (aI (aX (xs:=[(.fr,.dct 0 (dT d))]) (xv (aX (xs:=[(.pu,.lst (bk.map T.str))]) rfl hp) rfl) hsd) (by decide) (by decide:2 < 10))]
 rw [au (η1:=[some (.pu (.scr ns)),some (.pu (.lst (bk.map T.str))),some (.pu (stT st)),some (.pu (bG st)),none,none,none,none,none,none])
  (aI (aX (xs:=[(.pu,stT st),(.fr,.dct 0 (nT (nums 0 st)))]) (xv rfl (xv (aX (xs:=[(.pu,stT st)]) rfl hn) rfl)) ht) (by decide) (by decide:3 < 10))]
 rw [au (η1:=[some (.pu (.scr ns)),some (.pu (.lst (bk.map T.str))),some (.pu (stT st)),some (.pu (bG st)),some (.pu (bG st)),none,none,none,none,none])
  (aI (jU (xs:=[(.pu,bG st)]) rfl (CG st (by lia))) (by decide) (by decide:4 < 10))]
 rw [au (η1:=[some (.pu (.scr ns)),some (.pu (.lst (bk.map T.str))),some (.pu (stT st)),some (.pu (bG st)),some (.pu (bG st)),some (.pu (.int f)),none,none,none,none])
  (aI (m:=.fr) (t:=.int f) (e2v (y:=(.fr,.int (10 ^ 40))) (aX (xs:=[(.fr,.scr ns),(.fr,.int 300)]) rfl hmx) rfl ((jb (by lia)).trans (by rw [hf]))) (by decide) (by decide:5 < 10))]
 have ln:eN d8 (ah (aj 3) aA) [some (.pu (.scr ns)),some (.pu (.lst (bk.map T.str))),some (.pu (stT st)),some (.pu (bG st)),some (.pu (bG st)),some (.pu (.int f)),none,none,none,none]=some (.fr,.int (st.length:Nat)):=jU (xs:=[(.pu,bG st)]) rfl (by
  show some (Md.fr,T.int (((st.map (bD st)).length:Nat):Int))=_
  rw [tl])
 rw [au (η1:=EL (some (.pu (.scr ns))) (some (.pu (.lst (bk.map T.str)))) (some (.pu (stT st))) (some (.pu (bG st))) (some (.pu (.int f))) (some (.pu (.lst (mK st.length f)))) (st.map (bD st)) none none none) (aI (m:=.fr) (t:=.lst (mK st.length f)) (by
  show Option.bind (ah _ _ _) _=_
  rw [xv (x:=(.fr,.int (-1))) rfl (xv ln (xv (e2v (f:=bR) (e2v (f:=bR) ln rfl rfl) rfl rfl) (xv rfl (xv rfl (xv rfl (xv rfl (xv rfl (xv rfl (xv rfl (xv rfl rfl))))))))))]
  rfl) (by decide) (by decide:6 < 10))]
 rw [au ((ji (m:=.pu) (l:=mK st.length f) (xf rfl) rfl).trans e)]
 have ln2:eN d8 (ah (aj 3) aA) (EL (some (.pu (.scr ns))) (some (.pu (.lst (bk.map T.str)))) (some (.pu (stT st))) (some (.pu (bG st))) (some (.pu (.int f))) (some (.pu (.lst (mK st.length f)))) (st.map (bD st)) z7 z8 none)=some (.fr,.int (st.length:Nat)):=jU (xs:=[(.pu,bG st)]) rfl (by
  show some (Md.fr,T.int (((st.map (bD st)).length:Nat):Int))=_
  rw [tl])
 rw [au (η1:=EL (some (.pu (.scr ns))) (some (.pu (.lst (bk.map T.str)))) (some (.pu (stT st))) (some (.pu (bG st))) (some (.pu (.int f))) (some (.pu (.lst (mK st.length f)))) (st.map (bD st)) z7 z8 (some (.pu (.int ((st.length - 1:Nat):Int)))))
  (aI (m:=.fr) (t:=.int ((st.length - 1:Nat):Int)) (e2v ln2 rfl (show some (Md.fr,T.int ((st.length:Int) - 1))=_ by rw [last])) (by decide) (by decide:9 < 10))]
 refine kc (iO (x:=true) (e2v (x:=(.pu,bG st)) (y:=(.pu,bG st)) rfl rfl (lj (zz st))) (iO (x:=true) (y:=true) ?_ ?_))
 ·exact e2v (aX (xs:=[(.pu,bG st),(.fr,.int ((st.length - 1:Nat):Int))]) rfl lo) (e2v (e2v (x:=(.pu,stT st)) (y:=(.fr,.int ((st.length - 1:Nat):Int))) rfl rfl (Ei st (st.length - 1) hk)) rfl (AS (D.non hk))) (lj rfl)
 ·refine e2v (x:=(.fr,.int ((st.length - 1:Nat):Int))) (y:=(.fr,.int ((st.length - 1:Nat):Int))) (e2v (aX (xs:=[(.pu,bG st),(.fr,.int ((st.length - 1:Nat):Int))]) rfl lc) rfl ?_) rfl (lj rfl)
  show (ixP (_:Nat) ((0:Nat):Int)).bind _=_
  rw [kS (by rw [Zu,Zi];exact Nat.succ_pos _)]
  rfl
theorem vm (ns:Vz):pA [.scr ns]=some (.fr,.bl true):=by
 obtain ⟨bk,hb,B,hbl⟩:=C7 ns
 obtain ⟨hp,hz⟩:=vS bk B hbl
 obtain ⟨r,hd⟩:=pj bk
 have haz:=pP bk B
 have hsd:=vG (found bk) hz haz
 have S0:=vC (found bk) (by rw [hd];exact Zw)
 have D:=Dt bk B hz
 have nd:=qi bk
 have tl:=qL bk
 have nf:(bM (found bk)).flatten.Nodup:=S0.pm.nodup_iff.mpr nd
 have fl:(bM (found bk)).flatten.length<=117129:=by rw [S0.pm.length_eq,aW,Zt];exact hz.1
 have sl:=D.len
 have hm:∀ s∈bM (found bk),hdW s∈(bM (found bk)).flatten:=fun s hs=>W6.mpr ⟨s,hs,nP (S0.ne s hs)⟩
 have dr:∀ x∈(bM (found bk)).flatten,x.drop 1∈(bM (found bk)).flatten:=fun x hx=>S0.pm.mem_iff.mpr (tl x (S0.pm.mem_iff.mp hx))
 have ht:=yP (bM (found bk)) (fun s hs=>⟨S0.ne s hs,(haz _ (S0.pm.mem_iff.mp (hm s hs))).2,fun _=>dr _ (hm s hs)⟩) (by lia)
 have L:Lk (bM (found bk)):=by
  refine ⟨S0.ne,by lia,fun i hi=>dr _ (hm _ (getD_mem _ i hi)),fun i hi h=>?_,fun i hi=>(haz _ (S0.pm.mem_iff.mp (hm _ (getD_mem _ i hi)))).2⟩
  have hx:=dr _ (hm _ (getD_mem _ i hi))
  have h1:=oF _ _ hx
  have h2:=je (found bk) _ (getD_mem _ _ (jT _ _ hx)) _ h1
  have h3:0 < (hdW ((bM (found bk)).getD i [])).length:=WW.mpr h
  rw [ZR] at h2
  unfold lk
  omega
 obtain ⟨a,b,hst⟩:=S0.hd
 exact Dh ns bk (found bk) (bM (found bk)) D L (by rw [hst];exact Nat.succ_pos _) hb hp hsd (ui _ nf (by lia)) ht
end T16
end
section
namespace T16
open PySem PySem.Spec PyProof.Rows L2 VS
noncomputable def top (i:Nat):Stmt:=PySem.Challenge.pw_allparts_k16_stands_refused.main.body.getD i (.Pass ⟨0,0,0,0⟩)
structure Blt (mg:Xm):Prop where
 b_ValueError:mg "ValueError" = none
 b_any:mg "any" = none
 b_bool:mg "bool" = none
 b_enumerate:mg "enumerate" = none
 b_int:mg "int" = none
 b_isinstance:mg "isinstance" = none
 b_len:mg "len" = none
 b_list:mg "list" = none
 b_min:mg "min" = none
 b_range:mg "range" = none
 b_sorted:mg "sorted" = none
 b_tuple:mg "tuple" = none
structure Xcl (K:Xy) (mg:Xm) (C:Addr):Prop where
 m:mg "NoStand" = some (.ref C)
 q:PySem.W.excIn K C [.type "ValueError",.type "Exception",.type "BaseException",.type "object"] "ValueError.__new__" = true
 x:XN.XCl K C
 p_PartError:∃ D,mg "PartError" = some (.ref D)/\PySem.W.exmOne K (.ref C) (.ref D)=some true
 k_NoBook:∃ D,mg "NoBook" = some (.ref D)/\PySem.W.kitOne K (.ref C) (.ref D)=some false
 k_NoNumber:∃ D,mg "NoNumber" = some (.ref D)/\PySem.W.kitOne K (.ref C) (.ref D)=some false
 k_NoRow:∃ D,mg "NoRow" = some (.ref D)/\PySem.W.kitOne K (.ref C) (.ref D)=some false
 k_NoStand:∃ D,mg "NoStand" = some (.ref D)/\PySem.W.kitOne K (.ref C) (.ref D)=some true
 k_NoTable:∃ D,mg "NoTable" = some (.ref D)/\PySem.W.kitOne K (.ref C) (.ref D)=some false
 k_NoText:∃ D,mg "NoText" = some (.ref D)/\PySem.W.kitOne K (.ref C) (.ref D)=some false
 k_NoWord:∃ D,mg "NoWord" = some (.ref D)/\PySem.W.kitOne K (.ref C) (.ref D)=some false
 k_TooMany:∃ D,mg "TooMany" = some (.ref D)/\PySem.W.kitOne K (.ref C) (.ref D)=some false
 k_ValueError:PySem.W.kitOne K (.ref C) (.type "ValueError")=some true
section
variable {P:Program} {w:World} {K:Xy} {mg:Xm} {base:Heap} {C:Addr}
noncomputable abbrev ef:Stmt:=top 11
theorem pf:FnScope ["thing"] ["thing"] (ao ef):=⟨rfl,rfl,rfl,by decide +kernel,rfl,by decide +kernel,by decide +kernel⟩
theorem fB {f:Addr} {fd:FuncData} (F:Fun K "is_whole" "is_whole" ef f fd) (hm:mg "is_whole" = some (.ref f)) (B:Blt mg) (Z:Xcl K mg C) :
  FnAt P w K mg base 1 "is_whole" ["thing"] (gxE K C) fA:=gc F hm pf rfl rfl (fun _ _ _ _ _ _ us hl=>by obtain ⟨_,rfl⟩:=L2.n8 hl;rfl) fun cdv A outer s H E hr =>
  (ar (bt (jF (wR .int B.b_isinstance B.b_int (aa 0 rfl (Or.inl rfl) rfl rfl) rfl rfl rfl rfl) (lQ (lP (wR .bool B.b_isinstance B.b_bool (aa 0 rfl (Or.inl rfl) rfl rfl) rfl rfl rfl rfl))))))
noncomputable abbrev bB:Stmt:=top 16
theorem iZ:FnScope ["table", "stand"] ["table", "stand"] (ao bB):=⟨rfl,rfl,rfl,by decide +kernel,rfl,by decide +kernel,by decide +kernel⟩
theorem aO {f:Addr} {fd:FuncData} (F:Fun K "refuse_no_stand" "refuse_no_stand" bB f fd) (hm:mg "refuse_no_stand" = some (.ref f)) (B:Blt mg) (Z:Xcl K mg C) (fB:FnAt P w K mg base 1 "is_whole" ["thing"] (gxE K C) fA) :
  FnXt P w K mg base 2 "refuse_no_stand" ["table", "stand"] (gxE K C) aG:=iU F hm iZ rfl rfl (fun _ _ _ _ _ _ us hl=>by obtain ⟨_,_,rfl⟩:=L2.kF hl;rfl) fun cdv A outer s H E hr =>
  (eV (jl (jY (xS (kl (m8 (aQ fB hr (ae (aa 1 rfl (Or.inl rfl) rfl rfl) ag rfl) (by decide) rfl rfl rfl rfl) rfl (fun _=>rfl))) (uB (kl (kj af (aa 1 rfl (Or.inl rfl) rfl rfl) (cm B.b_len (ae (aa 0 rfl (Or.inl rfl) rfl rfl) ag rfl) rfl rfl rfl) (by with_unfolding_all rfl)))))) (eV (qN Z.q Z.m rfl rfl (ae (d4 (by decide +kernel) (by decide)) ag rfl) rfl rfl rfl rfl)) (bV bH)))
noncomputable abbrev b6:Stmt:=top 17
theorem cE:FnScope ["table", "before", "number", "row", "way"] ["table"] (ao b6):=⟨rfl,rfl,rfl,by decide +kernel,rfl,by decide +kernel,by decide +kernel⟩
theorem cN {f:Addr} {fd:FuncData} (F:Fun K "steps_before" "steps_before" b6 f fd) (hm:mg "steps_before" = some (.ref f)) (B:Blt mg) (Z:Xcl K mg C) :
  FnAt P w K mg base 1 "steps_before" ["table"] (gxE K C) cT:=gc F hm cE rfl rfl (fun _ _ _ _ _ _ us hl=>by obtain ⟨_,rfl⟩:=L2.n8 hl;rfl) fun cdv A outer s H E hr =>
  (ak (cW qE cE.nd rfl (Or.inl rfl) rfl (Or.inl rfl))
  (ak (bh Yy rfl (gS (aa 0 rfl (Or.inl rfl) rfl rfl) rfl B.b_enumerate rfl rfl) (iC rfl (b9 (aJ 2 cE.nd rfl (Or.inl rfl) (Or.inl rfl)) (b9 (aJ 3 cE.nd rfl (Or.inl rfl) (Or.inl rfl)) gI rfl) rfl) rfl rfl rfl)
  (ar (bh Yy rfl (fj (aL (aa 3 rfl (Or.inl rfl) rfl rfl) af (fun _ _=>rfl) rfl) rfl) (aJ 4 cE.nd rfl (Or.inl rfl) (Or.inl rfl))
  (ar (dX (fQ hr (aL (aL (aa 0 rfl (Or.inl rfl) rfl rfl) (aL (aa 4 rfl (Or.inl rfl) rfl rfl) af (fun _ _=>rfl) rfl) (fun _ _=>rfl) rfl) af (fun _ _=>rfl) rfl) (aY (aL (aa 3 rfl (Or.inl rfl) rfl rfl) af (fun _ _=>rfl) rfl) af)) (ar (pK 1 hr (aL (aa 4 rfl (Or.inl rfl) rfl rfl) af (fun _ _=>rfl) rfl) (gz (ae (aa 2 rfl (Or.inl rfl) rfl rfl) (ae (aL (aa 4 rfl (Or.inl rfl) rfl rfl) af (fun _ _=>rfl) rfl) ag rfl) rfl)) rfl (Or.inl rfl) rfl rfl (fun _=>rfl) rfl rfl rfl)) bH)) (fun _=>rfl))) (fun _=>rfl))
  (ar (dI 1 rfl (Or.inl rfl) rfl rfl))))
noncomputable abbrev fq:Stmt:=top 13
theorem eD:FnScope ["table", "stand", "before", "word", "step"] ["table", "stand"] (ao fq):=⟨rfl,rfl,rfl,by decide +kernel,rfl,by decide +kernel,by decide +kernel⟩
theorem bz {f:Addr} {fd:FuncData} (F:Fun K "longest" "longest" fq f fd) (hm:mg "longest" = some (.ref f)) (B:Blt mg) (Z:Xcl K mg C) (aO:FnXt P w K mg base 2 "refuse_no_stand" ["table", "stand"] (gxE K C) aG) (cN:FnAt P w K mg base 1 "steps_before" ["table"] (gxE K C) cT) :
  FnXt P w K mg base 3 "longest" ["table", "stand"] (gxE K C) bF:=iU F hm eD rfl rfl (fun _ _ _ _ _ _ us hl=>by obtain ⟨_,_,rfl⟩:=L2.kF hl;rfl) fun cdv A outer s H E hr =>
  (dc (iK (b5 aO hr (ae (aa 0 rfl (Or.inl rfl) rfl rfl) (ae (aa 1 rfl (Or.inl rfl) rfl rfl) ag rfl) rfl) (by decide) rfl rfl rfl rfl rfl) rfl)
  (bV (ak (aq (aQ cN hr (ae (aa 0 rfl (Or.inl rfl) rfl rfl) ag rfl) (by decide) rfl rfl rfl rfl) eD.nd rfl (Or.inl rfl) rfl (Or.inl rfl))
  (ak (aq (d4 (by decide +kernel) (by decide)) eD.nd rfl (Or.inl rfl) rfl (Or.inl rfl))
  (ak (kB Yy (sG hr (aa 1 rfl (Or.inl rfl) rfl rfl) af)
  (ak (aq (nN hr (aa 2 rfl (Or.inl rfl) rfl rfl) (aa 1 rfl (Or.inl rfl) rfl rfl) (fun _ _=>rfl) rfl) eD.nd rfl (Or.inl rfl) rfl (Or.inl rfl))
  (ak (aq (aY (aL (aa 4 rfl (Or.inl rfl) rfl rfl) af (fun _ _=>rfl) rfl) (aa 3 rfl (Or.inl rfl) rfl rfl)) eD.nd rfl (Or.inl rfl) rfl (Or.inl rfl))
  (ar (aq (aL (aa 4 rfl (Or.inl rfl) rfl rfl) af (fun _ _=>rfl) rfl) eD.nd rfl (Or.inl rfl) rfl (Or.inl rfl))))))
  (ar (dI 3 rfl (Or.inl rfl) rfl rfl)))))))
noncomputable abbrev eg:Stmt:=top 14
theorem kn:FnScope ["table", "stand", "word"] ["table", "stand"] (ao eg):=⟨rfl,rfl,rfl,by decide +kernel,rfl,by decide +kernel,by decide +kernel⟩
theorem fF {f:Addr} {fd:FuncData} (F:Fun K "shortest" "shortest" eg f fd) (hm:mg "shortest" = some (.ref f)) (B:Blt mg) (Z:Xcl K mg C) (bz:FnXt P w K mg base 3 "longest" ["table", "stand"] (gxE K C) bF) :
  FnXt P w K mg base 4 "shortest" ["table", "stand"] (gxE K C) fC:=iU F hm kn rfl rfl (fun _ _ _ _ _ _ us hl=>by obtain ⟨_,_,rfl⟩:=L2.kF hl;rfl) fun cdv A outer s H E hr =>
  (dc (oP 2 (b5 bz hr (ae (aa 0 rfl (Or.inl rfl) rfl rfl) (ae (aa 1 rfl (Or.inl rfl) rfl rfl) ag rfl) rfl) (by decide) rfl rfl rfl rfl rfl) kn.nd rfl (Or.inl rfl) rfl (Or.inl rfl))
  (bV (ar (bt (eJ (aa 2 rfl (Or.inl rfl) rfl rfl) (cU (fY (cm B.b_len (ae (aa 2 rfl (Or.inl rfl) rfl rfl) ag rfl) rfl rfl rfl) (aL (aL (aa 0 rfl (Or.inl rfl) rfl rfl) (aa 1 rfl (Or.inl rfl) rfl rfl) (fun _ _=>rfl) rfl) af (fun _ _=>rfl) rfl))) gJ rfl)))))
noncomputable abbrev iF:Stmt:=top 15
theorem qI:FnScope ["table", "stand", "word"] ["table", "stand"] (ao iF):=⟨rfl,rfl,rfl,by decide +kernel,rfl,by decide +kernel,by decide +kernel⟩
theorem jw {f:Addr} {fd:FuncData} (F:Fun K "words" "words" iF f fd) (hm:mg "words" = some (.ref f)) (B:Blt mg) (Z:Xcl K mg C) (bz:FnXt P w K mg base 3 "longest" ["table", "stand"] (gxE K C) bF) :
  FnXt P w K mg base 4 "words" ["table", "stand"] (gxE K C) ju:=iU F hm qI rfl rfl (fun _ _ _ _ _ _ us hl=>by obtain ⟨_,_,rfl⟩:=L2.kF hl;rfl) fun cdv A outer s H E hr =>
  (dc (oP 2 (b5 bz hr (ae (aa 0 rfl (Or.inl rfl) rfl rfl) (ae (aa 1 rfl (Or.inl rfl) rfl rfl) ag rfl) rfl) (by decide) rfl rfl rfl rfl rfl) qI.nd rfl (Or.inr rfl) rfl (Or.inl rfl))
  (bV (ar (bt (nI 1 ["long", "table", "stand", "word"] rfl (nS (aL (aL (aa 0 rfl (Or.inl rfl) rfl rfl) (aa 1 rfl (Or.inl rfl) rfl rfl) (fun _ _=>rfl) rfl) af (fun _ _=>rfl) rfl) (aY (aL (aL (aa 0 rfl (Or.inl rfl) rfl rfl) (aa 1 rfl (Or.inl rfl) rfl rfl) (fun _ _=>rfl) rfl) af (fun _ _=>rfl) rfl) af) rfl B.b_range rfl rfl rfl rfl) (kM (by decide)) (fun _ _ _ _ _=>(aJ 0 (show List.Nodup (["long", "table", "stand", "word"]:List Str) from by decide +kernel) rfl (Or.inl rfl) (Or.inr rfl))) (fun _ _ _ _ _=>(eJ (aa 3 rfl (Or.inr (Or.inl rfl)) rfl rfl) (cU (fY (cm B.b_len (ae (aa 3 rfl (Or.inr (Or.inl rfl)) rfl rfl) ag rfl) rfl rfl rfl) (aa 0 rfl (Or.inl rfl) rfl rfl))) gJ rfl)) rfl rfl (by decide) (fun _=>rfl))))))
noncomputable abbrev iN:Stmt:=top 19
theorem mh:FnScope ["table", "stand", "met"] ["table", "stand"] (ao iN):=⟨rfl,rfl,rfl,by decide +kernel,rfl,by decide +kernel,by decide +kernel⟩
theorem fO {f:Addr} {fd:FuncData} (F:Fun K "chain" "chain" iN f fd) (hm:mg "chain" = some (.ref f)) (B:Blt mg) (Z:Xcl K mg C) (aO:FnXt P w K mg base 2 "refuse_no_stand" ["table", "stand"] (gxE K C) aG) :
  FnXt P w K mg base 3 "chain" ["table", "stand"] (gxE K C) fh:=iU F hm mh rfl rfl (fun _ _ _ _ _ _ us hl=>by obtain ⟨_,_,rfl⟩:=L2.kF hl;rfl) fun cdv A outer s H E hr =>
  (dc (iK (b5 aO hr (ae (aa 0 rfl (Or.inl rfl) rfl rfl) (ae (aa 1 rfl (Or.inl rfl) rfl rfl) ag rfl) rfl) (by decide) rfl rfl rfl rfl rfl) rfl)
  (bV (ak (cW (bQ ag) mh.nd rfl (Or.inl rfl) rfl (Or.inl rfl))
  (ak (kB Yy (uH (aa 1 rfl (Or.inl rfl) rfl rfl))
  (ak (eO 2 (ae (aa 1 rfl (Or.inl rfl) rfl rfl) ag rfl) rfl rfl (Or.inl rfl) rfl rfl rfl rfl rfl)
  (ar (aq (aL (aL (aa 0 rfl (Or.inl rfl) rfl rfl) (aa 1 rfl (Or.inl rfl) rfl rfl) (fun _ _=>rfl) rfl) af (fun _ _=>rfl) rfl) mh.nd rfl (Or.inl rfl) rfl (Or.inl rfl)))))
  (ar (dI 2 rfl (Or.inl rfl) rfl rfl))))))
noncomputable abbrev kh:Stmt:=top 20
theorem zR:FnScope ["table", "stand"] ["table", "stand"] (ao kh):=⟨rfl,rfl,rfl,by decide +kernel,rfl,by decide +kernel,by decide +kernel⟩
theorem lH {f:Addr} {fd:FuncData} (F:Fun K "kids" "kids" kh f fd) (hm:mg "kids" = some (.ref f)) (B:Blt mg) (Z:Xcl K mg C) (aO:FnXt P w K mg base 2 "refuse_no_stand" ["table", "stand"] (gxE K C) aG) :
  FnXt P w K mg base 3 "kids" ["table", "stand"] (gxE K C) ma:=iU F hm zR rfl rfl (fun _ _ _ _ _ _ us hl=>by obtain ⟨_,_,rfl⟩:=L2.kF hl;rfl) fun cdv A outer s H E hr =>
  (dc (iK (b5 aO hr (ae (aa 0 rfl (Or.inl rfl) rfl rfl) (ae (aa 1 rfl (Or.inr (Or.inl rfl)) rfl rfl) ag rfl) rfl) (by decide) rfl rfl rfl rfl rfl) rfl)
  (bV (ar (bt (pF 2 ["number", "row", "table", "stand"] rfl (gS (aa 0 rfl (Or.inl rfl) rfl rfl) rfl B.b_enumerate rfl rfl) (wD (kM (by decide)) (kM (by decide))) (fun _ _ _ _ _=>(iC rfl (b9 (aJ 0 (show List.Nodup (["number", "row", "table", "stand"]:List Str) from by decide +kernel) rfl (Or.inl rfl) (Or.inr rfl)) (b9 (aJ 1 (show List.Nodup (["number", "row", "table", "stand"]:List Str) from by decide +kernel) rfl (Or.inl rfl) (Or.inr rfl)) gI rfl) rfl) rfl rfl rfl)) (fun _ _ _ _ _=>(fQ hr (aL (aa 1 rfl (Or.inl rfl) rfl rfl) af (fun _ _=>rfl) rfl) (aa 3 rfl (Or.inr (Or.inl rfl)) rfl rfl))) (fun _ _ _ _ _=>(aa 0 rfl (Or.inl rfl) rfl rfl)) rfl rfl (by decide) (fun _=>rfl))))))
noncomputable abbrev eP:Stmt:=top 22
theorem qx:FnScope ["_law_script", "_law_k"] ["_law_script", "_law_k"] (ao eP):=⟨rfl,rfl,rfl,by decide +kernel,rfl,by decide +kernel,by decide +kernel⟩
theorem eG {f:Addr} {fd:FuncData} (F:Fun K "_law_cell" "_law_cell" eP f fd) (hm:mg "_law_cell" = some (.ref f)) (B:Blt mg) (Z:Xcl K mg C) :
  FnAt P w K mg base 1 "_law_cell" ["_law_script", "_law_k"] (gxE K C) eL:=gc F hm qx rfl rfl (fun _ _ _ _ _ _ us hl=>by obtain ⟨_,_,rfl⟩:=L2.kF hl;rfl) fun cdv A outer s H E hr =>
  (ak (dX (zW (aa 1 rfl (Or.inl rfl) rfl rfl) (cm B.b_len (ae (aa 0 rfl (Or.inl rfl) rfl rfl) ag rfl) rfl rfl rfl)) (ar (bt (aL (aa 0 rfl (Or.inl rfl) rfl rfl) (aa 1 rfl (Or.inl rfl) rfl rfl) (fun _ _=>rfl) rfl))) bH)
  (ar (bt af)))
noncomputable abbrev dM:Stmt:=top 23
theorem cX:FnScope ["_law_script", "_law_k", "_law_cell_here", "_law_number"] ["_law_script", "_law_k"] (ao dM):=⟨rfl,rfl,rfl,by decide +kernel,rfl,by decide +kernel,by decide +kernel⟩
theorem aP {f:Addr} {fd:FuncData} (F:Fun K "_law_mixed" "_law_mixed" dM f fd) (hm:mg "_law_mixed" = some (.ref f)) (B:Blt mg) (Z:Xcl K mg C) :
  FnAt P w K mg base 1 "_law_mixed" ["_law_script", "_law_k"] (gxE K C) aM:=gc F hm cX rfl rfl (fun _ _ _ _ _ _ us hl=>by obtain ⟨_,_,rfl⟩:=L2.kF hl;rfl) fun cdv A outer s H E hr =>
  (ak (aq af cX.nd rfl (Or.inl rfl) rfl (Or.inl rfl))
  (ak (dX (oA (cm B.b_len (ae (aa 0 rfl (Or.inl rfl) rfl rfl) ag rfl) rfl rfl rfl) af) (ar (aq (aL (aa 0 rfl (Or.inl rfl) rfl rfl) (bq (aa 1 rfl (Or.inl rfl) rfl rfl) (cm B.b_len (ae (aa 0 rfl (Or.inl rfl) rfl rfl) ag rfl) rfl rfl rfl)) (fun _ _=>rfl) rfl) cX.nd rfl (Or.inl rfl) rfl (Or.inl rfl))) bH)
  (ak (aq (bq (dW (aY (aY (bq (aa 2 rfl (Or.inl rfl) rfl rfl) af) (dW af (aa 1 rfl (Or.inl rfl) rfl rfl))) af) af) af) cX.nd rfl (Or.inl rfl) rfl (Or.inl rfl))
  (ak (aq (bq (dW (aa 3 rfl (Or.inl rfl) rfl rfl) (aa 3 rfl (Or.inl rfl) rfl rfl)) af) cX.nd rfl (Or.inl rfl) rfl (Or.inl rfl))
  (ak (aq (bq (dW (aY (aa 3 rfl (Or.inl rfl) rfl rfl) (aa 1 rfl (Or.inl rfl) rfl rfl)) af) af) cX.nd rfl (Or.inl rfl) rfl (Or.inl rfl))
  (ar (bt (dU (bq (dW (aa 3 rfl (Or.inl rfl) rfl rfl) (aa 3 rfl (Or.inl rfl) rfl rfl)) af) af))))))))
noncomputable abbrev dR:Stmt:=top 24
theorem gH:FnScope ["_law_cell_here", "_law_start", "_law_step"] ["_law_cell_here"] (ao dR):=⟨rfl,rfl,rfl,by decide +kernel,rfl,by decide +kernel,by decide +kernel⟩
theorem b8 {f:Addr} {fd:FuncData} (F:Fun K "_law_signs" "_law_signs" dR f fd) (hm:mg "_law_signs" = some (.ref f)) (B:Blt mg) (Z:Xcl K mg C) :
  FnAt P w K mg base 1 "_law_signs" ["_law_cell_here"] (gxE K C) cO:=gc F hm gH rfl rfl (fun _ _ _ _ _ _ us hl=>by obtain ⟨_,rfl⟩:=L2.n8 hl;rfl) fun cdv A outer s H E hr =>
  (ak (aq (bq (aa 0 rfl (Or.inl rfl) rfl rfl) af) gH.nd rfl (Or.inr rfl) rfl (Or.inl rfl))
  (ak (aq (aL (bQ (ae af (ae af (ae af (ae af (ae af ag rfl) rfl) rfl) rfl) rfl)) (bq (dU (aa 0 rfl (Or.inl rfl) rfl rfl) af) af) (fun _ _=>rfl) rfl) gH.nd rfl (Or.inr rfl) rfl (Or.inl rfl))
  (ar (bt (nI 1 ["_law_k", "_law_cell_here", "_law_start", "_law_step"] rfl (bS af rfl B.b_range rfl rfl) (kM (by decide)) (fun _ _ _ _ _=>(aJ 0 (show List.Nodup (["_law_k", "_law_cell_here", "_law_start", "_law_step"]:List Str) from by decide +kernel) rfl (Or.inl rfl) (Or.inr rfl))) (fun _ _ _ _ _=>(aL (d4 (by decide +kernel) (by decide)) (bq (aY (aa 2 rfl (Or.inr (Or.inl rfl)) rfl rfl) (dW (aa 3 rfl (Or.inr (Or.inl rfl)) rfl rfl) (aa 0 rfl (Or.inl rfl) rfl rfl))) af) (fun _ _=>rfl) rfl)) rfl rfl (by decide) (fun _=>rfl))))))
noncomputable abbrev bO:Stmt:=top 25
theorem aE:FnScope ["_law_cell_here", "_law_signs_here", "_law_some", "_law_many", "_law_room", "_law_book_here", "_law_k", "_law_size", "_law_text", "_law_j"] ["_law_cell_here"] (ao bO):=⟨rfl,rfl,rfl,by decide +kernel,rfl,by decide +kernel,by decide +kernel⟩
theorem cy {f:Addr} {fd:FuncData} (F:Fun K "_law_by_digits" "_law_by_digits" bO f fd) (hm:mg "_law_by_digits" = some (.ref f)) (B:Blt mg) (Z:Xcl K mg C) (b8:FnAt P w K mg base 1 "_law_signs" ["_law_cell_here"] (gxE K C) cO) :
  FnAt P w K mg base 2 "_law_by_digits" ["_law_cell_here"] (gxE K C) cB:=gc F hm aE rfl rfl (fun _ _ _ _ _ _ us hl=>by obtain ⟨_,rfl⟩:=L2.n8 hl;rfl) fun cdv A outer s H E hr =>
  (ak (aq (aQ b8 hr (ae (aa 0 rfl (Or.inl rfl) rfl rfl) ag rfl) (by decide) rfl rfl rfl rfl) aE.nd rfl (Or.inl rfl) rfl (Or.inl rfl))
  (ak (aq (aL (bQ (ae af (ae af (ae af (ae af (ae af (ae af (ae af (ae af ag rfl) rfl) rfl) rfl) rfl) rfl) rfl) rfl)) (bq (dU (aa 0 rfl (Or.inl rfl) rfl rfl) af) af) (fun _ _=>rfl) rfl) aE.nd rfl (Or.inl rfl) rfl (Or.inl rfl))
  (ak (aq (bq (dU (aa 0 rfl (Or.inl rfl) rfl rfl) af) af) aE.nd rfl (Or.inl rfl) rfl (Or.inl rfl))
  (ak (aq (dU (aa 0 rfl (Or.inl rfl) rfl rfl) af) aE.nd rfl (Or.inl rfl) rfl (Or.inl rfl))
  (ak (aq af aE.nd rfl (Or.inl rfl) rfl (Or.inl rfl))
  (ak (cW (bQ ag) aE.nd rfl (Or.inl rfl) rfl (Or.inl rfl))
  (ak (bh Yy rfl (bS (aa 3 rfl (Or.inl rfl) rfl rfl) rfl B.b_range rfl rfl) (aJ 6 aE.nd rfl (Or.inl rfl) (Or.inl rfl))
  (ak (aq (qj B.b_min (ae (aa 4 rfl (Or.inl rfl) rfl rfl) (ae (bq (aa 0 rfl (Or.inl rfl) rfl rfl) af) ag rfl) rfl) rfl rfl rfl rfl) aE.nd rfl (Or.inl rfl) rfl (Or.inl rfl))
  (ak (aq (dU (aa 0 rfl (Or.inl rfl) rfl rfl) af) aE.nd rfl (Or.inl rfl) rfl (Or.inl rfl))
  (ak (aq (fY (aa 4 rfl (Or.inl rfl) rfl rfl) (aa 7 rfl (Or.inl rfl) rfl rfl)) aE.nd rfl (Or.inl rfl) rfl (Or.inl rfl))
  (ak (aq (d4 (by decide +kernel) (by decide)) aE.nd rfl (Or.inl rfl) rfl (Or.inl rfl))
  (ak (bh Yy rfl (bS (aa 7 rfl (Or.inl rfl) rfl rfl) rfl B.b_range rfl rfl) (aJ 9 aE.nd rfl (Or.inl rfl) (Or.inl rfl))
  (ak (aq (aY (aa 8 rfl (Or.inl rfl) rfl rfl) (aL (aa 1 rfl (Or.inl rfl) rfl rfl) (bq (aa 0 rfl (Or.inl rfl) rfl rfl) (aa 2 rfl (Or.inl rfl) rfl rfl)) (fun _ _=>rfl) rfl)) aE.nd rfl (Or.inl rfl) rfl (Or.inl rfl))
  (ar (aq (dU (aa 0 rfl (Or.inl rfl) rfl rfl) (aa 2 rfl (Or.inl rfl) rfl rfl)) aE.nd rfl (Or.inl rfl) rfl (Or.inl rfl)))) (fun _=>rfl))
  (ar (eO 5 (ae (aa 8 rfl (Or.inl rfl) rfl rfl) ag rfl) rfl rfl (Or.inl rfl) rfl rfl rfl rfl rfl))))))) (fun _=>rfl))
  (ar (dI 5 rfl (Or.inl rfl) rfl rfl)))))))))
noncomputable abbrev bN:Stmt:=top 26
theorem aF:FnScope ["_law_script", "_law_most", "_law_signs_here", "_law_some", "_law_room", "_law_book_here", "_law_k", "_law_size", "_law_back", "_law_text", "_law_j", "_law_number"] ["_law_script", "_law_most"] (ao bN):=⟨rfl,rfl,rfl,by decide +kernel,rfl,by decide +kernel,by decide +kernel⟩
theorem cC {f:Addr} {fd:FuncData} (F:Fun K "_law_by_mixing" "_law_by_mixing" bN f fd) (hm:mg "_law_by_mixing" = some (.ref f)) (B:Blt mg) (Z:Xcl K mg C) (aP:FnAt P w K mg base 1 "_law_mixed" ["_law_script", "_law_k"] (gxE K C) aM) (b8:FnAt P w K mg base 1 "_law_signs" ["_law_cell_here"] (gxE K C) cO) :
  FnAt P w K mg base 2 "_law_by_mixing" ["_law_script", "_law_most"] (gxE K C) cx:=gc F hm aF rfl rfl (fun _ _ _ _ _ _ us hl=>by obtain ⟨_,_,rfl⟩:=L2.kF hl;rfl) fun cdv A outer s H E hr =>
  (ak (aq (aQ b8 hr (ae (aQ aP hr (ae (aa 0 rfl (Or.inl rfl) rfl rfl) (ae af ag rfl) rfl) (by decide) rfl rfl rfl rfl) ag rfl) (by decide) rfl rfl rfl rfl) aF.nd rfl (Or.inl rfl) rfl (Or.inl rfl))
  (ak (aq (aL (bQ (ae af (ae af (ae af (ae af (ae af (ae af (ae af (ae af ag rfl) rfl) rfl) rfl) rfl) rfl) rfl) rfl)) (bq (aQ aP hr (ae (aa 0 rfl (Or.inl rfl) rfl rfl) (ae af ag rfl) rfl) (by decide) rfl rfl rfl rfl) af) (fun _ _=>rfl) rfl) aF.nd rfl (Or.inl rfl) rfl (Or.inl rfl))
  (ak (aq (aa 1 rfl (Or.inl rfl) rfl rfl) aF.nd rfl (Or.inl rfl) rfl (Or.inl rfl))
  (ak (cW (bQ ag) aF.nd rfl (Or.inl rfl) rfl (Or.inl rfl))
  (ak (bh Yy rfl (bS (bq (aQ aP hr (ae (aa 0 rfl (Or.inl rfl) rfl rfl) (ae af ag rfl) rfl) (by decide) rfl rfl rfl rfl) af) rfl B.b_range rfl rfl) (aJ 6 aF.nd rfl (Or.inl rfl) (Or.inl rfl))
  (ak (aq (qj B.b_min (ae (aa 4 rfl (Or.inl rfl) rfl rfl) (ae (bq (aQ aP hr (ae (aa 0 rfl (Or.inl rfl) rfl rfl) (ae (aY (dW af (aa 6 rfl (Or.inl rfl) rfl rfl)) af) ag rfl) rfl) (by decide) rfl rfl rfl rfl) (aY (aa 1 rfl (Or.inl rfl) rfl rfl) af)) ag rfl) rfl) rfl rfl rfl rfl) aF.nd rfl (Or.inl rfl) rfl (Or.inl rfl))
  (ak (aq (fY (aa 4 rfl (Or.inl rfl) rfl rfl) (aa 7 rfl (Or.inl rfl) rfl rfl)) aF.nd rfl (Or.inl rfl) rfl (Or.inl rfl))
  (ak (aq (aY af (bq (aQ aP hr (ae (aa 0 rfl (Or.inl rfl) rfl rfl) (ae (aY (dW af (aa 6 rfl (Or.inl rfl) rfl rfl)) af) ag rfl) rfl) (by decide) rfl rfl rfl rfl) af)) aF.nd rfl (Or.inl rfl) rfl (Or.inl rfl))
  (ak (aq (d4 (by decide +kernel) (by decide)) aF.nd rfl (Or.inl rfl) rfl (Or.inl rfl))
  (ak (bh Yy rfl (bS (aa 7 rfl (Or.inl rfl) rfl rfl) rfl B.b_range rfl rfl) (aJ 10 aF.nd rfl (Or.inl rfl) (Or.inl rfl))
  (ak (aq (aQ aP hr (ae (aa 0 rfl (Or.inl rfl) rfl rfl) (ae (aY (aY (dW af (aa 6 rfl (Or.inl rfl) rfl rfl)) af) (aa 10 rfl (Or.inl rfl) rfl rfl)) ag rfl) rfl) (by decide) rfl rfl rfl rfl) aF.nd rfl (Or.inl rfl) rfl (Or.inl rfl))
  (ar (dX (jY (kf (sI (cm B.b_len (ae (aa 9 rfl (Or.inl rfl) rfl rfl) ag rfl) rfl rfl rfl) (aa 8 rfl (Or.inl rfl) rfl rfl)) (mD (oA (bq (aa 11 rfl (Or.inl rfl) rfl rfl) af) af)))) (ar (aq (aY (aa 9 rfl (Or.inl rfl) rfl rfl) (aL (aa 9 rfl (Or.inl rfl) rfl rfl) (fY (cm B.b_len (ae (aa 9 rfl (Or.inl rfl) rfl rfl) ag rfl) rfl rfl rfl) (aa 8 rfl (Or.inl rfl) rfl rfl)) (fun _ _=>rfl) rfl)) aF.nd rfl (Or.inl rfl) rfl (Or.inl rfl))) (ar (aq (aY (aa 9 rfl (Or.inl rfl) rfl rfl) (aL (aa 2 rfl (Or.inl rfl) rfl rfl) (bq (dU (aa 11 rfl (Or.inl rfl) rfl rfl) af) (aa 3 rfl (Or.inl rfl) rfl rfl)) (fun _ _=>rfl) rfl)) aF.nd rfl (Or.inl rfl) rfl (Or.inl rfl)))))) (fun _=>rfl))
  (ak (eO 5 (ae (aa 9 rfl (Or.inl rfl) rfl rfl) ag rfl) rfl rfl (Or.inl rfl) rfl rfl rfl rfl rfl)
  (ar (dX (jY (kf (oA (aa 7 rfl (Or.inl rfl) rfl rfl) af) (kf (fQ hr (bq (aQ aP hr (ae (aa 0 rfl (Or.inl rfl) rfl rfl) (ae (aY (dW af (aa 6 rfl (Or.inl rfl) rfl rfl)) af) ag rfl) rfl) (by decide) rfl rfl rfl rfl) af) af) (mD (sI (aa 4 rfl (Or.inl rfl) rfl rfl) af))))) (ak (eO 5 (ae (eJ (aa 9 rfl (Or.inl rfl) rfl rfl) (cU af) (cU af) rfl) ag rfl) rfl rfl (Or.inl rfl) rfl rfl rfl rfl rfl)
  (ar (aq (fY (aa 4 rfl (Or.inl rfl) rfl rfl) af) aF.nd rfl (Or.inl rfl) rfl (Or.inl rfl)))) bH)))))))) (fun _=>rfl))
  (mW 5 (ar (bt (eJ (aa 5 rfl (Or.inl rfl) rfl rfl) gJ (cU af) rfl)))))))))
noncomputable abbrev eA:Stmt:=top 27
theorem pR:FnScope ["_law_script", "_law_most"] ["_law_script", "_law_most"] (ao eA):=⟨rfl,rfl,rfl,by decide +kernel,rfl,by decide +kernel,by decide +kernel⟩
theorem fu {f:Addr} {fd:FuncData} (F:Fun K "_law_book" "_law_book" eA f fd) (hm:mg "_law_book" = some (.ref f)) (B:Blt mg) (Z:Xcl K mg C) (cy:FnAt P w K mg base 2 "_law_by_digits" ["_law_cell_here"] (gxE K C) cB) (cC:FnAt P w K mg base 2 "_law_by_mixing" ["_law_script", "_law_most"] (gxE K C) cx) (eG:FnAt P w K mg base 1 "_law_cell" ["_law_script", "_law_k"] (gxE K C) eL) (aP:FnAt P w K mg base 1 "_law_mixed" ["_law_script", "_law_k"] (gxE K C) aM) :
  FnAt P w K mg base 3 "_law_book" ["_law_script", "_law_most"] (gxE K C) eE:=gc F hm pR rfl rfl (fun _ _ _ _ _ _ us hl=>by obtain ⟨_,_,rfl⟩:=L2.kF hl;rfl) fun cdv A outer s H E hr =>
  (ak (dX (fQ hr (bq (aQ eG hr (ae (aa 0 rfl (Or.inl rfl) rfl rfl) (ae af ag rfl) rfl) (by decide) rfl rfl rfl rfl) af) af) (ar (bt (aQ cy hr (ae (dU (aQ eG hr (ae (aa 0 rfl (Or.inl rfl) rfl rfl) (ae af ag rfl) rfl) (by decide) rfl rfl rfl rfl) af) ag rfl) (by decide) rfl rfl rfl rfl))) bH)
  (ar (bt (aQ cC hr (ae (aa 0 rfl (Or.inl rfl) rfl rfl) (ae (aL (bQ (ae af (ae af (ae af (ae (aa 1 rfl (Or.inl rfl) rfl rfl) ag rfl) rfl) rfl) rfl)) (bq (aQ aP hr (ae (aa 0 rfl (Or.inl rfl) rfl rfl) (ae af ag rfl) rfl) (by decide) rfl rfl rfl rfl) af) (fun _ _=>rfl) rfl) ag rfl) rfl) (by decide) rfl rfl rfl rfl))))
noncomputable abbrev di:Stmt:=top 28
theorem cH:FnScope ["_law_book_here", "_law_found", "_law_number", "_law_text", "_law_end", "_law_start"] ["_law_book_here"] (ao di):=⟨rfl,rfl,rfl,by decide +kernel,rfl,by decide +kernel,by decide +kernel⟩
theorem d7 {f:Addr} {fd:FuncData} (F:Fun K "_law_places" "_law_places" di f fd) (hm:mg "_law_places" = some (.ref f)) (B:Blt mg) (Z:Xcl K mg C) :
  FnAt P w K mg base 1 "_law_places" ["_law_book_here"] (gxE K C) cY:=gc F hm cH rfl rfl (fun _ _ _ _ _ _ us hl=>by obtain ⟨_,rfl⟩:=L2.n8 hl;rfl) fun cdv A outer s H E hr =>
  (ak (cW (t6 (by decide +kernel) (by decide)) cH.nd rfl (Or.inl rfl) rfl (Or.inl rfl))
  (ak (bh Yy rfl (gS (aa 0 rfl (Or.inl rfl) rfl rfl) rfl B.b_enumerate rfl rfl) (iC rfl (b9 (aJ 2 cH.nd rfl (Or.inl rfl) (Or.inl rfl)) (b9 (aJ 3 cH.nd rfl (Or.inl rfl) (Or.inl rfl)) gI rfl) rfl) rfl rfl rfl)
  (ar (bh Yy rfl (bS (aY (cm B.b_len (ae (aa 3 rfl (Or.inl rfl) rfl rfl) ag rfl) rfl rfl rfl) af) rfl B.b_range rfl rfl) (aJ 4 cH.nd rfl (Or.inl rfl) (Or.inl rfl))
  (ar (bh Yy rfl (bS (aY (aa 4 rfl (Or.inl rfl) rfl rfl) af) rfl B.b_range rfl rfl) (aJ 5 cH.nd rfl (Or.inl rfl) (Or.inl rfl))
  (ar (rA (zY _ _) 1 (eJ (aa 3 rfl (Or.inl rfl) rfl rfl) (cU (aa 5 rfl (Or.inl rfl) rfl rfl)) (cU (aa 4 rfl (Or.inl rfl) rfl rfl)) rfl) (ae (gz (ae (aa 2 rfl (Or.inl rfl) rfl rfl) (ae (aa 4 rfl (Or.inl rfl) rfl rfl) ag rfl) rfl)) ag rfl)  rfl rfl (Or.inl rfl) rfl rfl rfl rfl rfl rfl rfl rfl rfl rfl rfl rfl rfl rfl)) (fun _=>rfl))) (fun _=>rfl))) (fun _=>rfl))
  (ar (dI 1 rfl (Or.inl rfl) rfl rfl))))
noncomputable abbrev cJ:Stmt:=top 29
theorem lR:FnScope ["_law_word"] ["_law_word"] (ao cJ):=⟨rfl,rfl,rfl,by decide +kernel,rfl,by decide +kernel,by decide +kernel⟩
theorem dA {f:Addr} {fd:FuncData} (F:Fun K "_law_by_size" "_law_by_size" cJ f fd) (hm:mg "_law_by_size" = some (.ref f)) (B:Blt mg) (Z:Xcl K mg C) :
  FnAt P w K mg base 1 "_law_by_size" ["_law_word"] (gxE K C) eR:=gc F hm lR rfl rfl (fun _ _ _ _ _ _ us hl=>by obtain ⟨_,rfl⟩:=L2.n8 hl;rfl) fun cdv A outer s H E hr =>
  (ar (bt (gz (ae (cm B.b_len (ae (aa 0 rfl (Or.inl rfl) rfl rfl) ag rfl) rfl rfl rfl) (ae (aa 0 rfl (Or.inl rfl) rfl rfl) ag rfl) rfl))))
noncomputable abbrev df:Stmt:=top 30
theorem gq:FnScope ["_law_found", "_law_groups", "_law_word"] ["_law_found"] (ao df):=⟨rfl,rfl,rfl,by decide +kernel,rfl,by decide +kernel,by decide +kernel⟩
theorem d6 {f:Addr} {fd:FuncData} (F:Fun K "_law_stands" "_law_stands" df f fd) (hm:mg "_law_stands" = some (.ref f)) (B:Blt mg) (Z:Xcl K mg C) (dA:FnAt P w K mg base 1 "_law_by_size" ["_law_word"] (gxE K C) eR) :
  FnAt P w K mg base 4 "_law_stands" ["_law_found"] (gxE K C) cZ:=gc F hm gq rfl rfl (fun _ _ _ _ _ _ us hl=>by obtain ⟨_,rfl⟩:=L2.n8 hl;rfl) fun cdv A outer s H E hr =>
  (ak (cW uM gq.nd rfl (Or.inr rfl) rfl (Or.inl rfl))
  (ak (bh Yy rfl (fj (qG dA (by decide) mE hr B.b_sorted (ae (aa 0 rfl (Or.inl rfl) rfl rfl) ag rfl) rfl rfl rfl rfl rfl rfl) rfl) (aJ 2 gq.nd rfl (Or.inl rfl) (Or.inl rfl))
  (ar (pT 1 hr (nj B.b_tuple (ae (nN hr (aa 0 rfl (Or.inl rfl) rfl rfl) (aa 2 rfl (Or.inl rfl) rfl rfl) (fun _ _=>rfl) rfl) ag rfl) rfl rfl rfl) (ae (aa 2 rfl (Or.inl rfl) rfl rfl) ag rfl)  rfl rfl (Or.inr (Or.inl rfl)) rfl rfl rfl rfl rfl rfl rfl rfl rfl rfl rfl rfl rfl rfl)) (fun _=>rfl))
  (ar (oS 1 ["_law_some", "_law_found", "_law_groups", "_law_word"] hr rfl rfl (Or.inr (Or.inl rfl)) rfl rfl (fun _ _ _ _ _=>⟨L2.sH (show List.Nodup (["_law_some", "_law_found", "_law_groups", "_law_word"]:List Str) from by decide +kernel) rfl (Or.inl rfl) (Or.inr rfl),L2.gu rfl (Or.inr (Or.inl rfl)) rfl rfl,L2.gu rfl (Or.inl rfl) rfl rfl,rfl⟩) (fun _ _=>rfl) rfl rfl (by decide) (fun _=>rfl)))))
noncomputable abbrev cG:Stmt:=top 31
theorem cR:FnScope ["_law_stands_here", "_law_numbers_here", "_law_k", "_law_some", "_law_word"] ["_law_stands_here"] (ao cG):=⟨rfl,rfl,rfl,by decide +kernel,rfl,by decide +kernel,by decide +kernel⟩
theorem dv {f:Addr} {fd:FuncData} (F:Fun K "_law_numbers" "_law_numbers" cG f fd) (hm:mg "_law_numbers" = some (.ref f)) (B:Blt mg) (Z:Xcl K mg C) :
  FnAt P w K mg base 1 "_law_numbers" ["_law_stands_here"] (gxE K C) cF:=gc F hm cR rfl rfl (fun _ _ _ _ _ _ us hl=>by obtain ⟨_,rfl⟩:=L2.n8 hl;rfl) fun cdv A outer s H E hr =>
  (ak (cW qE cR.nd rfl (Or.inl rfl) rfl (Or.inl rfl))
  (ak (bh Yy rfl (gS (aa 0 rfl (Or.inl rfl) rfl rfl) rfl B.b_enumerate rfl rfl) (iC rfl (b9 (aJ 2 cR.nd rfl (Or.inl rfl) (Or.inl rfl)) (b9 (aJ 3 cR.nd rfl (Or.inl rfl) (Or.inl rfl)) gI rfl) rfl) rfl rfl rfl)
  (ar (bh Yy rfl (fj (aa 3 rfl (Or.inl rfl) rfl rfl) rfl) (aJ 4 cR.nd rfl (Or.inl rfl) (Or.inl rfl))
  (ar (pK 1 hr (aa 4 rfl (Or.inl rfl) rfl rfl) (aa 2 rfl (Or.inl rfl) rfl rfl) rfl (Or.inl rfl) rfl rfl (fun _=>rfl) rfl rfl rfl)) (fun _=>rfl))) (fun _=>rfl))
  (ar (dI 1 rfl (Or.inl rfl) rfl rfl))))
noncomputable abbrev dJ:Stmt:=top 32
theorem cn:FnScope ["_law_stands_here", "_law_numbers_here", "_law_table_here", "_law_some", "_law_ways", "_law_sign", "_law_link"] ["_law_stands_here", "_law_numbers_here"] (ao dJ):=⟨rfl,rfl,rfl,by decide +kernel,rfl,by decide +kernel,by decide +kernel⟩
theorem eX {f:Addr} {fd:FuncData} (F:Fun K "_law_table" "_law_table" dJ f fd) (hm:mg "_law_table" = some (.ref f)) (B:Blt mg) (Z:Xcl K mg C) :
  FnAt P w K mg base 1 "_law_table" ["_law_stands_here", "_law_numbers_here"] (gxE K C) dN:=gc F hm cn rfl rfl (fun _ _ _ _ _ _ us hl=>by obtain ⟨_,_,rfl⟩:=L2.kF hl;rfl) fun cdv A outer s H E hr =>
  (ak (cW (bQ ag) cn.nd rfl (Or.inl rfl) rfl (Or.inl rfl))
  (ak (bh Yy rfl (fj (aa 0 rfl (Or.inl rfl) rfl rfl) rfl) (aJ 3 cn.nd rfl (Or.inl rfl) (Or.inl rfl))
  (ak (cW (bQ ag) cn.nd rfl (Or.inl rfl) rfl (Or.inl rfl))
  (ak (bh Yy rfl (fj (d4 (by decide +kernel) (by decide)) rfl) (aJ 5 cn.nd rfl (Or.inl rfl) (Or.inl rfl))
  (ar (dX (yG hr (aY (aL (aa 3 rfl (Or.inl rfl) rfl rfl) af (fun _ _=>rfl) rfl) (aa 5 rfl (Or.inl rfl) rfl rfl)) (aa 1 rfl (Or.inl rfl) rfl rfl) (by with_unfolding_all rfl) rfl) (ar (eO 4 (ae (gz (ae (aa 5 rfl (Or.inl rfl) rfl rfl) (ae (nN hr (aa 1 rfl (Or.inl rfl) rfl rfl) (aY (aL (aa 3 rfl (Or.inl rfl) rfl rfl) af (fun _ _=>rfl) rfl) (aa 5 rfl (Or.inl rfl) rfl rfl)) (fun _ _=>rfl) rfl) ag rfl) rfl)) ag rfl) rfl rfl (Or.inl rfl) rfl rfl rfl rfl rfl)) bH)) (fun _=>rfl))
  (mW 4 (ak (aq mB cn.nd rfl (Or.inl rfl) rfl (Or.inl rfl))
  (ak (dX (sG hr (aL (aa 3 rfl (Or.inl rfl) rfl rfl) af (fun _ _=>rfl) rfl) (d4 (by decide +kernel) (by decide))) (ar (aq (nN hr (aa 1 rfl (Or.inl rfl) rfl rfl) (eJ (aL (aa 3 rfl (Or.inl rfl) rfl rfl) af (fun _ _=>rfl) rfl) (cU af) gJ rfl) (fun _ _=>rfl) rfl) cn.nd rfl (Or.inl rfl) rfl (Or.inl rfl))) bH)
  (ar (eO 2 (ae (gz (ae (cm B.b_len (ae (aL (aa 3 rfl (Or.inl rfl) rfl rfl) af (fun _ _=>rfl) rfl) ag rfl) rfl rfl rfl) (ae (cm B.b_len (ae (aL (aa 3 rfl (Or.inl rfl) rfl rfl) kR (fun _ _=>rfl) rfl) ag rfl) rfl rfl rfl) (ae (aa 6 rfl (Or.inl rfl) rfl rfl) (ae (nj B.b_tuple (ae (aa 4 rfl (Or.inl rfl) rfl rfl) ag rfl) rfl rfl rfl) ag rfl) rfl) rfl) rfl)) ag rfl) rfl rfl (Or.inl rfl) rfl rfl rfl rfl rfl))))))) (fun _=>rfl))
  (ar (dI 2 rfl (Or.inl rfl) rfl rfl))))
noncomputable abbrev dQ:Stmt:=top 33
theorem ot:FnScope ["_law_table_here", "_law_thing", "_law_way"] ["_law_table_here", "_law_thing", "_law_way"] (ao dQ):=⟨rfl,rfl,rfl,by decide +kernel,rfl,by decide +kernel,by decide +kernel⟩
theorem eS {f:Addr} {fd:FuncData} (F:Fun K "_law_asked" "_law_asked" dQ f fd) (hm:mg "_law_asked" = some (.ref f)) (B:Blt mg) (Z:Xcl K mg C) (fO:FnXt P w K mg base 3 "chain" ["table", "stand"] (gxE K C) fh) (lH:FnXt P w K mg base 3 "kids" ["table", "stand"] (gxE K C) ma) (bz:FnXt P w K mg base 3 "longest" ["table", "stand"] (gxE K C) bF) (fF:FnXt P w K mg base 4 "shortest" ["table", "stand"] (gxE K C) fC) (jw:FnXt P w K mg base 4 "words" ["table", "stand"] (gxE K C) ju) :
  FnXt P w K mg base 5 "_law_asked" ["_law_table_here", "_law_thing", "_law_way"] (gxE K C) dP:=iU F hm ot rfl rfl (fun _ _ _ _ _ _ us hl=>by obtain ⟨_,_,_,rfl⟩:=L2.Ep hl;rfl) fun cdv A outer s H E hr =>
  (dc (jl (fQ hr (aa 2 rfl (Or.inl rfl) rfl rfl) af) (eV (ik (b5 bz hr (ae (aa 0 rfl (Or.inl rfl) rfl rfl) (ae (aa 1 rfl (Or.inl rfl) rfl rfl) ag rfl) rfl) (by decide) rfl rfl rfl rfl rfl))) (bV bH))
  (dc (jl (fQ hr (aa 2 rfl (Or.inl rfl) rfl rfl) af) (eV (ik (b5 fF hr (ae (aa 0 rfl (Or.inl rfl) rfl rfl) (ae (aa 1 rfl (Or.inl rfl) rfl rfl) ag rfl) rfl) (by decide) rfl rfl rfl rfl rfl))) (bV bH))
  (dc (jl (fQ hr (aa 2 rfl (Or.inl rfl) rfl rfl) af) (eV (ik (b5 jw hr (ae (aa 0 rfl (Or.inl rfl) rfl rfl) (ae (aa 1 rfl (Or.inl rfl) rfl rfl) ag rfl) rfl) (by decide) rfl rfl rfl rfl rfl))) (bV bH))
  (dc (jl (fQ hr (aa 2 rfl (Or.inl rfl) rfl rfl) af) (eV (ik (b5 fO hr (ae (aa 0 rfl (Or.inl rfl) rfl rfl) (ae (aa 1 rfl (Or.inl rfl) rfl rfl) ag rfl) rfl) (by decide) rfl rfl rfl rfl rfl))) (bV bH))
  (eV (ik (b5 lH hr (ae (aa 0 rfl (Or.inl rfl) rfl rfl) (ae (aa 1 rfl (Or.inl rfl) rfl rfl) ag rfl) rfl) (by decide) rfl rfl rfl rfl rfl)))))))
noncomputable abbrev bW:Stmt:=top 34
theorem bJ:FnScope ["_law_table_here", "_law_thing", "_law_way", "_law_caught", "_law_others", "error"] ["_law_table_here", "_law_thing", "_law_way"] (ao bW):=⟨rfl,rfl,rfl,by decide +kernel,rfl,by decide +kernel,by decide +kernel⟩
theorem dz {f:Addr} {fd:FuncData} (F:Fun K "_law_refused" "_law_refused" bW f fd) (hm:mg "_law_refused" = some (.ref f)) (B:Blt mg) (Z:Xcl K mg C) (eS:FnXt P w K mg base 5 "_law_asked" ["_law_table_here", "_law_thing", "_law_way"] (gxE K C) dP) :
  FnAt P w K mg base 6 "_law_refused" ["_law_table_here", "_law_thing", "_law_way"] (gxE K C) dy:=gc F hm bJ rfl rfl (fun _ _ _ _ _ _ us hl=>by obtain ⟨_,_,_,rfl⟩:=L2.Ep hl;rfl) fun cdv A outer s H E hr =>
  (ak (aq mB bJ.nd rfl (Or.inl rfl) rfl (Or.inl rfl))
  (ak (wV (X:=(jC CX0 P w K mg base ["_law_table_here", "_law_thing", "_law_way", "_law_caught", "_law_others", "error"] "_law_refused" (ao bW) f cdv A outer s H E).nox) (G:=(gxE K C)) 5 rfl rfl (fun _ _=>(eV (iK (b5 eS hr (ae (aa 0 rfl (Or.inl rfl) rfl rfl) (ae (aa 1 rfl (Or.inl rfl) rfl rfl) (ae (aa 2 rfl (Or.inl rfl) rfl rfl) ag rfl) rfl) rfl) (by decide) rfl rfl rfl rfl rfl) rfl)))
  (fun _=>(ar (aq (aa 5 rfl (Or.inl rfl) rfl rfl) bJ.nd rfl (Or.inl rfl) rfl (Or.inl rfl)))) bJ.nd rfl rfl Z.p_PartError.choose_spec.1 rfl rfl Z.m Z.p_PartError.choose_spec.2)
  (ak (aq (bQ (ae (fS false (aa 3 rfl (Or.inl rfl) rfl rfl) rfl Z.k_NoBook.choose_spec.1 rfl rfl rfl B.b_isinstance (fun _=>⟨Z.x,Z.k_NoBook.choose_spec.2⟩) rfl rfl rfl) (ae (fS false (aa 3 rfl (Or.inl rfl) rfl rfl) rfl Z.k_NoNumber.choose_spec.1 rfl rfl rfl B.b_isinstance (fun _=>⟨Z.x,Z.k_NoNumber.choose_spec.2⟩) rfl rfl rfl) (ae (fS false (aa 3 rfl (Or.inl rfl) rfl rfl) rfl Z.k_NoRow.choose_spec.1 rfl rfl rfl B.b_isinstance (fun _=>⟨Z.x,Z.k_NoRow.choose_spec.2⟩) rfl rfl rfl) ag rfl) rfl) rfl)) bJ.nd rfl (Or.inl rfl) rfl (Or.inl rfl))
  (ak (aq (aY (aa 4 rfl (Or.inl rfl) rfl rfl) (bQ (ae (fS false (aa 3 rfl (Or.inl rfl) rfl rfl) rfl Z.k_NoTable.choose_spec.1 rfl rfl rfl B.b_isinstance (fun _=>⟨Z.x,Z.k_NoTable.choose_spec.2⟩) rfl rfl rfl) (ae (fS false (aa 3 rfl (Or.inl rfl) rfl rfl) rfl Z.k_NoText.choose_spec.1 rfl rfl rfl B.b_isinstance (fun _=>⟨Z.x,Z.k_NoText.choose_spec.2⟩) rfl rfl rfl) (ae (fS false (aa 3 rfl (Or.inl rfl) rfl rfl) rfl Z.k_NoWord.choose_spec.1 rfl rfl rfl B.b_isinstance (fun _=>⟨Z.x,Z.k_NoWord.choose_spec.2⟩) rfl rfl rfl) ag rfl) rfl) rfl))) bJ.nd rfl (Or.inl rfl) rfl (Or.inl rfl))
  (ak (aq (aY (aa 4 rfl (Or.inl rfl) rfl rfl) (bQ (ae (fS false (aa 3 rfl (Or.inl rfl) rfl rfl) rfl Z.k_TooMany.choose_spec.1 rfl rfl rfl B.b_isinstance (fun _=>⟨Z.x,Z.k_TooMany.choose_spec.2⟩) rfl rfl rfl) (ae (lP (yM true (aa 3 rfl (Or.inl rfl) rfl rfl) rfl B.b_ValueError rfl (by decide) rfl rfl rfl B.b_isinstance (fun _=>⟨Z.x,Z.k_ValueError⟩) rfl rfl rfl)) ag rfl) rfl))) bJ.nd rfl (Or.inl rfl) rfl (Or.inl rfl))
  (ar (bt (jF (fS true (aa 3 rfl (Or.inl rfl) rfl rfl) rfl Z.k_NoStand.choose_spec.1 rfl rfl rfl B.b_isinstance (fun _=>⟨Z.x,Z.k_NoStand.choose_spec.2⟩) rfl rfl rfl) (lQ (lP (zc B.b_any (ae (aa 4 rfl (Or.inl rfl) rfl rfl) ag rfl) rfl rfl rfl rfl)))))))))))
noncomputable abbrev jh:Stmt:=top 35
theorem gh:FnScope ["_law_script", "_law_book_here", "_law_stands_here", "_law_table_here", "_law_handed", "_law_far", "_law_odd", "_law_thing", "_law_way", "_law_last"] ["_law_script"] (ao jh):=⟨rfl,rfl,rfl,by decide +kernel,rfl,by decide +kernel,by decide +kernel⟩
theorem B5 {f:Addr} {fd:FuncData} (F:Fun K "law" "law" jh f fd) (B:Blt mg) (Z:Xcl K mg C) (fu:FnAt P w K mg base 3 "_law_book" ["_law_script", "_law_most"] (gxE K C) eE) (aP:FnAt P w K mg base 1 "_law_mixed" ["_law_script", "_law_k"] (gxE K C) aM) (dv:FnAt P w K mg base 1 "_law_numbers" ["_law_stands_here"] (gxE K C) cF) (d7:FnAt P w K mg base 1 "_law_places" ["_law_book_here"] (gxE K C) cY) (dz:FnAt P w K mg base 6 "_law_refused" ["_law_table_here", "_law_thing", "_law_way"] (gxE K C) dy) (d6:FnAt P w K mg base 4 "_law_stands" ["_law_found"] (gxE K C) cZ) (eX:FnAt P w K mg base 1 "_law_table" ["_law_stands_here", "_law_numbers_here"] (gxE K C) dN) (fO:FnXt P w K mg base 3 "chain" ["table", "stand"] (gxE K C) fh) (bz:FnXt P w K mg base 3 "longest" ["table", "stand"] (gxE K C) bF) :
  FnOk P w K mg base CX0 7 f fd ["_law_script"] (spF (gxE K C) pA):=F8 F gh rfl rfl fun cdv A outer s H E hr =>
  (ak (aq (aQ fu hr (ae (aa 0 rfl (Or.inl rfl) rfl rfl) (ae af ag rfl) rfl) (by decide) rfl rfl rfl rfl) gh.nd rfl (Or.inl rfl) rfl (Or.inl rfl))
  (ak (aq (aQ d6 hr (ae (aQ d7 hr (ae (aa 1 rfl (Or.inl rfl) rfl rfl) ag rfl) (by decide) rfl rfl rfl rfl) ag rfl) (by decide) rfl rfl rfl rfl) gh.nd rfl (Or.inl rfl) rfl (Or.inl rfl))
  (ak (aq (aQ eX hr (ae (aa 2 rfl (Or.inl rfl) rfl rfl) (ae (aQ dv hr (ae (aa 2 rfl (Or.inl rfl) rfl rfl) ag rfl) (by decide) rfl rfl rfl rfl) ag rfl) rfl) (by decide) rfl rfl rfl rfl) gh.nd rfl (Or.inl rfl) rfl (Or.inl rfl))
  (ak (aq (uk B.b_list (ae (aa 3 rfl (Or.inl rfl) rfl rfl) ag rfl) rfl rfl rfl rfl) gh.nd rfl (Or.inl rfl) rfl (Or.inl rfl))
  (ak (aq (dW (aQ aP hr (ae (aa 0 rfl (Or.inl rfl) rfl rfl) (ae af ag rfl) rfl) (by decide) rfl rfl rfl rfl) (zl af af)) gh.nd rfl (Or.inl rfl) rfl (Or.inl rfl))
  (ak (aq (bQ (ae kR (ae (cm B.b_len (ae (aa 3 rfl (Or.inl rfl) rfl rfl) ag rfl) rfl rfl rfl) (ae (aY (aY (cm B.b_len (ae (aa 3 rfl (Or.inl rfl) rfl rfl) ag rfl) rfl rfl rfl) af) (aa 5 rfl (Or.inl rfl) rfl rfl)) (ae (fY kR (aa 5 rfl (Or.inl rfl) rfl rfl)) (ae mB (ae nV (ae nV (ae (d4 (by decide +kernel) (by decide)) (ae (d4 (by decide +kernel) (by decide)) (ae (gz (ae af ag rfl)) (ae (bQ (ae af ag rfl)) ag rfl) rfl) rfl) rfl) rfl) rfl) rfl) rfl) rfl) rfl) rfl)) gh.nd rfl (Or.inl rfl) rfl (Or.inl rfl))
  (ak (bh Yy rfl (fj (aa 6 rfl (Or.inl rfl) rfl rfl) rfl) (aJ 7 gh.nd rfl (Or.inl rfl) (Or.inl rfl))
  (ar (bh Yy rfl (bS af rfl B.b_range rfl rfl) (aJ 8 gh.nd rfl (Or.inl rfl) (Or.inl rfl))
  (ar (dX (kl (m8 (aQ dz hr (ae (aa 4 rfl (Or.inl rfl) rfl rfl) (ae (aa 7 rfl (Or.inl rfl) rfl rfl) (ae (aa 8 rfl (Or.inl rfl) rfl rfl) ag rfl) rfl) rfl) (by decide) rfl rfl rfl rfl) rfl (fun _=>rfl))) (ar (bt nV)) bH)) (fun _=>rfl))) (fun _=>rfl))
  (ak (aq (fY (cm B.b_len (ae (aa 3 rfl (Or.inl rfl) rfl rfl) ag rfl) rfl rfl rfl) af) gh.nd rfl (Or.inl rfl) rfl (Or.inl rfl))
  (ar (bt (jF (rn hr (aa 4 rfl (Or.inl rfl) rfl rfl) (aa 3 rfl (Or.inl rfl) rfl rfl)) (jF (rn hr (aQ bz.plain hr (ae (aa 4 rfl (Or.inl rfl) rfl rfl) (ae (aa 9 rfl (Or.inl rfl) rfl rfl) ag rfl) rfl) (by decide) rfl rfl rfl rfl) (aL (aL (aa 2 rfl (Or.inl rfl) rfl rfl) (aa 9 rfl (Or.inl rfl) rfl rfl) (fun _ _=>rfl) rfl) kR (fun _ _=>rfl) rfl)) (lQ (rn hr (aL (aQ fO.plain hr (ae (aa 4 rfl (Or.inl rfl) rfl rfl) (ae (aa 9 rfl (Or.inl rfl) rfl rfl) ag rfl) rfl) (by decide) rfl rfl rfl rfl) af (fun _ _=>rfl) rfl) (aa 9 rfl (Or.inl rfl) rfl rfl)))))))))))))))
end
theorem all_mk {l:PySem.W.OpenLaw} {w:World} {K:Xy} {h:Heap} {mg:Xm} {fa f0 f1 f2 f3 f4 f5 f6 f7 f8 f9 f10 f11 f12 f13 f14 f15 f16 f17 f18 f19 f20 f21:Addr} (X:K.In h) (G:h.Ns mainGlobals mg) (hfa:mg "law" = some (.ref fa))
  {od0 an0 od1 an1 od2 an2 od3 an3 od4 an4 od5 an5 od6 an6 od7 an7 od8 an8 od9 an9 od10 an10 od11 an11 od12 an12 od13 an13 od14 an14 od15 an15 od16 an16 od17 an17 od18 an18 od19 an19 od20 an20 od21 an21:Option Addr} {sl0 sl1 sl2 sl3 sl4 sl5 sl6 sl7 sl8 sl9 sl10 sl11 sl12 sl13 sl14 sl15 sl16 sl17 sl18 sl19 sl20 sl21:Array (Wr)} {oc0 kV0 dc0 pm0 cd0 ct0 oc1 kV1 dc1 pm1 cd1 ct1 oc2 kV2 dc2 pm2 cd2 ct2 oc3 kV3 dc3 pm3 cd3 ct3 oc4 kV4 dc4 pm4 cd4 ct4 oc5 kV5 dc5 pm5 cd5 ct5 oc6 kV6 dc6 pm6 cd6 ct6 oc7 kV7 dc7 pm7 cd7 ct7 oc8 kV8 dc8 pm8 cd8 ct8 oc9 kV9 dc9 pm9 cd9 ct9 oc10 kV10 dc10 pm10 cd10 ct10 oc11 kV11 dc11 pm11 cd11 ct11 oc12 kV12 dc12 pm12 cd12 ct12 oc13 kV13 dc13 pm13 cd13 ct13 oc14 kV14 dc14 pm14 cd14 ct14 oc15 kV15 dc15 pm15 cd15 ct15 oc16 kV16 dc16 pm16 cd16 ct16 oc17 kV17 dc17 pm17 cd17 ct17 oc18 kV18 dc18 pm18 cd18 ct18 oc19 kV19 dc19 pm19 cd19 ct19 oc20 kV20 dc20 pm20 cd20 ct20 oc21 kV21 dc21 pm21 cd21 ct21:Value}
  (hlaw:∀ ns:Vz,pA [.scr ns]=some (.fr,.bl true))
  (a0:PySem.W.nsIn K mainGlobals "is_whole" = some (some (.ref f0))) (l0:K.lookup f0=some ⟨oc0,od0,.func (PySem.W.fnOf "is_whole" "is_whole" (aR ef) (aK ef) (ao ef) .none kV0 dc0 pm0 an0 cd0 ct0),sl0⟩) (c0:PySem.W.codeIn K cd0 "is_whole" = true) (k0:PySem.W.keepIn K (.ref f0)=true)
  (a1:PySem.W.nsIn K mainGlobals "refuse_no_stand" = some (some (.ref f1))) (l1:K.lookup f1=some ⟨oc1,od1,.func (PySem.W.fnOf "refuse_no_stand" "refuse_no_stand" (aR bB) (aK bB) (ao bB) .none kV1 dc1 pm1 an1 cd1 ct1),sl1⟩) (c1:PySem.W.codeIn K cd1 "refuse_no_stand" = true) (k1:PySem.W.keepIn K (.ref f1)=true)
  (a2:PySem.W.nsIn K mainGlobals "steps_before" = some (some (.ref f2))) (l2:K.lookup f2=some ⟨oc2,od2,.func (PySem.W.fnOf "steps_before" "steps_before" (aR b6) (aK b6) (ao b6) .none kV2 dc2 pm2 an2 cd2 ct2),sl2⟩) (c2:PySem.W.codeIn K cd2 "steps_before" = true) (k2:PySem.W.keepIn K (.ref f2)=true)
  (a3:PySem.W.nsIn K mainGlobals "longest" = some (some (.ref f3))) (l3:K.lookup f3=some ⟨oc3,od3,.func (PySem.W.fnOf "longest" "longest" (aR fq) (aK fq) (ao fq) .none kV3 dc3 pm3 an3 cd3 ct3),sl3⟩) (c3:PySem.W.codeIn K cd3 "longest" = true) (k3:PySem.W.keepIn K (.ref f3)=true)
  (a4:PySem.W.nsIn K mainGlobals "shortest" = some (some (.ref f4))) (l4:K.lookup f4=some ⟨oc4,od4,.func (PySem.W.fnOf "shortest" "shortest" (aR eg) (aK eg) (ao eg) .none kV4 dc4 pm4 an4 cd4 ct4),sl4⟩) (c4:PySem.W.codeIn K cd4 "shortest" = true) (k4:PySem.W.keepIn K (.ref f4)=true)
  (a5:PySem.W.nsIn K mainGlobals "words" = some (some (.ref f5))) (l5:K.lookup f5=some ⟨oc5,od5,.func (PySem.W.fnOf "words" "words" (aR iF) (aK iF) (ao iF) .none kV5 dc5 pm5 an5 cd5 ct5),sl5⟩) (c5:PySem.W.codeIn K cd5 "words" = true) (k5:PySem.W.keepIn K (.ref f5)=true)
  (a6:PySem.W.nsIn K mainGlobals "chain" = some (some (.ref f6))) (l6:K.lookup f6=some ⟨oc6,od6,.func (PySem.W.fnOf "chain" "chain" (aR iN) (aK iN) (ao iN) .none kV6 dc6 pm6 an6 cd6 ct6),sl6⟩) (c6:PySem.W.codeIn K cd6 "chain" = true) (k6:PySem.W.keepIn K (.ref f6)=true)
  (a7:PySem.W.nsIn K mainGlobals "kids" = some (some (.ref f7))) (l7:K.lookup f7=some ⟨oc7,od7,.func (PySem.W.fnOf "kids" "kids" (aR kh) (aK kh) (ao kh) .none kV7 dc7 pm7 an7 cd7 ct7),sl7⟩) (c7:PySem.W.codeIn K cd7 "kids" = true) (k7:PySem.W.keepIn K (.ref f7)=true)
  (a8:PySem.W.nsIn K mainGlobals "_law_cell" = some (some (.ref f8))) (l8:K.lookup f8=some ⟨oc8,od8,.func (PySem.W.fnOf "_law_cell" "_law_cell" (aR eP) (aK eP) (ao eP) .none kV8 dc8 pm8 an8 cd8 ct8),sl8⟩) (c8:PySem.W.codeIn K cd8 "_law_cell" = true) (k8:PySem.W.keepIn K (.ref f8)=true)
  (a9:PySem.W.nsIn K mainGlobals "_law_mixed" = some (some (.ref f9))) (l9:K.lookup f9=some ⟨oc9,od9,.func (PySem.W.fnOf "_law_mixed" "_law_mixed" (aR dM) (aK dM) (ao dM) .none kV9 dc9 pm9 an9 cd9 ct9),sl9⟩) (c9:PySem.W.codeIn K cd9 "_law_mixed" = true) (k9:PySem.W.keepIn K (.ref f9)=true)
  (a10:PySem.W.nsIn K mainGlobals "_law_signs" = some (some (.ref f10))) (l10:K.lookup f10=some ⟨oc10,od10,.func (PySem.W.fnOf "_law_signs" "_law_signs" (aR dR) (aK dR) (ao dR) .none kV10 dc10 pm10 an10 cd10 ct10),sl10⟩) (c10:PySem.W.codeIn K cd10 "_law_signs" = true) (k10:PySem.W.keepIn K (.ref f10)=true)
  (a11:PySem.W.nsIn K mainGlobals "_law_by_digits" = some (some (.ref f11))) (l11:K.lookup f11=some ⟨oc11,od11,.func (PySem.W.fnOf "_law_by_digits" "_law_by_digits" (aR bO) (aK bO) (ao bO) .none kV11 dc11 pm11 an11 cd11 ct11),sl11⟩) (c11:PySem.W.codeIn K cd11 "_law_by_digits" = true) (k11:PySem.W.keepIn K (.ref f11)=true)
  (a12:PySem.W.nsIn K mainGlobals "_law_by_mixing" = some (some (.ref f12))) (l12:K.lookup f12=some ⟨oc12,od12,.func (PySem.W.fnOf "_law_by_mixing" "_law_by_mixing" (aR bN) (aK bN) (ao bN) .none kV12 dc12 pm12 an12 cd12 ct12),sl12⟩) (c12:PySem.W.codeIn K cd12 "_law_by_mixing" = true) (k12:PySem.W.keepIn K (.ref f12)=true)
  (a13:PySem.W.nsIn K mainGlobals "_law_book" = some (some (.ref f13))) (l13:K.lookup f13=some ⟨oc13,od13,.func (PySem.W.fnOf "_law_book" "_law_book" (aR eA) (aK eA) (ao eA) .none kV13 dc13 pm13 an13 cd13 ct13),sl13⟩) (c13:PySem.W.codeIn K cd13 "_law_book" = true) (k13:PySem.W.keepIn K (.ref f13)=true)
  (a14:PySem.W.nsIn K mainGlobals "_law_places" = some (some (.ref f14))) (l14:K.lookup f14=some ⟨oc14,od14,.func (PySem.W.fnOf "_law_places" "_law_places" (aR di) (aK di) (ao di) .none kV14 dc14 pm14 an14 cd14 ct14),sl14⟩) (c14:PySem.W.codeIn K cd14 "_law_places" = true) (k14:PySem.W.keepIn K (.ref f14)=true)
  (a15:PySem.W.nsIn K mainGlobals "_law_by_size" = some (some (.ref f15))) (l15:K.lookup f15=some ⟨oc15,od15,.func (PySem.W.fnOf "_law_by_size" "_law_by_size" (aR cJ) (aK cJ) (ao cJ) .none kV15 dc15 pm15 an15 cd15 ct15),sl15⟩) (c15:PySem.W.codeIn K cd15 "_law_by_size" = true) (k15:PySem.W.keepIn K (.ref f15)=true)
  (a16:PySem.W.nsIn K mainGlobals "_law_stands" = some (some (.ref f16))) (l16:K.lookup f16=some ⟨oc16,od16,.func (PySem.W.fnOf "_law_stands" "_law_stands" (aR df) (aK df) (ao df) .none kV16 dc16 pm16 an16 cd16 ct16),sl16⟩) (c16:PySem.W.codeIn K cd16 "_law_stands" = true) (k16:PySem.W.keepIn K (.ref f16)=true)
  (a17:PySem.W.nsIn K mainGlobals "_law_numbers" = some (some (.ref f17))) (l17:K.lookup f17=some ⟨oc17,od17,.func (PySem.W.fnOf "_law_numbers" "_law_numbers" (aR cG) (aK cG) (ao cG) .none kV17 dc17 pm17 an17 cd17 ct17),sl17⟩) (c17:PySem.W.codeIn K cd17 "_law_numbers" = true) (k17:PySem.W.keepIn K (.ref f17)=true)
  (a18:PySem.W.nsIn K mainGlobals "_law_table" = some (some (.ref f18))) (l18:K.lookup f18=some ⟨oc18,od18,.func (PySem.W.fnOf "_law_table" "_law_table" (aR dJ) (aK dJ) (ao dJ) .none kV18 dc18 pm18 an18 cd18 ct18),sl18⟩) (c18:PySem.W.codeIn K cd18 "_law_table" = true) (k18:PySem.W.keepIn K (.ref f18)=true)
  (a19:PySem.W.nsIn K mainGlobals "_law_asked" = some (some (.ref f19))) (l19:K.lookup f19=some ⟨oc19,od19,.func (PySem.W.fnOf "_law_asked" "_law_asked" (aR dQ) (aK dQ) (ao dQ) .none kV19 dc19 pm19 an19 cd19 ct19),sl19⟩) (c19:PySem.W.codeIn K cd19 "_law_asked" = true) (k19:PySem.W.keepIn K (.ref f19)=true)
  (a20:PySem.W.nsIn K mainGlobals "_law_refused" = some (some (.ref f20))) (l20:K.lookup f20=some ⟨oc20,od20,.func (PySem.W.fnOf "_law_refused" "_law_refused" (aR bW) (aK bW) (ao bW) .none kV20 dc20 pm20 an20 cd20 ct20),sl20⟩) (c20:PySem.W.codeIn K cd20 "_law_refused" = true) (k20:PySem.W.keepIn K (.ref f20)=true)
  (a21:PySem.W.nsIn K mainGlobals "law" = some (some (.ref f21))) (l21:K.lookup f21=some ⟨oc21,od21,.func (PySem.W.fnOf "law" "law" (aR jh) (aK jh) (ao jh) .none kV21 dc21 pm21 an21 cd21 ct21),sl21⟩) (c21:PySem.W.codeIn K cd21 "law" = true) (k21:PySem.W.keepIn K (.ref f21)=true)
  (z_ValueError:PySem.W.nsIn K mainGlobals "ValueError" = some none)
  (z_any:PySem.W.nsIn K mainGlobals "any" = some none)
  (z_bool:PySem.W.nsIn K mainGlobals "bool" = some none)
  (z_enumerate:PySem.W.nsIn K mainGlobals "enumerate" = some none)
  (z_int:PySem.W.nsIn K mainGlobals "int" = some none)
  (z_isinstance:PySem.W.nsIn K mainGlobals "isinstance" = some none)
  (z_len:PySem.W.nsIn K mainGlobals "len" = some none)
  (z_list:PySem.W.nsIn K mainGlobals "list" = some none)
  (z_min:PySem.W.nsIn K mainGlobals "min" = some none)
  (z_range:PySem.W.nsIn K mainGlobals "range" = some none)
  (z_sorted:PySem.W.nsIn K mainGlobals "sorted" = some none)
  (z_tuple:PySem.W.nsIn K mainGlobals "tuple" = some none)
  {D_NoBook D_NoNumber D_NoRow D_NoStand D_NoTable D_NoText D_NoWord D_PartError D_TooMany:Addr}
  (w_NoBook:PySem.W.nsIn K mainGlobals "NoBook" = some (some (.ref D_NoBook)))
  (w_NoNumber:PySem.W.nsIn K mainGlobals "NoNumber" = some (some (.ref D_NoNumber)))
  (w_NoRow:PySem.W.nsIn K mainGlobals "NoRow" = some (some (.ref D_NoRow)))
  (w_NoStand:PySem.W.nsIn K mainGlobals "NoStand" = some (some (.ref D_NoStand)))
  (w_NoTable:PySem.W.nsIn K mainGlobals "NoTable" = some (some (.ref D_NoTable)))
  (w_NoText:PySem.W.nsIn K mainGlobals "NoText" = some (some (.ref D_NoText)))
  (w_NoWord:PySem.W.nsIn K mainGlobals "NoWord" = some (some (.ref D_NoWord)))
  (w_PartError:PySem.W.nsIn K mainGlobals "PartError" = some (some (.ref D_PartError)))
  (w_TooMany:PySem.W.nsIn K mainGlobals "TooMany" = some (some (.ref D_TooMany)))
  (v_q:PySem.W.excIn K D_NoStand [.type "ValueError",.type "Exception",.type "BaseException",.type "object"] "ValueError.__new__" = true) (v_x0:PySem.W.findIn K (.ref D_NoStand) "__getattribute__" = some (some (.builtin "BaseException.__getattribute__"))) (v_x1:PySem.W.findIn K (.ref D_NoStand) "__getattr__" = some none) (v_x2:PySem.W.findObj K D_NoStand none "__class__" = some (.bind (.builtin "getset_descriptor.__get__") (.builtin "object.__class__"))) (v_x3:PySem.W.mroIn K D_NoStand (.type "object")=some true) (v_x4:PySem.W.mroIn K D_NoStand (.type "BaseException")=some true)
  (v_p_PartError:PySem.W.exmOne K (.ref D_NoStand) (.ref D_PartError)=some true)
  (v_k_NoBook:PySem.W.kitOne K (.ref D_NoStand) (.ref D_NoBook)=some false)
  (v_k_NoNumber:PySem.W.kitOne K (.ref D_NoStand) (.ref D_NoNumber)=some false)
  (v_k_NoRow:PySem.W.kitOne K (.ref D_NoStand) (.ref D_NoRow)=some false)
  (v_k_NoStand:PySem.W.kitOne K (.ref D_NoStand) (.ref D_NoStand)=some true)
  (v_k_NoTable:PySem.W.kitOne K (.ref D_NoStand) (.ref D_NoTable)=some false)
  (v_k_NoText:PySem.W.kitOne K (.ref D_NoStand) (.ref D_NoText)=some false)
  (v_k_NoWord:PySem.W.kitOne K (.ref D_NoStand) (.ref D_NoWord)=some false)
  (v_k_TooMany:PySem.W.kitOne K (.ref D_NoStand) (.ref D_TooMany)=some false)
  (v_b_ValueError:PySem.W.kitOne K (.ref D_NoStand) (.type "ValueError")=some true)
  : ∃ fd:FuncData,(∀ (s:Shared) (v:Value),BindsTo s fd ⟨[v],[]⟩ [("_law_script",v)])/\∀ base:Heap,K.In base->base.Ns mainGlobals mg->FnOk l.prog w K mg base CX0 7 fa fd ["_law_script"] (spF (gx0 K) yY):=by
 have e:=hfa.symm.trans (ZW X G a21)
 cases e
 have B:Blt mg:=⟨Ys X G z_ValueError,Ys X G z_any,Ys X G z_bool,Ys X G z_enumerate,Ys X G z_int,Ys X G z_isinstance,Ys X G z_len,Ys X G z_list,Ys X G z_min,Ys X G z_range,Ys X G z_sorted,Ys X G z_tuple⟩
 have Z:Xcl K mg D_NoStand:=⟨ZW X G w_NoStand,v_q,⟨v_x0,v_x1,v_x2,v_x3,v_x4⟩,⟨_,ZW X G w_PartError,v_p_PartError⟩,⟨_,ZW X G w_NoBook,v_k_NoBook⟩,⟨_,ZW X G w_NoNumber,v_k_NoNumber⟩,⟨_,ZW X G w_NoRow,v_k_NoRow⟩,⟨_,ZW X G w_NoStand,v_k_NoStand⟩,⟨_,ZW X G w_NoTable,v_k_NoTable⟩,⟨_,ZW X G w_NoText,v_k_NoText⟩,⟨_,ZW X G w_NoWord,v_k_NoWord⟩,⟨_,ZW X G w_TooMany,v_k_TooMany⟩,v_b_ValueError⟩
 refine ⟨PySem.W.fnOf "law" "law" (aR jh) (aK jh) (ao jh) .none kV21 dc21 pm21 an21 cd21 ct21,fun s v=>.of_eq rfl,fun base _ _=>?_⟩
 have fB:=fB (P:=l.prog) (w:=w) (base:=base) (bL (st:=ef) l0 c0 k0) (ZW X G a0) B Z
 have aO:=aO (P:=l.prog) (w:=w) (base:=base) (bL (st:=bB) l1 c1 k1) (ZW X G a1) B Z fB
 have cN:=cN (P:=l.prog) (w:=w) (base:=base) (bL (st:=b6) l2 c2 k2) (ZW X G a2) B Z
 have bz:=bz (P:=l.prog) (w:=w) (base:=base) (bL (st:=fq) l3 c3 k3) (ZW X G a3) B Z aO cN
 have fF:=fF (P:=l.prog) (w:=w) (base:=base) (bL (st:=eg) l4 c4 k4) (ZW X G a4) B Z bz
 have jw:=jw (P:=l.prog) (w:=w) (base:=base) (bL (st:=iF) l5 c5 k5) (ZW X G a5) B Z bz
 have fO:=fO (P:=l.prog) (w:=w) (base:=base) (bL (st:=iN) l6 c6 k6) (ZW X G a6) B Z aO
 have lH:=lH (P:=l.prog) (w:=w) (base:=base) (bL (st:=kh) l7 c7 k7) (ZW X G a7) B Z aO
 have eG:=eG (P:=l.prog) (w:=w) (base:=base) (bL (st:=eP) l8 c8 k8) (ZW X G a8) B Z
 have aP:=aP (P:=l.prog) (w:=w) (base:=base) (bL (st:=dM) l9 c9 k9) (ZW X G a9) B Z
 have b8:=b8 (P:=l.prog) (w:=w) (base:=base) (bL (st:=dR) l10 c10 k10) (ZW X G a10) B Z
 have cy:=cy (P:=l.prog) (w:=w) (base:=base) (bL (st:=bO) l11 c11 k11) (ZW X G a11) B Z b8
 have cC:=cC (P:=l.prog) (w:=w) (base:=base) (bL (st:=bN) l12 c12 k12) (ZW X G a12) B Z aP b8
 have fu:=fu (P:=l.prog) (w:=w) (base:=base) (bL (st:=eA) l13 c13 k13) (ZW X G a13) B Z cy cC eG aP
 have d7:=d7 (P:=l.prog) (w:=w) (base:=base) (bL (st:=di) l14 c14 k14) (ZW X G a14) B Z
 have dA:=dA (P:=l.prog) (w:=w) (base:=base) (bL (st:=cJ) l15 c15 k15) (ZW X G a15) B Z
 have d6:=d6 (P:=l.prog) (w:=w) (base:=base) (bL (st:=df) l16 c16 k16) (ZW X G a16) B Z dA
 have dv:=dv (P:=l.prog) (w:=w) (base:=base) (bL (st:=cG) l17 c17 k17) (ZW X G a17) B Z
 have eX:=eX (P:=l.prog) (w:=w) (base:=base) (bL (st:=dJ) l18 c18 k18) (ZW X G a18) B Z
 have eS:=eS (P:=l.prog) (w:=w) (base:=base) (bL (st:=dQ) l19 c19 k19) (ZW X G a19) B Z fO lH bz fF jw
 have dz:=dz (P:=l.prog) (w:=w) (base:=base) (bL (st:=bW) l20 c20 k20) (ZW X G a20) B Z eS
 exact Cq (B5 (bL (st:=jh) l21 c21 k21) B Z fu aP dv d7 dz d6 eX fO bz) hlaw
end T16
open PySem PySem.W PyProof.Rows PySem.W.X PySem.W.ZRun
set_option maxRecDepth 100000 in
set_option maxHeartbeats 0 in
theorem PySem.Challenge.cw_allparts_k16_stands_refused_holds : PySem.Challenge.rw_allparts_k16_stands_refused.Holds := by
 w_on;o_law;z_head;(case hw=>w_witness2)
 k_fill
 intro w s₀ s₁ mg mb G y fa o pm cd doc dV kV ho hd hcd hD hmg hg args vals as L hpre hlay hrd hwl hlo
 z_open y L KX ZH ZN ZT
 clear ZH ZN ZT
 refine VS.wb (l:=PySem.Challenge.rw_allparts_k16_stands_refused) (k:=7) (x := "_law_script") (g:=VS.yY) rfl rfl ⟨rfl,by decide,by decide⟩ (fun _=>rfl) ?F w s₀ s₁ mg mb G KX fa o pm cd doc dV kV ho hd hcd hD hmg hg args vals as hpre hlay hrd hwl hlo
 case F =>
  intro w mg fa h KX G hmg
  refine' T16.all_mk KX G hmg T16.vm ?a0 ?l0 ?c0 ?k0 ?a1 ?l1 ?c1 ?k1 ?a2 ?l2 ?c2 ?k2 ?a3 ?l3 ?c3 ?k3 ?a4 ?l4 ?c4 ?k4 ?a5 ?l5 ?c5 ?k5 ?a6 ?l6 ?c6 ?k6 ?a7 ?l7 ?c7 ?k7 ?a8 ?l8 ?c8 ?k8 ?a9 ?l9 ?c9 ?k9 ?a10 ?l10 ?c10 ?k10 ?a11 ?l11 ?c11 ?k11 ?a12 ?l12 ?c12 ?k12 ?a13 ?l13 ?c13 ?k13 ?a14 ?l14 ?c14 ?k14 ?a15 ?l15 ?c15 ?k15 ?a16 ?l16 ?c16 ?k16 ?a17 ?l17 ?c17 ?k17 ?a18 ?l18 ?c18 ?k18 ?a19 ?l19 ?c19 ?k19 ?a20 ?l20 ?c20 ?k20 ?a21 ?l21 ?c21 ?k21 ?z_ValueError ?z_any ?z_bool ?z_enumerate ?z_int ?z_isinstance ?z_len ?z_list ?z_min ?z_range ?z_sorted ?z_tuple ?w_NoBook ?w_NoNumber ?w_NoRow ?w_NoStand ?w_NoTable ?w_NoText ?w_NoWord ?w_PartError ?w_TooMany ?v_q ?v_x0 ?v_x1 ?v_x2 ?v_x3 ?v_x4 ?v_p_PartError ?v_k_NoBook ?v_k_NoNumber ?v_k_NoRow ?v_k_NoStand ?v_k_NoTable ?v_k_NoText ?v_k_NoWord ?v_k_TooMany ?v_b_ValueError
  (case a0=>k_is)
  (case l0=>k_is)
  (case c0=>k_is)
  (case k0=>k_is)
  (case a1=>k_is)
  (case l1=>k_is)
  (case c1=>k_is)
  (case k1=>k_is)
  (case a2=>k_is)
  (case l2=>k_is)
  (case c2=>k_is)
  (case k2=>k_is)
  (case a3=>k_is)
  (case l3=>k_is)
  (case c3=>k_is)
  (case k3=>k_is)
  (case a4=>k_is)
  (case l4=>k_is)
  (case c4=>k_is)
  (case k4=>k_is)
  (case a5=>k_is)
  (case l5=>k_is)
  (case c5=>k_is)
  (case k5=>k_is)
  (case a6=>k_is)
  (case l6=>k_is)
  (case c6=>k_is)
  (case k6=>k_is)
  (case a7=>k_is)
  (case l7=>k_is)
  (case c7=>k_is)
  (case k7=>k_is)
  (case a8=>k_is)
  (case l8=>k_is)
  (case c8=>k_is)
  (case k8=>k_is)
  (case a9=>k_is)
  (case l9=>k_is)
  (case c9=>k_is)
  (case k9=>k_is)
  (case a10=>k_is)
  (case l10=>k_is)
  (case c10=>k_is)
  (case k10=>k_is)
  (case a11=>k_is)
  (case l11=>k_is)
  (case c11=>k_is)
  (case k11=>k_is)
  (case a12=>k_is)
  (case l12=>k_is)
  (case c12=>k_is)
  (case k12=>k_is)
  (case a13=>k_is)
  (case l13=>k_is)
  (case c13=>k_is)
  (case k13=>k_is)
  (case a14=>k_is)
  (case l14=>k_is)
  (case c14=>k_is)
  (case k14=>k_is)
  (case a15=>k_is)
  (case l15=>k_is)
  (case c15=>k_is)
  (case k15=>k_is)
  (case a16=>k_is)
  (case l16=>k_is)
  (case c16=>k_is)
  (case k16=>k_is)
  (case a17=>k_is)
  (case l17=>k_is)
  (case c17=>k_is)
  (case k17=>k_is)
  (case a18=>k_is)
  (case l18=>k_is)
  (case c18=>k_is)
  (case k18=>k_is)
  (case a19=>k_is)
  (case l19=>k_is)
  (case c19=>k_is)
  (case k19=>k_is)
  (case a20=>k_is)
  (case l20=>k_is)
  (case c20=>k_is)
  (case k20=>k_is)
  (case a21=>k_is)
  (case l21=>k_is)
  (case c21=>k_is)
  (case k21=>k_is)
  (case z_ValueError=>k_is)
  (case z_any=>k_is)
  (case z_bool=>k_is)
  (case z_enumerate=>k_is)
  (case z_int=>k_is)
  (case z_isinstance=>k_is)
  (case z_len=>k_is)
  (case z_list=>k_is)
  (case z_min=>k_is)
  (case z_range=>k_is)
  (case z_sorted=>k_is)
  (case z_tuple=>k_is)
  (case w_NoBook=>k_is)
  (case w_NoNumber=>k_is)
  (case w_NoRow=>k_is)
  (case w_NoStand=>k_is)
  (case w_NoTable=>k_is)
  (case w_NoText=>k_is)
  (case w_NoWord=>k_is)
  (case w_PartError=>k_is)
  (case w_TooMany=>k_is)
  (case v_q=>first | k_is | kernel_rfl | decide +kernel)
  (case v_x0=>first | k_is | kernel_rfl | decide +kernel)
  (case v_x1=>first | k_is | kernel_rfl | decide +kernel)
  (case v_x2=>first | k_is | kernel_rfl | decide +kernel)
  (case v_x3=>first | k_is | kernel_rfl | decide +kernel)
  (case v_x4=>first | k_is | kernel_rfl | decide +kernel)
  (case v_p_PartError=>first | k_is | kernel_rfl | decide +kernel)
  (case v_k_NoBook=>first | k_is | kernel_rfl | decide +kernel)
  (case v_k_NoNumber=>first | k_is | kernel_rfl | decide +kernel)
  (case v_k_NoRow=>first | k_is | kernel_rfl | decide +kernel)
  (case v_k_NoStand=>first | k_is | kernel_rfl | decide +kernel)
  (case v_k_NoTable=>first | k_is | kernel_rfl | decide +kernel)
  (case v_k_NoText=>first | k_is | kernel_rfl | decide +kernel)
  (case v_k_NoWord=>first | k_is | kernel_rfl | decide +kernel)
  (case v_k_TooMany=>first | k_is | kernel_rfl | decide +kernel)
  (case v_b_ValueError=>first | k_is | kernel_rfl | decide +kernel)
end
