import PyProof.Rows.All
import Wide.All
import OpenK.AllK
import Wide.FinOn
import Lean
import PyProof.EqAt
import PyProof.EqKinds
import PyProof.TupleCall
import PyProof.Rows.SortShellK
import PyProof.Rows.SortStr
import PyProof.Rows.SortWalk
import PyProof.StrBlockH
import PyProof.StrLawsIn
import PyProof.Rows.SetFrom
import PyProof.CollectWalk
import KE.KDictSum
import PyProof.ListStr
import PyProof.SeqI3
import PyProof.Rows.CallKwBuiltin
import PyProof.ListRange
import PyProof.AttrMissSeq
import PyProof.DictUpdate
import PyProof.DictList
import PyProof.ListNew
import PyProof.FactsAll.dict_1
import PyProof.SliceList
import PyProof.WalkInts
import PyProof.StationsW
import OpenK.KOwn
import KE.KTryMore
import PyProof.NsDelKeeps
import PyProof.ExcArgsOwn
import PyProof.ExcAttrAll.Exception
import OpenK.KDescr
import KE.KIsAll
import PyProof.ExcBaseAll.ValueError
import PyProof.StrBlock
import PyProof.StrCalls
import PyProof.StrLawsOccR
import KE.KDictOf
import PyProof.Rows.Range3
import PyProof.Rows.ZipForRows
import KE.KLam
import PySem.Challenge.RW_allparts_k26_parts_by_numbers
namespace PySem.W.Fast
def tw7789365592626497216:True:=⟨⟩
def tw4300203809854595282:True:=⟨⟩
def tw14141067284542075205:True:=⟨⟩
def tw17627392620985576873:True:=⟨⟩
def tw5083861751918568119:True:=⟨⟩
def tw12024770499092803425:True:=⟨⟩
def tw4057754436153460399:True:=⟨⟩
def tw18064718074604291154:True:=⟨⟩
def tw14391066544341123324:True:=⟨⟩
def tw2172327519300337709:True:=⟨⟩
def tw973666475349677475:True:=⟨⟩
def tw2199619865115366859:True:=⟨⟩
def tw12944466815196561268:True:=⟨⟩
def tw8192232004416536253:True:=⟨⟩
def tw2211896909991994577:True:=⟨⟩
def tw10312825993975572050:True:=⟨⟩
def tw16733110249086947832:True:=⟨⟩
def tw7949049442909008882:True:=⟨⟩
def tw14272161481615518436:True:=⟨⟩
def tw6338870462359039629:True:=⟨⟩
def tw11732810457051699603:True:=⟨⟩
def tw13611816303433595363:True:=⟨⟩
def tw7203614582475919656:True:=⟨⟩
def tw9838514772546712397:True:=⟨⟩
def tw12662569304981073373:True:=⟨⟩
def tw4431537834302570427:True:=⟨⟩
def tw4635065676149117186:True:=⟨⟩
def tw12380610930380891805:True:=⟨⟩
def tw62244634426963964:True:=⟨⟩
def tw10701281579707601612:True:=⟨⟩
def tw12277266269267088070:True:=⟨⟩
def tw11414124133603655508:True:=⟨⟩
def tw3944719977733012643:True:=⟨⟩
def tw5346447236978494727:True:=⟨⟩
def tw8825501267967765236:True:=⟨⟩
def tw16800545800820688552:True:=⟨⟩
def tw15892621696011326348:True:=⟨⟩
def tw11581245168447027928:True:=⟨⟩
def tw7957706924674066657:True:=⟨⟩
def tw15330251047140535344:True:=⟨⟩
end PySem.W.Fast
open Option renaming some->O, none->Y
open Bool renaming true->J, false->S
theorem M.{u}{α:Sort u}{a:α}:a=a:=rfl
open PySem renaming Shared->FB, model->FM, sizeLine->FS, Addr->GM, Value->IR, wpAny->KB, starEach->KM, FuncData->On, Program->PP, Around->Pi, keywordEach->P3, compareOp->SB, Heap->SC, World->SL, attributeBase->SZ, foldedSetIterable->UF
open PyProof.Rows renaming Keyed->KF, SortSt->Pv, pendingOf->Re
set_option linter.all false
set_option maxRecDepth 100000
set_option Elab.async false
set_option maxHeartbeats 4000000
abbrev Yl:=PySem.Value->PySem.Shared->Prop
abbrev Yh:=List (PySem.Addr×PySem.Obj)
abbrev Yb:=List (List PySem.Addr)
abbrev Xj:=PySem.W.Frag
abbrev X2:=PySem.Str->Option PySem.Value
abbrev Wn:=List PySem.Addr
abbrev Wm:=List PySem.Value
abbrev Wd:=Option PySem.Value
abbrev W3:=List Nat
abbrev Vw:=List Int
abbrev Vh:=List (List (List Nat))
abbrev Zr:=@if_pos
abbrev Zm:=@if_neg
abbrev ZT:=@decide_eq_true
abbrev ZP:=@decide_eq_false
open Option renaming bind_eq_some_iff->Zz,bind_some->Zq,map_eq_some_iff->Zn,map_some->Yt,getD_some->XY,isSome_iff_exists->XS
open PySem renaming wpAny_bind->Zy,wpAny_pure->Zp,wpAny_mono->Yn,wpAny_holding->YJ,wpAny_truthy_bool->Y1,wpAny_forIn_list->Xn,wpAny_passesOwn->Xc,mem_of_lookup->XT,wpAny_call_entry->XM,wpAny_specialOf->XB,wpAny_Call_Name_kw->X0,wpAny_newObj_type->X7,wpAny_rule->Wr,wpAny_newList->Wq,wpAny_attempt->Wp,wpAny_typeNameOfWhole_keyiter->Wo,codeAny_mono->WX,wpAny_isInstance->W1,wpAny_execs_nil->W4,isSubtype_tuple_tuple->W8,sizeLine_eq->Vv
open List renaming mem_cons_self->Zx,mem_cons_of_mem->Zw,length_map->Zv,length_append->Zu,map_cons->Zt,mem_cons->Zo,length_cons->Zj,getElem?_eq_getElem->Zh,mem_singleton->Zf,size_toArray->Ze,flatten_cons->Zd,mem_append->Zc,append_assoc->Zb,getElem?_eq_some_iff->ZY,length_singleton->ZW,nodup_cons->ZU,pairwise_append->ZS,getElem?_map->ZR,getD_eq_getElem?_getD->ZQ,length_take->ZO,length_range->ZH,length_drop->ZG,mem_range->ZF,all_eq_true->ZE,zip_cons_cons->ZC,nodup_append->ZA,take_of_length_le->GG,mem_append_right->GF,getElem?_append_right->Hg,append_nil->Ft,flatten_append->Gk,getElem_of_mem->GE,length_zip->Yz,map_map->Yy,find?_cons->Yx,getElem?_eq_none_iff->Yw,getElem?_append_left->Yv,mem_map->Yr,map_append->Ym,mem_of_mem_take->Yk,mem_of_mem_drop->Ye,pairwise_cons->Yd,findIdx?_cons->YZ,length_nil->YY,take_append_drop->YV,nil_append->YS,mem_filter->YR,mem_reverse->YQ,mem_of_getElem?->YO,sublist_cons_self->YM,drop_eq_nil_of_le->YL,drop_eq_getElem_cons->YI,perm_append_comm->YH,map_nil->YF,map_congr_left->YB,filterMap_cons->YA,lookup_cons->Y3,length_replicate->Y4,pairwise_iff_getElem->Y5,mem_append_left->Y8,any_cons->Xz,length_flatMap->Xw,getElem?_replicate->Xu,getElem?_set_self->Xp,drop_of_length_le->Xo,getElem_take->Xf,getElem_drop->Xe,getElem?_set_ne->Xb,getElem_mem->XW,getElem?_zip_eq_some->XU,zip_append->XQ,length_set->XO,length_eq_zero_iff->XI,filter_cons_of_neg->XH,pairwise_map->XE,filter_eq_nil_iff->XD,drop_zero->XC,map_snd_zip->X3,drop_append->X4,sum_cons->X5,take_append_of_le_length->X8,not_lt->X9,eq_nil_of_length_eq_zero->Wz,replicate_succ->Wt,getD_cons_succ->Ws,mem_filterMap->Wj,lt_irrefl->Wi,getElem_range->Wh,filter_append->Wg,drop_take->Wf,map_id->Wb,filter_congr->Wa,all_cons->WU,zipIdx_cons->WQ,pairwise_singleton->WO,mem_flatten->WN,mem_flatMap->WM,map_fst_zip->WL,getElem?_cons_succ->WK,filter_cons_of_pos->WJ,cons_append->WI,flatten_singleton->WE,of_mem_zip->WD,getElem?_eq_none->WA,cons_lt_cons_iff->W0,lt_trans->W5,getElem?_drop->W9,append_of_mem->Vz,getElem?_set->Vr,ext_getElem?->Vq,perm_middle->Vk,le_antisymm->Vj,filter_cons->Vi
open Nat renaming le_refl->Zs,le_trans->ZV,zero_le->ZM,ne_of_lt->ZL,le_of_lt->ZK,le_add_right->ZI,lt_of_lt_of_le->ZD,min_eq_left->Ys,pos_of_ne_zero->Yi,lt_irrefl->Yg,le_of_lt_succ->YW,sub_le->YN,add_sub_cancel_left->YD,succ_le_succ->Y2,zero_add->Y7,le_of_not_lt->Xv,le_add_right_of_le->Xq,le_add_left->Xk,lt_succ_of_lt->Xi,lt_of_succ_lt->Xh,le_of_succ_le->Xg,le_of_not_le->XX,add_assoc->XR,le_of_eq->XF,lt_of_le_of_lt->Wl,add_sub_cancel->Wk,succ_le_of_lt->Wc,min_eq_right->WS,lt_of_not_le->WR,lt_or_ge->WG,sub_pos_of_lt->Vu,lt_of_succ_le->Vt,add_sub_of_le->Vs,not_lt_of_le->Vm,lt_succ_self->Vl
open PyProof.Rows renaming wpS_pure->Zl,wpS_bind->Za,wpS_forRange->Yc,listUpdate_at->YX,callWith_type1->Y0,wpS_mono->Y9,size_push'->Xr,get?_update_seq->Xm,seqEpoch_at->XA,listItems_at->X1,wpS_modify->Wu,wpS_get->We
open Bool renaming false_ne_true->Zk,false_eq_true->FW,and_eq_true->FV,not_true->X6,and_eq_true_iff->Wy,eq_iff_iff->Wv,true_and->W7,true_eq_false->Vx
open Array renaming getElem_mem->Zi,getElem?_toList->Gm,toList_append->Yp,length_toList->Yo,perm_iff_toList_perm->YK,forIn_toList->XJ,toList_reverse->Wx,toList_extract->Ww,toList_map->WH,toArray_toList->W2,toList_push->Vp
open PySem.Heap renaming get?_push_of_some->Zg,lt_size->ZZ,get?_push_size->ZX,get?_update_ne->Yu,get?_push_ne->YG,size_update->Y6,get?_update_other->Xd,get?_update_self->Vy
open Int renaming emod_lt_of_pos->ZN,emod_nonneg->Fb,toNat_natCast->Yf
open Option.some renaming inj->ZJ
open PySem.PassesOwn renaming never->Yq
open PySem.W renaming mg_of->Yj,mg_none_of->Ya,kia_one->YU
open Ne renaming symm->YE
open List.cons renaming injEq->YC
open List.Pairwise renaming imp_of_mem->Xy
open List.Perm renaming refl->Xs
open PySem.F renaming slot_dict_setdefault->Xl,slot_dict_keyiterator_next->Xa,type_list_append->WW,slot_list_append->WV,plainAttrs_list->WT,slot_tuple_hash->WC,slot_tuple_eq->W6,args_dict_setdefault_3->Vn
open List.Sublist renaming refl->WZ
open PySem.Heap.SameBut renaming update->WY
open PySem.Paired renaming length->WB
open PySem.Value renaming isStrOf_shape->Vo
section
namespace p0
def fO{G:Prop}(h:∀P:Prop,(G->P)->P):G:=h G id
end p0
namespace VS
abbrev Tx:=W3
inductive T where
 |non | bl (b:Bool) | int (i:Int) | str (s:Tx) | scr (ns:Vw)
 |tup (l:List T) | lst (l:List T) | dct (kd:Nat) (l:List (T×T)) | obj (c:Nat) (fs:List (Nat×T))
 deriving Inhabited
abbrev Vd:=List T
def fC:Nat:=16777216
mutual
def DZ:T->Bool
 |.lst _=>S
 |.dct _ _=>S
 |.obj _ _=>S
 |.tup l=>eT l
 |_=>J
@[simp] def eT:Vd->Bool
 |[]=>J
 |t :: r=>DZ t&&eT r
end
mutual
@[simp] def eqT:T->T->Bool
 |.non,.non=>J
 |.bl a,.bl b=>a==b
 |.bl a,.int i=>(if a then 1 else 0)==i
 |.int i,.bl a=>i==(if a then 1 else 0)
 |.int i,.int j=>i==j
 |.str s,.str t=>s==t
 |.tup a,.tup b=>il a b
 |.lst a,.lst b=>il a b
 |_,_=>S
def il:Vd->Vd->Bool
 |[],[]=>J
 |a :: d,b :: bs=>eqT a b&&il d bs
 |_,_=>S
end
@[simp] def Ek:Nat->T->Bool
 |_,.non=>J
 |_,.bl _=>J
 |_,.int _=>J
 |_,.str _=>J
 |n+1,.tup l=>l.all (Ek n)
 |n+1,.lst l=>l.all (Ek n)
 |_,_=>S
inductive Md where | fr | pu | bo
 deriving DecidableEq,Inhabited
@[simp] def Md.join:Md->Md->Md
 |.bo,_=>.bo
 |_,.bo=>.bo
 |.pu,_=>.pu
 |_,.pu=>.pu
 |.fr,.fr=>.fr
inductive Cell where | pu (t:T) | ow (t:T)
 deriving Inhabited
abbrev Vg:=Option Cell
abbrev Env:=List (Vg)
abbrev Val:=Md×T
abbrev Ve:=Option Val
abbrev Vf:=List Val
abbrev Ex:=Env->Ve
abbrev D5:=Env->Option (Vf)
@[simp] def up(m:Md)(t:T):Val:=(if DZ t then .fr else m,t)
def BS:T->Bool
 |.lst _=>J
 |.dct _ _=>J
 |.obj _ _=>J
 |_=>S
@[simp] def cellOf:Val->Vg
 | (.fr,t)=>O (if BS t then .ow t else .pu t)
 | (.pu,t)=>O (.pu t)
 | (.bo,_)=>Y
inductive Out where | nx (U:Env) | rt (v:Val) (U:Env) | bk (U:Env) | ct (U:Env)
abbrev Sx:=Env->Option Out
@[simp] def eC(t:T)(_:Env):Ve:=O (.fr,t)
abbrev Q3(i:Int):Ex:=eC (.int i)
@[simp] def ae(i:Nat)(U:Env):Ve:=match U[i]? with
 |some (some (.pu t))=>O (up .pu t)
 |some (some (.ow t))=>O (.bo,t)
 |_=>Y
@[simp] def e1(f:Val->Ve)(a:Ex)(U:Env):Ve:=(a U).bind f
@[simp] def e2(f:Val->Val->Ve)(a b:Ex)(U:Env):Ve:=(a U).bind λx=>(b U).bind λy=>f x y
@[simp] def aC(_:Env):Option (Vf):=O []
@[simp] def af(a:Ex)(r:D5)(U:Env):Option (Vf):=(a U).bind λx=>(r U).bind λxs=>O (x :: xs)
@[simp] def eN(f:Vf->Ve)(a:D5)(U:Env):Ve:=(a U).bind f
@[simp] def bP:Vf->Md
 |[]=>.fr
 |v :: r=>v.1.join (bP r)
@[simp] def trees(l:Vf):Vd:=l.map (·.2)
def Fh(m:Md)(l:Vd):Ve:=if l.length<=fC then O (if eT l then .fr else m,.lst l) else Y
@[simp] def gR(a:D5)(U:Env):Ve:=(a U).bind λl=>Fh (bP l) (trees l)
def oV(l:Vf):Ve:=if l.length<=fC then O (up (bP l) (.tup (trees l))) else Y
@[simp] def pF(a:D5)(U:Env):Ve:=(a U).bind oV
def dput(l:List (T×T))(k v:T):List (T×T):=if l.any (λp=>eqT p.1 k) then l.map (λp=>if eqT p.1 k then (p.1,v) else p) else l++[(k,v)]
def iP:T->Bool
 |.int _=>J
 |.str _=>J
 |_=>S
def keyOk:Nat->T->Bool
 |0,t=>iP t
 |1,.tup l=>l.all iP
 |_,_=>S
def pairs:List (Ex×Ex)->Env->Option (List (Val×Val))
 |[],_=>O []
 | (a,b) :: r,U=>(a U).bind λx=>(b U).bind λy=>(pairs r U).map ((x,y) :: ·)
def oq(a:Nat)(b:List (Ex×Ex))(U:Env):Ve:=(pairs b U).bind λl=>if l.all (λp=>keyOk a p.1.2)/\l.length<=15 then
 O (bP (l.map (·.2)),.dct a (l.foldl (λd p=>dput d p.1.2 p.2.2) [])) else Y
def HX:T->Option Bool
 |.bl b=>O b
 |.int i=>O (i != 0)
 |.str s=>O (!s.isEmpty)
 |.lst l=>O (!l.isEmpty)
 |.tup l=>O (!l.isEmpty)
 |.dct 0 l=>O (!l.isEmpty)
 |.non=>O S
 |_=>Y
@[simp] def mT(a b:Ex)(U:Env):Ve:=(a U).bind λx=>match x.2 with
 |.bl true=>b U
 |.bl false=>O (.fr,.bl S)
 |_=>Y
@[simp] def Lf(a b:Ex)(U:Env):Ve:=(a U).bind λx=>match x.2 with
 |.bl true=>O (.fr,.bl J)
 |.bl false=>b U
 |_=>Y
@[simp] def om(a:Ex)(U:Env):Ve:=(a U).bind λx=>match x.2 with
 |.bl b=>O (.fr,.bl (!b))
 |_=>Y
def Nw:T->Bool
 |.non=>J
 |_=>S
@[simp] def nW(a:Ex)(U:Env):Ve:=(a U).bind λx=>O (.fr,.bl (!Nw x.2))
@[simp] def gH(f g:Val->Val->Ve)(a b c:Ex)(U:Env):Ve:=(a U).bind λx=>(b U).bind λy=>(f x y).bind λr=>match r.2 with
 |.bl true=>(c U).bind λz=>g y z
 |.bl false=>O (.fr,.bl S)
 |_=>Y
@[simp] def int?:T->Option Int
 |.int i=>O i
 |_=>Y
def bD:Val->Val->Ve
 | (_,.int i),(_,.int j)=>O (.fr,.int (i+j))
 | (_,.str s),(_,.str t)=>if s.length+t.length<=fC then O (.fr,.str (s++t)) else Y
 | (m,.lst s),(n,.lst t)=>Fh (m.join n) (s++t)
 |_,_=>Y
@[simp] def ik:Val->Val->Ve
 | (_,.int i),(_,.int j)=>O (.fr,.int (i-j))
 |_,_=>Y
def JV:Int:=4611686018427387904
def LI:Int:=18446744073709551616
def eG:Val->Val->Ve
 | (_,.int i),(_,.int j)=>if (-LI<i/\i<LI)\/(-LI<j/\j<LI) then O (.fr,.int (i*j)) else Y
 |_,_=>Y
def nH:Val->Val->Ve
 | (_,.str s),(_,.int j)=>if s.length*j.toNat<=fC/\-JV<=j/\j<JV then O (.fr,.str (List.replicate j.toNat s).flatten) else Y
 |_,_=>Y
def fi:Val->Val->Ve
 | (_,.int i),(_,.int j)=>if 0<j/\j<1073741824 then O (.fr,.int (i/j)) else Y
 |_,_=>Y
def oMod:Val->Val->Ve
 | (_,.int i),(_,.int j)=>if 0<j then O (.fr,.int (i%j)) else Y
 |_,_=>Y
def EB:Tx->Tx->Bool
 |[],[]=>S
 |[],_ :: _=>J
 |_ :: _,[]=>S
 |a :: d,b :: bs=>if a<b then J else if b<a then S else EB d bs
@[simp] def oLt:Val->Val->Ve
 | (_,.int i),(_,.int j)=>O (.fr,.bl (decide (i<j)))
 | (_,.str s),(_,.str t)=>O (.fr,.bl (EB s t))
 |_,_=>Y
@[simp] def oLe:Val->Val->Ve
 | (_,.int i),(_,.int j)=>O (.fr,.bl (decide (i<=j)))
 | (_,.str s),(_,.str t)=>O (.fr,.bl (!EB t s))
 |_,_=>Y
@[simp] def Gi(a b:Val):Ve:=oLt b a
@[simp] def II(a b:Val):Ve:=oLe b a
@[simp] def oEq(a b:Val):Ve:=if Ek 60 a.2/\Ek 60 b.2 then O (.fr,.bl (eqT a.2 b.2)) else Y
@[simp] def HG(a b:Val):Ve:=if Ek 60 a.2/\Ek 60 b.2 then O (.fr,.bl (!eqT a.2 b.2)) else Y
def dE(l:List (T×T))(k:T):Option T:=(l.find? λp=>eqT p.1 k).map (·.2)
def Et(n:Nat)(i:Int):Option Nat:=if 0<=i then (if i<n then O i.toNat else Y) else (if 0<=i+n then O (i+n).toNat else Y)
@[simp] def sub(m:Md)(t:T):Val:=up m t
@[simp] def aJ:Val->Val->Ve
 | (m,.lst l),(_,.int i)=>(Et l.length i).bind λk=>(l[k]?).map (sub m)
 | (m,.tup l),(_,.int i)=>(Et l.length i).bind λk=>(l[k]?).map (sub m)
 | (_,.scr l),(_,.int i)=>(Et l.length i).bind λk=>(l[k]?).map λn=>(.fr,.int n)
 | (_,.str l),(_,.int i)=>(Et l.length i).bind λk=>(l[k]?).map λn=>(.fr,.str [n])
 |_,_=>Y
def clip(n:Nat)(i:Int):Nat:=if i<0 then (i+n).toNat else min i.toNat n
def cut{α:Type}(l:List α)(a b:Option Int):List α :=
 let lo:=match a with | none=>0 | some i=>clip l.length i
 let d:=match b with | none=>l.length | some i=>clip l.length i
 (l.drop lo).take (d-lo)
@[simp] def Pr(v:Val)(a b:Option Int):Ve:=match v with
 | (_,.str s)=>O (.fr,.str (cut s a b))
 | (m,.lst l)=>Fh m (cut l a b)
 |_=>Y
@[simp] def jw(c:Option Ex)(U:Env):Option (Option Int):=match c with
 |none=>O Y
 |some e=>(e U).bind λy=>(int? y.2).map O
@[simp] def Gj(a:Ex)(b d:Option Ex)(U:Env):Ve:=(a U).bind λx=>(jw b U).bind λl=>(jw d U).bind λh=>Pr x l h
def BF:T->Option Nat
 |.lst l=>O l.length
 |.tup l=>O l.length
 |.str l=>O l.length
 |.scr l=>O l.length
 |.dct 0 l=>O l.length
 |_=>Y
@[simp] def dS:Vf->Ve
 |[x]=>(BF x.2).map λn=>(.fr,.int n)
 |_=>Y
@[simp] def pq:Vf->Ve
 |[(_,.int i),(_,.int j)]=>O (.fr,.int (if j<i then j else i))
 |_=>Y
def jA:Vd->Option (Vw)
 |[]=>O []
 |.int i :: r=>(jA r).map (i :: ·)
 |_=>Y
def strs?:Vd->Option (List Tx)
 |[]=>O []
 |.str i :: r=>(strs? r).map (i :: ·)
 |_=>Y
def pR:Vf->Ve
 |[(_,.lst l)]=>(jA l).bind λis=>O (.fr,.int is.sum)
 |_=>Y
@[simp] def zo:Vf->Ve
 |[(m,.lst l)]=>Fh m l
 |[(m,.tup l)]=>Fh m l
 |_=>Y
def gq:Vf->Ve
 |[(m,.lst l)]=>if l.length<=fC then O (up m (.tup l)) else Y
 |_=>Y
def kM(x:Tx):List Tx->List Tx
 |[]=>[x]
 |y :: r=>if EB y x then y :: kM x r else x :: y :: r
def cV(l:List Tx):List Tx:=l.foldr kM []
inductive Ty where | int | str | bool | list | tuple | dict
@[simp] def oP:Ty->T->Bool
 |.int,.int _=>J
 |.int,.bl _=>J
 |.bool,.bl _=>J
 |.str,.str _=>J
 |.list,.lst _=>J
 |.tuple,.tup _=>J
 |.dict,.dct _ _=>J
 |_,_=>S
@[simp] def qE:T->Bool
 |.obj _ _=>S
 |.scr _=>S
 |.dct 0 _=>J
 |.dct 1 _=>J
 |.dct _ _=>S
 |_=>J
@[simp] def Lg(t:Ty)(a:Ex)(U:Env):Ve:=(a U).bind λx=>if qE x.2 then O (.fr,.bl (oP t x.2)) else Y
abbrev Fn:=Vd->Ve
@[simp] def aN(g:Fn)(a:D5)(U:Env):Ve:=(a U).bind λxs=>(g (trees xs)).bind λr=>match r with
 | (.fr,t)=>O (.fr,t)
 | (_,t)=>O ((Md.pu).join (bP xs),t)
abbrev Em:=Env->Option (Md×Vd)
def Ao:Val->Option (Md×Vd)
 | (m,.lst l)=>O (m,l)
 | (m,.tup l)=>O (m,l)
 | (_,.str l)=>O (.fr,l.map λc=>.str [c])
 |_=>Y
@[simp] def fT(a:Ex)(U:Env):Option (Md×Vd):=(a U).bind Ao
def rng(a:Int)(n:Nat):Vd:=(List.range n).map λ(k:Nat)=>T.int (a+k)
def cR(a:Ex)(U:Env):Option (Md×Vd):=(a U).bind λx=>(int? x.2).bind λj=>if -JV<=j/\j<JV then O (.fr,rng 0 j.toNat) else Y
def fz(k:Nat):Vd->Vd
 |[]=>[]
 |t :: r=>.tup [.int k,t] :: fz (k+1) r
def zu:Val->Option (Md×Vd)
 | (m,.lst l)=>O (m,fz 0 l)
 |_=>Y
@[simp] def oF(a:Ex)(U:Env):Option (Md×Vd):=(a U).bind zu
abbrev Tg:=T->Env->Option Env
@[simp] def br(i:Nat)(t:T)(U:Env):Option Env:=if i<U.length then O (U.set i (O (.pu t))) else Y
def p7:List Tg->Vd->Env->Option Env
 |[],[],U=>O U
 |g :: b,t :: a,U=>(g t U).bind λd=>p7 b a d
 |_,_,_=>Y
@[simp] def mY(a:List Tg)(t:T)(U:Env):Option Env:=match t with
 |.tup l=>p7 a l U
 |_=>Y
@[simp] def MS(m:Md)(l:Vd):Bool:=match m with
 |.bo=>eT l
 |_=>J
def ij(e:Tg)(a:Option Ex)(d:Ex)(U:Env):Vd->Option (Vf)
 |[]=>O []
 |t :: r=>(e t U).bind λf=>(match a with | none=>some true | some c=>(c f).bind λx=>HX x.2).bind λb =>
  if b then (d f).bind λv=>(ij e a d U r).map (v :: ·) else ij e a d U r
def dJ(k:Nat)(e:Tg)(f:Em)(a:Option Ex)(b:Ex)(U:Env):Ve:=(f U).bind λ(m,l)=>if MS m l then
 (ij e a b (List.replicate k Y++U) l).bind λd=>Fh (bP d) (trees d) else Y
@[simp] def h9(U:Env):Option Out:=O (.nx U)
@[simp] def au(a b:Sx)(U:Env):Option Out:=(a U).bind λo=>match o with
 |.nx d=>b d
 |o=>O o
@[simp] def jf(i:Nat)(e:Ex)(U:Env):Option Out:=(e U).bind λv=>(cellOf v).bind λc=>if i<U.length then O (.nx (U.set i (O c))) else Y
@[simp] def aK(i:Nat)(e:Ex)(U:Env):Option Out:=(e U).bind λv=>match v.1 with
 |.bo=>Y
 |_=>if i<U.length then O (.nx (U.set i (O (.pu v.2)))) else Y
@[simp] def eE(e:Ex)(U:Env):Option Out:=(e U).bind λv=>O (.rt (match v.1 with | .bo=>.pu | m=>m,v.2) U)
@[simp] def jv(i:Nat)(U:Env):Option Out:=match U[i]? with
 |some (some (.ow t))=>O (.rt (.fr,t) (U.set i Y))
 |some (some (.pu t))=>O (.rt (up .pu t) U)
 |_=>Y
@[simp] def FF(c:Ex)(a b:Sx)(U:Env):Option Out:=(c U).bind λx=>(HX x.2).bind λt=>if t then a U else b U
def forL(d:Tg)(a:Sx):Vd->Env->Option Out
 |[],U=>O (.nx U)
 |t :: r,U=>(d t U).bind λe=>(a e).bind λo=>match o with
  |.nx b=>forL d a r b
  |.ct b=>forL d a r b
  |.bk b=>O (.nx b)
  |.rt v b=>O (.rt v b)
@[simp] def Pq:Md->Bool
 |.bo=>S
 |_=>J
@[simp] def eW(b:Tg)(d:Em)(a:Sx)(U:Env):Option Out:=(d U).bind λ(m,l)=>if Pq m then forL b a l U else Y
def eM(c:Ex)(a:Sx):Nat->Env->Option Out
 |0,_=>Y
 |n+1,U=>(c U).bind λx=>(HX x.2).bind λt=>if t then (a U).bind λo=>match o with
  |.nx b=>eM c a n b
  |.ct b=>eM c a n b
  |.bk b=>O (.nx b)
  |.rt v b=>O (.rt v b)
  else O (.nx U)
def yX:Nat:=1000000
def p8(c:Ex)(a:Sx)(U:Env):Option Out:=eM c a yX U
@[simp] def xF(i:Nat)(U:Env):Option Out:=match U[i]? with
 |some (some (.ow t))=>O (.nx (U.set i (O (.pu t))))
 |some (some (.pu _))=>O (.nx U)
 |_=>Y
inductive LD where | fld (k:Nat) | ix (e:Ex) | un
inductive Ky where | fld (k:Nat) | at (t:T) | un
def keys:List LD->Env->Option (List Ky)
 |[],_=>O []
 |.fld k :: r,U=>(keys r U).map (.fld k :: ·)
 |.ix e :: r,U=>(e U).bind λx=>(keys r U).map (.at x.2 :: ·)
 |.un :: r,U=>(keys r U).map (.un :: ·)
def DE(a:List (Nat×T))(k:Nat):Option T:=a.lookup k
def DC(a:List (Nat×T))(k:Nat)(v:T):List (Nat×T):=if a.any (λp=>p.1==k) then a.map (λp=>if p.1==k then (p.1,v) else p) else a++[(k,v)]
noncomputable def wF{α:Type}(f:T->Option (T×α)):List Ky->T->Option (T×α)
 |[],t=>f t
 |.fld k :: r,.obj c fs=>(DE fs k).bind λx=>(wF f r x).map λ(y,a)=>(.obj c (DC fs k y),a)
 |.at (.int i) :: r,.lst l=>(Et l.length i).bind λj=>(l[j]?).bind λx=>(wF f r x).map λ(y,a)=>(.lst (l.set j y),a)
 |.at k :: r,.dct d l=>(dE l k).bind λx=>(wF f r x).map λ(y,a)=>(.dct d (dput l k y),a)
 |_,_=>Y
abbrev Xx:=Env->Option (Val×Env)
@[simp] noncomputable def mD(i:Nat)(a:List LD)(f:T->Vf->Option (T×Val))(g:D5)(U:Env):Option (Val×Env):=match U[i]? with
 |some (some (.ow t))=>(keys a U).bind λe=>(g U).bind λb=>(wF (λx=>f x b) e t).map λ(d,v)=>(v,U.set i (O (.ow d)))
 |_=>Y
@[simp] def fit(v:Val):Option T:=match v.1 with
 |.fr=>O v.2
 |_=>Y
def bx:T->Vf->Option (T×Val)
 |.lst l,[v]=>(fit v).bind λt=>if l.length<fC then O (.lst (l++[t]),(.fr,.non)) else Y
 |_,_=>Y
@[simp] def sX(x:Xx)(U:Env):Option Out:=(x U).map λr=>.nx r.2
@[simp] def fn(d e:Nat)(a:Sx):Fn:=λb=>if b.length=d then
 (a (b.map (λt=>O (.pu t))++List.replicate (e-d) Y)).bind λo=>match o with
  |.rt v _=>O v
  |.nx _=>O (.fr,.non)
  |_=>Y else Y
def gP{m n:Md}{s t:Tx}(h:s.length+t.length<=16777216):bD (m,.str s) (n,.str t)=O (.fr,.str (s++t)):=Zr h
def jd{m n:Md}{i j:Int}(h:-18446744073709551616<i/\i<18446744073709551616):eG (m,.int i) (n,.int j)=O (.fr,.int (i*j)):=Zr (.inl h)
def eA{m n:Md}{i j:Int}(h:0<j/\j<1073741824):fi (m,.int i) (n,.int j)=O (.fr,.int (i/j)):=Zr h
def aV{m n:Md}{i j:Int}(h:0<j):oMod (m,.int i) (n,.int j)=O (.fr,.int (i%j)):=Zr h
def fE{l:Vd}{t:T}(h:l.length<16777216):bx (.lst l) [(.fr,t)]=O (.lst (l++[t]),(.fr,.non)):=by
 simp only[bx,fit,Zq];exact Zr h
def kJ{a:Ex}{U:Env}{m:Md}{j:Int}(e:a U=O (m,.int j))(h:-4611686018427387904<=j/\j<4611686018427387904):cR a U=O (.fr,rng 0 j.toNat):=by
 simp only[cR,e,Zq,int?];exact Zr h
def i7{m:Md}{l:Vd}(h:l.length<=16777216):Fh m l=O (if eT l then .fr else m,.lst l):=Zr h
def bR{b:Tg}{a:Sx}{t:T}{r:Vd}{U U1 U2:Env}(h1:b t U=O U1)(d:a U1=O (.nx U2)):forL b a (t :: r) U=forL b a r U2:=by
 simp[forL,h1,d]
theorem strs_map{α:Type}(f:α->Tx):∀l:List α,strs? (l.map λx=>T.str (f x))=O (l.map f)
 |[]=>rfl
 |a :: r=>by simp[strs?,strs_map f r]
def oB(n:Nat):rng 0 n=(List.range n).map λ(k:Nat)=>T.int (k:Int):=by
 unfold rng;simp
theorem gp{α:Type}(f:α->T)(h:∀x,DZ (f x)=J):∀l:List α,eT (l.map f)=J
 |[]=>rfl
 |a :: r=>by simp[h,gp f h r]
theorem lN{α:Type}{i:Tg}{d:Ex}{U:Env}(g:α->T)(f:α->Val):∀l:List α,(∀a∈l,∃e,i (g a) U=O e/\d e=O (f a))->ij i Y d U (l.map g)=O (l.map f)
 |[],_=>rfl
 |a :: r,h=>by
  obtain⟨e,h1,m⟩:=h a Zx;simp[ij,h1,m,lN g f r λb j=>h b (Zw _ j)]
theorem iz{α:Type}{j:Tg}{c d:Ex}{U:Env}(g:α->T)(p:α->Bool)(f:α->Val):∀l:List α,(∀a∈l,∃i x,j (g a) U=O i/\c i=O x/\HX x.2=O (p a)/\(p a=J->d i=O (f a))) →
  ij j (O c) d U (l.map g)=O ((l.filter p).map f)
 |[],_=>rfl
 |a :: r,h=>by
  obtain⟨i,x,h1,o,n,s⟩:=h a Zx;have m:=iz (c:=c) g p f r λb q=>h b (Zw _ q);cases e:p a with
  |true=>simp[-HX,ij,h1,o,n,e,s e,m]
  |false=>simp[-HX,ij,h1,o,n,e,m]
theorem ko{α:Type}(f:α->T):∀l:List α,bP (l.map λa=>(Md.fr,f a))=.fr
 |[]=>rfl
 |a :: r=>by simp[ko f r]
def lA{α:Type}(f:α->Val)(l:List α):trees (l.map f)=l.map λa=>(f a).2:=by simp
def jq{α:Type}{k:Nat}{tg:Tg}{it:Em}{elt:Ex}{U:Env}{m:Md}(g:α->T)(f:α->T)(l:List α)(i:it U=O (m,l.map g))(e:MS m (l.map g)=J)(d:l.length<=16777216)(h:∀a∈l,∃b,tg (g a) (List.replicate k Y++U)=O b/\elt b=O (.fr,f a)):dJ k tg it Y elt U=O (.fr,.lst (l.map f)):=by
 simp only[dJ,i,Zq];rw[Zr e,lN g (λa=>(Md.fr,f a)) l h];simp only[Zq,ko,lA];rw[i7 (by rw[Zv];exact d)];simp
def iS{α:Type}{k:Nat}{e:Tg}{i:Em}{c b:Ex}{U:Env}{m:Md}(g:α->T)(p:α->Bool)(f:α->T)(l:List α)(o:i U=O (m,l.map g))(n:MS m (l.map g)=J)(j:l.length<=16777216)(h:∀a∈l,∃d x,e (g a) (List.replicate k Y++U)=O d/\c d=O x/\HX x.2=O (p a)/\(p a=J->b d=O (.fr,f a))):dJ k e i (O c) b U=O (.fr,.lst ((l.filter p).map f)):=by
 simp only[dJ,o,Zq];rw[Zr n,iz g p (λa=>(Md.fr,f a)) l h];simp only[Zq,ko,lA];rw[i7 (by rw[Zv];exact ZV (List.length_filter_le _ _) j)];simp
def jX{α:Type}{m n:Md}(f:α->T)(l:List α)(i:Int)(d:α)(e:0<=i)(h1:i<l.length)(a:DZ (f (l.getD i.toNat d))=J):aJ (m,.lst (l.map f)) (n,.int i)=O (.fr,f (l.getD i.toNat d)):=by
 have b:i.toNat<l.length:=by lia
 simp only[ZQ,Zh b,XY]at a ⊢;simp[Et,e,h1,b,a]
def o7{l:Vf}(h:l.length<=16777216):oV l=O (up (bP l) (.tup (trees l))):=Zr h
end VS
end
section
namespace p0
open PySem PySem.Spec PyProof.Rows
abbrev Key:=Sum Int Str
def lK:Key->IR->Bool
 |.inl k,v=>Value.isInt k v
 |.inr x,v=>Value.isStrOf x v
def C2(w:SL):Key->Int
 |.inl k=>hashInt k
 |.inr x=>hashStr w x
theorem bM:∀{k:Key}{v:IR},lK k v=J->(∃i t,k=Sum.inl i/\v=Value.int i t)\/(∃x t,k=Sum.inr x/\v=Value.str x t)
 |.inl i,v,h=>by
  obtain⟨t,e⟩:=Value.isInt_shape (k:=i) (v:=v) h;exact .inl ⟨i,t,rfl,e⟩
 |.inr x,v,h=>by
  obtain⟨t,e⟩:=Vo (x:=x) (v:=v) h;exact .inr ⟨x,t,rfl,e⟩
def t5(i:Int)(t:Tok):lK (.inl i) (.int i t)=J:=by simp[lK,Value.isInt]
def sO(x:Str)(t:Tok):lK (.inr x) (.str x t)=J:=by simp[lK,Value.isStrOf]
def Aq(a b:Int):decide ((Sum.inl a:Key)=Sum.inl b)=(a==b):=by
 by_cases e:a=b
 ·subst e;simp
 ·have h:¬(Sum.inl a:Key)=Sum.inl b:=λq=>e (Sum.inl.inj q);rw[ZP h];exact(beq_eq_false_iff_ne.mpr e).symm
def zJ(a b:Str):decide ((Sum.inr a:Key)=Sum.inr b)=decide (a=b):=by
 by_cases e:a=b
 ·subst e;simp
 ·have h:¬(Sum.inr a:Key)=Sum.inr b:=λq=>e (Sum.inr.inj q);rw[ZP h,ZP e]
def Aw(a:Int)(b:Str):decide ((Sum.inl a:Key)=Sum.inr b)=S:=ZP (λq=>nomatch q)
def AB(a:Str)(b:Int):decide ((Sum.inr a:Key)=Sum.inl b)=S:=ZP (λq=>nomatch q)
noncomputable def aX(d:PP)(w:SL):PySem.KeyKind d w Key where
 is:=lK
 hash:=C2 w
 inj:=λv a b m g=>by
  rcases bM m with⟨i,t,rfl,rfl⟩ | ⟨x,t,rfl,rfl⟩
  ·rcases bM g with⟨j,u,rfl,e⟩ | ⟨y,u,rfl,e⟩
   ·injection e with e1 _;rw[e1]
   ·exact nomatch e
  ·rcases bM g with⟨j,u,rfl,e⟩ | ⟨y,u,rfl,e⟩
   ·exact nomatch e
   ·injection e with e1 _;rw[e1]
 byValue:=λk v h=>by
  rcases bM h with⟨i,t,rfl,rfl⟩ | ⟨x,t,rfl,rfl⟩<;>rfl
 pyHash:=λf h=>by
  rcases bM f with⟨i,t,rfl,rfl⟩ | ⟨x,t,rfl,rfl⟩
  ·exact wpAny_pyHash_int h
  ·exact wpAny_pyHash_str h
 eqBool:=λl f h=>by
  rcases bM l with⟨i,t,rfl,rfl⟩ | ⟨x,t,rfl,rfl⟩
  ·rcases bM f with⟨j,u,rfl,rfl⟩ | ⟨y,u,rfl,rfl⟩
   ·rw[Aq]at h;exact wpAny_eqBool_int h
   ·rw[Aw]at h;exact SeqAt.EqAt.int_str i t y u _ _ _ _ h
  ·rcases bM f with⟨j,u,rfl,rfl⟩ | ⟨y,u,rfl,rfl⟩
   ·rw[AB]at h;exact SeqAt.EqAt.str_int x t j u _ _ _ _ h
   ·rw[zJ]at h;exact wpAny_eqBool_str h
 «strs» := λk x t v h=>by
  rcases bM h with⟨i,u,rfl,e⟩ | ⟨y,u,rfl,e⟩
  ·exact nomatch e
  ·injection e with e1 _
   subst e1;cases v<;>rfl
def oD(a:PP)(w:SL)(i:Int)(t:Tok):(aX a w).is (.inl i) (.int i t)=J:=t5 i t
def oG(a:PP)(w:SL)(x:Str)(t:Tok):(aX a w).is (.inr x) (.str x t)=J:=sO x t
inductive V where
 |non | bl (b:Bool) | int (i:Int) | str (x:Str) | byt (b:Array UInt8) | flt (b:UInt64) | ref (a:GM) | ty (n:String)
 deriving DecidableEq
def RelV:V->IR->Prop
 |.non,u=>u=Value.none
 |.bl b,u=>u=Value.bool b
 |.int i,u=>∃t,u=Value.int i t
 |.str x,u=>∃t,u=Value.str x t
 |.byt b,u=>∃t,u=Value.bytes b t
 |.flt b,u=>∃t,u=Value.float b t
 |.ref a,u=>u=Value.ref a
 |.ty n,u=>u=Value.type n
abbrev aQ:List V->Wm->Prop:=Paired RelV
theorem aQ.length{a:List V}{b:Wm}(r:aQ a b):a.length=b.length:=WB r
theorem aQ.get:∀{a:List V}{b:Wm}{i:Nat}{x:V},aQ a b->a[i]?=O x->∃u,b[i]?=O u/\RelV x u
 |_,_,_,_,.nil,e=>by simp at e
 |_,_,0,_,.cons r _,e=>by simp at e;subst e;exact⟨_,rfl,r⟩
 |_,_,i+1,x,.cons _ t,e=>by
  obtain⟨u,h1,d⟩:=aQ.get (i:=i) (x:=x) t (by simpa using e);exact⟨u,by simpa using h1,d⟩
theorem aQ.set{x:V}{u:IR}(r:RelV x u):∀{a:List V}{b:Wm}(i:Nat),aQ a b->aQ (a.set i x) (b.set i u)
 |_,_,_,.nil=>.nil
 |_,_,0,.cons _ t=>.cons r t
 |_,_,i+1,.cons q t=>.cons q (aQ.set r i t)
theorem aQ.append:∀{b a:List V}{e d:Wm},aQ b e->aQ a d->aQ (b++a) (e++d)
 |_,_,_,_,.nil,s=>s
 |_,_,_,_,.cons r t,s=>.cons r (aQ.append t s)
theorem aQ.take:∀{xs:List V}{a:Wm}(n:Nat),aQ xs a->aQ (xs.take n) (a.take n)
 |_,_,0,_=>.nil
 |_,_,_+1,.nil=>.nil
 |_,_,n+1,.cons r t=>.cons r (aQ.take n t)
theorem aQ.drop:∀{a:List V}{b:Wm}(n:Nat),aQ a b->aQ (a.drop n) (b.drop n)
 |_,_,0,r=>r
 |_,_,_+1,.nil=>.nil
 |_,_,n+1,.cons _ t=>aQ.drop n t
def aQ.none_of:∀{a:List V}{b:Wm}{i:Nat},aQ a b->a[i]?=Y->b[i]?=Y:=λ{a b i} r e=>by
 have h1:=r.length;have d:a.length<=i:=Yw.mp e;exact Yw.mpr (by lia)
def jl:Option V->Wd->Prop
 |some v,some u=>RelV v u
 |none,none=>True
 |_,_=>False
def KV{κ:Type}:List (κ×V)->List (κ×IR)->Prop:=Paired λ(p:κ×V) (q:κ×IR)=>p.1=q.1/\RelV p.2 q.2
def kV:Key->V
 |.inl i=>.int i
 |.inr x=>.str x
inductive HO where
 |lst (xs:List V)
 |tup (xs:List V)
 |dK (jj:List (Key×V)) | dT (jj:List (List Key×V))
 |set (S:Int->Bool) (n:Nat)
 |ins (C dx:GM) (fs:List (Str×V))
 |own (x:GM)
 |xd (fs:List (Str×V))
 |met (f x:GM)
 |rng (lo hi:Int)
 |frz (o:Obj) (u:HO)
 |tbl (q:Str)
 |ext (φ:SL->SC->Prop)
abbrev Hp:=GM->Option HO
def upd(H:Hp)(a:GM)(o:HO):Hp:=λb=>if b=a then O o else H b
def aw{H:Hp}{a:GM}{o:HO}:upd H a o a=O o:=by unfold upd;rw[Zr M]
def av{H:Hp}{a b:GM}{o:HO}(h:b≠a):upd H a o b=H b:=by unfold upd;rw[Zm h]
def yk{H:Hp}{a:GM}{o u:HO}:upd (upd H a o) a u=upd H a u:=by
 funext b;unfold upd;split<;>rfl
def C4{H:Hp}{a b:GM}{o u:HO}(h:H a=O o)(f:H b=O u)(d:o≠u):a≠b:=by
 intro e;subst e;rw[h]at f;exact d (ZJ f)
def aR{H:Hp}{a b:GM}{o:HO}(h:H a=O o)(d:H b=Y):a≠b:=by
 intro e;subst e;rw[h]at d;cases d
def IB(h:SC)(a:GM):Prop:=∀o,h.get? a=O o->o.dict=Y
def IB.new(h:SC)(a:Array IR):IB (h.push { cls:=.type "tuple",data:=.seq a }) h.objs.size:=λo e=>by
 rw[ZX _ M]at e;cases e;rfl
def IB.of{h:SC}{a:GM}{o:Obj}(e:h.get? a=O o)(d:o.dict=Y):IB h a:=λf b=>by
 rw[e]at b;cases b;exact d
section
variable(P:PP)(w:SL)
noncomputable def aW(H:Hp)(h:SC)(a:GM):HO->Prop
 |.lst b=>b.length<=FS/\∃(g:Wm)(n:Nat),aQ b g/\h.get? a=O { cls:=.type "list",data:=.seq g.toArray n }
 |.tup b=>b.length<=FS/\∃g:Wm,aQ b g/\IB h a/\IsTup h a g.toArray
 |.dK i=>i.length<=FS/\(a==sysModules)=false/\∃e,KV i e/\h.DictOf (aX P w) a e
 |.dT i=>i.length<=FS/\(a==sysModules)=false/\∃b:List (List Key×GM×IR),
   Paired (λ(p:List Key×V) (q:List Key×GM×IR)=>p.1=q.1/\H q.2.1=O (.tup (p.1.map kV))/\RelV p.2 q.2.2) i b ∧
   ∃o s A,h.get? a=O o/\o.ExactDict/\o.data=.dict s A/\s.toList=b.map (entryOfKey (tupleKind (aX P w)))/\(b.map (·.1)).Nodup
 |.set m n=>h.SetOf (intKind P w) a m n
 |.ins C j fs=>H j=O (.own a)/\fs.length<=1000/\j≠a/\h.get? a=O (PySem.W.instObj C j) ∧
   ∃d,h.Ns1 j d/\(∀f,jl (fs.lookup f) (d f))/\PySem.Within d (fs.map (·.1))
 |.own _=>∃o,h.get? a=O o
 |.xd fs=>∃d,h.Ns1 a d/\∀f,jl (fs.lookup f) (d f)
 |.rng lo z=>∃t u v,h.get? a=O { cls:=.type "range",data:=.fields #[.int lo t,.int z u,.int 1 v] }
 |.frz o u=>h.get? a=O o/\aW H h a u
 |.tbl q=>∃l,h.get? a=O { cls:=.none,data:=.fields l }/\TriplesOk l.toList/\∀pos v,codeAmong pos l.toList=O v->∃c o y e t,v=.ref c/\H c=O (.frz o (.own y))/\o.data=.fields e/\e[1]?=O (.str q t)
 |.met f x=>h.get? a=O (PySem.W.methodObj (.ref f) (.ref x))
 |.ext φ=>φ w h/\(∃o,h.get? a=O o)/\∀h1 r:SC,φ w h1->(∀o,h1.get? a=O o->r.get? a=O o)->φ w r
noncomputable def Ee(H:Hp)(h:SC):Prop:=∀a o,H a=O o->aW P w H h a o
end
section
variable{P:PP}{w:SL}{H H':Hp}{h h':SC}{a:GM}{o:HO}
theorem aW.lt(x:aW P w H h a o):a<h.objs.size:=by
 cases o with
 |lst b=>obtain⟨_,_,_,_,e⟩:=x;exact ZZ e
 |tup b=>obtain⟨_,_,_,_,p⟩:=x;exact p.lt
 |dK d=>obtain⟨_,_,_,_,o,_,_,e,_⟩:=x;exact ZZ e
 |dT d=>obtain⟨_,_,_,_,o,_,_,e,_⟩:=x;exact ZZ e
 |set g n=>obtain⟨o,_,_,_,e,_⟩:=x;exact ZZ e
 |ins C l fs=>obtain⟨_,_,_,e,_⟩:=x;exact ZZ e
 |own y=>obtain⟨_,e⟩:=x;exact ZZ e
 |xd fs=>obtain⟨_,⟨_,_,_,e,_⟩,_⟩:=x;exact ZZ e
 |rng lo j=>obtain⟨_,_,_,e⟩:=x;exact ZZ e
 |frz i u=>obtain⟨e,_⟩:=x;exact ZZ e
 |tbl q=>obtain⟨_,e,_⟩:=x;exact ZZ e
 |met f y=>exact ZZ (show h.get? a=O _ from x)
 |ext φ=>obtain⟨_,⟨_,e⟩,_⟩:=x;exact ZZ e
theorem Paired.Ih{α β:Type}{F G:α->β->Prop}:∀{e:List α}{d:List β},Paired F e d->(∀a b,F a b->G a b)->Paired G e d
 |_,_,.nil,_=>.nil
 |_,_,.cons r t,f=>.cons (f _ _ r) (Paired.Ih t f)
def aW.F7(x:aW P w H h a o)(k:∀b u,(b=a\/H b=O (.own a))->h.get? b=O u->h'.get? b=O u)(N:∀b,H b=O (.own a)->H' b=O (.own a))(L:∀b l,H b=O (.tup l)->H' b=O (.tup l))(Q:∀b o y,H b=O (.frz o (.own y))->H' b=O (.frz o (.own y))):aW P w H' h' a o:=by
 induction o with
 |lst l=>obtain⟨z,s,n,r,e⟩:=x;exact⟨z,s,n,r,k _ _ (.inl M) e⟩
 |tup l=>obtain⟨z,s,r,nd,g,e,c⟩:=x;exact⟨z,s,r,IB.of (k _ _ (.inl M) e) (nd _ e),g,k _ _ (.inl M) e,c⟩
 |dK G=>obtain⟨z,y,m,r,g,i,j,e,c⟩:=x;exact⟨z,y,m,r,g,i,j,k _ _ (.inl M) e,c⟩
 |dT G =>
  obtain⟨z,y,l,r,g,i,j,e,c⟩:=x;exact⟨z,y,l,Paired.Ih r λp q z=>⟨z.1,L _ _ z.2.1,z.2.2⟩,g,i,j,k _ _ (.inl M) e,c⟩
 |set R n=>obtain⟨g,i,j,t,e,c⟩:=x;exact⟨g,i,j,t,k _ _ (.inl M) e,c⟩
 |ins C X fs =>
  obtain⟨d,z,ne,e,B,⟨A,i,j,e2,c⟩,r⟩:=x;exact⟨N _ d,z,ne,k _ _ (.inl M) e,B,⟨A,i,j,k _ _ (.inr d) e2,c⟩,r⟩
 |own y=>obtain⟨g,e⟩:=x;exact⟨g,k _ _ (.inl M) e⟩
 |xd fs=>obtain⟨B,⟨A,i,j,e,c⟩,r⟩:=x;exact⟨B,⟨A,i,j,k _ _ (.inl M) e,c⟩,r⟩
 |rng lo U=>obtain⟨t,u,v,e⟩:=x;exact⟨t,u,v,k _ _ (.inl M) e⟩
 |frz g u I=>obtain⟨e,q⟩:=x;exact⟨k _ _ (.inl M) e,I q⟩
 |tbl q =>
  obtain⟨F,e,e1,e2⟩:=x;refine⟨F,k a _ (.inl M) e,e1,λpos v r=>?_⟩;obtain⟨c,o,y,m,t,r1,r2,D⟩:=e2 pos v r;exact⟨c,o,y,m,t,r1,Q _ _ _ r2,D⟩
 |met f y =>
  have e:h.get? a=O (PySem.W.methodObj (.ref f) (.ref y)):=x;show h'.get? a=O (PySem.W.methodObj (.ref f) (.ref y));exact k a _ (.inl M) e
 |ext φ=>obtain⟨p,⟨o,e⟩,st⟩:=x;exact⟨st _ _ p λo q=>k _ _ (.inl M) q,⟨o,k _ _ (.inl M) e⟩,st⟩
theorem Ee.lt(x:Ee P w H h)(e:H a=O o):a<h.objs.size:=(x a o e).lt
def Ee.fresh(x:Ee P w H h)(e:h.objs.size<=a):H a=Y:=by
 cases q:H a with
 |none=>rfl
 |some u=>exact absurd (ZD (x.lt q) e) (Yg _)
def Ee.kept(x:Ee P w H h)(k:∀b u,h.get? b=O u->h'.get? b=O u):Ee P w H h':=λa o e =>
 (x a o e).F7 (λb u _ q=>k b u q) (λ_ q=>q) (λ_ _ q=>q) λ_ _ _ q=>q
def Ee.laid(x:Ee P w H h)(k:∀b u,h.get? b=O u->h'.get? b=O u)(i:h.objs.size<=a)(d:aW P w (upd H a o) h' a o):Ee P w (upd H a o) h':=λb u e=>by
 have f:=x.fresh i;by_cases g:b=a
 ·subst g;rw[aw]at e;cases e;exact d
 ·rw[av g]at e;exact(x b u e).F7 (λc v _ q=>k c v q) (λc q=>by rw[av (aR q f)];exact q) (λc j q=>by rw[av (aR q f)];exact q) λc _ _ q=>by rw[av (aR q f)];exact q
end
def Rd(H:Hp)(a:GM)(u:HO):Prop:=H a=O u\/∃o,H a=O (.frz o u)
def Rd.ok{P:PP}{w:SL}{H:Hp}{h:SC}{a:GM}{u:HO}(r:Rd H a u)(x:Ee P w H h):aW P w H h a u:=by
 rcases r with r | ⟨o,r⟩
 ·exact x a u r
 ·obtain⟨_,q⟩:=x a _ r;exact q
def DI:Option HO->Prop
 |some (.lst _)=>True
 |some (.dK _)=>True
 |some (.dT _)=>True
 |some (.set _ _)=>True
 |some (.ins _ _ _)=>True
 |some (.ext _)=>True
 |_=>False
section
variable{P:PP}{w:SL}{H:Hp}{h h':SC}{x e:GM}{o':HO}
def Ee.write(o:Ee P w H h)(a:DI (H x))(m:e=x\/H e=O (.own x))(k:∀b u,b≠e->h.get? b=O u->h'.get? b=O u)(t:∃u,h'.get? e=O u)(j:aW P w (upd H x o') h' x o'):Ee P w (upd H x o') h':=λb u q=>by
 have n:∀c y,H c=O (.own y)->c≠x:=λc y r z=>by subst z;rw[r]at a;exact a
 have s:∀c d,H c=O (.tup d)->c≠x:=λc d r z=>by subst z;rw[r]at a;exact a
 by_cases g:b=x
 ·subst g;rw[aw]at q;cases q;exact j
 ·rw[av g]at q;by_cases i:b=e
  ·have l:H b=O (.own x):=by
    rcases m with z | z
    ·exact absurd (i.trans z) g
    ·rw[i];exact z
   rw[q]at l;cases l;obtain⟨v,p⟩:=t;exact⟨v,by rw[i];exact p⟩
  ·refine(o b u q).F7 (λc v f r=>k c v ?_ r) (λc r=>by rw[av (n c b r)];exact r) (λc d r=>by rw[av (s c d r)];exact r) λc _ _ r=>by rw[av λz=>by subst z;rw[r]at a;exact a];exact r
   rcases f with rfl | f
   ·exact i
   ·rintro rfl;rcases m with z | z
    ·exact n c b f z
    ·rw[f]at z;cases z;exact g M
end
structure Un(fs ex:Wn)(H H':Hp)(h h':SC):Prop where
 keep:∀b o,h.get? b=some o->H b=none->b∉fs->b∉ex->h'.get? b=some o
 slot:∀b o,h.get? b=some o->H b=none->b∈fs->b∉ex->∃sl,h'.get? b=some { o with slots:=sl }
 free:∀b o,h.get? b=some o->H b=none->b∉ex->H' b=none
 there:∀b o,h.get? b=some o->b∉ex->∃o',h'.get? b=some o'
 F0:∀b xs,H b=some (.tup xs)->H' b=some (.tup xs)
 FL:∀b o u,H b=some (.frz o u)->H' b=some (.frz o u)
 Fg:∀b q,H b=some (.tbl q)->H' b=some (.tbl q)
section
variable{fs TU ex VB:Wn}{H H1 H2:Hp}{h h1 h2 h':SC}{a x e:GM}{o:HO}
def Un.any(u:Un fs ex H H1 h h1){b:GM}{d:Obj}(q:h.get? b=O d)(n:H b=Y)(f:b∉ex):∃i,h1.get? b=O { d with slots:=i }:=by
 by_cases g:b∈fs
 ·exact u.slot b d q n g f
 ·exact⟨d.slots,u.keep b d q n g f⟩
def Un.kept(k:∀b u,h.get? b=O u->h'.get? b=O u):Un fs ex H H h h' :=
 ⟨λb d q _ _ _=>k b d q,λb d q _ _ _=>⟨d.slots,k b d q⟩,λ_ _ _ n _=>n,λb d q _=>⟨d,k b d q⟩,λ_ _ q=>q,λ_ _ _ q=>q,λ_ _ q=>q⟩
def Un.refl:Un fs ex H H h h:=Un.kept λ_ _ q=>q
def Un.laid(k:∀b u,h.get? b=O u->h'.get? b=O u)(g:h.objs.size<=a)(d:H a=Y):Un fs ex H (upd H a o) h h' where
 keep:=λb u q _ _ _=>k b u q
 slot:=λb u q _ _ _=>⟨u.slots,k b u q⟩
 free:=λb u q n _=>by rw[av (ZL (ZD (ZZ q) g))];exact n
 there:=λb u q _=>⟨u,k b u q⟩
 F0:=λb f q=>by rw[av (aR q d)];exact q
 FL:=λb u f q=>by rw[av (aR q d)];exact q
 Fg:=λb n q=>by rw[av (aR q d)];exact q
def Un.write(d:DI (H x))(m:e=x\/H e=O (.own x))(k:∀b u,b≠e->h.get? b=O u->h'.get? b=O u)(p:∃u,h'.get? e=O u):Un fs ex H (upd H x o) h h':=by
 have g:∀b,H b=Y->b≠x:=λb n z=>by subst z;rw[n]at d;exact d
 have i:∀b,H b=Y->b≠e:=λb n z=>by
  subst z;rcases m with r | r
  ·exact g b n r
  ·rw[n]at r;cases r
 have f:∀b u,H b=O u->¬DI (O u)->b≠x:=λb u q nm z=>by subst z;rw[q]at d;exact nm d
 refine⟨λb u q n _ _=>k b u (i b n) q,λb u q n _ _=>⟨u.slots,k b u (i b n) q⟩,λb u q n _=>by rw[av (g b n)];exact n,λb u q _=>?_,
  λb l q=>by rw[av (f b _ q λz=>z)];exact q,λb u l q=>by rw[av (f b _ q λz=>z)];exact q,λb n q=>by rw[av (f b _ q λz=>z)];exact q⟩
 by_cases j:b=e
 ·subst j;exact p
 ·exact⟨u,k b u j q⟩
end
def gone(v:IR):Obj:=⟨v,Y,.freed,#[]⟩
def sv(H:Hp)(a:GM)(o:Obj):Obj:=match H a with
 |some (.tbl q)=>gone (.str q 0)
 |some _=>gone .none
 |none=>match o.data with
  |.freed=>gone .none
  |_=>o
def kG(h:SC)(H:Hp):Heap:=⟨h.objs.mapIdx λa o=>sv H a o,h.life⟩
def Tb(b:SC)(a:GM)(q:Str):Prop:=b.objs[a]?=O (gone (.str q 0))
def sL(h:SC)(H:Hp):(kG h H).objs.size=h.objs.size:=Array.size_mapIdx
def mW(h:SC)(H:Hp)(b:GM):(kG h H).objs[b]?=(h.objs[b]?).map (sv H b):=Array.getElem?_mapIdx
def jQ{h:SC}{b:GM}{o:Obj}:h.get? b=O o↔h.objs[b]?=O o/\o.data ≠ .freed:=by
 unfold Heap.get?;split
 ·rename_i e;exact⟨λz=>(nomatch z),λ⟨z,n⟩=>by rw[e]at z;cases z;exact absurd M n⟩
 ·rename_i n;exact⟨λz=>⟨z,λd=>by
   obtain⟨c,u,a,f⟩:=o;cases (show a=Data.freed from d);exact n _ _ _ z⟩,λz=>z.1⟩
def uW{h:SC}{H:Hp}{b:GM}{o:Obj}(e:h.get? b=O o)(n:H b=Y):(kG h H).get? b=O o:=by
 obtain⟨e1,e2⟩:=jQ.mp e;refine jQ.mpr ⟨?_,e2⟩;rw[mW,e1,Yt];unfold sv;rw[n];cases h:o.data with
 |freed=>exact absurd h e2
 |_=>rfl
def xf{h:SC}{H:Hp}{b:GM}{o:Obj}(e:(kG h H).get? b=O o):h.get? b=O o/\H b=Y:=by
 obtain⟨e1,e2⟩:=jQ.mp e;rw[mW]at e1;obtain⟨u,g,a⟩:=Zn.mp e1;unfold sv at a;cases q:H b with
 |some y =>
  rw[q]at a;cases y<;>(cases a;exact absurd M e2)
 |none =>
  rw[q]at a;refine⟨jQ.mpr ?_,rfl⟩;cases d:u.data with
  |freed=>rw[d]at a;cases a;exact absurd M e2
  |_ =>
   have f:u=o:=by rw[d]at a;exact a
   subst f;exact⟨g,e2⟩
def rQ{h:SC}{H:Hp}{b:GM}{q:Str}:Tb (kG h H) b q↔H b=O (.tbl q)/\b<h.objs.size:=by
 unfold Tb;rw[mW];constructor
 ·intro e;obtain⟨u,i,a⟩:=Zn.mp e;refine⟨?_,(Array.getElem?_eq_some_iff.mp i).1⟩;unfold sv at a;cases y:H b with
  |some f =>
   rw[y]at a;cases f with
   |tbl j=>cases a;rfl
   |_=>cases a
  |none =>
   rw[y]at a;cases d:u.data with
   |freed=>rw[d]at a;cases a
   |_ =>
    have g:u=gone (.str q 0):=by rw[d]at a;exact a
    rw[g]at d;cases d
 ·rintro⟨e,l⟩;rw[Array.getElem?_eq_getElem l,Yt];unfold sv;rw[e]
def xr(g h:SC)(b:GM):Yh:=(List.range h.objs.size).filterMap λa=>if a=b\/(g.get? a).isSome=J then Y else (h.get? a).map λo=>(a,o)
def rest(g h:SC)(a d:GM):Yh:=(xr g h a).filter λp=>decide (p.1≠d)
structure Mod(K:Xj)(mg:X2)(base:SC):Prop where
 L5:K.In base
 glob:base.Ns mainGlobals mg
 blt:∃mb,base.Ns builtinsNs mb/\∀x:Str,x ≠ "__name__" → mb x=bootBuiltins x
 nolimit:base.NoLimit
structure Cx where
 prog:PP
 w:SL
 K:Xj
 mg:X2
 base:SC
 A:Pi
 N:List Str
 s₀:FB
 H₀:Hp
 env:Env
 outer:List Env
 stack:List Env
 ex:Wn
 fn:Str->Bool
 calm:Bool
 pn:Yh
 xe:Yl
abbrev K0(e:Expr)(l:List Expr)(X:Cx):Prop:=KM (e :: l) X.env=(S,eval e X.env) :: KM l X.env
abbrev K1(p:Pos)(l:List Expr)(X:Cx):Prop:=(backTo p (KM l X.env)).any (·.1)=S
abbrev K2(x:Str):Prop:=(x==("__debug__" : Str))=S
abbrev K3(x:Str):Prop:=(x==("__classdict__" : Str))=S
def EE(l:List Env):Wn:=l.filterMap (·.frame)
abbrev Cx.fs(X:Cx):Wn:=EE X.outer
def FX(a:Scope)(x:Str):Prop:=a.names.lookup x=O .local\/a.names.lookup x=O .cell\/a.names.lookup x=O .free
def Loc(a:Scope)(x:Str):Prop:=a.names.lookup x=O .local\/a.names.lookup x=O .cell
def Look(a:Env)(h:SC)(m:X2)(x:Str)(u:IR):Prop :=
 (a.kindOf x=O .local/\m x=O u)\/((a.kindOf x=O .cell\/a.kindOf x=O .free)/\∃c,a.cells.lookup x=O c/\h.IsCell c (O u))
structure Cx.Ok(X:Cx):Prop where
 mod:Mod X.K X.mg X.base
 kind:X.env.scope.kind=.function
 glob:X.env.globals=mainGlobals
 blt:X.env.builtins=builtinsNs
 above:X.s₀.heap.objs.size<=X.env.locals
 inj:∀x y c,X.env.cells.lookup x=some c->X.env.cells.lookup y=some c->x=y
 has:∀x,(X.env.kindOf x=some .cell\/X.env.kindOf x=some .free)->∃c,X.env.cells.lookup x=some c
 Lu:∀x c,X.fn x=true->X.env.cells.lookup x=some c->X.s₀.heap.objs.size<=c
 hd:X.calm=true->X.A.handled=none
 frames:X.A.frames=some X.stack
 LN:X.stack=X.outer\/(X.stack=X.env :: X.outer/\X.env.frame=some X.env.locals)
 Qr:∀b∈X.ex,b≠X.env.locals/\∀x c,X.env.cells.lookup x=some c->c≠b
 tb:∀b q,Tb X.base b q->X.H₀ b=some (.tbl q)
 bs:∀b o,X.base.get? b=some o->X.s₀.heap.get? b=some o/\X.H₀ b=none
 HP:X.base.objs.size<=X.s₀.heap.objs.size
 Hr:∀b o,X.base.get? b=some o->b∉X.ex
 Iu:∀b∈X.ex,b∉X.fs
 EU:X.s₀.heap.FunFrames X.base X.outer
 JH:∀b∈X.fs,X.H₀ b=none
structure Inv(X:Cx)(pins:Yh)(Z:List (Option V))(H:Hp)(s:FB):Prop where
 ok:X.Ok
 os:s.os=X.s₀.os
 bare:AllBare s.gens
 base:Un X.fs X.ex X.H₀ H X.s₀.heap s.heap
 loc:∃m,s.heap.Ns X.env.locals m/\∀(i:Nat)(x:Str)(v:V),X.N[i]?=some x->Z[i]?=some (some v)->FX X.env.scope x->∃u,RelV v u/\Look X.env s.heap m x u
 cell:∀x c,X.env.cells.lookup x=some c->∃v,s.heap.IsCell c v
 free:H X.env.locals=none
 Ec:∀x c,X.env.cells.lookup x=some c->H c=none
 pin:∀p∈X.pn++pins,s.heap.get? p.1=some p.2/\H p.1=none/\p.1≠X.env.locals/\p.1∉X.fs/\∀v,p.2.data ≠ .cell v
 xb:Ee X.prog X.w H s.heap
 len:Z.length=X.N.length
section
variable{X:Cx}{pins:Yh}{Z:List (Option V)}{H H':Hp}{s:FB}{h':SC}
def Cx.Ok.Na(a:X.Ok){b:GM}{o:Obj}(e:X.base.get? b=O o):b∉X.fs:=λd=>by
 have:=(a.EU.mem d).1;rw[e]at this;cases this
theorem Inv.bs(I:Inv X pins Z H s):∀b o,X.base.get? b=O o->s.heap.get? b=O o/\H b=Y:=λb o e =>
 ⟨I.base.keep b o (I.ok.bs b o e).1 (I.ok.bs b o e).2 (I.ok.Na e) (I.ok.Hr b o e),I.base.free b o (I.ok.bs b o e).1 (I.ok.bs b o e).2 (I.ok.Hr b o e)⟩
theorem Inv.tb(I:Inv X pins Z H s):∀b q,Tb X.base b q->H b=O (.tbl q):=λb q e=>I.base.Fg b q (I.ok.tb b q e)
def Inv.bk(I:Inv X pins Z H s):∀b o,X.base.get? b=O o->s.heap.get? b=O o:=λb o e=>(I.bs b o e).1
theorem Inv.mod(I:Inv X pins Z H s):Mod X.K X.mg X.base:=I.ok.mod
def Inv.FU(I:Inv X pins Z H s):X.K.In s.heap:=I.ok.mod.L5.keeps I.bk
theorem Inv.nolimit(I:Inv X pins Z H s):s.heap.NoLimit:=I.ok.mod.nolimit.keeps I.bk
theorem Inv.lt(I:Inv X pins Z H s):X.env.locals<s.heap.objs.size:=let ⟨_,a,_⟩:=I.loc;a.lt
def Inv.sz(I:Inv X pins Z H s):X.s₀.heap.objs.size<=s.heap.objs.size:=ZV I.ok.above (ZK I.lt)
def Inv.M9(I:Inv X pins Z H s){a:GM}(h:s.heap.objs.size<=a):a∉X.fs:=λd=>by
 obtain⟨_,o,b,_⟩:=I.ok.EU.mem d;exact absurd (ZD (ZZ b) (ZV I.sz h)) (Yg _)
def Inv.JN(I:Inv X pins Z H s):∀x c,X.env.cells.lookup x=O c->c≠X.env.locals:=λx c e z=>by
 obtain⟨v,o,a,hd⟩:=I.cell x c e;obtain⟨m,⟨f,g,h,d,b,_⟩,_⟩:=I.loc;rw[z,d]at a;cases a;rw[b]at hd;cases hd
theorem Inv.EU(I:Inv X pins Z H s):s.heap.FunFrames X.base X.outer:=by
 have all:∀(l:List Env),(∀b∈EE l,b∈X.fs)->X.s₀.heap.FunFrames X.base l->s.heap.FunFrames X.base l:=by
  intro l
  induction l with
  |nil=>intro _ _;trivial
  |cons env r i =>
   intro h p;obtain⟨q,⟨a,o,d,n,m,hd⟩,j⟩:=p;have g:a∈X.fs:=h a (by unfold EE;rw[YA,d];exact Zx);obtain⟨t,e⟩:=I.base.slot a o m (I.ok.JH a g) g λz=>I.ok.Iu a z g;exact⟨q,⟨a,_,d,n,e,hd⟩,i (λb f=>h b (by unfold EE;rw[YA,d];exact Zw _ f)) j⟩
 exact all X.outer (λ_ f=>f) I.ok.EU
theorem Inv.stack(I:Inv X pins Z H s):s.heap.FunFrames X.base X.stack:=by
 rcases I.ok.LN with e | ⟨e,b⟩
 ·rw[e];exact I.EU
 ·rw[e];obtain⟨m,a,_⟩:=I.loc;refine .cons (by rw[I.ok.kind];decide) b a ?_ I.EU;exact Heap.get?_none_of_le (ZV I.ok.HP I.ok.above)
def Inv.Ez(I:Inv X pins Z H s):∀b∈EE X.stack,b∈X.env.locals :: X.fs:=λb a=>by
 rcases I.ok.LN with e | ⟨e,d⟩
 ·rw[e]at a;exact Zw _ a
 ·rw[e]at a;unfold EE at a;rw[YA,d]at a;exact a
def Inv.FD(I:Inv X pins Z H s):∀b∈EE X.stack,H b=Y:=λb a=>by
 rcases Zo.mp (I.Ez b a) with e | a
 ·rw[e];exact I.free
 ·obtain⟨_,o,d,_⟩:=I.ok.EU.mem a;exact I.base.free b o d (I.ok.JH b a) λz=>I.ok.Iu b z a
def Inv.step{g':Array GenState}{t':Nat}{d':Drawn}{ch:Wn}(I:Inv X pins Z H s)(D:∀b∈ch,(b∈X.ex\/X.s₀.heap.objs.size<=b)/\b≠X.env.locals/\(∀x c,X.env.cells.lookup x=O c->c≠b)/\∀p∈X.pn++pins,p.1≠b)(g:∀b o,b≠X.env.locals->b∉X.fs->b∉ch->s.heap.get? b=O o->H b=Y->h'.get? b=O o)(j:∀b o,b≠X.env.locals->b∈X.fs->b∉ch->s.heap.get? b=O o->H b=Y->∃G,h'.get? b=O { o with slots:=G })(f:∀b o,b∉ch->s.heap.get? b=some o->H b=none->H' b=none)(t:∀b o,b∉ch->s.heap.get? b=O o->∃B,h'.get? b=O B)(F0:∀b h,H b=O (.tup h)->H' b=O (.tup h))(FL:∀b o u,H b=O (.frz o u)->H' b=O (.frz o u))(Fg:∀b q,H b=O (.tbl q)->H' b=O (.tbl q))(R:∀m,s.heap.Ns X.env.locals m->h'.Ns X.env.locals m)(Q:Ee X.prog X.w H' h')(hg:AllBare g') :
  Inv X pins Z H' { s with heap:=h',gens:=g',drawn:=d',toks:=t' }:=by
 have P:∀b o,X.s₀.heap.get? b=O o->b≠X.env.locals:=λb o e=>ZL (ZD (ZZ e) I.ok.above);have F:∀b o,X.s₀.heap.get? b=O o->b∉X.ex->b∉ch:=λb o e a y=>by
  rcases (D b y).1 with z | z
  ·exact a z
  ·exact absurd (ZD (ZZ e) z) (Yg _)
 have cellK:∀x c,X.env.cells.lookup x=O c->∀v,s.heap.IsCell c v->h'.IsCell c v:=λx c e v ⟨o,A,hd⟩=>by
  have C:c∉ch:=λz=>(D c z).2.2.1 x c e M;by_cases N:c∈X.fs
  ·obtain⟨G,q⟩:=j c o (I.JN x c e) N C A (I.Ec x c e);exact⟨_,q,hd⟩
  ·exact⟨o,g c o (I.JN x c e) N C A (I.Ec x c e),hd⟩
 refine⟨I.ok,I.os,hg,⟨λb o e n y a=>?_,λb o e n y a=>?_,λb o e n a=>?_,λb o e a=>?_,λb h e=>F0 b h (I.base.F0 b h e),λb o h e=>FL b o h (I.base.FL b o h e),λb q e=>Fg b q (I.base.Fg b q e)⟩,?_,λx c e=>?_,?_,λx c e=>?_,λp L=>?_,Q,I.len⟩
 ·exact g b o (P b o e) y (F b o e a) (I.base.keep b o e n y a) (I.base.free b o e n a)
 ·obtain⟨G,e1⟩:=I.base.slot b o e n y a;obtain⟨Rr,e2⟩:=j b _ (P b o e) y (F b o e a) e1 (I.base.free b o e n a);exact⟨Rr,e2⟩
 ·obtain⟨B,e1⟩:=I.base.there b o e a;exact f b B (F b o e a) e1 (I.base.free b o e n a)
 ·obtain⟨B,e1⟩:=I.base.there b o e a;exact t b B (F b o e a) e1
 ·obtain⟨m,U,W⟩:=I.loc;refine⟨m,R m U,λi x v e1 e2 e3=>?_⟩;obtain⟨u,r,l⟩:=W i x v e1 e2 e3;refine⟨u,r,?_⟩;rcases l with l | ⟨k,c,e,z⟩
  ·exact .inl l
  ·exact .inr ⟨k,c,e,cellK x c e _ z⟩
 ·obtain⟨v,z⟩:=I.cell x c e;exact⟨v,cellK x c e v z⟩
 ·obtain⟨m,⟨o,_,_,A,_⟩,_⟩:=I.loc;exact f _ o (λz=>(D _ z).2.1 M) A I.free
 ·obtain⟨v,o,A,hd⟩:=I.cell x c e;exact f c o (λz=>(D c z).2.2.1 x c e M) A (I.Ec x c e)
 ·obtain⟨e,n,ne,nf,d⟩:=I.pin p L;have C:p.1∉ch:=λz=>(D p.1 z).2.2.2 p L M;exact⟨g p.1 p.2 ne nf C e n,f p.1 p.2 C e n,ne,nf,d⟩
def Inv.un{t':Nat}(I:Inv X pins Z H s)(u:Un X.fs [] H H' s.heap h')(g:Ee X.prog X.w H' h'):Inv X pins Z H' { s with heap:=h',toks:=t' }:=by
 obtain⟨m,⟨o,x,y,d,r⟩,_⟩:=id I.loc;obtain⟨q,j⟩:=u.any d I.free (by simp);exact I.step (g':=s.gens) (d':=s.drawn) (ch:=[]) (λ_ z=>nomatch z) (λb o _ a _ e n=>u.keep b o e n a (by simp)) (λb o _ a _ e n=>u.slot b o e n a (by simp)) (λb o _ e n=>u.free b o e n (by simp)) (λb o _ e=>u.there b o e (by simp)) u.F0 u.FL u.Fg (λv i=>by
  obtain⟨t,p,l,f,h⟩:=i;rw[d]at f;cases f;exact⟨_,p,l,j,h⟩) g I.bare
def Inv.call{g':Array GenState}{t':Nat}{d':Drawn}{ch:Wn}(I:Inv X pins Z H s)(u:Un (EE X.stack) ch H H' s.heap h')(i:Ee X.prog X.w H' h')(q:AllBare g')(g:∀b∈ch,(b∈X.ex\/X.s₀.heap.objs.size<=b)/\b≠X.env.locals/\(∀x c,X.env.cells.lookup x=O c->c≠b)/\∀p∈X.pn++pins,p.1≠b) :
  Inv X pins Z H' { s with heap:=h',gens:=g',drawn:=d',toks:=t' }:=by
 obtain⟨m,⟨o,D,F,f,r⟩,_⟩:=id I.loc;obtain⟨A,d⟩:=u.any f I.free λz=>(g _ z).2.1 M;exact I.step (ch:=ch) g (λb o d t a e n=>u.keep b o e n (λz=>(Zo.mp (I.Ez b z)).elim d t) a) (λb o _ _ a e n=>u.any e n a) (λb o a e n=>u.free b o e n a) (λb o a e=>u.there b o e a) u.F0 u.FL u.Fg (λC l=>by
  obtain⟨B,y,v,h,j⟩:=l;rw[f]at h;cases h;exact⟨_,y,v,d,j⟩) i q
def Inv.turned{t':Nat}{it:GM}(I:Inv X pins Z H s)(k:∀b o,b≠it->s.heap.get? b=O o->h'.get? b=O o)(h:H it=Y)(d:it≠X.env.locals)(h1:it∈X.ex\/X.s₀.heap.objs.size<=it)(t:∀x c,X.env.cells.lookup x=O c->c≠it)(l:∀p∈X.pn++pins,p.1≠it):Inv X pins Z H { s with heap:=h',toks:=t' }:=by
 have f:∀b u,H b=O u->b≠it:=λb u e z=>by rw[z,h]at e;cases e
 refine I.step (g':=s.gens) (d':=s.drawn) (ch:=[it]) (λb j=>?_) (λb o _ _ a e _=>k b o (λz=>a (by simp[z])) e) (λb o _ _ a e _=>⟨o.slots,k b o (λz=>a (by simp[z])) e⟩) (λ_ _ _ _ n=>n)
  (λb o a e=>⟨o,k b o (λz=>a (by simp[z])) e⟩) (λ_ _ e=>e) (λ_ _ _ e=>e) (λ_ _ e=>e) (λm i=>?_) (λb u e=>?_) I.bare
 ·have e:b=it:=by simpa using j
  subst e;exact⟨h1,d,t,l⟩
 ·obtain⟨o,w,y,g,r⟩:=i;exact⟨o,w,y,k _ o (YE d) g,r⟩
 ·refine(I.xb b u e).F7 (λc v a q=>k c v ?_ q) (λ_ q=>q) (λ_ _ q=>q) λ_ _ _ q=>q;rcases a with z | z
  ·rw[z];exact f b u e
  ·exact f c _ z
def Inv.tok(I:Inv X pins Z H s)(t:Nat):Inv X pins Z H { s with toks:=t }:=I.un (h':=s.heap) (t':=t) Un.refl I.xb
theorem Inv.kept{t':Nat}(I:Inv X pins Z H s)(k:∀b u,s.heap.get? b=O u->h'.get? b=O u):Inv X pins Z H { s with heap:=h',toks:=t' }:=I.un (Un.kept k) (I.xb.kept k)
theorem Inv.laid{a:GM}{o:HO}{t':Nat}(I:Inv X pins Z H s)(k:∀b u,s.heap.get? b=O u->h'.get? b=O u)(e:s.heap.objs.size<=a)(d:aW X.prog X.w (upd H a o) h' a o) :
  Inv X pins Z (upd H a o) { s with heap:=h',toks:=t' }:=I.un (Un.laid k e (I.xb.fresh e)) (I.xb.laid k e d)
theorem Inv.write{x e:GM}{o:HO}{g:Nat}(I:Inv X pins Z H s)(d:DI (H x))(he:e=x\/H e=O (.own x))(k:∀b u,b≠e->s.heap.get? b=O u->h'.get? b=O u)(f:∃u,h'.get? e=O u)(a:aW X.prog X.w (upd H x o) h' x o):Inv X pins Z (upd H x o) { s with heap:=h',toks:=g }:=I.un (Un.write d he k f) (I.xb.write d he k f a)
def Inv.GO{a:Yh}(I:Inv X pins Z H s)(h:∀p∈a,s.heap.get? p.1=O p.2/\H p.1=Y/\p.1≠X.env.locals/\p.1∉X.fs/\∀v,p.2.data ≠ .cell v):Inv X a Z H s :=
 ⟨I.ok,I.os,I.bare,I.base,I.loc,I.cell,I.free,I.Ec,λp b=>(Zc.mp b).elim (λz=>I.pin p (Y8 _ z)) (h p),I.xb,I.len⟩
def oA{N:List Str}(d:N.Nodup){i j:Nat}{x:Str}(a:N[i]?=O x)(b:N[j]?=O x):i=j:=by
 obtain⟨h1,e1⟩:=ZY.mp a;obtain⟨e,e2⟩:=ZY.mp b;exact(List.getElem_inj d).mp (e1.trans e2.symm)
def sP{Mq0:Model}{A:Pi}{E:Yl}{i:Nat}{x:Str}{v:V}{u:IR}{Q:Unit->FB->Prop}(I:Inv X pins Z H s)(hN:X.N.Nodup)(D:X.N[i]?=O x)(l:Loc X.env.scope x)(r:RelV v u)(h:∀R,Inv X pins (Z.set i (O v)) H R->(∃a,Heap.SameBut a s.heap R.heap/\(a=X.env.locals\/X.env.cells.lookup x=O a))->Q () R)(hf:X.fn x=J\/X.env.scope.names.lookup x=O .local:=by first | exact .inl rfl | exact .inr rfl | assumption):KB Mq0 A (storeName X.env x u) Q E s:=by
 obtain⟨m,hn,hl⟩:=id I.loc;have Ob:(X.env.scope.kind == .class||(X.env.scope.kind == .module&&X.env.locals != X.env.globals))=S:=by rw[I.ok.kind];rfl
 have P6:i<Z.length:=by rw[I.len];exact(ZY.mp D).1
 have JN:=I.JN;have tracked:∀{a:GM}{h':SC},(∃o,s.heap.get? a=O o/\H a=Y)->Heap.SameBut a s.heap h'->Ee X.prog X.w H h':=λ{a h'} ha f b ob e=>by
  obtain⟨_,_,IS⟩:=ha;refine(I.xb b ob e).F7 (λc F g q=>(f.2 c ?_).trans q) (λ_ q=>q) (λ_ _ q=>q) λ_ _ _ q=>q;rintro rfl;rcases g with rfl | g
  ·rw[IS]at e;cases e
  ·rw[IS]at g;cases g
 rcases l with t | t
 ·refine wpAny_storeName_local t hn (λh' S7 f=>?_) Ob;obtain⟨oL,_,_,GR,_⟩:=id hn;refine h _ ⟨I.ok,I.os,I.bare,⟨λb o e n C l=>?_,λb o e n C l=>?_,I.base.free,λb o e l=>?_,I.base.F0,I.base.FL,I.base.Fg⟩,⟨_,S7,λj y L e1 e2 e3=>?_⟩,λy c e=>?_,I.free,I.Ec,λp hp=>?_,tracked ⟨oL,GR,I.free⟩ f,by simpa using I.len⟩ ⟨_,f,.inl rfl⟩
  ·exact(f.2 b (ZL (ZD (ZZ e) I.ok.above))).trans (I.base.keep b o e n C l)
  ·obtain⟨P,e1⟩:=I.base.slot b o e n C l;exact⟨P,(f.2 b (ZL (ZD (ZZ e) I.ok.above))).trans e1⟩
  ·obtain⟨W,e1⟩:=I.base.there b o e l;exact⟨W,(f.2 b (ZL (ZD (ZZ e) I.ok.above))).trans e1⟩
  ·by_cases B:j=i
   ·subst B;rw[D]at e1;cases e1;rw[Xp P6]at e2;cases e2;exact⟨u,r,.inl ⟨t,by simp⟩⟩
   ·rw[Xb (YE B)]at e2;obtain⟨M,U,q⟩:=hl j y L e1 e2 e3;refine⟨M,U,?_⟩;rcases q with⟨k,e⟩ | ⟨k,c,e,z⟩
    ·refine .inl ⟨k,?_⟩;have:y≠x:=λe=>B (oA hN e1 (e ▸ D));simp[this,e]
    ·exact .inr ⟨k,c,e,z.sameBut f (JN y c e)⟩
  ·obtain⟨F,z⟩:=I.cell y c e;exact⟨F,z.sameBut f (JN y c e)⟩
  ·obtain⟨e,n,ne,nf,d⟩:=I.pin p hp;exact⟨(f.2 p.1 ne).trans e,n,ne,nf,d⟩
 ·have N3:X.fn x=J:=by
   rcases hf with z | z
   ·exact z
   ·rw[z]at t;cases t
  obtain⟨c,g⟩:=I.ok.has x (.inl t);obtain⟨F,z⟩:=I.cell x c g;refine wpAny_storeName_cell I.ok.kind t g z (λh' E4 f=>?_);obtain⟨oc,KL,NI⟩:=id z;refine h { s with heap:=h' } ⟨I.ok,I.os,I.bare,⟨λb o e n C l=>?_,λb o e n C l=>?_,I.base.free,λb o e l=>?_,I.base.F0,I.base.FL,I.base.Fg⟩,⟨m,hn.sameBut f (YE (JN x c g)),λj y L e1 e2 e3=>?_⟩,λy G e=>?_,I.free,I.Ec,λp hp=>?_,tracked ⟨oc,KL,I.Ec x c g⟩ f,by simpa using I.len⟩ ⟨c,f,.inr g⟩
  ·exact(f.2 b (ZL (ZD (ZZ e) (I.ok.Lu x c N3 g)))).trans (I.base.keep b o e n C l)
  ·obtain⟨P,e1⟩:=I.base.slot b o e n C l;exact⟨P,(f.2 b (ZL (ZD (ZZ e) (I.ok.Lu x c N3 g)))).trans e1⟩
  ·obtain⟨W,e1⟩:=I.base.there b o e l;exact⟨W,(f.2 b (ZL (ZD (ZZ e) (I.ok.Lu x c N3 g)))).trans e1⟩
  ·by_cases B:j=i
   ·subst B;rw[D]at e1;cases e1;rw[Xp P6]at e2;cases e2;exact⟨u,r,.inr ⟨.inl t,c,g,E4⟩⟩
   ·rw[Xb (YE B)]at e2;obtain⟨M,U,q⟩:=hl j y L e1 e2 e3;refine⟨M,U,?_⟩;rcases q with q | ⟨k,G,e,z'⟩
    ·exact .inl q
    ·refine .inr ⟨k,G,e,z'.sameBut f ?_⟩;rintro rfl;exact B (oA hN e1 (I.ok.inj _ _ _ e g ▸ D))
  ·by_cases P8:G=c
   ·subst P8;exact⟨_,E4⟩
   ·obtain⟨w2,z2⟩:=I.cell y G e;exact⟨w2,z2.sameBut f P8⟩
  ·obtain⟨e,n,ne,nf,d⟩:=I.pin p hp;refine⟨(f.2 p.1 ?_).trans e,n,ne,nf,d⟩;intro q;rw[q,KL]at e;have q':oc=p.2:=ZJ e;exact d F (by rw[← q'];exact NI)
def n6{b:Model}{A:Pi}{E:Yl}{i:Nat}{x:Str}{v:V}{u:IR}{Q:Unit->FB->Prop}(I:Inv X pins Z H s)(g:X.N.Nodup)(e:X.N[i]?=O x)(d:Loc X.env.scope x)(r:RelV v u)(h:∀a,Inv X pins (Z.set i (O v)) H a->Q () a)(f:X.fn x=J\/X.env.scope.names.lookup x=O .local:=by first | exact .inl rfl | exact .inr rfl | assumption):KB b A (storeName X.env x u) Q E s :=
 sP I g e d r (λa j _=>h a j) f
def Inv.Ls{a:FB}{ch:Wn}(I:Inv X pins Z H s)(g:a.os=s.os)(u:Un (EE X.stack) ch H H' s.heap a.heap)(d:Ee X.prog X.w H' a.heap)(h:AllBare a.gens)(i:∀b∈ch,(b∈X.ex\/X.s₀.heap.objs.size<=b)/\b≠X.env.locals/\(∀x c,X.env.cells.lookup x=O c->c≠b)/\∀p∈X.pn++pins,p.1≠b):Inv X pins Z H' a:=by
 obtain⟨h',g',d',t',f⟩:=a;have e:f=s.os:=g;subst e;exact I.call (g':=g') (t':=t') (d':=d') u d h i
end
abbrev XK:=IR->Option GM->Hp->Prop
abbrev St:=List (Option V)
abbrev VK:=V->Hp->Prop
abbrev TE:=St->Hp->VK->Prop
abbrev TT:=St->Hp->(Bool->Hp->Prop)->Prop
abbrev TA:=St->Hp->(List V->Hp->Prop)->Prop
structure Ends where
 nx:St->Hp->Prop
 rt:VK
 bk:St->Hp->Prop:=λ_ _=>False
 ct:St->Hp->Prop:=λ_ _=>False
abbrev TS:=Ends->St->Hp->Prop
def EP(X:Cx)(a:Yh)(Z:St)(Q:VK)(u:IR)(d:FB):Prop:=∃v b,Inv X a Z b d/\RelV v u/\Q v b
def TP(X:Cx)(a:Yh)(Z:St)(Q:Bool->Hp->Prop)(b:Bool)(e:FB):Prop:=∃d,Inv X a Z d e/\Q b d
def AP(X:Cx)(a:Yh)(Z:St)(Q:List V->Hp->Prop)(e:Wm)(f:FB):Prop:=∃b d,Inv X a Z d f/\aQ b e/\Q b d
def SP(X:Cx)(a:Yh)(D:Ends)(f:Flow)(e:FB):Prop :=
 match f with
 |.next=>∃d b,Inv X a d b e/\D.nx d b
 |.brk=>∃d b,Inv X a d b e/\D.bk d b
 |.cont=>∃d b,Inv X a d b e/\D.ct d b
 |.ret u=>∃v d b,Inv X a d b e/\RelV v u/\D.rt v b
def PE(X:Cx)(e:Expr)(t:TE):Prop :=
 ∀(a:Yh)(s:FB)(Z:St)(H:Hp)(Q:VK),Inv X a Z H s->t Z H Q->KB (FM X.prog X.w) X.A (eval e X.env) (EP X a Z Q) X.xe s
def PT(X:Cx)(e:Expr)(t:TT):Prop :=
 ∀(a:Yh)(s:FB)(Z:St)(H:Hp)(Q:Bool->Hp->Prop),Inv X a Z H s->t Z H Q->KB (FM X.prog X.w) X.A (isTrue e X.env (eval e X.env)) (TP X a Z Q) X.xe s
def PW(X:Cx)(e:Expr)(t:TT):Prop :=
 ∀(whole:Sem IR)(a:Yh)(s:FB)(Z:St)(H:Hp)(Q:Bool->Hp->Prop),Inv X a Z H s->t Z H Q->KB (FM X.prog X.w) X.A (isTrue e X.env whole) (TP X a Z Q) X.xe s
def PW.pt{X:Cx}{e:Expr}{t:TT}(h:PW X e t):PT X e t:=h _
def PA(X:Cx)(b:List Expr)(t:TA):Prop :=
 ∀(pos:Pos)(a:Yh)(s:FB)(Z:St)(H:Hp)(Q:List V->Hp->Prop),Inv X a Z H s->t Z H Q->KB (FM X.prog X.w) X.A (spliced (backTo pos (KM b X.env))) (AP X a Z Q) X.xe s
def PS(X:Cx)(b:Stmt)(t:TS):Prop :=
 ∀(a:Yh)(s:FB)(Z:St)(H:Hp)(D:Ends),Inv X a Z H s->t D Z H->KB (FM X.prog X.w) X.A (exec b X.env) (SP X a D) X.xe s
def Fu(X:Cx)(b:List Stmt)(t:TS):Prop :=
 ∀(a:Yh)(s:FB)(Z:St)(H:Hp)(D:Ends),Inv X a Z H s->t D Z H->KB (FM X.prog X.w) X.A (execs b X.env) (SP X a D) X.xe s
def thn{α:Type}{t:Sem α}{Q b:α->FB->Prop}{M:Model}{A:Pi}{E:Yl}{s:FB}(h:KB M A t Q E s)(d:∀a s,Q a s->b a s):KB M A t b E s:=Yn h d λ_ _ x=>x
section
variable{X:Cx}
def yc(i:Nat):TE:=λZ H Q=>∃v,Z[i]?=O (O v)/\Q v H
def tC(v:V):TE:=λ_ H Q=>Q v H
def fh{i:Nat}{x:Str}{d:Pos}(t:X.N[i]?=O x)(n:FX X.env.scope x)(f:K2 x:=by decide)(w:K3 x:=by decide):PE X (.Name x d) (yc i):=by
 intro b s Z H Q I h;obtain⟨v,e,h⟩:=h;obtain⟨m,o,q⟩:=I.loc;obtain⟨u,r,l⟩:=q i x v t e n;have fin:EP X b Z Q u s:=⟨v,H,I,r,h⟩
 rcases l with⟨a,p⟩ | ⟨a,c,g,j⟩
 ·exact wpAny_Name (wpAny_loadName_local I.ok.kind a o p fin) f
 ·rcases a with a | a
  ·exact wpAny_Name (wpAny_loadName_cell I.ok.kind a g j fin) f
  ·exact wpAny_Name (wpAny_loadName_free I.ok.kind a g j fin w) f
def t8{i j pos}:PE X (.Constant (.int i) j pos) (tC (.int i)):=λ_ _ _ H _ I h=>wpAny_Constant_int ⟨.int i,H,I.tok _,⟨_,rfl⟩,h⟩
def BR{b j pos}:PE X (.Constant (.bool b) j pos) (tC (.bl b)):=λ_ _ _ H _ I h=>Constant_bool ⟨.bl b,H,I,rfl,h⟩
def Ab{j pos}:PE X (.Constant .none j pos) (tC .non):=λ_ _ _ H _ I h=>Constant_none ⟨.non,H,I,rfl,h⟩
def vi{x j pos}:PE X (.Constant (.str x) j pos) (tC (.str x)):=λ_ _ _ H _ I h=>Calls.Constant_str ⟨.str x,H,I.tok _,⟨_,rfl⟩,h⟩
def Gl(X:Cx)(x:Str):Prop:=X.env.kindOf x=O .globalImplicit
def rV{E:Yl}{a:Yh}{s:FB}{Z:St}{H:Hp}{x:Str}{u:IR}{b:Pos}{Q:Yl}(I:Inv X a Z H s)(e:Gl X x)(d:X.mg x=O u)(h:Q u s)(f:K2 x:=by decide):KB (FM X.prog X.w) X.A (eval (.Name x b) X.env) Q E s :=
 Calls.Name_function_global I.ok.kind e (Calls.loadGlobal_global (by rw[I.ok.glob];exact I.mod.glob.keeps I.bk) d h) f
def gE{E:Yl}{a:Yh}{s:FB}{Z:St}{H:Hp}{x:Str}{u:IR}{pos:Pos}{Q:Yl}(I:Inv X a Z H s)(f:Gl X x)(e:X.mg x=Y)(b:bootBuiltins x=O u)(h:Q u s)(d:x ≠ "__name__" := by decide)(g:K2 x:=by decide):KB (FM X.prog X.w) X.A (eval (.Name x pos) X.env) Q E s:=by
 obtain⟨j,h1,i⟩:=I.mod.blt;exact Calls.Name_function_global I.ok.kind f (Calls.loadGlobal_builtin (by rw[I.ok.glob];exact I.mod.glob.keeps I.bk) e (by rw[I.ok.blt];exact h1.keeps I.bk) ((i x d).trans b) h) g
def ze{x:Str}{v:V}{u:IR}{pos:Pos}(b:Gl X x)(a:X.mg x=O u)(r:RelV v u)(d:K2 x:=by decide):PE X (.Name x pos) (tC v) :=
 λ_ _ _ H _ I h=>rV I b a ⟨v,H,I,r,h⟩ d
def xV{x:Str}{v:V}{u:IR}{a:Pos}(f:Gl X x)(e:X.mg x=Y)(b:bootBuiltins x=O u)(r:RelV v u)(d:x ≠ "__name__" := by decide)(g:K2 x:=by decide):PE X (.Name x a) (tC v) :=
 λ_ _ _ H _ I h=>gE I f e b ⟨v,H,I,r,h⟩ d g
variable{a b:Expr}{ta tb:TE}{pos:Pos}
def PC(X:Cx)(g:CmpOp)(a b:Expr)(t:TE):Prop :=
 ∀(d:Yh)(s:FB)(Z:St)(H:Hp)(Q:VK),Inv X d Z H s->t Z H Q →
  KB (FM X.prog X.w) X.A (eval a X.env) (λv f=>KB (FM X.prog X.w) X.A (eval b X.env) (λu e=>KB (FM X.prog X.w) X.A (SB g v u) (EP X d Z Q) X.xe e) X.xe f) X.xe s
def vn(b:Expr){d:CmpOp}(h:d ≠ .In)(e:d ≠ .NotIn):behindInMarks d b=S:=by
 have e1:(d==CmpOp.In)=S:=by cases d<;>first | rfl | exact absurd M h
 have e2:(d==CmpOp.NotIn)=S:=by cases d<;>first | rfl | exact absurd M e
 cases b<;>simp[behindInMarks,e1,e2]
def CA(d:TE):TE:=λZ H Q=>d Z H λx e=>Q (.bl (!decide (x=.non))) e
def RelV.Ho{x:V}{v:IR}(r:RelV x v):(v==Value.none)=decide (x=.non):=by
 cases x with
 |non=>cases r;rfl
 |bl _=>cases r;rfl
 |int _=>obtain⟨t,rfl⟩:=r;rfl
 |str _=>obtain⟨t,rfl⟩:=r;rfl
 |byt _=>obtain⟨t,rfl⟩:=r;rfl
 |flt _=>obtain⟨t,rfl⟩:=r;rfl
 |ref _=>cases r;rfl
 |ty _=>cases r;rfl
def xu{j pos'}(f:PE X a ta):PC X .IsNot a (.Constant .none j pos') (CA ta):=by
 intro d s Z H Q I h;refine thn (f d s Z H _ I h) λv l ⟨x,i,g,r1,e⟩=>?_;exact Constant_none (isnot_none_gen ⟨.bl _,i,g,by rw[r1.Ho];rfl,e⟩)
def tB(t:TE):TT:=λZ H Q=>t Z H λx d=>∃c,x=.bl c/\Q c d
def zW{f:CmpOp}{t:TE}(h:PC X f a b t)(h1:behindInMarks f b=S:=by first | exact vn _ (by decide) (by decide) | rfl):PT X (.Compare a [f] [b] pos) (tB t):=by
 intro e s Z H Q I hw;refine wpAny_isTrue_Compare1 (thn (h e s Z H _ I hw) λv o h1=>thn h1 λu n i=>thn i λc m ⟨x,l,j,r1,g⟩=>?_) h1;obtain⟨d,rfl,q⟩:=g;cases r1;exact Y1 ⟨l,j,q⟩
variable{tA LM:TT}{rest:List Expr}
def C8(t u:TT):TT:=λZ H Q=>t Z H λc d=>if c=J then u Z d Q else Q S d
def Ra(t u:TT):TT:=λZ H Q=>t Z H λc d=>if c=J then Q J d else u Z d Q
def Do(t:TT):TT:=λZ H Q=>t Z H λc d=>Q (!c) d
def ml(f:PT X a tA):PW X (.BoolOp .And [a] pos) tA:=by
 intro g d s Z H Q I h;refine isTrue_and (thn (f d s Z H Q I h) λc i e=>?_);cases c with
 |true=>exact isTrue_and_nil e
 |false=>exact e
def zH(f:PT X a tA):PW X (.BoolOp .Or [a] pos) tA:=by
 intro g d s Z H Q I h;refine isTrue_or (thn (f d s Z H Q I h) λc i e=>?_);cases c with
 |false=>exact isTrue_or_nil e
 |true=>exact e
def Ak(m:PT X a tA)(l:PW X (.BoolOp .And (b :: rest) pos) LM):PW X (.BoolOp .And (a :: b :: rest) pos) (C8 tA LM):=by
 intro i d s Z H Q I h;refine isTrue_and (thn (m d s Z H _ I h) λc j ⟨g,f,e⟩=>?_);cases c with
 |true=>exact l i d j Z g Q f e
 |false=>exact⟨g,f,e⟩
def Ct(m:PT X a tA)(l:PW X (.BoolOp .Or (b :: rest) pos) LM):PW X (.BoolOp .Or (a :: b :: rest) pos) (Ra tA LM):=by
 intro i d s Z H Q I h;refine isTrue_or (thn (m d s Z H _ I h) λc j ⟨g,f,e⟩=>?_);cases c with
 |true=>exact⟨g,f,e⟩
 |false=>exact l i d j Z g Q f e
def Af(e:PT X a tA):PT X (.UnaryOp .Not a pos) (Do tA):=by
 intro d s Z H Q I h;exact isTrue_not (e d s Z H (λc f=>Q (!c) f) I h)
end
def DM(K:Xj)(H:Hp)(a:GM)(d:List V):Prop :=
 Rd H a (.lst d) ∨
  ∃(o:Obj)(b:Array IR)(n:Nat),K.lookup a=O o/\o.cls=.type "list" ∧ o.dict=Y/\o.data=.seq b n/\b.size<=FS/\aQ d b.toList
def El(K:Xj)(H:Hp)(a:GM)(d:List V):Prop :=
 Rd H a (.tup d) ∨
  ∃(o:Obj)(b:Array IR)(n:Nat),K.lookup a=O o/\o.cls=.type "tuple" ∧ o.data=.seq b n/\b.size<=FS/\aQ d b.toList
def C6:IR->Option V
 |.none=>O .non
 |.bool b=>O (.bl b)
 |.int i _=>O (.int i)
 |.str x _=>O (.str x)
 |.bytes b _=>O (.byt b)
 |.float b _=>O (.flt b)
 |.ref a=>O (.ref a)
 |.type n=>O (.ty n)
 |_=>Y
def RelV.abs{x:V}{u:IR}(r:RelV x u):C6 u=O x:=by
 cases x with
 |non=>cases r;rfl
 |bl _=>cases r;rfl
 |int _=>obtain⟨t,rfl⟩:=r;rfl
 |str _=>obtain⟨t,rfl⟩:=r;rfl
 |byt _=>obtain⟨t,rfl⟩:=r;rfl
 |flt _=>obtain⟨t,rfl⟩:=r;rfl
 |ref _=>cases r;rfl
 |ty _=>cases r;rfl
def RelV.inj{x y:V}{u:IR}(r:RelV x u)(q:RelV y u):x=y:=ZJ (r.abs.symm.trans q.abs)
theorem aQ.inj:∀{b a:List V}{d:Wm},aQ b d->aQ a d->b=a
 |_,_,_,.nil,.nil=>rfl
 |_,_,_,.cons r t,.cons f e=>by rw[r.inj f,aQ.inj t e]
section
variable{X:Cx}{pins:Yh}{Z:St}{H:Hp}{s:FB}{a:GM}{xs ys:List V}
def DM.of{K:Xj}(h:H a=O (.lst xs)):DM K H a xs:=.inl (.inl h)
def El.of{K:Xj}(h:H a=O (.tup xs)):El K H a xs:=.inl (.inl h)
def Inv.list(I:Inv X pins Z H s)(h:DM X.K H a xs):∃b:Wm,aQ xs b/\PlainL s.heap a b.toArray/\xs.length<=sizeLine:=by
 rcases h with h | ⟨o,b,n,f,g,hd,d,i,r⟩
 ·obtain⟨z,b,n,r,e⟩:=h.ok I.xb;exact⟨b,r,⟨_,n,e,rfl,rfl,rfl⟩,z⟩
 ·refine⟨b.toList,r,⟨o,n,I.FU a o f,g,hd,by simpa using d⟩,?_⟩;have e:=r.length;simp only[Yo]at e;lia
def Inv.tuple(I:Inv X pins Z H s)(h:El X.K H a xs):∃b:Wm,aQ xs b/\IsTup s.heap a b.toArray/\xs.length<=sizeLine:=by
 rcases h with h | ⟨o,b,n,f,g,d,i,r⟩
 ·obtain⟨z,b,r,_,p⟩:=h.ok I.xb;exact⟨b,r,p,z⟩
 ·refine⟨b.toList,r,⟨o,I.FU a o f,g,n,by simpa using d⟩,?_⟩;have e:=r.length;simp only[Yo]at e;lia
def Inv.Ga(I:Inv X pins Z H s)(h:DM X.K H a xs)(l:DM X.K H a ys):xs=ys:=by
 obtain⟨j,r,⟨o,n,e,_,_,d⟩,_⟩:=I.list h;obtain⟨b,i,⟨m,p,f,_,_,g⟩,_⟩:=I.list l;rw[e]at f;cases f;rw[d]at g;injection g with d1 _
 have:j=b:=by simpa using congrArg Array.toList d1
 subst this;exact r.inj i
def Inv.GY(I:Inv X pins Z H s)(h:El X.K H a xs)(l:El X.K H a ys):xs=ys:=by
 obtain⟨j,r,⟨o,e,_,n,d⟩,_⟩:=I.tuple h;obtain⟨b,i,⟨m,f,_,p,g⟩,_⟩:=I.tuple l;rw[e]at f;cases f;rw[d]at g;injection g with d1 _
 have:j=b:=by simpa using congrArg Array.toList d1
 subst this;exact r.inj i
end
abbrev Cx.Fe(X:Cx)(E:Yl):Cx:={ X with xe:=E }
abbrev Cx.Ig(X:Cx):Cx:=X.Fe λ_ _=>False
theorem Cx.Ok.Fe{X:Cx}(a:X.Ok)(E:Yl):(X.Fe E).Ok :=
 ⟨a.mod,a.kind,a.glob,a.blt,a.above,a.inj,a.has,a.Lu,a.hd,a.frames,a.LN,a.Qr,a.tb,a.bs,a.HP,a.Hr,a.Iu,a.EU,a.JH⟩
def Cx.Ok.D9{X:Cx}{E:Yl}(a:(X.Fe E).Ok):X.Ok :=
 ⟨a.mod,a.kind,a.glob,a.blt,a.above,a.inj,a.has,a.Lu,a.hd,a.frames,a.LN,a.Qr,a.tb,a.bs,a.HP,a.Hr,a.Iu,a.EU,a.JH⟩
section
variable{X:Cx}{pins:Yh}{Z:St}{H:Hp}{s:FB}{E:Yl}
theorem Inv.Fe(I:Inv X pins Z H s)(E:Yl):Inv (X.Fe E) pins Z H s:=⟨I.ok.Fe E,I.os,I.bare,I.base,I.loc,I.cell,I.free,I.Ec,I.pin,I.xb,I.len⟩
theorem Inv.D9(I:Inv (X.Fe E) pins Z H s):Inv X pins Z H s:=⟨I.ok.D9,I.os,I.bare,I.base,I.loc,I.cell,I.free,I.Ec,I.pin,I.xb,I.len⟩
theorem SP.D9{D:Ends}{f:Flow}{d:FB}(h:SP (X.Fe E) pins D f d):SP X pins D f d:=by
 cases f with
 |next=>obtain⟨a,b,I,q⟩:=h;exact⟨a,b,I.D9,q⟩
 |brk=>obtain⟨a,b,I,q⟩:=h;exact⟨a,b,I.D9,q⟩
 |cont=>obtain⟨a,b,I,q⟩:=h;exact⟨a,b,I.D9,q⟩
 |ret u=>obtain⟨v,a,b,I,r,q⟩:=h;exact⟨v,a,b,I.D9,r,q⟩
theorem Fu.Ig{a:List Stmt}{t:TS}(h:Fu X.Ig a t):Fu X a t:=λpins s Z H D I hw =>
 Yn (h pins s Z H D (I.Fe _) hw) (λ_ _ q=>q.D9) λ_ _ z=>False.elim z
end
section
variable{X:Cx}{st:Stmt}{rest:List Stmt}{t u:TS}{e:Expr}{te:TE}{pos:Pos}
def BL:TS:=λD Z H=>D.nx Z H
def Du(t u:TS):TS:=λD Z H=>t { D with nx:=u D } Z H
def yJ:Fu X [] BL:=λ_ _ Z H _ I h=>W4 ⟨Z,H,I,h⟩
def uJ(h1:PS X st t)(d:Fu X rest u):Fu X (st :: rest) (Du t u):=by
 intro a s Z H D I h;refine wpAny_execs_cons (thn (h1 a s Z H { D with nx:=u D } I h) λf b q=>?_);cases f with
 |next =>
  obtain⟨g,j,i,q⟩:=q;exact d a b g j D i q
 |ret v=>exact q
 |brk=>exact q
 |cont=>exact q
def aE(h1:PS X st t):Fu X [st] t:=by
 intro a s Z H D I h;refine wpAny_execs_cons (thn (h1 a s Z H D I h) λf b q=>?_);cases f with
 |next=>exact W4 q
 |ret v=>exact q
 |brk=>exact q
 |cont=>exact q
def Inv.quiet{a:Yh}{Z:St}{H:Hp}{s:FB}(I:Inv X a Z H s):interactive X.env=S:=by simp[interactive,I.ok.kind]
def CV(a:TE):TS:=λD Z H=>a Z H λ_ b=>D.nx Z b
def lT(f:PE X e te)(d:swapsWith e Y pos.line X.env=pure S:=by rfl):PS X (.Expr e pos) (CV te):=by
 intro a s Z H D I h;exact wpAny_Expr_any (thn (f a s Z H _ I h) λv j ⟨x,i,g,r1,b⟩=>⟨Z,i,g,b⟩) I.quiet d
def Dz(a:TE):TS:=λD Z H=>a Z H D.rt
def p9(d:PE X e te):PS X (.Return (O e) pos) (Dz te):=by
 intro a s Z H D I h;exact wpAny_Return_some (thn (d a s Z H _ I h) λv i ⟨x,g,f,r1,b⟩=>⟨x,Z,g,f,r1,b⟩)
def Dr(c:TT)(t u:TS):TS:=λD Z H=>c Z H λb a=>if b=J then t D Z a else u D Z a
def Cm{c:Expr}{a b:List Stmt}{g:TT}(n:PT X c g)(p:Fu X a t)(o:Fu X b u):PS X (.If c a b pos) (Dr g t u):=by
 intro f s Z H D I h;refine wpAny_If (thn (n f s Z H _ I h) λd i ⟨m,l,j⟩=>?_);cases d with
 |true=>exact p f i Z m D l j
 |false=>exact o f i Z m D l j
end
abbrev TG:=V->St->Hp->(St->Hp->Prop)->Prop
abbrev IA:=List V->St->Hp->(St->Hp->Prop)->Prop
def PG(X:Cx)(a:Expr)(t:TG):Prop :=
 ∀(b:Yh)(s:FB)(Z:St)(H:Hp)(v:V)(u:IR)(Q:St->Hp->Prop),Inv X b Z H s->RelV v u->t v Z H Q →
  KB (FM X.prog X.w) X.A (assign a X.env u) (λ_ f=>∃d e,Inv X b d e f/\Q d e) X.xe s
def HS(X:Cx)(g:List Expr)(t:IA):Prop :=
 ∀(a:Yh)(s:FB)(Z:St)(H:Hp)(b:List V)(d:Wm)(Q:St->Hp->Prop),Inv X a Z H s->aQ b d->t b Z H Q →
  KB (FM X.prog X.w) X.A (assignInOrder ((assignEach g X.env).map (·.2)) d) (λ_ h=>∃e f,Inv X a e f h/\Q e f) X.xe s
abbrev xi:=V->V->V->Hp->(Hp->Prop)->Prop
def A7(X:Cx)(t:xi):Prop :=
 ∀(a:Yh)(s:FB)(Z:St)(H:Hp)(o i v:V)(b d u:IR)(Q:Hp->Prop),Inv X a Z H s->RelV o b->RelV i d->RelV v u->t o i v H Q →
  KB (FM X.prog X.w) X.A (setItem b d u) (λ_ f=>∃e,Inv X a Z e f/\Q e) X.xe s
section
variable{X:Cx}{pos:Pos}
def uS(i:Nat):TG:=λv Z H Q=>Q (Z.set i (O v)) H
def rG{i:Nat}{x:Str}(f:X.N.Nodup)(d:X.N[i]?=O x)(b:Loc X.env.scope x)(e:X.fn x=J\/X.env.scope.names.lookup x=O .local:=by first | exact .inl M | exact .inr M | assumption):PG X (.Name x pos) (uS i):=by
 intro a s Z H v u Q I r h;exact wpAny_assign_Name (n6 I f d b r (λj g=>⟨_,H,g,h⟩) e)
def DB:IA:=λa Z H Q=>a=[]/\Q Z H
def B8(t:TG)(u:IA):IA:=λa Z H Q=>∃v r,a=v :: r/\t v Z H λb d=>u r b d Q
def xo:HS X [] DB:=by
 intro a s Z H b d Q I r h;obtain⟨e,h⟩:=h;subst e;cases r;exact assignInOrder_nil ⟨Z,H,I,h⟩
def v8{e:Expr}{b:List Expr}{t:TG}{u:IA}(h1:PG X e t)(j:HS X b u)(i:(assignEach (e :: b) X.env).map (·.2)=assign e X.env :: (assignEach b X.env).map (·.2):=by rfl):HS X (e :: b) (B8 t u):=by
 intro a s Z H o q Q I r h;obtain⟨v,p,e1,h⟩:=h;subst e1;cases r with
 |cons r f =>
  rw[i];refine assignInOrder_cons (thn (h1 a s Z H _ _ _ I r h) λ_ d ⟨l,n,m,g⟩=>?_);exact j a d l n _ _ Q m f g
def mY(K:Xj)(n:Nat)(t:IA):TG:=λv Z H Q=>∃a b,v=.ref a/\El K H a b/\b.length=n/\t b Z H Q
def Ad{f:List Expr}{k:Nat}{t:IA}{n:Nat}(w:X.calm=J)(h:HS X f t)(p:(assignEach f X.env).length=n:=by rfl)(z:(assignEach f X.env).findIdx? (·.1)=Y:=by rfl):PG X (.Tuple f k pos) (mY X.K n t):=by
 intro d s Z H v u Q I r hw;obtain⟨a,i,e1,m,q,hw⟩:=hw;subst e1;cases r;obtain⟨A,g,l,B⟩:=I.tuple m;refine assign_Tuple_tuple (I.ok.hd w) l (by simp[p,← q,g.length]) z λx j=>?_;have y:Inv X d Z H { s with heap:=x }:=I.kept (t':=s.toks) λb o e=>j b o (ZL (ZZ e)) e;exact h d _ Z H i _ Q y (by simpa using g) hw
def Dv(a b:TE)(t:xi):TG:=λv Z H Q=>a Z H λo f=>b Z f λi e=>t o i v e λd=>Q Z d
def uy{o i:Expr}{e f:TE}{t:xi}(q:PE X o e)(w:PE X i f)(p:A7 X t)(z:∀v,assign (.Subscript o i pos) X.env v=(do
   let b ← holding [v] (eval o X.env)
   let d ← holding [v,b] (eval i X.env)
   standAt pos
   holding [v,b,d] (setItem b d v)
   release [v,b,d] []):=by intro _;rfl):PG X (.Subscript o i pos) (Dv e f t):=by
 intro a s Z H v u Q I r h;rw[z];refine Zy (YJ (thn (q a s Z H _ I h) λb j ⟨x,G,C,r1,n⟩=>?_));refine Zy (YJ (thn (w a j Z G _ C n) λd g ⟨y,F,B,r2,m⟩=>?_));refine Zy (wpAny_standAt (Zy (YJ (thn (p a g Z F x y v b d u _ B r1 r2 r m) λ_ L ⟨D,A,l⟩=>?_))));exact wpAny_release ⟨Z,D,A,l⟩
def BP(a:TE)(g:TG):TS:=λD Z H=>a Z H λx b=>g x Z b D.nx
def vK{b e:Expr}{d:TE}{g:TG}(m:PE X e d)(l:PG X b g)(j:swapsWithSole [b] e pos.line X.env=pure S:=by rfl)(hw:swappedStores [b] e X.env=pure Y:=by rfl)(h1:(assignEach [b] X.env).map (·.2)=[assign b X.env]:=by rfl):PS X (.Assign [b] e pos) (BP d g):=by
 intro a s Z H D I h;refine wpAny_Assign_stores (thn (m a s Z H _ I h) λv f ⟨x,o,n,r1,i⟩=>?_) j hw;rw[h1];exact thn (l a f Z o x v _ n r1 i) λ_ p q=>q
def wa{i:Nat}{x:Str}{e:Expr}{d:TE}{a:Pos}(o:X.N.Nodup)(l:X.N[i]?=O x)(g:Loc X.env.scope x)(n:PE X e d)(j:swapsWith e (O (.Name x a)) pos.line X.env=pure S:=by rfl)(m:X.fn x=J\/X.env.scope.names.lookup x=O .local:=by first | exact .inl M | exact .inr M | assumption) :
  PS X (.Assign [.Name x a] e pos) (BP d (uS i)):=by
 intro b s Z H D I h;refine wpAny_Assign_Name (thn (n b s Z H _ I h) λv u ⟨y,r,q,r1,f⟩=>?_) j;exact n6 q o l g r1 (λt p=>⟨_,r,p,f⟩) m
end
section
variable{X:Cx}{pos:Pos}
def Ba(c:TT)(g:TS):TS:=λD Z H=>∃W:Nat->St->Hp->Prop,(∃m,W m Z H)/\∀m Z H,W m Z H →
 c Z H λb e=>if b=J then ∃N:St->Hp->Prop,(∀d f,N d f->∃a,a<m/\W a d f)/\g { D with nx:=N,ct:=N,bk:=D.nx } Z e else D.nx Z e
def wG{c:Expr}{d:List Stmt}{t:TT}{u:TS}(x:PassesOwn (FM X.prog X.w) X.A X.env X.xe)(hc:PT X c t)(hb:Fu X d u):PS X (.While c d [] pos) (Ba t u):=by
 intro a s Z H D I h;obtain⟨W,⟨U,L⟩,turn⟩:=h;refine wpAny_While (codeAny_whileLoop (λn R=>∃y F,Inv X a y F R/\W n y F) ?_ U ⟨Z,H,I,L⟩);rintro n Q ⟨l,C,I1,G⟩;refine Xc x (thn (hc a Q l C _ I1 (turn n l C G)) λb P ⟨B,z,j⟩=>?_);cases b with
 |true =>
  obtain⟨N,hN,j⟩:=j;rw[Zr M];refine Xc x (thn (hb a P l B _ z j) λf s3 i=>?_);cases f with
  |next =>
   obtain⟨e,g,r,o⟩:=i;obtain⟨p,q,m⟩:=hN e g o;exact⟨p,q,e,g,r,m⟩
  |cont =>
   obtain⟨e,g,r,o⟩:=i;obtain⟨p,q,m⟩:=hN e g o;exact⟨p,q,e,g,r,m⟩
  |brk=>exact i
  |ret v=>exact i
 |false =>
  rw[Zm Zk];exact W4 ⟨l,B,z,j⟩
end
structure It where
 go:Nat->Hp->Prop
 LJ:Nat->Hp->V->Hp->Prop
 stop:Nat->Hp->Prop
def gc(X:Cx)(a:Yh)(H:Hp)(b:GM):Prop :=
 H b=Y/\b≠X.env.locals/\b∉X.fs/\(b∈X.ex\/X.s₀.heap.objs.size<=b)/\(∀x c,X.env.cells.lookup x=O c->c≠b)/\∀p∈X.pn++a,p.1≠b
def Inv.Fm{X:Cx}{a:Yh}{Z:St}{H f:Hp}{s:FB}{b:GM}(I:Inv X a Z H s)(d:s.heap.objs.size<=b)(h:f b=Y):gc X a f b:=by
 refine⟨h,Nat.ne_of_gt (ZD I.lt d),I.M9 d,.inr (ZV I.sz d),λx c e z=>?_,λp g z=>?_⟩
 ·obtain⟨v,q⟩:=I.cell x c e;exact absurd (ZD q.lt (by rw[z];exact d)) (Yg _)
 ·exact absurd (ZD (ZZ (I.pin p g).1) (by rw[z];exact d)) (Yg _)
structure Turn(P:PP)(w:SL)(K:Xj)(tg:Expr)(J:It)(fp:Wn)(it:GM)(tn:Nat->SC->Prop):Prop where
 mem:it∈fp
 obj:∀i h,tn i h->∀b∈fp,∃o,h.get? b=some o/\∀v,o.data ≠ .cell v
 keep:∀i h h',tn i h->(∀b∈fp,∀o,h.get? b=some o->h'.get? b=some o)->tn i h'
 item:∀(X:Cx),X.prog=P->X.w=w->X.K=K->X.calm=true->∀(i:Nat)(pins:Yh)(s:FB)(Z:St)(H:Hp)(E:Yl),Inv X pins Z H s->(∀b∈fp,gc X pins H b)->tn i s.heap->J.go i H →
  KB (FM P w) X.A (pyNext (.ref it)) (λr s1=>∃u,r=some u ∧
   KB (FM P w) X.A (letOwnedTupleGo tg (.ref it) u) (λ_ s2=>∃x H',Inv X pins Z H' s2/\RelV x u/\J.LJ i H x H'/\tn (i+1) s2.heap/\∀b∈fp,H' b=none) E s1) E s
 done:∀(X:Cx),X.prog=P->X.w=w->X.K=K->X.calm=true->∀(i:Nat)(pins:Yh)(s:FB)(Z:St)(H:Hp)(E:Yl),Inv X pins Z H s->(∀b∈fp,gc X pins H b)->tn i s.heap->J.stop i H →
  KB (FM P w) X.A (pyNext (.ref it)) (λr s1=>r=none/\Inv X pins Z H s1) E s
 self:∀(A:Pi)(i:Nat)(s:FB)(Q:Yl)(E:Yl),tn i s.heap->Q (.ref it) s->KB (FM P w) A (pyIter (.ref it)) Q E s
abbrev TI:=St->Hp->(It->Hp->Prop)->Prop
def QI(X:Cx)(a:Yh)(Z:St)(g:Expr)(R:It->Hp->Prop)(h:IR)(f:FB):Prop :=
 ∃(it:GM)(fp:Wn)(e:Nat->SC->Prop)(J:It)(d:Hp),h=.ref it/\Inv X a Z d f/\Turn X.prog X.w X.K g J fp it e/\e 0 f.heap/\(∀b∈fp,gc X a d b)/\R J d
def PI(X:Cx)(e b:Expr)(d:TI):Prop :=
 ∀(a:Yh)(s:FB)(Z:St)(H:Hp)(R:It->Hp->Prop),Inv X a Z H s->d Z H R →
  KB (FM X.prog X.w) X.A (eval b X.env) (λv f=>KB (FM X.prog X.w) X.A (pyIter v) (QI X a Z e R) X.xe f) X.xe s
def oR{M:Model}{A:Pi}{E:Yl}{s:FB}{d:Expr}{e:GM}{u:IR}{o:Obj}{n:String}{b:Array IR}{Q:Unit->FB->Prop}(f:s.heap.get? e=O o)(j:o.cls=.type n)(i:o.data=.fields b)(g:["enumerate", "zip", "dict_itemiterator", "dict_reverseitemiterator", "odict_iterator", "itertools.zip_longest", "itertools.pairwise"].contains n=S)(a:Q () s):KB M A (letOwnedTupleGo d (.ref e) u) Q E s:=by
 unfold letOwnedTupleGo;cases d<;>first
  |exact Zp a
  | (cases u<;>first
    |exact Zp a
    | (refine Zy (wpAny_load f ?_)
       rw[j,i];show KB M A (if (["enumerate", "zip", "dict_itemiterator", "dict_reverseitemiterator", "odict_iterator", "itertools.zip_longest", "itertools.pairwise"].contains n&&b[0]? == O (rawInt _))=J then _ else _) Q E s;rw[Zm (by intro h;rw[g,Bool.false_and]at h;cases h)];exact Zp a))
def Mo(K:Xj)(a:GM):It :=
 ⟨λi H=>∃b x,DM K H a b/\b[i]?=O x,λi H x d=>d=H/\∀b,DM K H a b->b[i]?=O x,λi H=>∃b,DM K H a b/\b.length<=i⟩
def O6(K:Xj)(a:GM):It :=
 ⟨λi H=>∃b x,El K H a b/\b[i]?=O x,λi H x d=>d=H/\∀b,El K H a b->b[i]?=O x,λi H=>∃b,El K H a b/\b.length<=i⟩
def Mn(a:Int)(n:Nat):It:=⟨λi _=>i<n,λi H x b=>b=H/\x=.int (a+i),λi _=>n<=i⟩
def ly{P:PP}{w:SL}{K:Xj}{N:Expr}(a g:GM):Turn P w K N (Mo K a) [g] g (λi h=>h.IsListIter g a i) where
 mem:=by simp
 obj:=λi h st b j=>by
  have e:b=g:=by simpa using j
  subst e;obtain⟨o,e,c,d⟩:=st;exact⟨o,e,λv z=>by rw[d]at z;cases z⟩
 keep:=λi h n st k=>st.at λo e=>k g (by simp) o e
 item:=by
  intro X y hw A G i f s Z H E I m st t;subst y hw A;obtain⟨M,x,l,r⟩:=t;obtain⟨R,q,p,U⟩:=I.list l;obtain⟨u,hu,Q⟩:=q.get r;obtain⟨F,f1,f2,D,C,B⟩:=m g (by simp);refine wpAny_pyNext_list_item st p.isList (x:=u) (by simpa using hu) λn L sb=>?_;have I1:Inv X f Z H { s with heap:=n }:=I.turned (t':=s.toks) (λb o j e=>(sb.2 b j).trans e) F f1 D C B;obtain⟨o,e,c,d⟩:=id L;exact⟨u,rfl,oR (s:={ s with heap:=n }) e c d (by decide) ⟨x,H,I1,Q,⟨rfl,λys W=>by rw[I.Ga W l];exact r⟩,L,λb j=>(m b j).1⟩⟩
 done:=by
  intro X y hw A G i f s Z H E I m st t;subst y hw A;obtain⟨M,l,r⟩:=t;obtain⟨R,q,p,U⟩:=I.list l;obtain⟨F,f1,f2,D,C,B⟩:=m g (by simp);have hl:=q.length;exact wpAny_pyNext_list_end (I.ok.hd G) st p.isList (by simp;lia) λn eb=>⟨rfl,I.turned (t':=s.toks) (λb o j e=>eb b o j e) F f1 D C B⟩
 self:=λ_ _ _ _ _ st h=>wpAny_pyIter_listiter st h
def qb{P:PP}{w:SL}{K:Xj}{Q:Expr}(a g:GM):Turn P w K Q (O6 K a) [g] g (λi h=>h.IsTupleIter g a i) where
 mem:=by simp
 obj:=λi h st b j=>by
  have e:b=g:=by simpa using j
  subst e;obtain⟨o,e,c,d⟩:=st;exact⟨o,e,λv z=>by rw[d]at z;cases z⟩
 keep:=λi h n st k=>st.at λo e=>k g (by simp) o e
 item:=by
  intro X A hw B L i f s Z H E I m st y;subst A hw B;obtain⟨N,x,l,t⟩:=y;obtain⟨r,q,p,U⟩:=I.tuple l;obtain⟨u,hu,R⟩:=q.get t;obtain⟨G,f1,f2,F,D,C⟩:=m g (by simp);refine wpAny_pyNext_tuple_item st (show s.heap.IsTuple a r.toArray from p) (x:=u) (by simpa using hu) λn M sb=>?_;have I1:Inv X f Z H { s with heap:=n }:=I.turned (t':=s.toks) (λb o j e=>(sb.2 b j).trans e) G f1 F D C;obtain⟨o,e,c,d⟩:=id M;exact⟨u,rfl,oR (s:={ s with heap:=n }) e c d (by decide) ⟨x,H,I1,R,⟨rfl,λys W=>by rw[I.GY W l];exact t⟩,M,λb j=>(m b j).1⟩⟩
 done:=by
  intro X A hw B L i f s Z H E I m st y;subst A hw B;obtain⟨N,l,t⟩:=y;obtain⟨r,q,p,U⟩:=I.tuple l;obtain⟨G,f1,f2,F,D,C⟩:=m g (by simp);have hl:=q.length;exact wpAny_pyNext_tuple_end (I.ok.hd L) st (show s.heap.IsTuple a r.toArray from p) (by simp;lia) λn eb=>⟨rfl,I.turned (t':=s.toks) (λb o j e=>eb b o j e) G f1 F D C⟩
 self:=λ_ _ _ _ _ st h=>wpAny_pyIter_tupleiter st h
def p6{P:PP}{w:SL}{K:Xj}{F:Expr}(d:GM)(g:Int)(n:Nat):Turn P w K F (Mn g n) [d] d (λi h=>IsRangeIter h d (g+(i:Nat)*1) ((n:Int)-(i:Nat)) 1) where
 mem:=by simp
 obj:=λi h st b f=>by
  have e:b=d:=by simpa using f
  subst e;exact⟨_,st,λv z=>by
   have D:Data.fields _=Data.cell v:=z;cases D⟩
 keep:=λi h l st k=>k d (by simp) _ st
 item:=by
  intro X q hw r p i a s Z H E I j st m;subst q hw r;obtain⟨A,f1,f2,y,x,u⟩:=j d (by simp);have W:=Walks.range (prog:=X.prog) (w:=X.w) (I.ok.hd p) d g 1 n;refine W.item i s _ _ m st λv l B L C G=>?_;obtain⟨t,rfl⟩:=L;have Q:Inv X a Z H { s with heap:=l,toks:=B }:=I.turned (λb o f e=>G b o (by simpa using f) e) A f1 y x u;refine⟨_,rfl,oR (s:={ s with heap:=l,toks:=B }) (n := "range_iterator") C M M (by decide) ⟨.int (g+i),H,Q,⟨t,?_⟩,⟨rfl,rfl⟩,C,λb f=>(j b f).1⟩⟩;rw[Int.mul_one]
 done:=by
  intro X q hw r p i a s Z H E I j st m;subst q hw r;obtain⟨A,f1,f2,y,x,u⟩:=j d (by simp);exact wpAny_pyNext_range_end (I.ok.hd p) st (by have:n<=i:=m;lia) λl N=>⟨rfl,I.turned (t':=s.toks) (λb o f e=>N b o f e) A f1 y x u⟩
 self:=λ_ _ _ _ _ st h=>wpAny_pyIter_rangeiter st h
section
variable{X:Cx}{tg:Expr}
def BX(K:Xj)(e:TE):TI:=λZ H R=>e Z H λx b=>∃a,x=.ref a/\(∃d,DM K b a d)/\R (Mo K a) b
def xN{l:Expr}{i:TE}(n:PE X l i):PI X tg l (BX X.K i):=by
 intro d s Z H R I h;refine thn (n d s Z H _ I h) λv f ⟨x,t,g,r1,j⟩=>?_;obtain⟨a,e,⟨u,m⟩,q⟩:=j;subst e;cases r1;obtain⟨y,w,p,z⟩:=g.list m;refine wpAny_pyIter_list p.isList ?_;refine⟨f.heap.objs.size,[f.heap.objs.size],_,_,t,rfl,g.kept (t':=f.toks) λb o e=>Zg _ e,ly a _,⟨_,ZX _ M,rfl,rfl⟩,λb r=>?_,q⟩;have e:b=f.heap.objs.size:=by simpa using r
 subst e;exact g.Fm (Zs _) (g.xb.fresh (Zs _))
def vj{f:Yh}{Z:St}{H:Hp}{s:FB}{R:It->Hp->Prop}{E:Yl}{a d:Int}{t u v:Tok}{g:Nat}(I:Inv X f Z H s)(h1:-(2 ^ 62)<=a)(m:a<2 ^ 62)(l:-(2 ^ 62)<=d)(j:d<2 ^ 62)(q:R (Mn a (d-a).toNat) H):KB (FM X.prog X.w) X.A (pyIter (.ref s.heap.objs.size)) (QI X f Z tg R) E { s with heap:=s.heap.push { cls:=.type "range",data:=.fields #[.int a t,.int d u,.int 1 v] },toks:=g }:=by
 refine wpAny_pyIter_range (IsRange.new ..) (small_one h1 m l j) ?_;have h:Inv X f Z H { s with heap:=s.heap.push { cls:=.type "range",data:=.fields #[.int a t,.int d u,.int 1 v] },toks:=g }:=I.kept λb o e=>Zg _ e;refine⟨(s.heap.push { cls:=.type "range",data:=.fields #[.int a t,.int d u,.int 1 v] }).objs.size,[(s.heap.push { cls:=.type "range",data:=.fields #[.int a t,.int d u,.int 1 v] }).objs.size],_,_,H,rfl,
  h.kept (t':=g) λb o e=>Zg _ e,p6 _ a (d-a).toNat,?_,λb i=>?_,q⟩
 ·have e1:a+((0:Nat):Int)*1=a:=by simp
  have e2:(((d-a).toNat:Nat):Int)-((0:Nat):Int)=Builtin.Range.rangeSize a d 1:=by rw[rangeSize_one];split<;>lia
  show IsRangeIter _ _ (a+((0:Nat):Int)*1) ((((d-a).toNat:Nat):Int)-((0:Nat):Int)) 1;rw[e1,e2];exact ZX _ M
 ·have e:b=(s.heap.push { cls:=.type "range",data:=.fields #[.int a t,.int d u,.int 1 v] }).objs.size:=by simpa using i
  subst e;exact h.Fm (Zs _) (h.xb.fresh (Zs _))
def Cs(b:TA):TI:=λZ H R=>b Z H λa d=>∃j:Int,a=[.int j]/\-(2 ^ 62)<=j/\j<2 ^ 62/\R (Mn 0 j.toNat) d
def sF{a:Expr}{g:TA}{p b:Pos}(o:Gl X "range")(n:X.mg "range" = Y)(u:PA X [a] g)(m:KM [a] X.env=[(S,eval a X.env)]:=by rfl):PI X tg (.Call (.Name "range" p) [a] [] b) (Cs g):=by
 intro d s Z H R I h;refine Call_ (gE I o n boot_range (Y0 (thn (u b d s Z H _ I h) λx y ⟨w,z,v,r1,f⟩=>?_) m M));obtain⟨j,e,f,l,q⟩:=f;subst e;cases r1 with
 |cons r i =>
  cases i;obtain⟨t,rfl⟩:=r;exact call_range_1 (vj v (by lia) (by lia) f l (by simpa using q))
def AQ(e:TI)(g:TG)(f:TS):TS:=λD Z H=>e Z H λJ l=>∃W:Nat->Nat->St->Hp->Prop,(∃m,W 0 m Z l)/\∀i m Z H,W i m Z H →
 (J.stop i H/\D.nx Z H)\/(J.go i H/\∃N:St->Hp->Prop,(∀d a,N d a->∃b,b<m/\W (i+1) b d a)/\∀x a,J.LJ i H x a->g x Z a λh j=>f { D with nx:=N,ct:=N,bk:=D.nx } h j)
def kE(a:Wn)(h:SC):Yh:=a.filterMap λb=>(h.get? b).map λo=>(b,o)
def gD{a:Wn}{h:SC}{b:GM}{o:Obj}(d:b∈a)(e:h.get? b=O o):(b,o)∈kE a h:=Wj.mpr ⟨b,d,by rw[e];rfl⟩
def sV{a:Wn}{h:SC}{p:GM×Obj}(d:p∈kE a h):p.1∈a/\h.get? p.1=O p.2:=by
 obtain⟨b,f,e⟩:=Wj.mp d;cases q:h.get? b with
 |none=>rw[q]at e;cases e
 |some o =>
  rw[q]at e;have g:(b,o)=p:=ZJ e;subst g;exact⟨f,q⟩
def Inv.pinned{a:Yh}{Z:St}{H:Hp}{s:FB}{f:Wn}(I:Inv X a Z H s)(l:∀b∈f,gc X a H b)(j:∀b∈f,∃o,s.heap.get? b=O o/\∀v,o.data ≠ .cell v):Inv X (a++kE f s.heap) Z H s :=
 I.GO λp i=>(Zc.mp i).elim (λz=>I.pin p (GF _ z)) λz=>by
  obtain⟨g,e⟩:=sV z;obtain⟨m,f1,f2,_⟩:=l p.1 g;obtain⟨o,h,d⟩:=j p.1 g;rw[e]at h;cases h;exact⟨e,m,f1,f2,d⟩
def Inv.Eu{a b:Yh}{Z:St}{H:Hp}{s:FB}(I:Inv X (a++b) Z H s):Inv X a Z H s:=I.GO λp d=>I.pin p (GF _ (Y8 _ d))
def uq{j:Expr}{B:List Stmt}{wi:TI}{g:TG}{tb:TS}{R:Pos}(F:PassesOwn (FM X.prog X.w) X.A X.env X.xe)(hc:X.calm=true)(hi:PI X tg j wi)(hg:PG X tg g)(l:Fu X B tb)(hs:∀x,UF j X.env x=pure x:=by intro _;rfl):PS X (.For tg j B [] R) (AQ wi g tb):=by
 intro a s Z H D I h;refine wpAny_For (thn (hi a s Z H _ I h) λv s1 h1=>thn h1 λNv s2 h2=>?_) hs;obtain⟨it,fp,tn,J,H2,e,I2,T,D2,f2,W,⟨m0,w0⟩,turn⟩:=h2;subst e;have Gp:∀{y:Hp},(∀b∈fp,y b=Y)->∀b∈fp,gc X a y b:=λhn b l=>⟨hn b l,(f2 b l).2⟩
 refine codeAny_forLoop_any (λn s'=>∃i L y,Inv X a L y s'/\tn i s'.heap/\(∀b∈fp,y b=Y)/\W i n L y) ?_ m0 ⟨0,Z,H2,I2,D2,λb l=>(f2 b l).1,w0⟩;rintro n s3 ⟨i,G,P,I3,FE,Le,w3⟩;rcases turn i n G P w3 with⟨stop,qn⟩ | ⟨go,N,hN,step⟩
 ·refine Xc F (thn (T.done X M M M hc i a s3 G P X.xe I3 (Gp Le) FE stop) λr s4 ⟨U,I4⟩=>?_);subst U;exact W4 ⟨G,P,I4,qn⟩
 ·refine Xc F (thn (T.item X M M M hc i a s3 G P X.xe I3 (Gp Le) FE go) λr s4 ⟨u,U,h4⟩=>?_);subst U;refine Xc F (thn h4 λ_ s5 ⟨x,H5,I5,r5,y5,Jh,Ow⟩=>?_);have O8:=I5.pinned (Gp Ow) (T.obj _ _ Jh);refine Xc F (thn (hg _ s5 G H5 x u _ O8 r5 (step x H5 y5)) λ_ s6 ⟨Z6,H6,I6,q6⟩=>?_);refine Xc F (thn (l _ s6 Z6 H6 _ I6 q6) λf Q z=>?_);have again:∀{p:St}{t:Hp},Inv X (a++kE fp s5.heap) p t Q->N p t->∃m,m<n/\∃i L y,Inv X a L y Q/\tn i Q.heap/\(∀b∈fp,y b=Y)/\W i m L y:=λ{p t} q C=>by
   obtain⟨m',hm,w7⟩:=hN p t C;refine⟨m',hm,i+1,p,t,q.Eu,T.keep _ _ _ Jh λb l o e=>(q.pin (b,o) (GF _ (GF _ (gD l e)))).1,λb l=>?_,w7⟩;obtain⟨o,e,d⟩:=T.obj _ _ Jh b l;exact(q.pin (b,o) (GF _ (GF _ (gD l e)))).2.1
  cases f with
  |next=>obtain⟨p,t,q,C⟩:=z;exact again q C
  |cont=>obtain⟨p,t,q,C⟩:=z;exact again q C
  |brk=>obtain⟨p,t,q,z⟩:=z;exact⟨p,t,q.Eu,z⟩
  |ret v=>obtain⟨x7,p,t,q,r7,z⟩:=z;exact⟨x7,p,t,q.Eu,r7,z⟩
end
abbrev R2:=V->V->Hp->VK->Prop
def OpR(X:Cx)(f:IR->IR->Sem IR)(r:R2):Prop :=
 ∀(a:Yh)(s:FB)(Z:St)(H:Hp)(x y:V)(v u:IR)(Q:VK),Inv X a Z H s->RelV x v->RelV y u->r x y H Q →
  KB (FM X.prog X.w) X.A (f v u) (EP X a Z Q) X.xe s
def UnR(X:Cx)(f:IR->Sem IR)(r:V->Hp->VK->Prop):Prop :=
 ∀(a:Yh)(s:FB)(Z:St)(H:Hp)(x:V)(v:IR)(Q:VK),Inv X a Z H s->RelV x v->r x H Q →
  KB (FM X.prog X.w) X.A (f v) (EP X a Z Q) X.xe s
def dQ(X:Cx)(f:IR)(r:List V->Hp->VK->Prop):Prop :=
 ∀(a:Yh)(s:FB)(Z:St)(H:Hp)(b:List V)(d:Wm)(Q:VK),Inv X a Z H s->aQ b d->r b H Q →
  KB (FM X.prog X.w) X.A (call f d) (EP X a Z Q) X.xe s
def Dh(X:Cx)(r:V->Hp->(Bool->Hp->Prop)->Prop):Prop :=
 ∀(a:Yh)(s:FB)(Z:St)(H:Hp)(x:V)(v:IR)(Q:Bool->Hp->Prop),Inv X a Z H s->RelV x v->r x H Q →
  KB (FM X.prog X.w) X.A (truthy v) (TP X a Z Q) X.xe s
def Ki(r:R2)(b a:TE):TE:=λZ H Q=>b Z H λx e=>a Z e λy d=>r x y d Q
def Q0(r:V->Hp->VK->Prop)(a:TE):TE:=λZ H Q=>a Z H λx b=>r x b Q
def rI(C:Int->Int->Prop)(g:Int->Int->V):R2:=λx y H Q=>∃i j,x=.int i/\y=.int j/\C i j/\Q (g i j) H
def GN(g:Int->Int->V):R2:=λx y H Q=>∃i j,x=.int i/\y=.int j/\Q (g i j) H
def rU(g:Int->V):V->Hp->VK->Prop:=λx H Q=>∃i,x=.int i/\Q (g i) H
section
variable{X:Cx}{a b c:Expr}{ta tb tc:TE}{pos:Pos}
def Bp(r:PE X a ta)(q:PE X b tb){d:Yh}{s:FB}{Z:St}{H:Hp}{R:V->V->Hp->Prop}(I:Inv X d Z H s)(h:ta Z H λx i=>tb Z i λy e=>R x y e){Q:Yl}{f:IR->IR->Sem IR}(p:∀v u g x y e,Inv X d Z e g->RelV x v->RelV y u->R x y e->KB (FM X.prog X.w) X.A (f v u) Q X.xe g) :
  KB (FM X.prog X.w) X.A (eval a X.env) (λv l=>KB (FM X.prog X.w) X.A (eval b X.env) (λu j=>KB (FM X.prog X.w) X.A (f v u) Q X.xe j) X.xe l) X.xe s:=by
 refine thn (r d s Z H _ I h) λv m ⟨x,i,z,r1,o⟩=>?_;refine thn (q d m Z i _ z o) λu g ⟨y,e,t,r2,n⟩=>?_;exact p v u g x y e t r1 r2 n
def Cn{e:Operator}{r:R2}(j:OpR X (binaryOp e) r)(m:PE X a ta)(l:PE X b tb):PE X (.BinOp a e b pos) (Ki r ta tb):=by
 intro d s Z H Q I h;exact wpAny_BinOp (Bp m l I h λv u f x y o n i g q=>j d f Z o x y v u Q n i g q)
def CU{e:UnaryOp}{r:V->Hp->VK->Prop}(i:UnR X (unaryOp e) r)(j:PE X a ta):PE X (.UnaryOp e a pos) (Q0 r ta):=by
 intro d s Z H Q I h;exact UnaryOp_ (thn (j d s Z H _ I h) λv f ⟨x,m,l,r1,g⟩=>i d f Z m x v Q l r1 g)
def LV{f:IR->IR->Sem IR}{C:Int->Int->Prop}{g:Int->Int->Int}(d:∀(i j:Int)(t u:Tok)(s:FB)(Q:Yl)(E:Yl),C i j->Q (.int (g i j) s.toks) { s with toks:=s.toks+1 }->KB (FM X.prog X.w) X.A (f (.int i t) (.int j u)) Q E s) :
  OpR X f (rI C λi j=>.int (g i j)):=by
 intro e s Z H x y v u Q I n m h;obtain⟨i,j,rfl,rfl,o,q⟩:=h;obtain⟨t,rfl⟩:=n;obtain⟨l,rfl⟩:=m;exact d i j t l s _ _ o ⟨.int (g i j),H,I.tok _,⟨_,rfl⟩,q⟩
def Cz{f:IR->IR->Sem IR}{g:Int->Int->Int}(d:∀(i j:Int)(t u:Tok)(s:FB)(Q:Yl)(E:Yl),Q (.int (g i j) s.toks) { s with toks:=s.toks+1 }->KB (FM X.prog X.w) X.A (f (.int i t) (.int j u)) Q E s) :
  OpR X f (GN λi j=>.int (g i j)):=by
 intro e s Z H x y v u Q I n m h;obtain⟨i,j,rfl,rfl,q⟩:=h;obtain⟨t,rfl⟩:=n;obtain⟨l,rfl⟩:=m;exact d i j t l s _ _ ⟨.int (g i j),H,I.tok _,⟨_,rfl⟩,q⟩
def wZ{f:IR->IR->Sem IR}{g:Int->Int->Bool}(d:∀(i j:Int)(t u:Tok)(s:FB)(Q:Yl)(E:Yl),Q (.bool (g i j)) s->KB (FM X.prog X.w) X.A (f (.int i t) (.int j u)) Q E s) :
  OpR X f (GN λi j=>.bl (g i j)):=by
 intro e s Z H x y v u Q I n m h;obtain⟨i,j,rfl,rfl,q⟩:=h;obtain⟨t,rfl⟩:=n;obtain⟨l,rfl⟩:=m;exact d i j t l s _ _ ⟨.bl (g i j),H,I,rfl,q⟩
def Cw(i j:Int):Prop:=0<j/\j<1073741824
def Cp(i j:Int):Prop:=0<=j/\j<=1000000/\i.natAbs<2 ^ 64
def zb(i j:Int):Prop:=(-(2 ^ 64)<i/\i<2 ^ 64)\/(-(2 ^ 64)<j/\j<2 ^ 64)
def zb.ok{i j:Int}(h:zb i j):IntMulOk i j:=by
 rcases h with⟨h1,d⟩ | ⟨h1,d⟩
 ·exact .of_left (intBits_le_64 h1 d)
 ·exact .of_right (intBits_le_64 h1 d)
def zP:OpR X (binaryOp .Add) (GN λi j=>.int (i+j)):=Cz λ_ _ _ _ _ _ _ q=>add_int q
def zI:OpR X (binaryOp .Sub) (GN λi j=>.int (i-j)):=Cz λ_ _ _ _ _ _ _ q=>sub_int q
def zV:OpR X (binaryOp .Mult) (rI zb λi j=>.int (i*j)):=LV λ_ _ _ _ _ _ _ d q=>mul_int q d.ok
def yu:OpR X (binaryOp .FloorDiv) (rI Cw λi j=>.int (i/j)):=LV λi j _ _ _ _ _ d q=>by
 have h1:(0:Int)<j:=d.1;have e:j<1073741824:=d.2;exact floordiv_int (by lia) (by rw[Int.fdiv_eq_ediv_of_nonneg i (by lia)];exact q) (.inl (PyProof.noPylong_small (by omega)))
def Ah:OpR X (binaryOp .Mod) (rI (λ_ j=>0<j) λi j=>.int (i%j)):=LV λi j _ _ _ _ _ d q=>by
 have h1:(0:Int)<j:=d;exact mod_int' (by lia) (by rw[Int.fmod_eq_emod_of_nonneg i (by lia)];exact q)
def Am:OpR X (binaryOp .Pow) (rI Cp λi j=>.int (i ^ j.toNat)):=LV λ_ _ _ _ _ _ _ d q=>pow_int_small d.1 d.2.1 d.2.2 q
def QX{f:IR->Sem IR}{g:Int->Int}(d:∀(i:Int)(t:Tok)(s:FB)(Q:Yl)(E:Yl),Q (.int (g i) s.toks) { s with toks:=s.toks+1 }->KB (FM X.prog X.w) X.A (f (.int i t)) Q E s) :
  UnR X f (rU λi=>.int (g i)):=by
 intro e s Z H x v Q I j h;obtain⟨i,rfl,q⟩:=h;obtain⟨t,rfl⟩:=j;exact d i t s _ _ ⟨.int (g i),H,I.tok _,⟨_,rfl⟩,q⟩
def AH:UnR X (unaryOp .USub) (rU λi=>.int (-i)):=QX λ_ _ _ _ _ q=>neg_int q
end
section
variable{X:Cx}{a b c:Expr}{ta tb tc:TE}{pos:Pos}
def zK{d:Yh}{Z:St}{H:Hp}{s:FB}{Q:VK}{k f:Bool}(I:Inv X d Z H s)(q:Q (.bl k) H)(e:k=f):EP X d Z Q (.bool f) s:=by
 subst e;exact⟨.bl k,H,I,rfl,q⟩
def Cc:OpR X (SB .Lt) (GN λi j=>.bl (decide (i<j))):=wZ λ_ _ _ _ _ _ _ q=>lt_int q
def CC:OpR X (SB .LtE) (GN λi j=>.bl (decide (i<=j))):=wZ λ_ _ _ _ _ _ _ q=>le_int q
def Cy:OpR X (SB .Gt) (GN λi j=>.bl (decide (j<i))):=wZ λ_ _ _ _ _ _ _ q=>gt_int q
def BY:OpR X (SB .GtE) (GN λi j=>.bl (decide (j<=i))):=wZ λ_ _ _ _ _ _ _ q=>ge_int q
def sd:OpR X (SB .Lt) (λx y H Q=>∃i j,x=.str i/\y=.str j/\Q (.bl (decide (i.cps.toList<j.cps.toList))) H):=by
 intro d s Z H x y v u Q I f e h;obtain⟨i,j,rfl,rfl,q⟩:=h;obtain⟨t,rfl⟩:=f;obtain⟨g,rfl⟩:=e;exact lt_str (zK I q M)
def OpR.or{f:IR->IR->Sem IR}{r i:R2}(h:OpR X f r)(j:OpR X f i):OpR X f (λx y H Q=>r x y H Q\/i x y H Q):=by
 intro d s Z H x y v u Q I g e q;rcases q with q | q
 ·exact h d s Z H x y v u Q I g e q
 ·exact j d s Z H x y v u Q I g e q
def gr(b:Expr){d:CmpOp}(h:d ≠ .In:=by decide)(e:d ≠ .NotIn:=by decide):behindInMarks d b=S:=by
 have e1:(d==CmpOp.In)=S:=by cases d<;>first | rfl | exact absurd M h
 have e2:(d==CmpOp.NotIn)=S:=by cases d<;>first | rfl | exact absurd M e
 cases b<;>simp[behindInMarks,e1,e2]
def wY{e:CmpOp}{r:R2}(j:OpR X (SB e) r)(n:PE X a ta)(m:PE X b tb)(l:behindInMarks e b=S):PE X (.Compare a [e] [b] pos) (Ki r ta tb):=by
 intro d s Z H Q I h;exact wpAny_Compare1 (Bp n m I h λv u f x y p o i g q=>j d f Z p x y v u Q o i g q) l
def vX(t:TE):TT:=λZ H Q=>t Z H λx d=>∃k,x=.bl k/\Q k d
def zd{f:CmpOp}{r:R2}(o:OpR X (SB f) r)(t:PE X a ta)(q:PE X b tb)(p:behindInMarks f b=S):PT X (.Compare a [f] [b] pos) (vX (Ki r ta tb)):=by
 intro d s Z H Q I h;refine wpAny_isTrue_Compare1 (thn (t d s Z H _ I h) λv i ⟨x,F,B,r1,n⟩=>thn (q d i Z F _ B n) λu g ⟨y,D,A,r2,m⟩ =>
  thn (o d g Z D x y v u _ A r1 r2 m) λc G ⟨z,C,w,j,k,e,l⟩=>?_) p
 subst e;cases j;exact Y1 ⟨C,w,l⟩
def vQ(r i:R2)(h g f:TE):TE:=λZ H Q=>h Z H λx m=>g Z m λy l=>r x y l λz d=>∃k,z=.bl k ∧
 (if k=J then f Z d λe j=>i y e j Q else Q (.bl S) d)
def vZ{g i:CmpOp}{r j:R2}(P:OpR X (SB g) r)(G4:OpR X (SB i) j)(ha:PE X a ta)(W:PE X b tb)(U:PE X c tc)(R:lastMarks [g,i] [b,c]=S:=by with_unfolding_all rfl):PT X (.Compare a [g,i] [b,c] pos) (vX (vQ r j ta tb tc)):=by
 intro f s Z H Q I h;refine isTrue_chain (thn (ha f s Z H _ I h) λv A ⟨x,H1,I1,r1,M⟩=>test_link (thn (W f A Z H1 _ I1 M) λu w ⟨y,H2,I2,r2,L⟩ =>
  thn (P f w Z H2 x y v u _ I2 r1 r2 L) λd t ⟨z,n,m,D,k,e,l⟩=>?_)) R
 subst e;cases D;refine Y1 ?_;cases k with
 |false =>
  obtain⟨k',e',N⟩:=l;cases e';exact ite_ff ⟨n,m,N⟩
 |true =>
  refine ite_tt (test_last (thn (U f t Z n _ m l) λp q ⟨o,H4,I4,C,G⟩=>thn (G4 f q Z H4 y o u p _ I4 r2 C G) λd' s5 ⟨z2,H5,I5,B,k2,e2,F⟩=>?_));subst e2;cases B;exact Y1 ⟨H5,I5,F⟩
def AA(K:Xj)(x:V)(H:Hp)(k:Bool):Prop :=
 match x with
 |.non=>k=S
 |.bl b=>k=b
 |.int i=>k=(i != 0)
 |.str y=>y.length<=FS/\k=((y.length:Int) != 0)
 |.byt y=>y.size<=FS/\k=((y.size:Int) != 0)
 |.ref p=>(∃d,DM K H p d/\k=!d.isEmpty)\/(∃d,El K H p d/\k=!d.isEmpty)\/∃e,H p=O (.dK e)/\k=!e.isEmpty
 |_=>False
def qh{κ:Type}{e:List (κ×V)}{d:List (κ×IR)}(r:KV e d):(!d.isEmpty)=!e.isEmpty:=by
 cases r<;>rfl
def j4{d:List V}{e:Wm}(r:aQ d e):(!e.toArray.isEmpty)=!d.isEmpty:=by
 cases r<;>simp
def i9:(FS:Nat)<2 ^ 63:=by rw[Vv];decide
def Bq:Dh X (λx H Q=>∃k,AA X.K x H k/\Q k H):=by
 intro u s Z H x v Q I g h;obtain⟨k,e,q⟩:=h;have F:=i9;have D:FS=16777216:=Vv;cases x with
 |non =>
  cases g;have d:k=S:=e;subst d;exact truthy_none ⟨H,I,q⟩
 |bl b =>
  cases g;have d:k=b:=e;subst d;exact Y1 ⟨H,I,q⟩
 |int i =>
  obtain⟨t,rfl⟩:=g;have d:k=(i != 0):=e;subst d;exact PySem.P.truthy_int ⟨H,I,q⟩
 |str y =>
  obtain⟨t,rfl⟩:=g;obtain⟨B,d⟩:y.length<=FS/\k=((y.length:Int) != 0):=e;subst d;exact PySem.P.truthy_str (by lia) ⟨H,I.tok _,q⟩
 |byt y =>
  obtain⟨t,rfl⟩:=g;obtain⟨B,d⟩:y.size<=FS/\k=((y.size:Int) != 0):=e;subst d;exact PySem.W.truthy_bytes (by lia) ⟨H,I.tok _,q⟩
 |ref p =>
  cases g;have d:(∃f,DM X.K H p f/\k=!f.isEmpty)\/(∃f,El X.K H p f/\k=!f.isEmpty)\/∃j,H p=O (.dK j)/\k=!j.isEmpty:=e;rcases d with⟨f,l,d⟩ | ⟨f,l,d⟩ | ⟨j,l,d⟩
  ·subst d;obtain⟨A,r,o,z⟩:=I.list l;have hlen:=r.length;exact wpAny_truthy_list o.isList (by simp only[Ze];lia) ⟨H,I.tok _,by rw[j4 r];exact q⟩
  ·subst d;obtain⟨A,r,o,z⟩:=I.tuple l;have hlen:=r.length;exact truthy_tuple o (by simp only[Ze];lia) ⟨H,I.tok _,by rw[j4 r];exact q⟩
  ·subst d;obtain⟨z,C,n,r,m⟩:j.length<=FS/\(p==sysModules)=S/\∃n,KV j n/\s.heap.DictOf (aX X.prog X.w) p n:=I.xb p _ l;have hlen:j.length=n.length:=WB r;exact wpAny_truthy_dict C m (by lia) ⟨H,I.tok _,by rw[qh r];exact q⟩
 |_=>exact(show False from e).elim
def wB(j:PE X a ta)(i:∀whole,isTrue a X.env whole=(do let v ← whole;standAt a.pos;holding [v] (truthy v))) :
  PT X a (λZ H Q=>ta Z H λx e=>∃k,AA X.K x e k/\Q k e):=by
 intro d s Z H Q I h;exact isTrue_plain (thn (j d s Z H _ I h) λv f ⟨x,m,l,r1,g⟩=>Bq d f Z m x v Q l r1 g) (i _)
def qf:OpR X (binaryOp .Add) (λx y H Q=>∃i j,x=.str i/\y=.str j/\i.length+j.length<=FS/\Q (.str (i++j)) H):=by
 intro d s Z H x y v u Q I g f h;obtain⟨i,j,rfl,rfl,l,q⟩:=h;obtain⟨t,rfl⟩:=g;obtain⟨e,rfl⟩:=f;exact add_str (λe m=>⟨.str (i++j),H,I.tok _,⟨_,rfl⟩,q⟩) l
def vals1{x:V}{d:Wm}(r:aQ [x] d):∃u,d=[u]/\RelV x u:=by
 cases r with
 |cons r1 r2=>cases r2;exact⟨_,rfl,r1⟩
def vals2{x y:V}{e:Wm}(r:aQ [x,y] e):∃u d,e=[u,d]/\RelV x u/\RelV y d:=by
 cases r with
 |cons r1 r2 =>
  cases r2 with
  |cons g f=>cases f;exact⟨_,_,rfl,r1,g⟩
def r6(g:X.calm=J):dQ X (.builtin "min") (λe H Q=>∃i j,e=[.int i,.int j]/\Q (.int (if j<i then j else i)) H):=by
 intro f s Z H e m Q I r h;obtain⟨i,j,rfl,q⟩:=h;obtain⟨u,l,rfl,⟨t,rfl⟩,⟨o,rfl⟩⟩:=vals2 r;refine min_two_ints (I.ok.hd g) λp n k=>⟨_,H,I.kept k,?_,q⟩
 by_cases d:j<i
 ·rw[Zr d,Zr d];exact⟨_,rfl⟩
 ·rw[Zm d,Zm d];exact⟨_,rfl⟩
def Co(K:Xj)(x:V)(H:Hp)(n:Nat):Prop :=
 match x with
 |.str y=>y.length<=FS/\n=y.length
 |.byt y=>y.size<=FS/\n=y.size
 |.ref p=>(∃d,DM K H p d/\n=d.length)\/∃d,El K H p d/\n=d.length
 |_=>False
def wH:dQ X (.builtin "len") (λd H Q=>∃x n,d=[x]/\Co X.K x H n/\Q (.int n) H):=by
 intro m s Z H d z Q I r h;obtain⟨x,n,rfl,e,q⟩:=h;obtain⟨u,rfl,g⟩:=vals1 r;have B:=i9;have A:FS=16777216:=Vv;cases x with
 |str y =>
  obtain⟨t,rfl⟩:=g;obtain⟨w,f⟩:y.length<=FS/\n=y.length:=e;subst f;exact len_str (by lia) ⟨.int _,H,I.tok _,⟨_,rfl⟩,q⟩
 |byt y =>
  obtain⟨t,rfl⟩:=g;obtain⟨w,f⟩:y.size<=FS/\n=y.size:=e;subst f;exact PySem.W.len_bytes (by lia) ⟨.int _,H,I.tok _,⟨_,rfl⟩,q⟩
 |ref p =>
  cases g;have f:(∃d,DM X.K H p d/\n=d.length)\/∃d,El X.K H p d/\n=d.length:=e;rcases f with⟨d,l,f⟩ | ⟨d,l,f⟩
  ·subst f;obtain⟨o,i,j,v⟩:=I.list l;have hlen:=i.length;exact Calls.call_len_list j.isList (by simp only[Ze];lia) ⟨.int d.length,H,I.tok _,⟨_,by simp only[Ze];rw[hlen]⟩,q⟩
  ·subst f;obtain⟨o,i,j,v⟩:=I.tuple l;have hlen:=i.length;exact len_tuple j (by simp only[Ze];lia) ⟨.int d.length,H,I.tok _,⟨_,by simp only[Ze];rw[hlen]⟩,q⟩
 |_=>exact(show False from e).elim
end
structure JT(h:SC)(x dx C:GM)(mA:X2):Prop where
 obj:h.get? x=some (PySem.W.instObj C dx)
 ns:h.Ns1 dx mA
 ne:dx≠x
def sS{h:SC}{g:GM}{d:X2}(n:h.Ns1 g d):∃b,h.get? g=O b/\∀name,PySem.W.lookIn name b=O (d name):=by
 obtain⟨o,f,s,j,hd,m,_,l⟩:=n;refine⟨o,j,λname=>?_⟩;have e:=l name;unfold nsFind findBy at e;rw[← Array.find?_toList]at e;unfold PySem.W.lookIn;rw[hd];dsimp only;split
 ·rename_i y q;rw[q]at e;exact congrArg O e
 ·rename_i q;rw[q]at e;have a:f.toList.any (·.refKey)=S:=by
   rw[List.any_eq_false];intro y i;obtain⟨z,t,r⟩:=m y (Array.mem_toList_iff.mp i);simp[DictEntry.refKey,r]
  have p:¬f.toList.any (·.refKey)=J:=by rw[a];exact Zk
  rw[Zm p];exact congrArg O e
def JT.look{h:SC}{x d C:GM}{b:X2}(I:JT h x d C b):∃a,PySem.W.InstAt h x (PySem.W.instObj C d) C (O a)/\∀name,PySem.W.lookIn name a=O (b name) :=
 let ⟨a,e,f⟩:=sS I.ns
 ⟨a,⟨I.obj,rfl,rfl,e⟩,f⟩
def jl.some_of{v:V}{o:Wd}(r:jl (O v) o):∃u,o=O u/\RelV v u:=by
 cases o with
 |none=>exact(show False from r).elim
 |some u=>exact⟨u,rfl,r⟩
section
variable{P:PP}{w:SL}{H H':Hp}{h h':SC}{a C dx:GM}{fs TU:List (Str×V)}
def yH(g:Ee P w H h)(e:H a=O (.ins C dx fs)):∃b,JT h a dx C b/\(∀f,jl (fs.lookup f) (b f))/\PySem.Within b (fs.map (·.1))/\fs.length<=1000/\H dx=O (.own a):=by
 obtain⟨d,z,ne,i,b,n,r,q⟩:=(show aW P w H h a (.ins C dx fs) from g a _ e)
 exact⟨b,⟨i,n,ne⟩,r,q,z,d⟩
end
structure Pa(K:Xj)(C:GM):Prop where
 pg:PySem.W.plainGet K C Str.empty=true
 hd:PySem.W.hasDictIn K C=true
 po:PySem.W.plainOver K C=true
 sa:PySem.W.findIn K (.ref C) "__setattr__" = some (some (.builtin "object.__setattr__"))
def Pa.get{K:Xj}{C:GM}(c:Pa K C)(f:Str):PySem.W.plainGet K C f=J:=c.pg
section
variable{X:Cx}{pins:Yh}{Z:St}{H:Hp}{s:FB}{A:Pi}{E:Yl}{Q:Yl}{c:IR}{b:Bool}
inductive Ey(K:Xj)(H:Hp):V->IR->Prop where
 |non:Ey K H .non (.type "NoneType")
 |bl (x:Bool):Ey K H (.bl x) (.type "bool")
 |int (i:Int):Ey K H (.int i) (.type "int")
 |str (x:Str):Ey K H (.str x) (.type "str")
 |flt (x:UInt64):Ey K H (.flt x) (.type "float")
 |lst {a:GM} {xs:List V} (e:H a=some (.lst xs)):Ey K H (.ref a) (.type "list")
 |frz {a:GM} {o:Obj} {xs:List V} (e:H a=some (.frz o (.lst xs))):Ey K H (.ref a) (.type "list")
 |tup {a:GM} {xs:List V} (e:H a=some (.tup xs)):Ey K H (.ref a) (.type "tuple")
 |dK {a:GM} {jj:List (Key×V)} (e:H a=some (.dK jj)):Ey K H (.ref a) (.type "dict")
 |dT {a:GM} {jj:List (List Key×V)} (e:H a=some (.dT jj)):Ey K H (.ref a) (.type "dict")
 |ins {a C dx:GM} {fs:List (Str×V)} (e:H a=some (.ins C dx fs)) (cl:Pa K C) (ha:PySem.W.findIn K (.ref C) "__class__" = some (some (.builtin "object.__class__")))
   (hn:PySem.W.specialIn K (.builtin "object.__class__") "__get__" = some (some (.builtin "getset_descriptor.__get__"))) (PM:PySem.W.takesIn K (.builtin "object.__class__")=some true)
   (hm:PySem.W.mroIn K C (.type "object")=some true):Ey K H (.ref a) (.ref C)
def sI{x:V}{u t:IR}(I:Inv X pins Z H s)(d:RelV x u)(m:Ey X.K H x t)(e:PySem.W.kitOne X.K t c=some b)(h:∀r,Q (.bool b) { s with toks:=r }) :
  KB (FM X.prog X.w) A (call (.builtin "isinstance") [u,c]) Q E s:=by
 cases m with
 |non=>cases (show u=Value.none from d);exact YU PySem.W.kitx_none I.FU True.intro e (λz=>nomatch z) h
 |bl y=>cases (show u=Value.bool y from d);exact YU PySem.W.kitx_bool I.FU True.intro e (λz=>nomatch z) h
 |int i=>obtain⟨t,q⟩:=(show ∃t,u=Value.int i t from d);cases q;exact YU PySem.W.kitx_int I.FU True.intro e (λz=>nomatch z) h
 |str y=>obtain⟨t,q⟩:=(show ∃t,u=Value.str y t from d);cases q;exact YU PySem.W.kitx_str I.FU True.intro e (λz=>nomatch z) h
 |flt y=>obtain⟨t,q⟩:=(show ∃t,u=Value.float y t from d);cases q;exact YU PySem.W.kitx_float I.FU True.intro e (λz=>nomatch z) h
 |@lst a g f =>
  cases (show u=Value.ref a from d);obtain⟨_,_,n,_,h1⟩:=(show aW X.prog X.w H s.heap a (.lst g) from I.xb a _ f)
  exact YU PySem.W.kitx_list I.FU ⟨_,h1,rfl⟩ e (λz=>nomatch z) h
 |@frz a v g f =>
  cases (show u=Value.ref a from d);obtain⟨_,_,_,n,_,h1⟩:=(show aW X.prog X.w H s.heap a (.frz v (.lst g)) from I.xb a _ f)
  exact YU PySem.W.kitx_list I.FU ⟨_,h1,rfl⟩ e (λz=>nomatch z) h
 |@tup a g f =>
  cases (show u=Value.ref a from d);obtain⟨_,_,_,_,p⟩:=(show aW X.prog X.w H s.heap a (.tup g) from I.xb a _ f)
  obtain⟨o,h1,j,_⟩:=p;exact YU PySem.W.kitx_tuple I.FU ⟨o,h1,j⟩ e (λz=>nomatch z) h
 |@dK a l f =>
  cases (show u=Value.ref a from d);obtain⟨_,_,N,_,p⟩:=(show aW X.prog X.w H s.heap a (.dK l) from I.xb a _ f)
  obtain⟨o,G,L,h1,j,_⟩:=p;exact YU PySem.W.kitx_dict I.FU ⟨o,h1,j.1⟩ e (λz=>nomatch z) h
 |@dT a l f =>
  cases (show u=Value.ref a from d);obtain⟨_,_,g,_,o,G,L,h1,j,_⟩:=(show aW X.prog X.w H s.heap a (.dT l) from I.xb a _ f)
  exact YU PySem.W.kitx_dict I.FU ⟨o,h1,j.1⟩ e (λz=>nomatch z) h
 |@ins a C U fs f cl F B M D =>
  cases (show u=Value.ref a from d);obtain⟨R,O,_⟩:=yH I.xb f;obtain⟨P,J,_⟩:=O.look;exact YU (PySem.W.kitx_own (cl.get _) cl.hd F B M D) I.FU J e (λz=>nomatch z) h
end
structure xt(k:Nat)(A:Pi):Prop where
 hd:A.handled=none
 dp:A.depth+3*k+5<recursionLimit
 un:A.units+16*k+200<cLine
def xt.mono{j k:Nat}{A:Pi}(r:xt k A)(h:j<=k):xt j A:=⟨r.hd,by have:=r.dp;lia,by have:=r.un;lia⟩
theorem xt.deeper{k:Nat}{A:Pi}(r:xt (k+1) A)(a:Env):xt k (A.deeper a) :=
 ⟨r.hd,by have:=r.dp;show A.depth+1+3*k+5<_;lia,by have:=r.un;show A.units+3+16*k+200<_;lia⟩
theorem xt.in1{k:Nat}{A:Pi}(r:xt (k+1) A):xt k A.in1 :=
 ⟨r.hd,by have:=r.dp;show A.depth+3*k+5<_;lia,by have:=r.un;show A.units+1+16*k+200<_;lia⟩
theorem xt.depth{k:Nat}{A:Pi}(r:xt k A):A.depth<recursionLimit:=by have:=r.dp;lia
theorem xt.units{k:Nat}{A:Pi}(r:xt k A):A.units+64<cLine:=by have:=r.un;lia
def BG:TA:=λ_ H Q=>Q [] H
def zl(d:TE)(b:TA):TA:=λZ H Q=>d Z H λx f=>b Z f λa e=>Q (x :: a) e
section
variable{X:Cx}{e:Expr}{es:List Expr}{te:TE}{t:TA}{pos:Pos}
def eQ:PA X [] BG:=λ_ _ _ _ H Q I h=>Calls.spliced_nil ⟨[],H,I,.nil,h⟩
def dc(l:PE X e te)(j:PA X es t)(i:K0 e es X:=by rfl):PA X (e :: es) (zl te t):=by
 intro pos a s Z H Q I h;rw[i];show KB _ _ (spliced ((S,eval e X.env) :: backTo pos (KM es X.env))) _ _ s;refine Calls.spliced_cons (thn (l a s Z H _ I h) λu d ⟨x,p,n,r1,g⟩=>?_);exact thn (j pos a d Z p _ n g) λq r ⟨b,o,m,r2,f⟩=>⟨x :: b,o,m,.cons r1 r2,f⟩
def Dq(t:TA):TE:=λZ H Q=>t Z H λa b=>a.length<=FS/\∀p,b p=Y->Q (.ref p) (upd b p (.tup a))
def Dp(t:TA):TE:=λZ H Q=>t Z H λa b=>a.length<=FS/\∀p,b p=Y->Q (.ref p) (upd b p (.lst a))
def Ar{x1}(h:PA X es t):PE X (.Tuple es x1 pos) (Dq t):=by
 intro a s Z H Q I l;refine wpAny_Tuple_spliced (thn (h pos a s Z H _ I l) λj d ⟨i,g,f,r,z,q⟩=>⟨by rw[← r.length];exact z,?_⟩);have m:g d.heap.objs.size=Y:=f.xb.fresh (Zs _);refine⟨.ref d.heap.objs.size,upd g d.heap.objs.size (.tup i),f.laid (t':=d.toks) (λb u e=>Zg _ e) (Zs _) ?_,rfl,q _ m⟩;exact⟨z,j,r,IB.of (ZX _ M) M,⟨_,ZX _ M,rfl,_,rfl⟩⟩
def md(h:PA X es t):PE X (.List es pos) (Dp t):=by
 intro a s Z H Q I l;refine wpAny_List_spliced (thn (h pos a s Z H _ I l) λj d ⟨i,g,f,r,z,q⟩=>⟨by rw[← r.length];exact z,?_⟩);have m:g d.heap.objs.size=Y:=f.xb.fresh (Zs _);refine⟨.ref d.heap.objs.size,upd g d.heap.objs.size (.lst i),f.laid (t':=d.toks) (λb u e=>Zg _ e) (Zs _) ?_,rfl,q _ m⟩;exact⟨z,j,0,r,ZX _ M⟩
end
abbrev Sp:=List V->Hp->VK->XK->Prop
abbrev HU:=List Env->Hp->FB->XK->Yl
structure HC(P:PP)(w:SL)(K:Xj)(mg:X2)(base:SC)(A:Pi)(outer:List Env)(s:FB)(H:Hp):Prop where
 frames:A.frames=some outer
 mod:Mod K mg base
 tb:∀b q,Tb base b q->H b=some (.tbl q)
 bs:∀b o,base.get? b=some o->s.heap.get? b=some o/\H b=none
 HP:base.objs.size<=s.heap.objs.size
 EU:s.heap.FunFrames base outer
 JH:∀b∈EE outer,H b=none
 xb:Ee P w H s.heap
 bare:AllBare s.gens
noncomputable def CE(a:List Env)(P:PP)(w:SL)(H:Hp)(s:FB)(Q:VK)(u:IR)(b:FB):Prop :=
 ∃v d,b.os=s.os/\AllBare b.gens/\Un (EE a) [] H d s.heap b.heap/\Ee P w d b.heap/\RelV v u/\Q v d
noncomputable def CR(d:HU)(a:List Env)(P:PP)(w:SL)(H:Hp)(s:FB)(Q:VK)(E:XK)(r:Result)(b:FB):Prop :=
 match r with
 |.ok (.ret u)=>CE a P w H s Q u b
 |.ok _=>False
 |.error e=>d a H s E e b
structure FnOk(P:PP)(w:SL)(K:Xj)(mg:X2)(base:SC)(CX:HU)(k:Nat)(f:GM)(fd:On)(ps:List Str)(sp:Sp):Prop where
 len:∀vs H Q E,sp vs H Q E->vs.length=ps.length
 run:∀(A:Pi)(outer:List Env)(s:FB)(H:Hp)(args:Args)(us:Wm)(vs:List V)(Q:VK)(E:XK),xt k A->HC P w K mg base A outer s H->BindsTo s fd args (ps.zip us)->aQ vs us->sp vs H Q E →
  codeAny (FM P w) A (.call (.ref f) args) (CR CX outer P w H s Q E) s
def FnOk.imp{P:PP}{w:SL}{K:Xj}{g:X2}{a:SC}{l:HU}{k:Nat}{f:GM}{i:On}{e:List Str}{d j:Sp}(F:FnOk P w K g a l k f i e d)(h:∀b H Q E,j b H Q E->d b H Q E):FnOk P w K g a l k f i e j :=
 ⟨λb H Q E q=>F.len b H Q E (h _ _ _ _ q),λA outer s H args m b Q E p r t n o=>F.run A outer s H args m b Q E p r t n (h _ _ _ _ o)⟩
section
variable{X:Cx}{pins:Yh}{Z:St}{H:Hp}{s s':FB}
def Inv.Fo(I:Inv X pins Z H s):HC X.prog X.w X.K X.mg X.base X.A X.stack s H :=
 ⟨I.ok.frames,I.ok.mod,I.tb,I.bs,ZV I.ok.HP I.sz,I.stack,I.FD,I.xb,I.bare⟩
def Inv.after{Q:VK}{u:IR}(I:Inv X pins Z H s)(h:CE X.stack X.prog X.w H s Q u s'):EP X pins Z Q u s':=by
 obtain⟨v,f,os,bare,un,xb,r,q⟩:=h;obtain⟨a,g,d,t,e⟩:=s';obtain rfl:e=s.os:=os;exact⟨v,f,I.call (h':=a) (g':=g) (d':=d) (t':=t) (ch:=[]) un xb bare (λb z=>absurd z (by simp)),r,q⟩
end
def zE(b:Sp)(d:List V)(E:XK)(t:TA):TE:=λZ H Q=>t Z H λa e=>b (a++d) e Q E
def Binds(K:Xj)(d:On)(b:List Str)(ds:Wm):Prop :=
 ∀(s:FB)(a:Wm),K.In s.heap->(a++ds).length=b.length->BindsTo s d ⟨a,[]⟩ (b.zip (a++ds))
def Binds.all{K:Xj}{e:On}{b:List Str}(h:∀a:Wm,a.length=b.length->bindArgs e ⟨a,[]⟩=pure (b.zip a)):Binds K e b []:=λs a _ d=>by
 rw[Ft]at d ⊢;exact .of_eq (h a d)
def pC(d:HU)(X:Cx)(E:XK):Prop:=∀(a:Yh)(Z:St)(H:Hp)(s:FB)(e:IR)(b:FB),Inv X a Z H s->d X.stack H s E e b->X.xe e b
section
variable{X:Cx}{CX:HU}{k:Nat}{f C:GM}{fd:On}{ps:List Str}{sp:Sp}{IU:List V}{ds:Wm}{E:XK}{x m:Str}{p pos apos:Pos}{e o:Expr}{es:List Expr}{ta:TE}{t:TA}
def zT{a:Yh}{Z:St}{H:Hp}{s:FB}{Q:VK}{b:Wm}{g:List V}(F:FnOk X.prog X.w X.K X.mg X.base CX k f fd ps sp)(l:xt k X.A)(v:Binds X.K fd ps ds)(q:aQ IU ds)(j:pC CX X E)(I:Inv X a Z H s)(r:aQ g b)(h:sp (g++IU) H Q E):KB (FM X.prog X.w) X.A (call (.ref f) b) (EP X a Z Q) X.xe s:=by
 have r2:aQ (g++IU) (b++ds):=r.append q;have n:(b++ds).length=ps.length:=by rw[← r2.length];exact F.len _ _ _ _ h
 refine wpAny_call (WX (F.run X.A X.stack s H ⟨b,[]⟩ (b++ds) (g++IU) Q E l I.Fo (v s b I.FU n) r2 h) λr i d=>?_);cases r with
 |error e=>exact j a Z H s e i I d
 |ok fl =>
  cases fl with
  |ret u=>exact I.after d
  |next=>exact False.elim d
  |brk=>exact False.elim d
  |cont=>exact False.elim d
def xO(F:FnOk X.prog X.w X.K X.mg X.base CX k f fd ps sp)(i:xt k X.A)(n:Gl X x)(j:X.mg x=O (.ref f))(l:PySem.W.keepIn X.K (.ref f)=J)(y:Binds X.K fd ps ds)(v:aQ IU ds)(g:pC CX X E)(z:PA X (e :: es) t)(B:K2 x:=by decide)(u:K0 e es X:=by rfl)(b:K1 pos es X:=by rfl) :
  PE X (.Call (.Name x p) (e :: es) [] pos) (zE sp IU E t):=by
 intro a s Z H Q I h;refine X0 (rV I n j ?_ B);refine PySem.W.callWith_K (h₀:=X.base) I.ok.mod.L5 l (thn (z pos a s Z H _ I h) λG L ⟨D,M,d,r,q⟩=>⟨d.FU,?_⟩) u b;exact zT F i y v g d r q
end
def PK(X:Cx)(b:List Keyword)(t:TA):Prop :=
 ∀(pos:Pos)(a:Yh)(s:FB)(Z:St)(H:Hp)(Q:List V->Hp->Prop),Inv X a Z H s->t Z H Q->KB (FM X.prog X.w) X.A (evalAll ((backToKw pos (P3 b X.env)).map (·.2))) (AP X a Z Q) X.xe s
section
variable{X:Cx}{CX:HU}{k:Nat}{f C:GM}{fd:On}{ps ks:List Str}{sp:Sp}{E:XK}{x m:Str}{p pos apos kpos:Pos}{e o:Expr}{es:List Expr}{Kw:List Keyword}{te ta:TE}{t tk:TA}{nm:Option Str}
def vF:PK X [] BG:=λ_ _ _ _ H Q I h=>wpAny_evalAll_nil ⟨[],H,I,.nil,h⟩
def mB(l:PE X e te)(j:PK X Kw t):PK X (⟨nm,e,kpos⟩ :: Kw) (zl te t):=by
 intro pos a s Z H Q I h;show KB _ _ (evalAll ((do let v ← eval e X.env;standAt pos;pure v) :: (backToKw pos (P3 Kw X.env)).map (·.2))) _ _ s;refine wpAny_evalAll_cons (Zy (thn (l a s Z H _ I h) λu d ⟨x,w,q,r1,i⟩=>Zy (wpAny_standAt (Zp ?_))));exact thn (j pos a d Z w _ q i) λy z ⟨b,r,n,r2,g⟩=>⟨x :: b,r,n,.cons r1 r2,g⟩
variable{g:Wm->Wm->Wm}{gV:List V->List V->List V}
end
structure xa(N P:List Str)(sc:Scope):Prop where
 kind:sc.kind=.function
 co:sc.isCoroutine=false
 gen:sc.isGenerator=false
 nd:N.Nodup
 pre:N.take P.length=P
 par:∀x∈P,sc.names.lookup x=some .local\/sc.names.lookup x=some .cell
 Jm:∀y∈sc.names,y.2 ≠ .free
theorem lr{a:Str->Option NameKind}{x:Str}:∀{binds:List (Str×IR)}{m:X2},(∀v,(x,v)∉binds)->bindL a binds m x=m x
 |[],_,_=>rfl
 | (n,v) :: r,m,h=>by
  unfold bindL;rw[lr λw hw=>h w (Zw _ hw)];split
  ·have:x≠n:=by rintro rfl;exact h v Zx
   simp[this]
  ·rfl
theorem lG{a:Str->Option NameKind}{x:Str}:∀{binds:List (Str×IR)}{m:X2},(∀v,(x,v)∉binds)->bindC a binds m x=m x
 |[],_,_=>rfl
 | (n,v) :: r,m,h=>by
  unfold bindC;rw[lG λw hw=>h w (Zw _ hw)];split
  ·rfl
  ·have:x≠n:=by rintro rfl;exact h v Zx
   simp[this]
theorem lu{a:Str->Option NameKind}{x:Str}{v:IR}:∀{P:List Str}{b:Wm}{i:Nat}{m:X2},P.Nodup->P[i]?=O x->b[i]?=O v->a x=O .local →
  bindL a (P.zip b) m x=O v
 |[],_,_,_,_,h,_,_=>by simp at h
 |_ :: _,[],_,_,_,_,h,_=>by simp at h
 |p :: P,w :: b,0,m,nd,h1,d,e=>by
  simp at h1 d;subst h1;subst d;show bindL a ((p,w) :: P.zip b) m p=_;unfold bindL;rw[lr λv f=>(ZU.mp nd).1 (WD f).1,Zr e];simp
 |p :: P,w :: b,i+1,m,nd,h1,d,e=>by
  show bindL a ((p,w) :: P.zip b) m x=_;unfold bindL;exact lu (i:=i) (ZU.mp nd).2 (by simpa using h1) (by simpa using d) e
theorem lI{a:Str->Option NameKind}{x:Str}{v:IR}:∀{P:List Str}{b:Wm}{i:Nat}{m:X2},P.Nodup->P[i]?=O x->b[i]?=O v->a x≠O .local →
  bindC a (P.zip b) m x=O v
 |[],_,_,_,_,h,_,_=>by simp at h
 |_ :: _,[],_,_,_,_,h,_=>by simp at h
 |p :: P,w :: b,0,m,nd,h1,d,e=>by
  simp at h1 d;subst h1;subst d;show bindC a ((p,w) :: P.zip b) m p=_;unfold bindC;rw[lG λv f=>(ZU.mp nd).1 (WD f).1,Zm e];simp
 |p :: P,w :: b,i+1,m,nd,h1,d,e=>by
  show bindC a ((p,w) :: P.zip b) m x=_;unfold bindC;exact lI (i:=i) (ZU.mp nd).2 (by simpa using h1) (by simpa using d) e
def start(N:List Str)(a:List V):St:=a.map O++List.replicate (N.length-a.length) Y
noncomputable def kQ(j:HU)(P:PP)(w:SL)(K:Xj)(m:X2)(h:SC)(N:List Str)(d:Str)(a:Scope)(f:GM)(g:IR)(A:Pi)(b:List Env)(s:FB)(H:Hp)(E:XK):Cx where
 prog:=P
 w:=w
 K:=K
 mg:=m
 base:=h
 A:=A.deeper (envOfC d a s.heap.objs.size f g)
 N:=N
 s₀:=s
 H₀:=H
 env:=envOfC d a s.heap.objs.size f g
 outer:=b
 stack:=envOfC d a s.heap.objs.size f g :: b
 ex:=[]
 calm:=J
 fn:=λ_=>J
 pn:=[]
 xe:=λe l=>KB (FM P w) (A.deeper (envOfC d a s.heap.objs.size f g)) (leaving (envOfC d a s.heap.objs.size f g) e) (λ_ i=>j b H s E e i) (λn i=>j b H s E n i) l
def nQ{a:Scope}{n:Nat}{x:Str}(h:a.names.lookup x=O .cell):∃c,(cellsFrom n a.names []).lookup x=O c:=by
 have q:=PySem.W.cellsFrom_some a.names n [] (.inl h);exact XS.mp q
def t4{Z:HU}{P:PP}{w:SL}{K:Xj}{L:X2}{o:SC}{N B:List Str}{j:Str}{d:Scope}{f:GM}{G:IR}{A:Pi}{g:List Env}{s R:FB}{H:Hp}{E:XK}{I:Wm}{t:List V}(S:xa N B d)(hd:A.handled=Y)(m:HC P w K L o A g s H)(hl:t.length=B.length)(r:aQ t I)(x:InCallC s s.heap.objs.size (bindL (envOfC j d s.heap.objs.size f G).kindOf (B.zip I) λ_=>Y) (cellsFrom (s.heap.objs.size+1) d.names []) (bindC (envOfC j d s.heap.objs.size f G).kindOf (B.zip I) λ_=>Y) R) :
  Inv (kQ Z P w K L o N j d f G A g s H E) [] (start N t) H R:=by
 have hpl:B.length<=N.length:=by have:=congrArg List.length S.pre;rw[ZO]at this;lia
 obtain⟨h1,tk,rfl,W⟩:=x.done;have Q:∀b:GM,b∉(kQ Z P w K L o N j d f G A g s H E).ex:=λb z=>absurd (show b∈([]:Wn) from z) (by simp);refine⟨⟨m.mod,S.kind,rfl,rfl,Zs _,λy z c h1 l=>?_,λy C=>?_,λy c _ h=>?_,λ_=>hd,Around.frames_deeper m.frames,.inr ⟨rfl,rfl⟩,λb z=>absurd z (Q b),m.tb,m.bs,m.HP,λb _ _=>Q b,λb z=>absurd z (Q b),m.EU,m.JH⟩,
  rfl,m.bare,Un.kept W,⟨_,x.toInCall.ns,λi y v h1 l h3=>?_⟩,λy c h=>⟨_,x.cell y c h⟩,m.xb.fresh (Zs _),λy c h=>?_,λp D=>absurd (show p∈([]:Yh) from D) (by simp),m.xb.kept W,?_⟩
 ·exact name_of_addr x.apart (XT h1) (XT l)
 ·have C:d.names.lookup y=O .cell\/d.names.lookup y=O .free:=C;rcases C with C | C
  ·exact nQ C
  ·exact absurd M (S.Jm _ (XT C))
 ·exact ZK (x.above y c (XT h))
 ·have F:i<t.length:=by
   unfold start at l;by_cases F:i<t.length
   ·exact F
   ·rw[Hg (by simpa using F)]at l;rw[Xu]at l;split at l<;>cases l
  have ha:t[i]?=O v:=by
   unfold start at l;rw[Yv (by simpa using F),ZR]at l;cases e:t[i]? with
   |none=>rw[e]at l;cases l
   |some a=>rw[e]at l;cases l;rfl
  obtain⟨u,U,rv⟩:=r.get ha;have D:B[i]?=O y:=by
   rw[← S.pre,List.getElem?_take_of_lt (by lia)];exact h1
  have X:B.Nodup:=by rw[← S.pre];exact S.nd.sublist (List.take_sublist _ _)
  refine⟨u,rv,?_⟩;rcases S.par y (YO D) with k | k
  ·exact .inl ⟨k,lu X D U k⟩
  ·obtain⟨c,e⟩:=nQ (n:=s.heap.objs.size+1) k;refine .inr ⟨.inl k,c,e,?_⟩;have q:=x.cell y c e;rw[lI X D U (by show d.names.lookup y≠_;rw[k];decide)]at q;exact q
 ·exact m.xb.fresh (ZK (x.above y c (XT h)))
 ·unfold start;show _=N.length;rw[Zu,Zv,Y4];lia
def zz{R:HU}{P:PP}{w:SL}{K:Xj}{G:X2}{h:SC}{k:Nat}{f:GM}{l d:Str}{g:Arguments}{i:List Stmt}{a:Scope}{dV kV D pm p ct oc:IR}{an od:Option GM}{Ie:Array (Wd)}{N F:List Str}{U:Sp}(lk:K.lookup f=O ⟨oc,od,.func (PySem.W.fnOf l d g i a dV kV D pm an p ct),Ie⟩)(D4:PySem.W.codeIn K p d=true)(S:xa N F a)(B:∀j H Q E,U j H Q E->j.length=F.length)(E5:∀(A:Pi)(outer:List Env)(s:FB)(H:Hp)(j:List V)(Q:VK)(E:XK),xt k (A.deeper (envOfC d a s.heap.objs.size f p))->U j H Q E →
   ∃t,Fu (kQ R P w K G h N d a f p A outer s H E) i t/\t { nx:=λ_ m=>Q .non m,rt:=Q } (start N j) H) :
  FnOk P w K G h R (k+1) f (PySem.W.fnOf l d g i a dV kV D pm an p ct) F U:=by
 refine⟨B,λA outer s H args us j Q E hr C hb r HL=>?_⟩;have hl:=B _ _ _ _ HL;have KX:K.In s.heap:=C.mod.L5.keeps λb o e=>(C.bs b o e).1;have lim:s.heap.NoLimit:=C.mod.nolimit.keeps λb o e=>(C.bs b o e).1;have Ei:∀y∈F.zip us,a.names.lookup y.1=O .local\/(a.names.lookup y.1=O .cell/\((cellsFrom (s.heap.objs.size+1) a.names []).lookup y.1).isSome=true):=λ⟨n,v⟩ hy=>by
  rcases S.par n (WD hy).1 with q | q
  ·exact .inl q
  ·exact .inr ⟨q,PySem.W.cellsFrom_some _ _ _ (.inl q)⟩
 refine codeAny_call_function hr.depth (KX _ _ lk) M S.co S.gen M (PySem.W.codeRec_of KX D4) (hb _ _ _ _ ?_);refine wpAny_newFunctionEnv_cells S.kind Ei λenv he s1 x=>?_;subst he;refine⟨lim.keeps x.toInCall.keep,codeAny_func ?_⟩;obtain⟨t,ht,hq⟩:=E5 A outer s H j Q E (hr.deeper _) HL;have I:Inv (kQ R P w K G h N d a f p A outer s H E) [] (start N j) H s1:=t4 S hr.hd C hl r x;refine Yn (ht [] s1 (start N j) H _ I hq) (λfl X z=>?_) λe X z=>z;have fin:∀{L:St}{m:Hp}{v:V}{u:IR},Inv (kQ R P w K G h N d a f p A outer s H E) [] L m X->RelV v u->Q v m->CE outer P w H s Q u X :=
  λ{L m v u} J Z q=>⟨v,m,J.os,J.bare,J.base,J.xb,Z,q⟩
 cases fl with
 |ret u =>
  obtain⟨v,L,m,J,Z,q⟩:=z;exact fin J Z q
 |next =>
  obtain⟨L,m,J,q⟩:=z;exact fin (v:=V.non) (u:=Value.none) J M q
 |brk =>
  obtain⟨_,_,_,q⟩:=z;exact False.elim q
 |cont =>
  obtain⟨_,_,_,q⟩:=z;exact False.elim q
section
variable{X:Cx}{x:Str}{p pos:Pos}{e:Expr}{es:List Expr}{t:TA}{id T:String}{r:List V->Hp->VK->Prop}
def Pc(r:List V->Hp->VK->Prop)(t:TA):TE:=λZ H Q=>t Z H λa b=>r a b Q
def ox(q:dQ X (.builtin id) r)(n:Gl X x)(m:X.mg x=Y)(j:bootBuiltins x=O (.builtin id))(u:PA X (e :: es) t)(l:x ≠ "__name__" := by decide)(y:K2 x:=by decide)(o:K0 e es X:=by rfl)(b:K1 pos es X:=by rfl):PE X (.Call (.Name x p) (e :: es) [] pos) (Pc r t):=by
 intro a s Z H Q I h;refine X0 (gE I n m j ?_ l y);exact PyProof.Rows.callWith_builtin1 (thn (u pos a s Z H _ I h) λf g ⟨d,w,v,r1,i⟩=>q a g Z w d f Q v r1 i) o b
def lQ(q:dQ X (.type T) r)(n:Gl X x)(m:X.mg x=Y)(j:bootBuiltins x=O (.type T))(u:PA X (e :: es) t)(l:x ≠ "__name__" := by decide)(y:K2 x:=by decide)(o:K0 e es X:=by rfl)(b:K1 pos es X:=by rfl):PE X (.Call (.Name x p) (e :: es) [] pos) (Pc r t):=by
 intro a s Z H Q I h;refine X0 (gE I n m j ?_ l y);exact Y0 (thn (u pos a s Z H _ I h) λf g ⟨d,w,v,r1,i⟩=>q a g Z w d f Q v r1 i) o b
end
end p0
namespace HT
open PySem PyProof.Rows
section
variable{prog:PP}{w:SL}{A:Pi}{E:Yl}{s:FB}
def D7(n d:Nat):Option Int->Nat
 |none=>d
 |some v=>if v<0 then (v+(n:Int)).toNat else min v.toNat n
end
end HT
namespace p0
open PySem PySem.Spec PyProof.Rows
abbrev TO:=St->Hp->(Option Int->Hp->Prop)->Prop
def PO(X:Cx)(e:Option Expr)(t:TO):Prop :=
 ∀(a:Yh)(s:FB)(Z:St)(H:Hp)(Q:Option Int->Hp->Prop),Inv X a Z H s->t Z H Q →
  KB (FM X.prog X.w) X.A (evalPart e X.env) (λu d=>∃o b,Inv X a Z b d/\IsPart u o/\Q o b) X.xe s
def xB:TO:=λ_ H Q=>Q Y H
def Ci(t:TE):TO:=λZ H Q=>t Z H λx a=>∃i,x=.int i/\Q (O i) a
section
variable{X:Cx}{e:Expr}{te:TE}{lo hi:Option Expr}{tl th:TO}{pos p2:Pos}
def xm:PO X Y xB:=by
 intro a s Z H Q I h;rw[evalPart_none];exact Zp ⟨Y,H,I,.none,h⟩
def zf(h:PE X e te):PO X (O e) (Ci te):=by
 intro a s Z H Q I hw;rw[evalPart_some];refine thn (h a s Z H _ I hw) λu g ⟨x,f,d,r1,b⟩=>?_;obtain⟨i,rfl,q⟩:=b;obtain⟨t,rfl⟩:=r1;exact⟨O i,f,d,.int i t,q⟩
noncomputable def I0(X:Cx)(r:V->Option Int->Option Int->Hp->VK->Prop):Prop :=
 ∀(a:Yh)(s:FB)(Z:St)(H:Hp)(x:V)(v d b:IR)(lo hi:Option Int)(f:GM)(Q:VK),Inv X a Z H s->RelV x v->s.heap.IsSliceOf f d b .none->IsPart d lo->IsPart b hi->r x lo hi H Q →
  ∃T id,typeLookup (.type T) "__getitem__" = pure (O (.builtin id))/\s.TypeIs v T/\KB (FM X.prog X.w) X.A (getItem v (.ref f)) (EP X a Z Q) X.xe s
def I0.or{r i:V->Option Int->Option Int->Hp->VK->Prop}(h:I0 X r)(m:I0 X i):I0 X (λx lo hi H Q=>r x lo hi H Q\/i x lo hi H Q):=by
 intro a s Z H x v d b lo hi f Q I g l j pu q;rcases q with q | q
 ·exact h a s Z H x v d b lo hi f Q I g l j pu q
 ·exact m a s Z H x v d b lo hi f Q I g l j pu q
def Q2(r:V->Option Int->Option Int->Hp->VK->Prop)(d:TE)(a b:TO):TE:=λZ H Q=>d Z H λx h=>a Z h λl g=>b Z g λu f=>r x l u f Q
def vG{r:V->Option Int->Option Int->Hp->VK->Prop}(B:I0 X r)(F:PE X e te)(C:PO X lo tl)(y:PO X hi th):PE X (.Subscript e (.Slice lo hi Y p2) pos) (Q2 r te tl th):=by
 intro a s Z H Q I h;refine Subscript_ (thn (F a s Z H _ I h) λv m ⟨x,U,P,r1,p⟩=>?_);refine wpAny_Slice (thn (C a m Z U _ P p) λg j ⟨l,R,N,t,o⟩=>thn (y a j Z R _ N o) λf d ⟨u,i,M,pu,n⟩=>?_);rw[evalPart_none];refine Zp ?_;have L:Inv X a Z i { d with heap:=d.heap.push { cls:=.type "slice",data:=.fields #[g,f,.none] } }:=M.kept (t':=d.toks) λb W q=>Zg _ q;obtain⟨T,id,G,z,D⟩:=B a { d with heap:=d.heap.push { cls:=.type "slice",data:=.fields #[g,f,.none] } } Z i x v g f l u d.heap.objs.size Q L r1 (Heap.IsSliceOf.new ..) t pu n;show KB (FM X.prog X.w) X.A (subscriptTail e (.Slice lo hi Y p2) v (.ref d.heap.objs.size)) (EP X a Z Q) X.xe { d with heap:=d.heap.push { cls:=.type "slice",data:=.fields #[g,f,.none] } };exact tail_any (ops:=[.ref d.heap.objs.size,v]) z G D (by with_unfolding_all rfl)
def sD(a:List V)(b d:Option Int):List V:=(a.drop (HT.D7 a.length 0 b)).take (HT.D7 a.length a.length d-HT.D7 a.length 0 b)
def oj(a:List V)(b d:Option Int):(sD a b d).length<=a.length:=by
 unfold sD;rw[ZO,ZG];lia
end
def Js(n:Nat)(i:Int):Option Nat:=if 0<=i then (if i<n then O i.toNat else Y) else if -(n:Int)<=i then O (i+n).toNat else Y
def JP{α:Type}(a:List α)(i:Int):Option α:=(Js a.length i).bind λj=>a[j]?
def qK{n:Nat}{i:Int}{j:Nat}(h:Js n i=O j):seqIndex? i n=O j/\j<n/\-(n:Int)<=i/\i<n:=by
 unfold Js at h;by_cases a:0<=i
 ·rw[Zr a]at h;by_cases h1:i<n
  ·rw[Zr h1]at h;have e:i.toNat=j:=ZJ h;exact⟨by rw[seqIndex_of a h1,e],by lia,by lia,h1⟩
  ·rw[Zm h1]at h;cases h
 ·rw[Zm a]at h;by_cases h1:-(n:Int)<=i
  ·rw[Zr h1]at h;have e:(i+n).toNat=j:=ZJ h;exact⟨by rw[seqIndex_neg (by lia) h1,e],by lia,h1,by lia⟩
  ·rw[Zm h1]at h;cases h
def mf{α:Type}{a:List α}{i:Int}{v:α}(h:JP a i=O v):∃j,seqIndex? i a.length=O j/\a[j]?=O v/\j<a.length/\-(a.length:Int)<=i/\i<a.length:=by
 unfold JP at h;cases e:Js a.length i with
 |none=>rw[e]at h;cases h
 |some j =>
  rw[e]at h;obtain⟨h1,f,d,b⟩:=qK e;exact⟨j,h1,h,f,d,b⟩
def jI(b:Expr):Prop:=∀o i,subscripted b S o i=operate [o,i] (getItem o i)
def Hh(X:Cx)(r:R2):Prop :=
 ∀(value slice:Expr)(a:Yh)(s:FB)(Z:St)(H:Hp)(x y:V)(v u:IR)(Q:VK),Inv X a Z H s->RelV x v->RelV y u->r x y H Q →
  subscripted slice S v u=operate [v,u] (getItem v u)->KB (FM X.prog X.w) X.A (subscriptTail value slice v u) (EP X a Z Q) X.xe s
def LF(X:Cx)(e:String)(r:V->List V->Hp->VK->Prop):Prop :=
 ∀(a:Yh)(s:FB)(Z:St)(H:Hp)(x:V)(b:List V)(v:IR)(d:Wm)(Q:VK),Inv X a Z H s->RelV x v->aQ b d->r x b H Q →
  KB (FM X.prog X.w) X.A (call (.builtin e) (v :: d)) (EP X a Z Q) X.xe s
section
variable{X:Cx}{a b:Expr}{ta tb:TE}{pos:Pos}
def Hh.or{r g:R2}(h:Hh X r)(j:Hh X g):Hh X (λx y H Q=>r x y H Q\/g x y H Q):=by
 intro value slice d s Z H x y v u Q I f e q i;rcases q with q | q
 ·exact h value slice d s Z H x y v u Q I f e q i
 ·exact j value slice d s Z H x y v u Q I f e q i
def wK{r:R2}(j:Hh X r)(m:PE X a ta)(l:PE X b tb)(i:jI b):PE X (.Subscript a b pos) (Ki r ta tb):=by
 intro d s Z H Q I h;exact Subscript_ (Bp m l I h λv u e x y o n g f q=>j a b d e Z o x y v u Q n g f q (i _ _))
def B5(K:Xj):R2:=λx y H Q=>∃p d i v,x=.ref p/\y=.int i/\DM K H p d/\JP d i=O v/\Q v H
def BW(K:Xj):R2:=λx y H Q=>∃p d i v,x=.ref p/\y=.int i/\El K H p d/\JP d i=O v/\Q v H
def CB:R2:=λx y H Q=>∃z i c,x=.str z/\y=.int i/\z.length<=FS/\JP z.cps.toList i=O c/\Q (.str ⟨#[c]⟩) H
def ya:Hh X (B5 X.K):=by
 intro value slice d s Z H x y v u Q I A o h g;obtain⟨p,P,i,z,rfl,rfl,C,F,q⟩:=h;cases A;obtain⟨t,rfl⟩:=o;obtain⟨B,r,e,R⟩:=I.list C;obtain⟨j,h1,M,W,L,G⟩:=mf F;obtain⟨w,m,N⟩:=r.get M;have D:=r.length;have U:=i9;have fin:EP X d Z Q w s:=⟨z,H,I,N,q⟩
 by_cases l:0<=i
 ·have f:i.toNat=j:=by
   rw[seqIndex_of l G]at h1;exact ZJ h1
  exact item_listR e.isList l (by lia) (by rw[f];simpa using m) fin g
 ·have f:(i+(B.toArray.size:Int)).toNat=j:=by
   rw[seqIndex_neg (by lia) L]at h1;rw[Ze,← D];exact ZJ h1
  exact subscriptTail_builtinR (x:=w) e.isList.typeIs slot_list_getitem.lookup
   (wpAny_getItem_list_neg (Q:=λr n=>r=w/\EP X d Z Q r n) e.isList (by lia) (by rw[Ze]<;>lia) (by lia) (by rw[f];simpa using m) ⟨rfl,fin⟩) g
def Bb:Hh X (BW X.K):=by
 intro value slice d s Z H x y v u Q I l g h m;obtain⟨p,F,i,z,rfl,rfl,n,A,q⟩:=h;cases l;obtain⟨t,rfl⟩:=g;obtain⟨G,r,e,L⟩:=I.tuple n;obtain⟨j,h1,B,R,P,N⟩:=mf A;obtain⟨w,C,D⟩:=r.get B;have o:=r.length;have M:=i9;have fin:EP X d Z Q w s:=⟨z,H,I,D,q⟩
 exact subscriptTail_builtinR (x:=w) e.typeIs slot_tuple_getitem.lookup
  (getItem_tuple (j:=j) (Q:=λr f=>r=w/\EP X d Z Q r f) e (by lia) (by lia) (by rw[Ze,← o];exact h1) (by simpa using C) ⟨rfl,fin⟩) m
def Al:Hh X CB:=by
 intro value slice d s Z H x y v u Q I f e h g;obtain⟨z,i,c,rfl,rfl,w,m,q⟩:=h;obtain⟨t,rfl⟩:=f;obtain⟨r,rfl⟩:=e;obtain⟨j,h1,p,B,o,n⟩:=mf m;have l:z.cps.toList.length=z.length:=by simp[Str.length]
 rw[l]at h1 o n;have A:=i9;exact tail_any (typeIs_str s z t) slot_str_getitem.lookup (getItem_str (c:=c) (by
  have e1:decide (i < -(2 ^ 63:Int))=S:=ZP (by lia);have e2:decide (i ≥ 2 ^ 63)=S:=ZP (by lia);rw[e1,e2,Bool.or_false]) (by rw[h1];simpa using p) ⟨.str ⟨#[c]⟩,H,I.tok _,⟨_,rfl⟩,q⟩) g
def MG(K:Xj):R2:=λx y H Q=>B5 K x y H Q\/BW K x y H Q\/CB x y H Q
def uZ:Hh X (MG X.K):=ya.or (Bb.or Al)
def p5(d:Wm)(n j:Nat)(u:IR):Obj.mapSeq (·.setIfInBounds j u) { cls:=.type "list",data:=.seq d.toArray n }={ cls:=.type "list",data:=.seq (d.set j u).toArray n }:=by
 simp[Obj.mapSeq]
theorem Inv.lst{d:Yh}{Z:St}{H:Hp}{s:FB}{p:GM}{xs:List V}(I:Inv X d Z H s)(h:H p=O (.lst xs)) :
  ∃(f:Wm)(n:Nat),aQ xs f/\s.heap.get? p=O { cls:=.type "list",data:=.seq f.toArray n }/\xs.length<=sizeLine:=by
 obtain⟨z,f,n,r,e⟩:=I.xb p _ h;exact⟨f,n,r,e,z⟩
def Inv.Jo{g:Yh}{Z:St}{H:Hp}{s:FB}{p:GM}{o i:List V}{l d:Wm}{n j:Nat}{f:Obj->Obj}(I:Inv X g Z H s)(h:H p=O (.lst o))(w:s.heap.get? p=O { cls:=.type "list",data:=.seq l.toArray n })(m:f { cls:=.type "list",data:=.seq l.toArray n }={ cls:=.type "list",data:=.seq d.toArray j })(r:aQ i d)(v:i.length<=FS)(t:Nat) :
  Inv X g Z (upd H p (.lst i)) { s with heap:=s.heap.update p f,toks:=t }:=by
 have e:(s.heap.update p f).get? p=O { cls:=.type "list",data:=.seq d.toArray j }:=by
  rw[Vy f w (by rw[m]<;>rfl),m]
 refine I.write (x:=p) (e:=p) (by rw[h];trivial) (.inl M) (λb u y q=>(Xd _ _ (YE y)).trans q) ⟨_,e⟩ ?_;exact⟨v,d,j,r,e⟩
def zt:V->V->V->Hp->(Hp->Prop)->Prop:=λo i v H Q=>∃p d k j,o=.ref p/\i=.int k/\H p=O (.lst d)/\Js d.length k=O j/\Q (upd H p (.lst (d.set j v)))
def set_list:A7 X zt:=by
 intro d s Z H o i v L M u Q I C D B h;obtain⟨p,A,k,j,rfl,rfl,m,G,q⟩:=h;cases C;obtain⟨t,rfl⟩:=D;obtain⟨l,n,r,e,F⟩:=I.lst m;obtain⟨h1,P,x,w⟩:=qK G;have f:=r.length;have N:=i9;have z:Inv X d Z (upd H p (.lst (A.set j v))) { s with heap:=s.heap.update p (Obj.mapSeq (·.setIfInBounds j u)) } :=
  I.Jo m e (p5 l n j u) (r.set B j) (by rw[XO];exact F) s.toks
 by_cases y:0<=k
 ·have g:k.toNat=j:=by
   rw[seqIndex_of y w]at h1;exact ZJ h1
  exact PySem.W.ki_setAt e y (by lia) (by rw[Ze,← f];exact w) (by rw[g];exact⟨_,z,q⟩)
 ·have g:(k+(l.toArray.size:Int)).toNat=j:=by
   rw[seqIndex_neg (by lia) x]at h1;rw[Ze,← f];exact ZJ h1
  exact PySem.W.ki_setBack e (by lia) (by rw[Ze,← f];exact x) (by lia) (by rw[g];exact⟨_,z,q⟩)
def mR(d e:Option Int)(n:Nat):(sliceBounds d e Y n).1=((HT.D7 n 0 d:Nat):Int)/\(sliceBounds d e Y n).2.1=((HT.D7 n n e:Nat):Int)/\(sliceBounds d e Y n).2.2=1:=by
 refine⟨?_,?_,rfl⟩
 ·cases d with
  |none=>simp[sliceBounds,HT.D7]
  |some i =>
   simp only[sliceBounds,HT.D7,Option.getD_none,show (1:Int) > 0 by decide,if_true];by_cases h:i<0
   ·simp only[h,if_true]<;>lia
   ·simp only[h,if_false]<;>lia
 ·cases e with
  |none=>simp[sliceBounds,HT.D7]
  |some i =>
   simp only[sliceBounds,HT.D7,Option.getD_none,show (1:Int) > 0 by decide,if_true];by_cases h:i<0
   ·simp only[h,if_true]<;>lia
   ·simp only[h,if_false]<;>lia
def kS(d:Wm)(e f:Option Int):slicePick d.toArray e f Y=((d.drop (HT.D7 d.length 0 e)).take (HT.D7 d.length d.length f-HT.D7 d.length 0 e)).toArray:=by
 obtain⟨h1,h,g⟩:=mR e f d.toArray.size;unfold slicePick;rw[h1,h,g];simp only[sliceRange_one,pick_run,Ze]<;>rfl
def Cg(K:Xj):V->Option Int->Option Int->Hp->VK->Prop:=λx lo e H Q=>∃a d,x=.ref a/\DM K H a d/\∀p,H p=Y->Q (.ref p) (upd H p (.lst (sD d lo e)))
def xU:I0 X (Cg X.K):=by
 intro f s Z H x v t p lo e u Q I i n j pu h;obtain⟨a,d,rfl,m,q⟩:=h;cases i;obtain⟨w,r,g,l⟩:=I.list m;have hlen:=r.length;refine⟨"list",_,slot_list_getitem.lookup,g.isList.typeIs,?_⟩;refine wpAny_getItem_list_slice g.isList n j pu .none (by simp) ?_ (by rw[Ze]<;>lia);rw[kS,← hlen];refine⟨.ref s.heap.objs.size,_,I.laid (t':=s.toks) (o:=.lst (sD d lo e)) (λb y q=>Zg _ q) (Zs _) ?_,rfl,q _ (I.xb.fresh (Zs _))⟩;exact⟨ZV (oj d lo e) l,_,0,(r.drop (HT.D7 d.length 0 lo)).take (HT.D7 d.length d.length e-HT.D7 d.length 0 lo),ZX _ M⟩
def eR:V->Bool
 |.non=>J
 |.bl _=>J
 |.int _=>J
 |.str _=>J
 |_=>S
def HN:V->V->Bool
 |.non,.non=>J
 |.bl a,.bl b=>a==b
 |.bl a,.int b=>(if a then 1 else 0)==b
 |.int a,.bl b=>a==(if b then 1 else 0)
 |.int a,.int b=>a==b
 |.str a,.str b=>a==b
 |_,_=>S
def zN{A:Pi}{s:FB}{y x:V}{u v:IR}(f:RelV y u)(d:RelV x v)(h:eR y=J)(g:eR x=J):SeqAt.EqAt A s u v (HN y x):=by
 cases y with
 |non =>
  cases f;cases x with
  |non=>cases d;exact SeqAt.EqAt.same _
  |bl b=>cases d;exact SeqAt.EqAt.none_bool b
  |int b=>obtain⟨t,rfl⟩:=d;exact SeqAt.EqAt.none_int b t
  |str b=>obtain⟨t,rfl⟩:=d;exact SeqAt.EqAt.none_str b t
  |_=>exact absurd (show S=J from g) Zk
 |bl a =>
  cases f;cases x with
  |non=>cases d;exact SeqAt.EqAt.bool_none a
  |bl b=>cases d;exact SeqAt.EqAt.bool_bool a b
  |int b=>obtain⟨t,rfl⟩:=d;exact SeqAt.EqAt.bool_int a b t
  |str b=>obtain⟨t,rfl⟩:=d;exact SeqAt.EqAt.bool_str a b t
  |_=>exact absurd (show S=J from g) Zk
 |int a =>
  obtain⟨e,rfl⟩:=f;cases x with
  |non=>cases d;exact SeqAt.EqAt.int_none a e
  |bl b=>cases d;exact SeqAt.EqAt.int_bool a e b
  |int b=>obtain⟨t,rfl⟩:=d;exact SeqAt.EqAt.int_int a e b t
  |str b=>obtain⟨t,rfl⟩:=d;exact SeqAt.EqAt.int_str a e b t
  |_=>exact absurd (show S=J from g) Zk
 |str a =>
  obtain⟨e,rfl⟩:=f;cases x with
  |non=>cases d;exact SeqAt.EqAt.str_none a e
  |bl b=>cases d;exact SeqAt.EqAt.str_bool a e b
  |int b=>obtain⟨t,rfl⟩:=d;exact SeqAt.EqAt.str_int a e b t
  |str b=>obtain⟨t,rfl⟩:=d;exact SeqAt.EqAt.str_str a e b t
  |_=>exact absurd (show S=J from g) Zk
 |_=>exact absurd (show S=J from h) Zk
def Iv(x:V)(u:IR):Bool:=match u with
 |.none=>HN .non x
 |.bool b=>HN (.bl b) x
 |.int i _=>HN (.int i) x
 |.str z _=>HN (.str z) x
 |_=>S
def wt{x y:V}{u:IR}(r:RelV y u)(f:eR y=J):Iv x u=HN y x:=by
 cases y with
 |non=>cases r;rfl
 |bl b=>cases r;rfl
 |int i=>obtain⟨t,rfl⟩:=r;rfl
 |str z=>obtain⟨t,rfl⟩:=r;rfl
 |_=>exact absurd (show S=J from f) Zk
theorem mM{x:V}:∀{d:List V}{e:Wm},aQ d e->d.all eR=J->e.any (Iv x)=d.any λy=>HN y x
 |_,_,.nil,_=>rfl
 |y :: d,u :: e,.cons r t,f=>by
  rw[WU,FV]at f;rw[Xz,Xz,wt r f.1,mM t f.2]
theorem kl{A:Pi}{s:FB}{x:V}{v:IR}(h:RelV x v)(i:eR x=J):∀{e:List V}{g:Wm},aQ e g->e.all eR=J->∀u∈g,SeqAt.EqAt A s u v (Iv x u)
 |_,_,.nil,_=>λu d=>by cases d
 |y :: e,u :: g,.cons r t,f=>λj d=>by
  rw[WU,FV]at f;rcases Zo.mp d with rfl | d
  ·rw[wt r f.1];exact zN r h f.1 i
  ·exact kl h i t f.2 j d
def KA(x:V)(d:List V):Bool:=d.any λy=>HN y x
def Ph(K:Xj)(e:Bool):R2:=λx y H Q=>∃p d,y=.ref p/\(DM K H p d\/El K H p d)/\eR x=J/\d.all eR=J/\Q (.bl (if e then !KA x d else KA x d)) H
def tH:OpR X (SB .In) (Ph X.K S):=by
 intro i s Z H x y v u Q I g l h;obtain⟨p,n,rfl,e,j,fs,q⟩:=h;cases l;rcases e with e | e
 ·obtain⟨d,r,f,m⟩:=I.list e;refine SeqAt.in_listAt (Iv x) f.isList (λw hw=>kl g j r fs w (by simpa using hw)) ⟨.bl _,H,I,rfl,?_⟩;rw[show d.toArray.any (Iv x)=d.any (Iv x) by simp,mM r fs];exact q
 ·obtain⟨d,r,f,m⟩:=I.tuple e;refine SeqAt.in_tupleAt (Iv x) f (λw hw=>kl g j r fs w (by simpa using hw)) ⟨.bl _,H,I,rfl,?_⟩;rw[show d.toArray.any (Iv x)=d.any (Iv x) by simp,mM r fs];exact q
def dQ.or{f:IR}{r j:List V->Hp->VK->Prop}(h:dQ X f r)(l:dQ X f j):dQ X f (λe H Q=>r e H Q\/j e H Q):=by
 intro d s Z H e g Q I i q;rcases q with q | q
 ·exact h d s Z H e g Q I i q
 ·exact l d s Z H e g Q I i q
def lX:dQ X (.type "list") (λA H Q=>∃p g,A=[.ref p]/\(DM X.K H p g\/El X.K H p g)/\∀l,H l=Y->Q (.ref l) (upd H l (.lst g))):=by
 intro m s Z H A D Q I r h;obtain⟨p,g,rfl,v,q⟩:=h;obtain⟨u,rfl,C⟩:=vals1 r;cases C;have fin:∀(f:Wm),aQ g f->g.length<=FS->∀(d:SC)(j:Nat),(∀b B,s.heap.get? b=O B->d.get? b=O B) →
   d.get? s.heap.objs.size=O { cls:=.type "list",dict:=Y,data:=.seq f.toArray j,slots:=#[] }->EP X m Z Q (.ref s.heap.objs.size) { s with heap:=d }:=λf i t d j kp e =>
  ⟨.ref s.heap.objs.size,_,I.laid (t':=s.toks) kp (Zs _) (show aW X.prog X.w _ d _ (.lst g) from⟨t,f,j,i,e⟩),rfl,q _ (I.xb.fresh (Zs _))⟩
 rcases v with v | v
 ·obtain⟨f,i,x,t⟩:=I.list v;have hlen:=i.length;obtain⟨o,y,z,n,hd⟩:=x.isList;exact call_list_seq p (.inl M) y z hd (λd j kp e=>fin f i t d j kp e) (by simp only[Ze]<;>lia)
 ·obtain⟨f,i,x,t⟩:=I.tuple v;have hlen:=i.length;obtain⟨o,y,z,n,hd⟩:=x;exact call_list_seq p (.inr M) y z hd (λd j kp e=>fin f i t d j kp e) (by simp only[Ze]<;>lia)
def kP:dQ X (.type "tuple") (λt H Q=>∃p f,t=[.ref p]/\((DM X.K H p f/\∀l,H l=Y->Q (.ref l) (upd H l (.tup f)))\/(El X.K H p f/\Q (.ref p) H))):=by
 intro d s Z H t A Q I r h;obtain⟨p,f,rfl,h⟩:=h;obtain⟨u,rfl,y⟩:=vals1 r;cases y;rcases h with⟨n,q⟩ | ⟨n,q⟩
 ·obtain⟨m,i,j,v⟩:=I.list n;have hlen:=i.length;refine call_tuple_list j.isList (λg kp=>?_) (by simp only[Ze]<;>lia);have x:Inv X d Z H { s with heap:=g }:=I.kept (t':=s.toks) kp;have z:Inv X d Z (upd H g.objs.size (.tup f)) { s with heap:=g.push { cls:=.type "tuple",data:=.seq m.toArray } } :=
   x.laid (t':=s.toks) (λb o e=>Zg _ e) (Zs _) (show aW X.prog X.w _ _ _ (.tup f) from⟨v,m,i,IB.new _ _,IsTup.new _ _⟩)
  exact⟨.ref g.objs.size,_,z,rfl,q _ (x.xb.fresh (Zs _))⟩
 ·obtain⟨m,i,j,v⟩:=I.tuple n;exact call_tuple_same j ⟨.ref p,H,I,rfl,q⟩
def tyV(K:Xj)(T:String)(x:V)(H:Hp):Prop:=match x with
 |.str _=>T = "str"
 |.int _=>T = "int"
 |.ref p=>(T = "list" ∧ ∃e,DM K H p e)\/(T = "tuple" ∧ ∃o,K.lookup p=O o/\o.cls=.type "tuple" ∧ o.dict=Y) ∨
   (T = "dict" ∧ ((∃d,H p=O (.dK d))\/∃d,H p=O (.dT d)))\/(T = "set" ∧ ∃S n,H p=O (.set S n))
 |_=>False
def AX{f:Yh}{Z:St}{H:Hp}{s:FB}{T:String}{x:V}{v:IR}(I:Inv X f Z H s)(r:RelV x v)(g:tyV X.K T x H) :
  s.TypeIs v T/\∀a,v=.ref a->∃j,s.heap.get? a=O j/\j.dict=Y:=by
 cases x with
 |str z =>
  obtain⟨t,rfl⟩:=r;cases (show T = "str" from g);exact⟨typeIs_str s z t,λ_ e=>nomatch e⟩
 |int i =>
  obtain⟨t,rfl⟩:=r;cases (show T = "int" from g);exact⟨typeIs_int s i t,λ_ e=>nomatch e⟩
 |ref p =>
  cases r;rcases g with⟨rfl,w,m⟩ | ⟨rfl,o,d,q,hd⟩ | ⟨rfl,d⟩ | ⟨rfl,u,n,d⟩
  ·obtain⟨y,_,h,_⟩:=I.list m;refine⟨h.isList.typeIs,λa e=>?_⟩;cases e;obtain⟨o,n,e,c,hd,_⟩:=h;exact⟨o,e,hd⟩
  ·refine⟨⟨o,I.FU p o d,q⟩,λa e=>?_⟩;cases e;exact⟨o,I.FU _ o d,hd⟩
  ·have z:∃o,s.heap.get? p=O o/\o.ExactDict:=by
    rcases d with⟨l,d⟩ | ⟨l,d⟩
    ·obtain⟨_,_,_,_,o,_,_,e,ex,_⟩:=I.xb p _ d;exact⟨o,e,ex⟩
    ·obtain⟨_,_,_,_,o,_,_,e,ex,_⟩:=I.xb p _ d;exact⟨o,e,ex⟩
   obtain⟨o,e,ex⟩:=z;refine⟨⟨o,e,ex.1⟩,λa e2=>?_⟩;cases e2;exact⟨o,e,ex.2.1⟩
  ·obtain⟨o,_,_,_,e,ex,_⟩:=I.xb p _ d;refine⟨⟨o,e,ex.1⟩,λa e2=>?_⟩;cases e2;exact⟨o,e,ex.2.1⟩
 |_=>exact False.elim g
def Rc(K:Xj)(T:String)(r:V->List V->Hp->VK->Prop)(f:TE)(t:TA):TE:=λZ H Q=>f Z H λx d=>tyV K T x d/\t Z d λe g=>r x e g Q
variable{o e:Expr}{es:List Expr}{to:TE}{t:TA}{name:Str}{apos xh:Pos}{T id:String}{r:V->List V->Hp->VK->Prop}
def rB(u:PlainAttrs T)(f:Slot T name id)(C:typeOf (.builtin id)=pure (.type "method_descriptor"))(z:LF X id r)(y:PE X o to)(A:PA X (e :: es) t)(N:SZ o name X.env (eval o X.env)=eval o X.env:=by rfl)(L:((backTo xh (KM (e :: es) X.env)).all (λx=>!x.1)&&(backToKw xh (P3 [] X.env)).all (λx=>x.1.isSome)
   && decide ((e :: es).length+([]:List Keyword).length+(if ([]:List Keyword).isEmpty then 0 else 1)<30))=J:=by rfl)(P:(apos.endLine==xh.line)=J:=by rfl)(w:K0 e es X:=by rfl)(R:K1 xh es X:=by rfl) :
  PE X (.Call (.Attribute o name apos) (e :: es) [] xh) (Rc X.K T r to t):=by
 intro d s Z H Q I h;refine wpAny_Call_method_late N L P M (thn (y d s Z H _ I h) λv n ⟨x,G,i,r1,ty,q⟩=>?_);obtain⟨h1,B⟩:=AX i r1 ty;refine⟨T,id,u,f,C,h1,B,?_⟩;have g:=A xh d n Z G _ i q;rw[w]at g ⊢;refine Calls.callWith_builtin (by show (S||(backTo xh (KM es X.env)).any (·.1))=S;rw[R]<;>rfl) (Calls.evalArgs_plain ?_);exact thn g λl m ⟨j,F,D,r2,p⟩=>z d m Z F x j v l Q D r1 r2 p
end
def UO(X:Cx)(e:String)(r:V->List V->Hp->VK->Prop):Prop :=
 ∀(a:Yh)(s:FB)(Z:St)(H:Hp)(x:V)(b:List V)(v:IR)(d:Wm)(Q:VK),Inv X a Z H s->RelV x v->aQ b d->r x b H Q →
  KB (FM X.prog X.w) X.A (call (.builtin e) (v :: d)) (EP X a Z Q) X.xe s
def aQ.nil_inv{a:Wm}(h:aQ [] a):a=[]:=by
 cases h;rfl
def aQ.cons_inv{x:V}{a:List V}{d:Wm}(h:aQ (x :: a) d):∃u b,d=u :: b/\RelV x u/\aQ a b:=by
 cases h with
 |cons r t=>exact⟨_,_,rfl,r,t⟩
def aQ.one{x:V}{a:Wm}(h:aQ [x] a):∃u,a=[u]/\RelV x u:=by
 obtain⟨u,b,rfl,r,t⟩:=h.cons_inv;rw[t.nil_inv];exact⟨_,rfl,r⟩
def aQ.two{x y:V}{a:Wm}(h:aQ [x,y] a):∃u v,a=[u,v]/\RelV x u/\RelV y v:=by
 obtain⟨u,b,rfl,r,t⟩:=h.cons_inv;obtain⟨v,rfl,q⟩:=t.one;exact⟨_,_,rfl,r,q⟩
section
variable{X:Cx}{pins:Yh}{Z:St}{H:Hp}{s:FB}{l b:GM}{xs ys zs:List V}
def Inv.Ng{a its':Wm}{n:Nat}{f:Array IR->Array IR}{d:Nat}(I:Inv X pins Z H s)(o:H l=O (.lst xs))(e:s.heap.get? l=O { cls:=.type "list",data:=.seq a.toArray n })(j:f a.toArray=its'.toArray)(h:aQ ys its')(g:ys.length<=FS) :
  Inv X pins Z (upd H l (.lst ys)) { s with heap:=s.heap.update l (Obj.mapSeq f),toks:=d }:=by
 have q:=PySem.IsL.update e f;rw[j]at q;refine I.write (x:=l) (e:=l) (by rw[o];exact trivial) (.inl M) (λp u m i=>(Xd s.heap (Obj.mapSeq f) (YE m)).trans i) ⟨_,q⟩ ?_;exact⟨g,its',_,h,q⟩
def Inv.Nh{a:Wm}{t':Nat}(I:Inv X pins Z H s)(e:aQ ys a)(d:ys.length<=FS) :
  Inv X pins Z (upd H s.heap.objs.size (.lst ys)) { s with heap:=s.heap.push { cls:=.type "list",data:=.seq a.toArray },toks:=t' } :=
 I.laid (λ_ _ q=>Zg _ q) (Zs _) ⟨d,a,0,e,ZX _ M⟩
theorem Inv.fresh(I:Inv X pins Z H s):H s.heap.objs.size=Y:=I.xb.fresh (Zs _)
def Inv.Jp(I:Inv X pins Z H s)(d:H l=O (.lst xs)):xs.length<=FS/\∃(a:Wm)(n:Nat),aQ xs a/\xs.length=a.length/\s.heap.get? l=O { cls:=.type "list",data:=.seq a.toArray n }:=by
 obtain⟨z,a,n,r,e⟩:=I.xb l _ d;exact⟨z,a,n,r,r.length,e⟩
end
section
variable{X:Cx}
def jO:V->List V->Hp->VK->Prop:=λx b H Q=>∃l a y,x=.ref l/\b=[y]/\H l=O (.lst a)/\a.length<FS/\Q .non (upd H l (.lst (a++[y])))
def g9:UO X "list.append" jO:=by
 intro a s Z H x o v p Q I f g h;obtain⟨l,m,y,rfl,rfl,d,j,q⟩:=h;cases f;obtain⟨u,rfl,i⟩:=g.one;obtain⟨z,b,n,r,t,e⟩:=I.Jp d;refine call_meets F.slot_list_append ⟨_,e,rfl⟩ F.entry_list_append (F.args_list_append_2 _ _) (PySem.list_append l b.toArray n u (by rw[Ze];lia)) ⟨e,?_⟩;refine⟨.non,_,I.Ng (its':=b++[u]) d e (by simp) (r.append (.cons i .nil)) ?_,rfl,q⟩;rw[Zu,ZW];exact Wc j
def Cq:R2:=λx y H Q=>∃l b d a,x=.ref l/\y=.ref b/\H l=O (.lst d)/\H b=O (.lst a)/\d.length+a.length<=FS/\∀p,H p=Y->Q (.ref p) (upd H p (.lst (d++a)))
def zO:OpR X (binaryOp .Add) Cq:=by
 intro a s Z H x y v u Q I i g h;obtain⟨l,b,w,p,rfl,rfl,j,m,B,q⟩:=h;cases i;cases g;obtain⟨z,d,n,r,C,e⟩:=I.Jp j;obtain⟨t,f,A,r2,D,e2⟩:=I.Jp m;refine PySem.P.add_list e e2 ?_ (by rw[Ze,Ze];lia);have o:d.toArray++f.toArray=(d++f).toArray:=by simp
 rw[o];exact⟨.ref _,_,I.Nh (t':=s.toks) (r.append r2) (by rw[Zu];omega),rfl,q _ I.fresh⟩
def len_rep{α:Type}(a:List α)(k:Nat):(List.replicate k a).flatten.length=k*a.length:=by
 induction k with
 |zero=>simp
 |succ k b=>rw[Wt,Zd,Zu,b,Nat.succ_mul,Nat.add_comm]
end
section
variable{prog:PP}{w:SL}{A:Pi}{E:Yl}{s:FB}
set_option maxRecDepth 100000 in
end
section
variable{κ:Type}[DecidableEq κ]
def cq(b:List (κ×V))(k:κ):Option V:=(b.find? λa=>decide (a.1=k)).map (·.2)
def putK(b:List (κ×V))(k:κ)(v:V):List (κ×V) :=
 if (b.any λa=>decide (a.1=k))=J then b.map (λa=>if a.1=k then (a.1,v) else a) else b++[(k,v)]
def bW{p:κ×V}{r:List (κ×V)}{k:κ}(e:p.1=k):cq (p :: r) k=O p.2:=by simp[cq,Yx,e]
def cG{p:κ×V}{r:List (κ×V)}{k:κ}(e:¬p.1=k):cq (p :: r) k=cq r k:=by simp[cq,Yx,e]
theorem gI(k:κ):∀a:List (κ×V),(a.any λb=>decide (b.1=k))=(cq a k).isSome
 |[]=>rfl
 |p :: r=>by
  rw[Xz];by_cases e:p.1=k
  ·simp only[bW e,ZT e,Bool.true_or,Option.isSome_some]
  ·rw[cG e,ZP e,Bool.false_or];exact gI k r
theorem oU(k j:κ)(y:V):∀b:List (κ×V),cq (b.map λa=>if a.1=k then (a.1,y) else a) j=(cq b j).map λx=>if j=k then y else x
 |[]=>rfl
 |p :: r=>by
  have d:=oU k j y r;rw[Zt];by_cases h:p.1=k
  ·rw[Zr h];by_cases e:p.1=j
   ·rw[bW (p:=(p.1,y)) e,bW e,Yt,Zr (e.symm.trans h)]
   ·rw[cG (p:=(p.1,y)) e,cG e,d]
  ·rw[Zm h];by_cases e:p.1=j
   ·rw[bW (p:=p) e,bW e,Yt,Zm (λz=>h (e.trans z))]
   ·rw[cG (p:=p) e,cG e,d]
theorem lF(k j:κ)(y:V):∀b:List (κ×V),cq b k=Y->cq (b++[(k,y)]) j=if j=k then O y else cq b j
 |[],_=>by
  by_cases e:k=j
  ·rw[Zr e.symm];exact bW (p:=(k,y)) e
  ·rw[Zm (λz=>e z.symm)];exact cG (p:=(k,y)) e
 |p :: r,a=>by
  rw[WI];have d:¬p.1=k:=λz=>by rw[bW z]at a;cases a
  rw[cG d]at a;have f:=lF k j y r a;by_cases e:p.1=j
  ·rw[bW e,bW e,Zm (λz=>d (e.trans z))]
  ·rw[cG e,cG e,f]
def uw(b:List (κ×V))(k j:κ)(y:V):cq (putK b k y) j=if j=k then O y else cq b j:=by
 unfold putK;by_cases a:(b.any λd=>decide (d.1=k))=J
 ·rw[Zr a,oU];rw[gI]at a;by_cases e:j=k
  ·obtain⟨x,f⟩:=XS.mp a;rw[Zr e,e,f,Yt,Zr M]
  ·rw[Zm e];cases cq b j with
   |none=>rfl
   |some x=>rw[Yt,Zm e]
 ·rw[Zm a];refine lF k j y b ?_;rw[gI]at a;cases q:cq b k with
  |none=>rfl
  |some x=>rw[q]at a;exact(a M).elim
def fS(a:List (κ×V))(k:κ)(v:V):(putK a k v).length<=a.length+1:=by
 unfold putK;split
 ·rw[Zv];exact ZI _ _
 ·rw[Zu,Zj,YY];exact Zs _
def jl.EC{o:Option V}{u:Wd}(r:jl o u):o.isSome=u.isSome:=by
 cases o with
 |none=>cases u with
  |none=>rfl
  |some _=>exact(show False from r).elim
 |some _=>cases u with
  |none=>exact(show False from r).elim
  |some _=>rfl
def KV.val{g:List (κ×V)}{f:List (κ×IR)}(r:KV g f)(k:κ):jl (cq g k) (valueAt f k):=by
 unfold KV at r
 induction r with
 |nil=>exact True.intro
 |@cons p q l a h t i =>
  obtain⟨h1,j⟩:=h;by_cases e:p.1=k
  ·have d:q.1=k:=h1.symm.trans e;have b:valueAt (q :: a) k=O q.2:=by simp[valueAt,Yx,d]
   rw[bW e,b];exact j
  ·have d:¬q.1=k:=λz=>e (h1.trans z);have b:valueAt (q :: a) k=valueAt a k:=by simp[valueAt,Yx,d]
   rw[cG e,b];exact i
theorem KV.any{d:List (κ×V)}{b:List (κ×IR)}(r:KV d b)(k:κ):(d.any λa=>decide (a.1=k))=b.any λa=>decide (a.1=k):=by
 unfold KV at r
 induction r with
 |nil=>rfl
 |cons h t e=>rw[Xz,Xz,e,h.1]
def KV.Jj{d:List (κ×V)}{b:List (κ×IR)}(r:KV d b)(k:κ){y:V}{u:IR}(f:RelV y u) :
  KV (d.map λa=>if a.1=k then (a.1,y) else a) (b.map λa=>if a.1=k then (a.1,u) else a):=by
 unfold KV at r ⊢
 induction r with
 |nil=>exact .nil
 |@cons p q l j h t g =>
  rw[Zt,Zt];refine .cons ?_ g;obtain⟨h1,i⟩:=h;by_cases e:p.1=k
  ·rw[Zr e,Zr (h1.symm.trans e)];exact⟨h1,f⟩
  ·rw[Zm e,Zm (λz=>e (h1.trans z))];exact⟨h1,i⟩
def KV.put{d:List (κ×V)}{a:List (κ×IR)}(r:KV d a)(k:κ){y:V}{u:IR}(b:RelV y u):KV (putK d k y) (stored a k u):=by
 unfold putK stored;rw[r.any k];by_cases e:(a.any λf=>decide (f.1=k))=J
 ·rw[Zr e,Zr e];exact r.Jj k b
 ·rw[Zm e,Zm e];exact Paired.snoc r ⟨rfl,b⟩
def KV.keys{b:List (κ×V)}{a:List (κ×IR)}(r:KV b a):b.map (·.1)=a.map (·.1):=by
 unfold KV at r
 induction r with
 |nil=>rfl
 |cons h t d=>rw[Zt,Zt,d,h.1]
theorem KV.length{b:List (κ×V)}{a:List (κ×IR)}(r:KV b a):b.length=a.length:=WB r
end
def lD{P:PP}{w:SL}{k:Key}{u:IR}(r:RelV (kV k) u):(aX P w).is k u=J:=by
 cases k with
 |inl i=>obtain⟨t,e⟩:=(show ∃t,u=Value.int i t from r);subst e;exact oD P w i t
 |inr x=>obtain⟨t,e⟩:=(show ∃t,u=Value.str x t from r);subst e;exact oG P w x t
theorem jt{P:PP}{w:SL}:∀{a:List Key}{b:Wm},aQ (a.map kV) b->ItemsAre (aX P w) a b
 |[],_,r=>by rw[YF]at r;cases r;exact .nil
 |k :: a,_,r=>by
  rw[Zt]at r;cases r with
  |cons h t=>exact .cons (lD h) (jt t)
abbrev KT(H:Hp):List (List Key×V)->List (List Key×GM×IR)->Prop:=Paired λp q=>p.1=q.1/\H q.2.1=O (.tup (p.1.map kV))/\RelV p.2 q.2.2
def KT.val{H:Hp}{g:List (List Key×V)}{f:List (List Key×GM×IR)}(r:KT H g f)(k:List Key):jl (cq g k) ((atKey f k).map (·.2)):=by
 induction r with
 |nil=>exact True.intro
 |@cons p q l a h t i =>
  obtain⟨h1,_,j⟩:=h;by_cases e:p.1=k
  ·have d:q.1=k:=h1.symm.trans e;have b:atKey (q :: a) k=O q.2:=by simp[atKey,Yx,d]
   rw[bW e,b];exact j
  ·have d:¬q.1=k:=λz=>e (h1.trans z);have b:atKey (q :: a) k=atKey a k:=by simp[atKey,Yx,d]
   rw[cG e,b];exact i
def KT.Jj{H:Hp}{d:List (List Key×V)}{b:List (List Key×GM×IR)}(r:KT H d b)(k:List Key){y:V}{u:IR}(g:RelV y u) :
  KT H (d.map λa=>if a.1=k then (a.1,y) else a) (b.map (putAt k u)):=by
 induction r with
 |nil=>exact .nil
 |@cons p q m l h t i =>
  rw[Zt,Zt];refine .cons ?_ i;obtain⟨h1,f,j⟩:=h;unfold putAt;by_cases e:p.1=k
  ·rw[Zr e,Zr (h1.symm.trans e)];exact⟨h1,f,g⟩
  ·rw[Zm e,Zm (λz=>e (h1.trans z))];exact⟨h1,f,j⟩
def KT.put{H:Hp}{d:List (List Key×V)}{a:List (List Key×GM×IR)}(r:KT H d a)(k:List Key){b:GM}{y:V}{u:IR}(h:H b=O (.tup (k.map kV)))(f:RelV y u) :
  KT H (putK d k y) (storedH a k b u):=by
 have e:(d.any λg=>decide (g.1=k))=(atKey a k).isSome:=by
  rw[gI,(r.val k).EC,Option.isSome_map]
 unfold putK storedH;rw[e];by_cases q:(atKey a k).isSome=J
 ·rw[Zr q,Zr q];exact r.Jj k f
 ·rw[Zm q,Zm q];exact Paired.snoc r ⟨rfl,h,f⟩
def KT.keeps{H f:Hp}{e:List (List Key×V)}{d:List (List Key×GM×IR)}(r:KT H e d)(g:∀b a,H b=O (.tup a)->f b=O (.tup a)):KT f e d :=
 Paired.Ih r λ_ _ z=>⟨z.1,g _ _ z.2.1,z.2.2⟩
section
variable{P:PP}{w:SL}{H:Hp}{h:SC}{a:GM}
def zv{u:HO}(b:Ee P w H h)(e:Rd H a u):aW P w H h a u:=e.ok b
def o5{b:List (Key×V)}(f:Ee P w H h)(e:Rd H a (.dK b)):b.length<=FS/\(a==sysModules)=S/\∃d,KV b d/\h.DictOf (aX P w) a d :=
 show aW P w H h a (.dK b) from zv f e
def pd{b:List (Key×V)}(f:Ee P w H h)(e:H a=O (.dK b)):b.length<=FS/\(a==sysModules)=S/\∃d,KV b d/\h.DictOf (aX P w) a d:=o5 f (.inl e)
def fq{b:List Key}(d:Ee P w H h)(e:H a=O (.tup (b.map kV))):(tupleKind (aX P w)).is h b a:=by
 obtain⟨_,f,r,_,o,h1,i,n,g⟩:=(show aW P w H h a (.tup (b.map kV)) from d a _ e)
 exact⟨o,f.toArray,n,h1,i,g,by simpa using jt r⟩
def qy{f:List (List Key×V)}(g:Ee P w H h)(e:Rd H a (.dT f)):f.length<=FS/\(a==sysModules)=S ∧
  ∃d,KT H f d/\h.DictOfH (tupleKind (aX P w)) a d:=by
 obtain⟨z,y,d,r,o,A,B,h1,v,u,s,n⟩:=(show aW P w H h a (.dT f) from zv g e)
 refine⟨z,y,d,r,o,A,B,h1,v,u,s,λx b=>?_,n⟩;have all:∀{l:List (List Key×V)}{m:List (List Key×GM×IR)},KT H l m->∀x∈m,(tupleKind (aX P w)).is h x.1 x.2.1:=by
  intro l m q
  induction q with
  |nil=>intro x b;exact nomatch b
  |@cons p q D C i t j =>
   intro x b;rcases Zo.mp b with e | b
   ·subst e;exact fq g (by rw[← i.1];exact i.2.1)
   ·exact j x b
 exact all r x b
def BH{b:List (List Key×V)}(f:Ee P w H h)(e:H a=O (.dT b)):b.length<=FS/\(a==sysModules)=S ∧
  ∃d,KT H b d/\h.DictOfH (tupleKind (aX P w)) a d:=qy f (.inl e)
end
def jD(H:Hp)(a:GM)(y:V)(r:Option V):Prop :=
 (∃d k,Rd H a (.dK d)/\y=kV k/\r=cq d k)\/∃d k b,Rd H a (.dT d)/\y=.ref b/\H b=O (.tup (k.map kV))/\r=cq d k
def tL(H:Hp)(a:GM)(y v:V)(e:Hp):Prop :=
 (∃d k,H a=O (.dK d)/\y=kV k/\d.length<FS/\e=upd H a (.dK (putK d k v))) ∨
 ∃d k b,H a=O (.dT d)/\y=.ref b/\H b=O (.tup (k.map kV))/\d.length<FS/\e=upd H a (.dT (putK d k v))
theorem jD.k{H:Hp}{a:GM}{b:List (Key×V)}{k:Key}(e:H a=O (.dK b)):jD H a (kV k) (cq b k):=.inl ⟨b,k,.inl e,rfl,rfl⟩
theorem tL.k{H:Hp}{a:GM}{b:List (Key×V)}{k:Key}{v:V}(e:H a=O (.dK b))(d:b.length<FS):tL H a (kV k) v (upd H a (.dK (putK b k v))):=.inl ⟨b,k,e,rfl,d,rfl⟩
section
variable{X:Cx}{pins:Yh}{Z:St}{H:Hp}{s:FB}{a:GM}{y v:V}{u r:IR}{o:Option V}{A:Pi}{E:Yl}
def Inv.big(I:Inv X pins Z H s):sysModules<s.heap.objs.size:=by
 have h:mainGlobals<s.heap.objs.size:=(I.mod.glob.keeps I.bk).lt;exact Nat.lt_trans (by decide) h
def tm{Q:Yl}(B:A.units+1<cLine)(I:Inv X pins Z H s)(g:jD H a y (O v))(n:RelV y u)(h:∀d m,Inv X pins Z H m->RelV v d->Q d m) :
  KB (FM X.prog X.w) A (getItem (.ref a) u) Q E s:=by
 rcases g with⟨x,k,e,f,l⟩ | ⟨x,k,b,e,f,D,l⟩
 ·subst f;obtain⟨z,hd,t,rel,i⟩:=o5 I.xb e;obtain⟨d,hw,j⟩:=jl.some_of (v:=v) (o:=valueAt t k) (by rw[l];exact rel.val k);exact wpAny_getItem_of (lD n) i.mapOf hw (h d _ (I.tok _) j)
 ·subst f;cases (show u=Value.ref b from n);obtain⟨z,hd,q,rel,i⟩:=qy I.xb e;obtain⟨d,hw,j⟩:=jl.some_of (v:=v) (o:=(atKey q k).map (·.2)) (by rw[l];exact rel.val k);obtain⟨p,C,F⟩:=Zn.mp hw;refine wpAny_getItem_heap (tupleKind_room_in1 B) (fq I.xb D) i C ?_;rw[F];exact h d _ (I.tok _) j
def Dd{Q:Yl}(n:A.units+1<cLine)(I:Inv X pins Z H s)(g:jD H a y o)(j:RelV y u)(h:∀i,Inv X pins Z H i->Q (.bool o.isSome) i) :
  KB (FM X.prog X.w) A (SB .In u (.ref a)) Q E s:=by
 rcases g with⟨m,k,e,d,l⟩ | ⟨m,k,b,e,d,p,l⟩
 ·subst d;obtain⟨z,hd,x,rel,f⟩:=o5 I.xb e;refine wpAny_in_of (lD j) hd f.mapOf ?_;rw[← (rel.val k).EC,← l];exact h _ (I.tok _)
 ·subst d;cases (show u=Value.ref b from j);obtain⟨z,hd,t,rel,f⟩:=qy I.xb e;refine wpAny_in_heap (tupleKind_room_in1 n) (fq I.xb p) hd f ?_;have q:=(rel.val k).EC;rw[Option.isSome_map]at q;rw[← q,← l];exact h _ (I.tok _)
def hU{d:SC}{t':Nat}{f:HO}(I:Inv X pins Z H s)(h:DI (H a))(i:Heap.SameBut a s.heap d)(j:∃q,d.get? a=O q)(g:aW X.prog X.w (upd H a f) d a f) :
  Inv X pins Z (upd H a f) { s with heap:=d,toks:=t' } :=
 I.write (x:=a) (e:=a) h (.inl M) (λb q l z=>(i.2 b l).trans z) j g
def qj{P:PP}{w:SL}{i:Hp}{f:SC}{e:List (Key×V)}{b:List (Key×IR)}(z:e.length<=FS)(g:(a==sysModules)=S)(d:KV e b)(h:f.DictOf (aX P w) a b) :
  aW P w i f a (.dK e):=⟨z,g,b,d,h⟩
def tM{M:Hp}{Q:Unit->FB->Prop}(R:A.units+1<cLine)(I:Inv X pins Z H s)(g:tL H a y v M)(C:RelV y u)(D:RelV v r)(h:∀B,Inv X pins Z M B->Q () B) :
  KB (FM X.prog X.w) A (setItem (.ref a) u r) Q E s:=by
 rcases g with⟨d,k,e,p,l,t⟩ | ⟨d,k,b,e,p,L,l,t⟩
 ·subst p t;obtain⟨z,hd,P,rel,x⟩:=pd I.xb e;have j:P.length<=sizeLine:=by rw[← rel.length];exact z
  have n:(putK d k v).length<=sizeLine:=by have:=fS d k v;lia
  refine wpAny_setItem_pairs (hsz:=j) (lD C) x λF i m=>h _ ?_;have U:∃q,F.get? a=O q:=let ⟨q,_,_,f,_⟩:=i;⟨q,f⟩
  exact hU I (by rw[e];exact True.intro) m U (qj n hd (rel.put k D) i)
 ·subst p t;cases (show u=Value.ref b from C);obtain⟨z,hd,N,rel,x⟩:=BH I.xb e;have j:N.length<=sizeLine:=by rw[← WB rel];exact z
  have n:(putK d k v).length<=sizeLine:=by have:=fS d k v;lia
  refine wpAny_setItem_heap (hsz:=j) (tupleKind_room_in1 R) (fq I.xb L) x λF i m=>h _ ?_;obtain⟨q,es,ep,f,h2,h3,h4,_,W⟩:=i;refine hU I (by rw[e];exact True.intro) m ⟨q,f⟩ ⟨n,hd,_,(rel.put k L D).keeps λc ys G=>?_,q,es,ep,f,h2,h3,h4,W⟩;rw[av (C4 G e (λz=>nomatch z))];exact G
end
section
variable{X:Cx}{pins:Yh}{Z:St}{H:Hp}{s:FB}{a:GM}{jj:List (Key×V)}{k:Key}{u:IR}{A:Pi}{E:Yl}
def BJ{Q:Yl}(I:Inv X pins Z H s)(e:Rd H a (.dK jj))(h:∀t b,Inv X pins Z H b->Q (.int jj.length t) b):KB (FM X.prog X.w) A (call (.builtin "len") [.ref a]) Q E s:=by
 obtain⟨z,hd,f,rel,d⟩:=o5 I.xb e;refine call_len_dict hd d (by rw[← rel.length];rw[Vv]at z;lia) ?_;rw[← rel.length];exact h _ _ (I.tok _)
end
def nU{X:Cx}{d:Yh}{Z:St}{H:Hp}{s:FB}{a:GM}{y:V}{o:Option V}(I:Inv X d Z H s)(g:jD H a y o):s.TypeIs (.ref a) "dict" := by
 rcases g with⟨h,k,e,_,_⟩ | ⟨h,k,b,e,_,_,_⟩
 ·obtain⟨_,_,j,_,f⟩:=o5 I.xb e;exact f.typeIs
 ·obtain⟨_,_,i,_,f⟩:=qy I.xb e;exact f.typeIs
def nI{P:PP}{w:SL}{H:Hp}(h:SC)(a:sysModules<h.objs.size):aW P w H (h.push { cls:=.type "dict",data:=.dict #[] }) h.objs.size (.dK []) :=
 ⟨ZM _,beq_eq_false_iff_ne.mpr (YE (ZL a)),[],.nil,Heap.DictOf.new h⟩
def AV:TE:=λ_ H Q=>∀p,H p=Y->Q (.ref p) (upd H p (.dK []))
section
variable{X:Cx}{pos:Pos}
def uE:PE X (.Dict [] [] pos) AV:=λb s Z H Q I h =>
 wpAny_Dict_empty ⟨.ref s.heap.objs.size,_,I.laid (a:=s.heap.objs.size) (o:=.dK []) (t':=s.toks) (λ_ _ q=>Zg _ q) (Zs _) (nI s.heap I.big),rfl,h _ (I.xb.fresh (Zs _))⟩
end
def qg:List (TE×TE)->St->Hp->(List (V×V)->Hp->Prop)->Prop
 |[],_,H,Q=>Q [] H
 | (b,a) :: r,Z,H,Q=>b Z H λx g=>a Z g λy f=>qg r Z f λd e=>Q ((x,y) :: d) e
abbrev VV:List (V×V)->List (IR×IR)->Prop:=Paired λp q=>RelV p.1 q.1/\RelV p.2 q.2
def PPs(X:Cx)(e:Pos)(d:List (Option Expr))(a:List Expr)(j:List (TE×TE)):Prop :=
 ∀(b:Yh)(s:FB)(Z:St)(H:Hp)(Q:List (V×V)->Hp->Prop),Inv X b Z H s->qg j Z H Q →
  KB (FM X.prog X.w) X.A (evalPairs (pairTrees d a X.env e)) (λh i=>∃f g,Inv X b Z g i/\VV f h/\Q f g) X.xe s
def yG{X:Cx}{a:Pos}:PPs X a [] [] []:=λb s Z H Q I h=>pairTrees_nil_walk ⟨[],H,I,.nil,h⟩
def wC{X:Cx}{b:Pos}{k v:Expr}{g:List (Option Expr)}{d:List Expr}{f e:TE}{i:List (TE×TE)}(z:PE X k f)(t:PE X v e)(w:PPs X b g d i) :
  PPs X b (O k :: g) (v :: d) ((f,e) :: i):=λa s Z H Q I h =>
 pairTrees_cons_walk (thn (z a s Z H _ I h) λu l ⟨x,G,C,n,q⟩=>thn (t a l Z G _ C q) λM j ⟨y,F,B,m,p⟩ =>
  thn (w a j Z F _ B p) λL N ⟨r,D,A,rel,o⟩=>⟨(x,y) :: r,D,A,.cons ⟨n,m⟩ rel,o⟩)
def i5(d a:List (Key×V)):List (Key×V):=a.foldl (λacc b=>putK acc b.1 b.2) d
def KV.merge:∀{more:List (Key×V)}{d:List (Key×IR)}{b:List (Key×V)}{a:List (Key×IR)},KV more d->KV b a->KV (i5 b more) (merged a d):=by
 intro more d b a r;unfold KV at r
 induction r generalizing b a with
 |nil=>intro q;exact q
 |@cons p q j i h t g =>
  intro f;have e:KV (putK b p.1 p.2) (stored a q.1 q.2):=by
   have:=f.put p.1 h.2;rw[← h.1];exact this
  exact g e
theorem ig:∀(more a:List (Key×V)),(i5 a more).length<=a.length+more.length
 |[],a=>by show a.length<=a.length+0;exact ZI _ _
 |p :: r,a=>by
  have h1:=ig r (putK a p.1 p.2);have b:=fS a p.1 p.2;show (i5 (putK a p.1 p.2) r).length<=_;rw[Zj];lia
theorem km{P:PP}{w:SL}:∀{e:List (Key×V)}{f:List (IR×IR)},VV (e.map λg=>(kV g.1,g.2)) f->∃d,Carries (aX P w) f d/\KV e d
 |[],_,r=>by rw[YF]at r;cases r;exact⟨[],True.intro,.nil⟩
 |p :: e,_,r=>by
  rw[Zt]at r;cases r with
  |@cons a b l bs h t =>
   obtain⟨d,c,q⟩:=km (P:=P) (w:=w) t;obtain⟨j,i⟩:=b;exact⟨(p.1,i) :: d,⟨lD h.1,rfl,c⟩,.cons ⟨rfl,h.2⟩ q⟩
def Ca(f:List (TE×TE)):TE:=λZ H Q=>∀p,H p=Y->qg f Z (upd H p (.dK [])) λe d=>d p=O (.dK [])/\∃a:List (Key×V),e=a.map (λb=>(kV b.1,b.2))/\a.length<=15/\Q (.ref p) (upd d p (.dK (i5 [] a)))
def xT{X:Cx}{f:Pos}{b:List (Option Expr)}{d:List Expr}{l:List (TE×TE)}(h:PPs X f b d l)(M:b.all (·.isSome)=J)(A:b.length=d.length)(C:b≠[])(G:b.length<=15):PE X (.Dict b d f) (Ca l):=by
 intro g s Z H Q I q;have y:=I.xb.fresh (Zs s.heap.objs.size);have L:=I.laid (a:=s.heap.objs.size) (o:=.dK []) (h':=s.heap.push { cls:=.type "dict",data:=.dict #[] }) (t':=s.toks) (λ_ _ q=>Zg _ q) (Zs _) (nI s.heap I.big);refine wpAny_Dict_walk (knd:=aX X.prog X.w) M A C G (thn (h g _ Z _ _ L (q _ y)) λN R ⟨U,H2,j,rel,e,i,D,W,t⟩=>?_);subst D;obtain⟨n,c,p⟩:=km (P:=X.prog) (w:=X.w) rel;obtain⟨z,hd,UR,r,F⟩:=pd j.xb e;cases r;refine⟨n,c,F,λh' m v=>⟨.ref s.heap.objs.size,_,?_,rfl,t⟩⟩;have u:(i5 [] i).length<=sizeLine:=by
  have h1:=ig i [];rw[YY]at h1;rw[Vv];lia
 have B:∃q,h'.get? s.heap.objs.size=O q:=let ⟨q,_,_,x,_⟩:=m;⟨q,x⟩
 exact hU j (by rw[e];exact True.intro) v B (qj u hd (p.merge .nil) m)
end p0
namespace QO
open PySem PySem.W PySem.Calls PyProof.Rows
def jH{P:Params}{h:SC}:∀(ns:Vw)(d:Wm),WellAll P h d (ns.map WData.int)->IntsAre d ns:=by
 intro ns
 induction ns with
 |nil =>
  intro d w;rw[YF]at w;cases w;exact .nil
 |cons n ns e =>
  intro d w;rw[Zt]at w;cases w with
  |cons a b =>
   cases a;exact .cons _ _ (e _ b)
def sR{l:OpenLaw}{n:Nat}(u:l.most=O n){P:Params}{h:SC}{b:List WData}{e:Wm}(m:l.row.toRowW.claim.pre b=J)(y:WellAll P h e b) :
  ∃a i ns,e=[Value.ref a]/\b=[WData.list (ns.map WData.int)]/\h.get? a=O { cls:=.type "list",data:=.seq i.toArray }/\IntsAre i ns/\ns.length<=n:=by
 have x:WShape.hasAll [] b [.list .int]=J:=(pre_splitW m).1;have j:l.pre.holds [] { args:=b }=J:=(pre_splitW m).2;obtain⟨d,r,rfl,h1,w⟩:=hasAllW_cons x;obtain rfl:=hasAllW_nil w;obtain⟨A,rfl,v⟩:=hasW_list h1;obtain⟨ns,rfl⟩:=items_int v;have hlen:ns.length<=n:=by
  unfold OpenLaw.pre at j;have g:(WTm.not (.lt (.lit (.int (n:Int))) (.len (.arg 0)))).holds [] { args:=[.list (ns.map .int)] }=J:=by
   have g:=(holds_andW j).1;rw[u]at g;exact g
  have f:=condW_of g (w_not (w_lt w_lit (w_len_list (w_arg M))));rw[Zv]at f;refine Xv λq=>?_;have s:(n:Int)<((ns.length:Nat):Int):=by omega
  first
   | (rw[ZT s]at f;exact absurd f (by decide))
   | (simp at f;omega)
 cases y with
 |cons p o =>
  cases o;cases p with
  |list t z=>exact⟨_,_,ns,rfl,rfl,t,jH ns _ z,hlen⟩
def tY(l:OpenLaw)(a:List WData):l.row.toRowW.claim.post a (.bool J) a=J :=
 postW_of (r:=l.row.toRowW) (X:=(J==J))
  (show WShape.has [] (.bool J) .bool=J by first | rfl | decide | simp[WShape.has,WShape.arms,WShape.armsAll])
  (show (WTm.eq .res (.lit (.bool J))).value [] { args:=a,res:=O (.bool J),after:=a }=O (.bool (J==J)) from w_eq_bool (w_res M) w_lit) M
def nE{l:OpenLaw}{n:Nat}{q:PP}{e:List Str}{v:(X2)->SC->Prop}{u:SL->SC->Prop}{d:DefRec}(z:l.most=O n)(M:d.params.defaults=[])(i:∀(w:SL)(m b:FB)(mg p:X2)(h:GM)(o:Obj)(pm cd doc:IR)(a:GM)(g:Wm)(ns:Vw),
   Ground q e [] v w m mg p b.heap->u w b.heap →
   b.heap.get? h=O o->o.data=.func (docDef d.name d.params d.body d.scope pm cd doc)->b.heap.CodeRec cd d.name->mg d.name=O (.ref h) →
   b.heap.get? a=O { cls:=.type "list",data:=.seq g.toArray }->IntsAre g ns->ns.length<=n->b.gens=#[] →
   codeAny (FM l.prog w) callerA (.call (.ref h) ⟨[.ref a],[]⟩) (λr j=>r=.ok (.ret (.bool J))/\OldK b.heap j.heap/\j.os=b.os/\AllBare j.gens) b) :
  WalkO q e v u l.row.toRowW d [] (λf g=>PySem.call f g):=by
 intro w m b mg p G Y h o pm cd doc H kV y hd P t s B args vals Q N W U I R;obtain rfl:H=.none:=Dflts.none t M;obtain rfl:kV=.none:=Dflts.noKw t;obtain⟨a,g,ns,rfl,rfl,L,hints,hlen⟩:=sR z N I;refine enter_call (WX (i w m b mg p h o pm cd doc a g ns G Y y (fd_plain hd) P s L hints hlen B) λr j x=>?_);obtain⟨rfl,F,D,C⟩:=x;exact⟨.inl ⟨.bool J,.bool J,[],rfl,λ_=>rfl,.bool J,tY l _,λ_=>⟨List.Pairwise.nil,λ_ A=>(nomatch A)⟩⟩,F,D,C⟩
end QO
namespace p0
open PySem PySem.Spec PyProof.Rows
theorem lC:∀{a:Wm}{ns:Vw},IntsAre a ns->aQ (ns.map V.int) a
 |_,_,.nil=>.nil
 |_,_,.cons n t h=>.cons ⟨t,rfl⟩ (lC h)
def aY(s:Stmt):Arguments:=match s with
 |.FunctionDef _ a _ _ _ _ _ _ _ _=>a
 |_=>{ posonlyargs:=[],args:=[],vararg:=Y,kwonlyargs:=[],kw_defaults:=[],kwarg:=Y,defaults:=[] }
def aS(s:Stmt):List Stmt:=match s with
 |.FunctionDef _ _ b _ _ _ _ _ _ _=>b
 |_=>[]
def aq(s:Stmt):Scope:=match s with
 |.FunctionDef _ _ _ _ _ _ sc _ _ _=>sc
 |_=>{ kind:=.function,names:=[],isGenerator:=S,isCoroutine:=S }
abbrev FC:HU:=λ_ _ _ _ _ _=>False
abbrev E0:XK:=λ_ _ _=>False
def BC{X:Cx}:pC FC X E0:=λ_ _ _ _ _ _ _ h=>h.elim
structure EH(K:Xj)(x qual:Str)(st:Stmt)(f:GM)(fd:On):Prop where
 ex:∃(oc:IR)(od:Option GM)(kV doc pm:IR)(an:Option GM)(DO ct:IR)(Ie:Array (Wd)),
  fd=PySem.W.fnOf x qual (aY st) (aS st) (aq st) .none kV doc pm an DO ct/\K.lookup f=some ⟨oc,od,.func fd,Ie⟩/\PySem.W.codeIn K DO qual=true
 kp:PySem.W.keepIn K (.ref f)=true
section
variable{P:PP}{w:SL}{K:Xj}{mg:X2}{base:SC}
def EH.ok{x a:Str}{d:Stmt}{f:GM}{l:On}{N i:List Str}{k:Nat}{g:Sp}(F:EH K x a d f l)(S:xa N i (aq d))(j:∀b H Q E,g b H Q E->b.length=i.length)(r:∀(e:IR)(A:Pi)(outer:List Env)(s:FB)(H:Hp)(b:List V)(Q:VK)(E:XK),xt k (A.deeper (envOfC a (aq d) s.heap.objs.size f e))->g b H Q E →
   ∃t,Fu (kQ FC P w K mg base N a (aq d) f e A outer s H E).Ig (aS d) t/\t { nx:=λ_ p=>Q .non p,rt:=Q } (start N b) H):FnOk P w K mg base FC (k+1) f l i g:=by
 obtain⟨y,v,kV,doc,pm,an,e,ct,z,rfl,m,u⟩:=F.ex;refine zz m u S j λA outer s H b Q E n o=>?_;obtain⟨t,h,q⟩:=r e A outer s H b Q E n o;exact⟨t,h.Ig,q⟩
def EH.binds{x a:Str}{b:Stmt}{f:GM}{i:On}{e:List Str}(F:EH K x a b f i)(h:∀(kV doc pm:IR)(an:Option GM)(g ct:IR)(d:Wm),d.length=e.length->bindArgs (PySem.W.fnOf x a (aY b) (aS b) (aq b) .none kV doc pm an g ct) ⟨d,[]⟩=pure (e.zip d)):Binds K i e []:=by
 obtain⟨l,j,kV,doc,pm,an,g,ct,n,rfl,m,o⟩:=F.ex;exact .all (h kV doc pm an g ct)
def cF{x a:Str}{st:Stmt}{f:GM}{m:IR}{j i:Option GM}{n:Array (Wd)}{g b e d h:IR}(l:K.lookup f=O ⟨m,j,.func (PySem.W.fnOf x a (aY st) (aS st) (aq st) .none g b e i d h),n⟩)(c:PySem.W.codeIn K d a=J)(k:PySem.W.keepIn K (.ref f)=J):EH K x a st f (PySem.W.fnOf x a (aY st) (aS st) (aq st) .none g b e i d h):=⟨⟨m,j,g,b,e,i,d,h,n,rfl,l,c⟩,k⟩
end
def rR{A:Pi}{k:Nat}(a:xt k A):A.units+1<cLine:=Wl (Nat.add_le_add_left (by decide:1<=64) _) a.units
section
variable{X:Cx}
def pv(i:Nat){x:Str}{a:Pos}(e:X.N[i]?=O x:=by rfl)(b:FX X.env.scope x:=by first | exact Or.inl M | exact Or.inr (Or.inl M) | exact Or.inr (Or.inr M))(d:K2 x:=by decide)(f:K3 x:=by decide):PE X (.Name x a) (yc i):=fh e b d f
end
def Ag{A B:Prop}(h:B):if S=J then A else B:=by
 rw[Zm Zk];exact h
def Ac{A B:Prop}(h:A):if J=J then A else B:=by
 rw[Zr M];exact h
def aM(H a:Hp):Prop:=∀b o,H b=O o->a b=O o
def aM.refl(H:Hp):aM H H:=λ_ _ h=>h
def aM.trans{H e d:Hp}(a:aM H e)(b:aM e d):aM H d:=λc o h=>b c o (a c o h)
def aM.free{H a:Hp}(e:aM H a){l:GM}(h:a l=Y):H l=Y:=by
 cases q:H l with
 |none=>rfl
 |some o =>
  rw[e l o q]at h;cases h
end p0
end
section
namespace NK
open PySem PySem.Spec PyProof.Rows
variable{prog:PP}{w:SL}{K:Type}[DecidableEq K]{knd:KeyKind prog w K}{A:Pi}{E:Yl}{s:FB}
inductive Em(knd:KeyKind prog w K)(h:SC):List (List K)->Wm->Prop
 |nil:Em knd h [] []
 |cons {k:List K} {b:GM} {ks:List (List K)} {vs:Wm}:IsTupleKey knd h k b->Em knd h ks vs->Em knd h (k :: ks) (.ref b :: vs)
def FY(b:KeyKind prog w K)(h:SC)(d:List (List K))(a:GM):Prop:=∃o items n,h.get? a=O o/\o.cls=.type "tuple" ∧ o.data=.seq items n/\Em b h d items.toList
def Em.fn{h:SC}{x y:List (List K)}{b:Wm}(e:Em knd h x b):Em knd h y b->x=y:=by
 induction e generalizing y with
 |nil=>intro a;cases a;rfl
 |cons h1 _ d =>
  intro a;cases a with
  |cons f t=>rw[h1.inj f,d t]
def FY.ty{b:List (List K)}{a:GM}(x:FY knd s.heap b a):s.TypeIs (.ref a) "tuple" := let ⟨o,_,_,g,c,_⟩:=x;⟨o,g,c⟩
theorem FY.fn{h:SC}{a:GM}{x y:List (List K)}(m:FY knd h x a)(l:FY knd h y a):x=y:=by
 obtain⟨o,p,n,g,_,d,i⟩:=m;obtain⟨q,b,r,e,_,f,j⟩:=l;rw[g]at e;cases e;rw[d]at f;cases f;exact i.fn j
theorem Em.keeps{h e:SC}{b:List (List K)}{a:Wm}{d:GM}{o:Obj}{es ep}(x:Em knd h b a)(i:h.get? d=O o)(j:o.data=.dict es ep)(g:Heap.SameBut d h e):Em knd e b a:=by
 induction x with
 |nil=>exact .nil
 |cons h1 _ f=>exact .cons (h1.keeps i j g) f
theorem FY.keeps{h m:SC}{e:List (List K)}{a d:GM}{o:Obj}{es ep}(x:FY knd h e a)(j:h.get? d=O o)(l:o.data=.dict es ep)(f:Heap.SameBut d h m):FY knd m e a:=by
 obtain⟨q,p,n,g,c,b,i⟩:=x;refine⟨q,p,n,(f.2 a λz=>?_).trans g,c,b,i.keeps j l f⟩;subst z;rw[j]at g;cases g;rw[l]at b;cases b
def vh(a:KeyKind prog w K)(b:List (List K)):Int:=reduceHash (Builtin.Tuple.tupleHashOf (b.map (tupleKeyHash a)))
def pB(a:List (List K)):Nat:=(a.map λk=>k.length+1).sum+1
def yW{e:List (List K)}{a:GM}{Q:Int->FB->Prop}(l:A.units+1<cLine)(r:FY knd s.heap e a)(q:Q (vh knd e) { s with toks:=s.toks+pB e }):KB (FM prog w) A (pyHash (.ref a)) Q E s:=by
 have ty:=r.ty;obtain⟨o,B,n,g,_,d,i⟩:=r;unfold pyHash
 first | unfold pyHashByItsType | skip
 first | refine Zy (wpAny_cRoomFor_or (.inr (Xh l)) ?_) | skip
 refine Zy (XB ty WC.lookup ?_);refine(show KB _ _ (if (O (Value.builtin "tuple.__hash__")==O Value.none)=J then _ else _) Q E s from ?_);rw[Zm (λz=>by rw[beq_builtin_none]at z;cases z)];refine Zy (XB ty WC.lookup (Zy (wpAny_callSpecialIfBoundUnlessNone?_slot ty WC (XM WC ty F.entry_tuple_hash (Zy (m:=Builtin.Tuple.tupleItemsOf (.ref a)) (wpAny_tupleItemsOf g d (Zy ?_))) (F.args_tuple_hash_1 _)))));rw[← XJ];refine Xn _ (λrest (b:Array Int) h=>∃x y,e=x++y/\Em knd s.heap y rest/\b.toList=x.map (tupleKeyHash knd)/\h={ s with toks:=s.toks+(x.map λk=>k.length+1).sum }) _ ?turn ?fin _ _ ⟨[],e,rfl,i,rfl,rfl⟩
 case turn =>
  rintro v rest b h ⟨x,y,rfl,j,f,rfl⟩;cases j with
  |@cons k c u _ h1 t =>
   refine Zy (wpAny_pyHash_tuple (s:={ s with toks:=s.toks+(x.map λk=>k.length+1).sum }) (by show A.in1.units<cLine;exact l) h1 ?_)
   first
    |exact Zp ⟨x++[k],u,by simp,t,by simp[f],by simp[XR]⟩
    |exact Zy (Zp (Zp ⟨x++[k],u,by simp,t,by simp[f],by simp[XR]⟩))
 case fin =>
  rintro b h ⟨x,y,rfl,j,f,rfl⟩;cases j;rw[Ft]at q;refine(show KB _ _ (retInt (Builtin.Tuple.tupleHashOf b.toList)) _ _ _ from ?_);rw[f];refine wpAny_ret_mkInt ?_;unfold vh reduceHash pB at q;refine(show KB _ _ (if (decide (-(2:Int) ^ 63<=Builtin.Tuple.tupleHashOf (x.map (tupleKeyHash knd)))&&decide (Builtin.Tuple.tupleHashOf (x.map (tupleKeyHash knd))<2 ^ 63))=J then _ else _) Q E _ from ?_);by_cases p:(decide (-(2:Int) ^ 63<=Builtin.Tuple.tupleHashOf (x.map (tupleKeyHash knd)))&&decide (Builtin.Tuple.tupleHashOf (x.map (tupleKeyHash knd))<2 ^ 63))=J
  ·rw[Zr p]at q ⊢;exact Zp (by simpa[XR] using q)
  ·rw[Zm p]at q ⊢;exact Zy (Wr (Zp (by simpa[XR] using q)))
def yL{x y:List (List K)}{a b:GM}{P:PySem.Fin->FB->Prop}(I:A.units<cLine)(H:FY knd s.heap x a)(B:FY knd s.heap y b)(q:P (.done (.ret (.bool (decide (x=y))))) s):KB (FM prog w) A (Builtin.«tuple.__eq__» ⟨[.ref a,.ref b],[]⟩) P E s:=by
 have ty:=B.ty;obtain⟨oa,i,na,ga,_,Q,G⟩:=H;obtain⟨Z,g,nb,gb,_,db,F⟩:=B;refine(show KB _ _ (isInstance (.ref b) (.type "tuple")>>=_) _ _ s from Zy (W1 ty W8 ?_));simp only[X6,FW,↓reduceIte];refine Zy (wpAny_tupleItemsOf ga Q (Zy (wpAny_tupleItemsOf gb db (Zy ?_))));refine Xn _ (λrest r l=>r.1=Y/\l=s/\∃j h e f,rest=List.zip e f/\Em knd s.heap j e/\Em knd s.heap h f/\decide (j=h)=decide (x=y)/\(e.length==f.length)=(i.size==g.size)) _ ?turn ?fin _ _ ⟨rfl,rfl,x,y,i.toList,g.toList,rfl,G,F,rfl,by simp⟩
 case turn =>
  rintro⟨u,v⟩ rest r l ⟨o,rfl,j,h,e,f,d,t,m,n,hlen⟩;cases t with
  |nil=>simp at d
  |@cons k1 c1 x2 U h1 D =>
   cases m with
   |nil=>simp at d
   |@cons k2 c2 z W N C =>
    simp only[ZC,YC,Prod.mk.injEq]at d;obtain⟨⟨rfl,rfl⟩,rfl⟩:=d;refine Zy (wpAny_eqBool_tuple I h1 N ?_);by_cases p:k1=k2
    ·subst p;rw[ZT M];simp only[X6,FW,↓reduceIte];refine Zp ⟨rfl,rfl,x2,z,U,W,rfl,D,C,?_,by simpa using hlen⟩;rw[← n];by_cases R:x2=z<;>simp[R]
    ·rw[ZP p];simp only[Bool.not_false,↓reduceIte];have L:decide (x=y)=S:=by rw[← n];simp[p]
     rw[L]at q;exact Zy (Zp (Zp (Zp q)))
 case fin =>
  rintro⟨r1,r2⟩ l ⟨o,rfl,j,h,e,f,d,t,m,n,hlen⟩;simp only at o;subst o;have X:(i.size==g.size)=decide (x=y):=by
   rw[← n,← hlen];cases t with
   |nil=>cases m<;>simp
   |cons _ _ =>
    cases m with
    |nil=>simp
    |cons _ _=>simp at d
  refine Zp (show P (.done (.ret (.bool (i.size==g.size)))) l from ?_);rw[X];exact q
def B6{x y:List (List K)}{a b:GM}{Q:Bool->FB->Prop}(h:A.units+1<cLine)(d:FY knd s.heap x a)(f:FY knd s.heap y b)(q:Q (decide (x=y)) s):KB (FM prog w) A (eqBool (.ref a) (.ref b)) Q E s:=by
 unfold eqBool
 try with_reducible refine YJ ?_
 refine(show KB _ _ (if (Value.ref a==Value.ref b)=J then _ else _) Q E s from ?_);by_cases g:(Value.ref a==Value.ref b)=J
 ·rw[Zr g];have e:a=b:=by have:=eq_of_beq g;injection this
  subst e;obtain rfl:=d.fn f;exact Zy (Wr (Zp (by simpa using q)))
 ·rw[Zm g];exact Zy (wpAny_richCompare_same_room (op:=.Eq) d.ty f.ty W6 (XM W6 d.ty F.entry_tuple_eq (yL (by show A.in1.units<cLine;exact h) d f ⟨_,rfl,(λe=>nomatch e),Y1 q⟩) (F.args_tuple_eq_2 _ _)) (Xh h))
def sM{l:List K}{n:Nat}{a:GM}{Q:Bool->FB->Prop}(f:IsTupleKey knd s.heap l a)(q:Q J s):KB (FM prog w) A (eqIsQuiet (n+1) (.ref a)) Q E s:=by
 have ty:=f.typeIs;obtain⟨o,j,m,g,_,d,i⟩:=f;unfold eqIsQuiet;refine Zy (XB ty W6.lookup (show KB _ _ (isInstance (.ref a) (.type "tuple")>>=_) _ _ s from Zy (W1 ty W8 ?_)));simp only[X6,FW,↓reduceIte];refine Zy (wpAny_seqItems g d (Zy (show KB _ _ (forIn j _ _) _ _ s from ?_)));rw[← XJ];refine Xn _ (λrest r b=>r.1=Y/\b=s/\∀v∈rest,carriedByValue v=J) _ ?turn ?fin _ _ ⟨rfl,rfl,i.byValue⟩
 case turn =>
  rintro v rest r b ⟨e,rfl,h⟩;rw[eqIsQuiet_byValue _ (h v Zx)];refine Zy (Zp ?_);simp only[X6,FW,↓reduceIte];exact Zp ⟨rfl,rfl,λu p=>h u (Zw _ p)⟩
 case fin =>
  rintro⟨r1,r2⟩ b ⟨e,rfl,_⟩;simp only at e;subst e;exact Zp q
def vw{f:List (List K)}{a:GM}{Q:Bool->FB->Prop}(h:FY knd s.heap f a)(q:Q J s):KB (FM prog w) A (eqIsQuiet 8 (.ref a)) Q E s:=by
 have ty:=h.ty;obtain⟨o,l,m,g,_,d,i⟩:=h;unfold eqIsQuiet;refine Zy (XB ty W6.lookup (show KB _ _ (isInstance (.ref a) (.type "tuple")>>=_) _ _ s from Zy (W1 ty W8 ?_)));simp only[X6,FW,↓reduceIte];refine Zy (wpAny_seqItems g d (Zy (show KB _ _ (forIn l _ _) _ _ s from ?_)));rw[← XJ];refine Xn _ (λrest r b=>r.1=Y/\b=s/\∃j,Em knd s.heap j rest) _ ?turn ?fin _ _ ⟨rfl,rfl,f,i⟩
 case turn =>
  rintro v rest r b ⟨e,rfl,j,n⟩;cases n with
  |cons h1 p =>
   refine Zy (sM h1 ?_);simp only[X6,FW,↓reduceIte];exact Zp ⟨rfl,rfl,_,p⟩
 case fin =>
  rintro⟨r1,r2⟩ b ⟨e,rfl,_⟩;simp only at e;subst e;exact Zp q
def nest(a:KeyKind prog w K):HeapKind prog w (List (List K)) where
 is:=FY a
 hash:=vh a
 draws:=pB
 room:=λA=>A.units+1<cLine
 inj:=λd b=>d.fn b
 keeps:=λx h hd g=>x.keeps h hd g
 pyHash:=λe f q=>yW e f q
 eqBool:=λe d b q=>B6 e d b q
 quiet:=λf q=>vw f q
end NK
end
section
namespace p0
open PySem PySem.Spec PyProof.Rows
abbrev ba:=List (List Key)
def hN(w:SL)(k:ba):Int:=reduceHash (Builtin.Tuple.tupleHashOf (k.map λx=>reduceHash (Builtin.Tuple.tupleHashOf (x.map (C2 w)))))
def C1(w:SL)(x:ba×GM×IR):DictEntry:=⟨hN w x.1,.ref x.2.1,x.2.2⟩
abbrev KN:List (ba×GM×V)->List (ba×GM×IR)->Prop:=Paired λp q=>p.1=q.1/\p.2.1=q.2.1/\RelV p.2.2 q.2.2
def DN(a:GM)(d:List (ba×GM×V)):HO:=.ext λw h=>d.length<=FS/\(a==sysModules)=S/\∃b:List (ba×GM×IR),KN d b ∧
 ∃o e f,h.get? a=O o/\o.ExactDict/\o.data=.dict e f/\e.toList=b.map (C1 w)/\(b.map (·.1)).Nodup
def Fx(H:Hp)(k:ba)(b:GM):Prop:=∃a:Wn,H b=O (.tup (a.map V.ref))/\Paired (λ(x:List Key) (c:GM)=>H c=O (.tup (x.map kV))) k a
def Fx.mono{H e:Hp}{k:ba}{b:GM}(x:Fx H k b)(t:∀a d,H a=O (.tup d)->e a=O (.tup d)):Fx e k b:=by
 obtain⟨f,h,r⟩:=x;exact⟨f,t _ _ h,Paired.Ih r λ_ _ z=>t _ _ z⟩
section
variable{P:PP}{w:SL}{H:Hp}{h:SC}{a b:GM}
def Fx.is{k:ba}(d:Ee P w H h)(x:Fx H k b):NK.FY (aX P w) h k b:=by
 obtain⟨B,e,r⟩:=x;obtain⟨z0,f,v,_,o,h1,i,n,g⟩:=(show aW P w H h b (.tup (B.map V.ref)) from d b _ e)
 refine⟨o,f.toArray,n,h1,i,g,?_⟩;rw[List.toList_toArray];clear e h1 i g z0
 induction r generalizing f with
 |nil =>
  rw[YF]at v;cases v;exact .nil
 |@cons x c D F q _ p =>
  rw[Zt]at v;cases v with
  |@cons _ u _ _ s t =>
   obtain rfl:=(show u=Value.ref c from s)
   obtain⟨_,C,j,_,l,A,z,m,y⟩:=(show aW P w H h c (.tup (x.map kV)) from d c _ q)
   exact .cons ⟨l,C.toArray,m,A,z,y,by simpa using jt j⟩ (p _ t)
def BM{f:List (ba×GM×V)}(i:Ee P w H h)(e:H a=O (DN a f))(s:∀p∈f,Fx H p.1 p.2.1):f.length<=FS/\(a==sysModules)=S ∧
  ∃g,KN f g/\h.DictOfH (NK.nest (aX P w)) a g:=by
 obtain⟨⟨z,y,g,r,o,F,G,h1,D,C,B,A⟩,_⟩:=(show aW P w H h a (DN a f) from i a _ e)
 refine⟨z,y,g,r,o,F,G,h1,D,C,B,λx d=>?_,A⟩;have all:∀{l:List (ba×GM×V)}{m:List (ba×GM×IR)},KN l m->(∀p∈l,Fx H p.1 p.2.1)->∀x∈m,NK.FY (aX P w) h x.1 x.2.1:=by
  intro l m q
  induction q with
  |nil=>intro _ x d;exact nomatch d
  |@cons p q L I j t u =>
   intro n x d;rcases Zo.mp d with e | d
   ·subst e;rw[← j.1,← j.2.1];exact(n p Zx).is i
   ·exact u (λp v=>n p (Zw _ v)) x d
 exact all r s x d
def vU{r:Hp}{p:SC}{e:List (ba×GM×V)}{xs:List (ba×GM×IR)}(z:e.length<=FS)(f:(a==sysModules)=S)(d:KN e xs)(q:p.DictOfH (NK.nest (aX P w)) a xs) :
  aW P w r p a (DN a e):=by
 obtain⟨o,m,n,h1,l,j,i,_,g⟩:=q;refine⟨⟨z,f,xs,d,o,m,n,h1,l,j,i,g⟩,⟨o,h1⟩,?_⟩;rintro t s ⟨z,f,xs,d,o,m,n,h1,l,j,i,g⟩ k;exact⟨z,f,xs,d,o,m,n,k _ h1,l,j,i,g⟩
theorem KN.length{l:List (ba×GM×V)}{m:List (ba×GM×IR)}(r:KN l m):l.length=m.length:=WB r
def FR(d:List (ba×GM×V))(k:ba):Option V:=(d.find? λx=>decide (x.1=k)).map (·.2.2)
def KN.at{l:List (ba×GM×V)}{m:List (ba×GM×IR)}(r:KN l m)(k:ba):jl (FR l k) ((atKey m k).map (·.2)):=by
 unfold FR atKey
 induction r with
 |nil=>exact(show jl Y Y from trivial)
 |@cons p q i g d t f =>
  rw[Yx,Yx,← d.1];by_cases e:p.1=k
  ·simp only[e,decide_true,Yt];exact d.2.2
  ·simp only[e,decide_false];exact f
def KN.add{l:List (ba×GM×V)}{m:List (ba×GM×IR)}(r:KN l m){p:ba×GM×V}{q:ba×GM×IR}(x:p.1=q.1/\p.2.1=q.2.1/\RelV p.2.2 q.2.2):KN (l++[p]) (m++[q]):=by
 induction r with
 |nil=>exact .cons x .nil
 |cons h _ d=>exact .cons h d
end
section
variable{prog:PP}{w:SL}{K:Type}[DecidableEq K]{knd:HeapKind prog w K}{A:Pi}{E:Yl}{s:FB}
def oo{d a:GM}{f:List (K×GM×IR)}{k:K}{v:IR}{Q:Yl}(q:knd.room A)(m:knd.is s.heap k a)(D:s.heap.DictOfH knd d f)(C:f.length<=FS)(B:∀p,atKey f k=O p->Q p.2 { s with toks:=s.toks+knd.draws k })(z:atKey f k=Y->∀l,l.DictOfH knd d (f++[(k,a,v)])->Heap.SameBut d s.heap l->Q v { s with heap:=l,toks:=s.toks+knd.draws k }) :
  KB (FM prog w) A (dictSetDefault d (.ref a) v) Q E s:=by
 obtain⟨o,L,G,g,F,hd,h,u,i⟩:=D;unfold dictSetDefault
 try with_reducible refine YJ ?_
 refine Zy (knd.pyHash q m (Zy (wpAny_dictFind_heap (s:={ s with toks:=s.toks+knd.draws k }) q m g hd h u i (λt=>?_) λj p r=>?_)))
 ·have H:=atKey_none_of_get t;have I:k∉f.map (·.1):=not_mem_keys_of_get t;refine Zy (Wr (Zy (wpAny_updateDictKeys (hz:=by have e:=size_of_entries h;lia) (s:={ s with toks:=s.toks+knd.draws k }) g hd (Zp (z H _ ⟨_,_,G+1,Vy _ g (Obj.isFreed_of_dict (Obj.data_mapDictKeys hd _)),
   F.mapDictKeys _,Obj.data_mapDictKeys hd _,by simp[h,entryOfKey],λx b=>?_,?_⟩ (WY ..))))))
  ·rcases Zc.mp b with b | b
   ·exact knd.keeps (u x b) g hd (WY ..)
   ·obtain rfl:=Zf.mp b;exact knd.keeps m g hd (WY ..)
  ·rw[Ym,ZA];refine⟨i,by simp,λx b y n e=>I ?_⟩;simp only[Zt,YF,Zf]at n;exact n ▸ e ▸ b
 ·refine Zy (wpAny_dictEntries (s:={ s with toks:=s.toks+knd.draws k }) g hd ?_);rw[entry_at h j,r];exact Zy (Wr (Zp (B p (atKey_of_get i r))))
def lS(b:HeapKind prog w K){k:K}{a:GM}(d:GM)(q:(d==sysModules)=S)(v:IR) :
  MeetsIn prog w (Builtin.«dict.setdefault» ⟨[.ref d,.ref a,v],[]⟩) (λA R s=>b.room A.in1/\b.is s.heap k a/\∃e,s.heap.DictOfH b d e/\e.length<=FS ∧
   (∀p,atKey e k=O p->R (.ok (.ret p.2)) { s with toks:=s.toks+b.draws k }) ∧
   (atKey e k=Y->∀f,f.DictOfH b d (e++[(k,a,v)])->Heap.SameBut d s.heap f->R (.ok (.ret v)) { s with heap:=f,toks:=s.toks+b.draws k })) :=
 .of_wp λA R s m=>by
  obtain⟨l,t,e,g,j,i,h⟩:=m;unfold Builtin.«dict.setdefault»;refine Zy ?_;unfold Builtin.Dict.keyAndDefault;refine Zy (wpAny_notOrdered_dict g.typeIs (show KB _ _ (pure (d,Value.ref a,O v)) _ _ s from Zp ?_));show KB _ _ (if (d==sysModules)=J then _ else (dictSetDefault d (.ref a) v>>=_)) _ _ s;rw[Zm (by rw[q];simp)];exact Zy (oo l t g j (λp n=>Zp ⟨_,rfl,i p n⟩) λo f r u=>Zp ⟨_,rfl,h o f r u⟩)
end
section
variable{X:Cx}
def wm:V->List V->Hp->VK->Prop:=λx e H Q=>∃(a b:GM)(d:List (ba×GM×V))(k:ba)(y:V),x=.ref a/\e=[.ref b,y]/\H a=O (DN a d)/\(∀p∈d,Fx H p.1 p.2.1)/\Fx H k b/\d.length<FS ∧
 (∀v,FR d k=O v->Q v H)/\(FR d k=Y->Q y (upd H a (DN a (d++[(k,b,y)]))))
def qi(hu:X.A.units+2<cLine):LF X "dict.setdefault" wm:=by
 intro j s Z H x vs v us Q I r t h;obtain⟨a,b,g,k,y,rfl,rfl,e,G5,U,R,D,C⟩:=h;cases r;obtain⟨u,o,rfl,B,m⟩:=t.two;obtain rfl:=(show u=Value.ref b from B)
 obtain⟨z,hd,i,rel,l⟩:=BM I.xb e G5;have G:i.length<=sizeLine:=by rw[← rel.length];exact z
 have d:=rel.at k;refine call_meetsIn Xl l.typeIs PySem.F.entry_dict_setdefault (Vn _ _ _) (lS (NK.nest (aX X.prog X.w)) (k:=k) (a:=b) a hd o) ⟨by show X.A.in1.units+1<cLine;show X.A.units+1+1<cLine;omega,U.is I.xb,i,l,G,λp L=>?_,λP h' n M=>?_⟩
 ·rw[L]at d;cases f:FR g k with
  |none=>rw[f]at d;cases d
  |some w =>
   rw[f]at d;exact⟨w,H,I.tok _,d,D w f⟩
 ·rw[P]at d;have f:FR g k=Y:=by
   cases f:FR g k with
   |none=>rfl
   |some w=>rw[f]at d;cases d
  have W:∃q,h'.get? a=O q:=let ⟨q,_,_,N,_⟩:=n;⟨q,N⟩
  exact⟨y,_,hU I (by rw[e];exact True.intro) M W (vU (by rw[Zu];exact R) hd (rel.add ⟨rfl,rfl,m⟩) n),m,C f⟩
end
end p0
end
section
namespace VS
open PySem PySem.Spec PyProof.Rows p0
def sx(s:Tx):Str:=⟨s.toArray⟩
def ip(s:Tx):Prop:=s.length<=fC/\∀c∈s,c<1114112
abbrev Me:=Nat->Option V
structure Gx where
 K:Xj
 ct:Nat->GM×(Nat->Str)
 me:Me:=λ_=>none
def Gx.at(G:Gx)(m:Me):Gx:=⟨G.K,G.ct,m⟩
def aL:Key->T
 |.inl i=>.int i
 |.inr x=>.str x.cps.toList
def DP(k:ba):T:=.tup (k.map λx=>T.tup (x.map aL))
def iV(K:Xj)(H:Hp)(a:GM)(d:Vw):Prop :=
 (∃o,H a=O (.frz o (.lst (d.map V.int)))) ∨
  ∃(o:Obj)(b:Array IR)(n:Nat),K.lookup a=O o/\o.cls=.type "list" ∧ o.dict=Y/\o.data=.seq b n/\b.size<=FS/\aQ (d.map V.int) b.toList
mutual
inductive Rp(G:Gx)(H:Hp):V->T->Wn->Prop
 |non:Rp G H .non .non []
 |bl (b:Bool):Rp G H (.bl b) (.bl b) []
 |int (i:Int):Rp G H (.int i) (.int i) []
 |str (s:Tx):ip s->Rp G H (.str (sx s)) (.str s) []
 |scr {a:GM} {ns:Vw}:iV G.K H a ns->Rp G H (.ref a) (.scr ns) []
 |tup {a:GM} {vs:List V} {ts:Vd} {Fs:Yb}:H a=some (.tup vs)->tx G H vs ts Fs->Rp G H (.ref a) (.tup ts) Fs.flatten
 |lst {a:GM} {vs:List V} {ts:Vd} {Fs:Yb}:H a=some (.lst vs)->tx G H vs ts Fs->Rp G H (.ref a) (.lst ts) (a :: Fs.flatten)
 |dct {a:GM} {ks:List Key} {vs:List V} {ts:Vd} {Fs:Yb}:H a=some (.dK (ks.zip vs))->ks.length=vs.length->tx G H vs ts Fs->Rp G H (.ref a) (.dct 0 ((ks.map aL).zip ts)) (a :: Fs.flatten)
 |dctT {a:GM} {ks:List (List Key)} {vs:List V} {ts:Vd} {Fs:Yb}:H a=some (.dT (ks.zip vs))->ks.length=vs.length->tx G H vs ts Fs->Rp G H (.ref a) (.dct 1 ((ks.map λk=>T.tup (k.map aL)).zip ts)) (a :: Fs.flatten)
 |dctN {a:GM} {ks:List (ba×GM)} {vs:List V} {ts:Vd} {Fs:Yb}:H a=some (DN a ((ks.zip vs).map λp=>(p.1.1,p.1.2,p.2)))->ks.length=vs.length->(∀p∈ks,Fx H p.1 p.2)->tx G H vs ts Fs->Rp G H (.ref a) (.dct 2 ((ks.map λp=>DP p.1).zip ts)) (a :: Fs.flatten)
 |dctZ {a:GM} {o:Obj} {ks:List Key} {vs:List V} {ts:Vd} {Fs:Yb}:H a=some (.frz o (.dK (ks.zip vs)))->ks.length=vs.length->tx G H vs ts Fs->Rp G H (.ref a) (.dct 3 ((ks.map aL).zip ts)) Fs.flatten
 |exc {c:Nat} {a:GM} {o:Obj}:H a=some (.frz o (.own a))->(o.cls=.ref (G.ct c).1/\o.dict=none/\∃vs,o.data=.fields vs)->Rp G H (.ref a) (.obj c []) []
 |ins {c:Nat} {a dx:GM} {b:Bool} {ks:W3} {vs:List V} {ts:Vd} {Fs:Yb}:H a=some (.ins (G.ct (c+1)).1 dx ((ks.map (G.ct (c+1)).2).zip vs))->ks.length=vs.length->(b=true->G.me 0=some (.ref a))->tx G H vs ts Fs->Rp G H (.ref a) (.obj (c+1) ((0,.bl b) :: ks.zip ts)) (a :: Fs.flatten)
 |mk {m:Nat} {a:GM} {t:T} {F:Wn}:G.me m=some (.ref a)->Rp G H (.ref a) t F->Rp G H (.ref a) (.obj 0 [(0,.bl true),(m,t)]) F
inductive tx(G:Gx)(H:Hp):List V->Vd->Yb->Prop
 |nil:tx G H [] [] []
 |cons {v:V} {t:T} {F:Wn} {vs:List V} {ts:Vd} {Fs:Yb}:Rp G H v t F->tx G H vs ts Fs->tx G H (v :: vs) (t :: ts) (F :: Fs)
end
structure Kept(H H':Hp):Prop where
 tup:∀a xs,H a=some (.tup xs)->H' a=some (.tup xs)
 frz:∀a o u,H a=some (.frz o u)->H' a=some (.frz o u)
def Kept.refl(H:Hp):Kept H H:=⟨λ_ _ h=>h,λ_ _ _ h=>h⟩
def Kept.trans{H e d:Hp}(a:Kept H e)(b:Kept e d):Kept H d:=⟨λc x h=>b.tup c x (a.tup c x h),λc o u h=>b.frz c o u (a.frz c o u h)⟩
def Kept.of{H b:Hp}(e:aM H b):Kept H b:=⟨λa _ h=>e a _ h,λa _ _ h=>e a _ h⟩
theorem Kept.upd{H:Hp}{a:GM}{o:HO}(d:DI (H a)\/H a=Y):Kept H (upd H a o):=by
 have ne:∀b u,H b=O u->¬DI (O u)->b≠a:=λb u h nm e=>by
  subst e;rcases d with m | m
  ·rw[h]at m;exact nm m
  ·rw[h]at m;cases m
 exact⟨λb f h=>by rw[av (ne b _ h λz=>z)];exact h,λb o u h=>by rw[av (ne b _ h λz=>z)];exact h⟩
def iV.kept{K:Xj}{H d:Hp}{a:GM}{b:Vw}(h:iV K H a b)(k:Kept H d):iV K d a b:=by
 rcases h with⟨o,e⟩ | h
 ·exact .inl ⟨o,k.frz _ _ _ e⟩
 ·exact .inr h
def iV.seq{K:Xj}{H:Hp}{a:GM}{b:Vw}(h:iV K H a b):DM K H a (b.map V.int):=by
 rcases h with⟨o,e⟩ | h
 ·exact .inl (.inr ⟨o,e⟩)
 ·exact .inr h
def nS{H d:Hp}{a:GM}{F:Wn}(f:∀b∈a :: F,∀o,H b=O o->d b=O o):∀b∈F,∀o,H b=O o->d b=O o:=λb m=>f b (Zw _ m)
def rK{H a:Hp}{F:Wn}{d:Yb}(f:∀b∈(F :: d).flatten,∀o,H b=O o->a b=O o):(∀b∈F,∀o,H b=O o->a b=O o)/\∀b∈d.flatten,∀o,H b=O o->a b=O o:=by
 rw[Zd]at f;exact⟨λb m=>f b (Y8 _ m),λb m=>f b (GF _ m)⟩
def Rp.keep{G:Gx}{H e:Hp}(k:Kept H e){v:V}{t:T}{F:Wn}(r:Rp G H v t F):(∀a∈F,∀o,H a=O o->e a=O o)->Rp G e v t F :=
 Rp.rec (motive_1:=λv t F _=>(∀a∈F,∀o,H a=O o->e a=O o)->Rp G e v t F) (motive_2:=λj q g _=>(∀a∈g.flatten,∀o,H a=O o->e a=O o)->tx G e j q g)
  (λ_=>.non) (λb _=>.bl b) (λi _=>.int i) (λs h _=>.str s h) (λh _=>.scr (h.kept k)) (λh _ d f=>.tup (k.tup _ _ h) (d f)) (λh _ d f=>.lst (f _ Zx _ h) (d (nS f))) (λh l _ d f=>.dct (f _ Zx _ h) l (d (nS f))) (λh l _ d f=>.dctT (f _ Zx _ h) l (d (nS f)))
  (λh l n _ d f=>.dctN (f _ Zx _ h) l (λp m=>(n p m).mono k.tup) (d (nS f))) (λh l _ d f=>.dctZ (k.frz _ _ _ h) l (d f)) (λh x _=>.exc (k.frz _ _ _ h) x) (λh l m _ d f=>.ins (f _ Zx _ h) l m (d (nS f))) (λh _ d f=>.mk h (d f)) (λ_=>.nil) (λ_ _ w u f=>.cons (w (rK f).1) (u (rK f).2)) r
theorem tx.keep{G:Gx}{H b:Hp}(k:Kept H b):∀{e:List V}{g:Vd}{d:Yb},tx G H e g d->(∀a∈d.flatten,∀o,H a=O o->b a=O o)->tx G b e g d
 |_,_,_,.nil,_=>.nil
 |_,_,_,.cons r q,f=>.cons (r.keep k (rK f).1) (tx.keep k q (rK f).2)
def Rp.same{G:Gx}{H b:Hp}(e:aM H b){v:V}{t:T}{F:Wn}(r:Rp G H v t F):Rp G b v t F:=r.keep (Kept.of e) λa _ o h=>e a o h
def tx.same{G:Gx}{H b:Hp}(e:aM H b){v:List V}{t:Vd}{F:Yb}(r:tx G H v t F):tx G b v t F:=r.keep (Kept.of e) λa _ o h=>e a o h
def vq{H:Hp}{a:GM}{F:Wn}(h:DI (H a))(d:∀b∈F,DI (H b)):∀b∈a :: F,DI (H b):=λb m=>(Zo.mp m).elim (λe=>e ▸ h) (d b)
def vf{H:Hp}{a:GM}{o:HO}(h:H a=O o)(m:DI (O o)):DI (H a):=by rw[h];exact m
def BO{H:Hp}{F:Wn}{a:Yb}(h1:∀b∈F,DI (H b))(d:∀b∈a.flatten,DI (H b)):∀b∈(F :: a).flatten,DI (H b):=λb m=>by
 rw[Zd]at m;exact(Zc.mp m).elim (h1 b) (d b)
def Rp.DY{G:Gx}{H:Hp}{v:V}{t:T}{F:Wn}(r:Rp G H v t F):∀a∈F,DI (H a) :=
 Rp.rec (motive_1:=λv t F _=>∀a∈F,DI (H a)) (motive_2:=λg i f _=>∀a∈f.flatten,DI (H a))
  (λ_ m=>nomatch m) (λ_ _ m=>nomatch m) (λ_ _ m=>nomatch m) (λ_ _ _ m=>nomatch m) (λ_ _ m=>nomatch m) (λ_ _ b=>b) (λh _ b=>vq (vf h True.intro) b) (λh _ _ b=>vq (vf h True.intro) b) (λh _ _ b=>vq (vf h True.intro) b)
  (λh _ _ _ b=>vq (vf h True.intro) b) (λ_ _ _ b=>b) (λ_ _ _ m=>nomatch m) (λh _ _ _ b=>vq (vf h True.intro) b) (λ_ _ b=>b) (λ_ m=>nomatch m) (λ_ _ e d=>BO e d) r
theorem tx.DY{G:Gx}{H:Hp}:∀{d:List V}{e:Vd}{b:Yb},tx G H d e b->∀a∈b.flatten,DI (H a)
 |_,_,_,.nil=>λ_ m=>nomatch m
 |_,_,_,.cons r q=>BO r.DY (tx.DY q)
def DI.td{o:Option HO}(m:DI o):o≠Y:=λe=>by subst e;exact m
def Cj{F:Wn}{b:Yb}{t:T}{a:Vd}(h1:VS.DZ t=J->F=[])(d:VS.eT a=J->b.flatten=[])(i:VS.eT (t :: a)=J):(F :: b).flatten=[]:=by
 simp only[VS.eT,FV]at i;rw[Zd,h1 i.1,d i.2];rfl
theorem Rp.DZ{G:Gx}{H:Hp}{v:V}{t:T}{F:Wn}(r:Rp G H v t F):VS.DZ t=J->F=[] :=
 Rp.rec (motive_1:=λv t F _=>VS.DZ t=J->F=[]) (motive_2:=λg a f _=>VS.eT a=J->f.flatten=[])
  (λ_=>rfl) (λ_ _=>rfl) (λ_ _=>rfl) (λ_ _ _=>rfl) (λ_ _=>rfl) (λ_ _ b i=>b (by simpa[VS.DZ] using i)) (λ_ _ _ i=>absurd (show S=J from i) Zk) (λ_ _ _ _ i=>absurd (show S=J from i) Zk) (λ_ _ _ _ i=>absurd (show S=J from i) Zk)
  (λ_ _ _ _ _ i=>absurd (show S=J from i) Zk) (λ_ _ _ _ i=>absurd (show S=J from i) Zk) (λ_ _ _=>rfl) (λ_ _ _ _ _ i=>absurd (show S=J from i) Zk) (λ_ _ _ i=>absurd (show S=J from i) Zk) (λ_=>rfl) (λ_ _ e d i=>Cj e d i) r
theorem tx.DZ{G:Gx}{H:Hp}:∀{d:List V}{a:Vd}{b:Yb},tx G H d a b->VS.eT a=J->b.flatten=[]
 |_,_,_,.nil,_=>rfl
 |_,_,_,.cons r q,i=>Cj r.DZ (tx.DZ q) i
theorem tx.len{G:Gx}{H:Hp}:∀{b:List V}{a:Vd}{d:Yb},tx G H b a d->b.length=a.length/\d.length=a.length
 |_,_,_,.nil=>⟨rfl,rfl⟩
 |_,_,_,.cons _ q=>by
  have:=tx.len q;simp only[Zj];lia
theorem tx.get{G:Gx}{H:Hp}:∀{a:List V}{b:Vd}{d:Yb}(i:Nat){t:T},tx G H a b d->b[i]?=O t->∃v F,a[i]?=O v/\d[i]?=O F/\Rp G H v t F
 |_,_,_,_,_,.nil,e=>by simp at e
 |_,_,_,0,_,.cons r _,e=>by
  simp at e;subst e;exact⟨_,_,rfl,rfl,r⟩
 |_,_,_,i+1,_,.cons _ q,e=>by
  obtain⟨v,F,h1,g,f⟩:=tx.get i q (by simpa using e);exact⟨v,F,by simpa using h1,by simpa using g,f⟩
theorem tx.append{G:Gx}{H:Hp}:∀{a:List V}{d:Vd}{g:Yb}{b:List V}{e:Vd}{f:Yb},tx G H a d g->tx G H b e f->tx G H (a++b) (d++e) (g++f)
 |_,_,_,_,_,_,.nil,s=>s
 |_,_,_,_,_,_,.cons r q,s=>.cons r (tx.append q s)
theorem tx.take{G:Gx}{H:Hp}:∀{a:List V}{b:Vd}{d:Yb}(n:Nat),tx G H a b d->tx G H (a.take n) (b.take n) (d.take n)
 |_,_,_,0,_=>by simpa using tx.nil
 |_,_,_,n+1,.nil=>.nil
 |_,_,_,n+1,.cons r q=>.cons r (tx.take n q)
theorem tx.drop{G:Gx}{H:Hp}:∀{a:List V}{b:Vd}{d:Yb}(n:Nat),tx G H a b d->tx G H (a.drop n) (b.drop n) (d.drop n)
 |_,_,_,0,q=>q
 |_,_,_,n+1,.nil=>.nil
 |_,_,_,n+1,.cons r q=>tx.drop n q
def jB:Cell->T
 |.pu t=>t
 |.ow t=>t
abbrev DJ:=Nat->Wn
structure SR(G:Gx)(L:DJ)(U:VS.Env)(Z:p0.St)(H:Hp):Prop where
 len:U.length=Z.length
 rp:∀i c,U[i]?=some (some c)->∃v,Z[i]?=some (some v)/\Rp G H v (jB c) (L i)
 nd:∀i t,U[i]?=some (some (.ow t))->(L i).Nodup
 sep:∀i j t c,U[i]?=some (some (.ow t))->U[j]?=some (some c)->i≠j->∀a∈L i,a∉L j
def di(L:DJ)(U:VS.Env)(a:GM):Prop:=∃j t,U[j]?=O (O (.pu t))/\a∈L j
def bT(L:DJ)(U:VS.Env)(a:GM):Prop:=∃j t,U[j]?=O (O (.ow t))/\a∈L j
def Fp(L:DJ)(U:VS.Env)(H:Hp):Md->Wn->Prop
 |.fr,F=>F.Nodup/\∀a∈F,H a=Y
 |.pu,F=>∀a∈F,H a=Y\/di L U a
 |.bo,F=>∀a∈F,H a=Y\/di L U a\/bT L U a
theorem SR.same{G:Gx}{L:DJ}{U:VS.Env}{Z:p0.St}{H a:Hp}(s:SR G L U Z H)(e:aM H a):SR G L U Z a :=
 ⟨s.len,λi c h=>let ⟨v,h1,b⟩:=s.rp i c h;⟨v,h1,b.same e⟩,s.nd,s.sep⟩
def SR.Hm{G:Gx}{L:DJ}{U:VS.Env}{Z:p0.St}{H:Hp}{a:GM}(s:SR G L U Z H)(h:di L U a):DI (H a):=by
 obtain⟨j,t,h1,b⟩:=h;obtain⟨v,_,r⟩:=s.rp j _ h1;exact r.DY a b
def SR.EA{G:Gx}{L:DJ}{U:VS.Env}{Z:p0.St}{H:Hp}{a:GM}(s:SR G L U Z H)(h:bT L U a):DI (H a):=by
 obtain⟨j,t,h1,b⟩:=h;obtain⟨v,_,r⟩:=s.rp j _ h1;exact r.DY a b
def Fp.nil{L:DJ}{U:VS.Env}{H:Hp}{m:Md}:Fp L U H m []:=by
 cases m
 ·exact⟨List.nodup_nil,λa h=>by simp at h⟩
 ·exact λa h=>by simp at h
 ·exact λa h=>by simp at h
theorem Fp.bo{L:DJ}{U:VS.Env}{H:Hp}{F:Wn}:∀{m:Md},Fp L U H m F->Fp L U H .bo F
 |.fr,h=>λa m=>.inl (h.2 a m)
 |.pu,h=>λa m=>(h a m).elim .inl λz=>.inr (.inl z)
 |.bo,h=>h
theorem Fp.pu{L:DJ}{U:VS.Env}{H:Hp}{F:Wn}:∀{m:Md},m ≠ .bo->Fp L U H m F->Fp L U H .pu F
 |.fr,_,h=>λa m=>.inl (h.2 a m)
 |.pu,_,h=>h
 |.bo,n,_=>absurd M n
theorem Fp.back{L:DJ}{U:VS.Env}{H b:Hp}(e:aM H b){F:Wn}:∀{m:Md},Fp L U b m F->Fp L U H m F
 |.fr,h=>⟨h.1,λa m=>e.free (h.2 a m)⟩
 |.pu,h=>λa m=>(h a m).imp e.free id
 |.bo,h=>λa m=>(h a m).imp e.free id
theorem Fp.up{G:Gx}{L:DJ}{U:VS.Env}{H a:Hp}{m:Md}{v:V}{t:T}{F:Wn}(f:Fp L U H m F)(r:Rp G a v t F):Fp L U H (VS.up m t).1 F:=by
 unfold VS.up;by_cases h:VS.DZ t=J
 ·rw[r.DZ h];exact Fp.nil
 ·simp only[h,if_false,FW];exact f
def tE(G:Gx)(c:Ex):TE:=λZ H Q=>∃L U m r,SR G L U Z H/\c U=O (m,r)/\∀v a F,aM H a->Rp G a v r F->Fp L U H m F->Q v a
def PV(G:Gx)(X:Cx)(e:Expr)(c:Ex):Prop:=PE X e (tE G c)
def PE.weak{X:Cx}{e:Expr}{t b:TE}(h:PE X e t)(w:∀Z H Q,b Z H Q->t Z H Q):PE X e b:=λa s Z H Q I q=>h a s Z H Q I (w Z H Q q)
def PT.weak{X:Cx}{e:Expr}{t b:TT}(h:PT X e t)(w:∀Z H Q,b Z H Q->t Z H Q):PT X e b:=λa s Z H Q I q=>h a s Z H Q I (w Z H Q q)
def PA.weak{X:Cx}{e:List Expr}{t b:TA}(h:PA X e t)(w:∀Z H Q,b Z H Q->t Z H Q):PA X e b:=λpos a s Z H Q I q=>h pos a s Z H Q I (w Z H Q q)
def tT(G:Gx)(c:Ex):TT:=λZ H Q=>∃L U m r b,SR G L U Z H/\c U=O (m,r)/\HX r=O b/\∀a,aM H a->Q b a
def Gn(G:Gx)(X:Cx)(e:Expr)(c:Ex):Prop:=PT X e (tT G c)
def EE(l:Vf)(a:Yb):Wn:=match l,a with
 |v :: l,F :: a=>match v.1 with
  |.fr=>F++EE l a
  |_=>EE l a
 |_,_=>[]
structure Mp(L:DJ)(U:VS.Env)(H:Hp)(l:Vf)(Fs:Yb):Prop where
 each:∀(i:Nat) v F,l[i]?=some v->Fs[i]?=some F->Fp L U H v.1 F
 nd:(EE l Fs).Nodup
def Kj(G:Gx)(c:D5):TA:=λZ H Q=>∃L U l,SR G L U Z H/\c U=O l/\∀b a d,aM H a->tx G a b (trees l) d->Mp L U H l d->Q b a
def Fc(G:Gx)(X:Cx)(a:List Expr)(c:D5):Prop:=PA X a (Kj G c)
section
variable{G:Gx}{X:Cx}{a b c:Expr}{ca cb cc:Ex}{pos:Pos}
def ag{i j pos}:PV G X (.Constant (.int i) j pos) (Q3 i):=PE.weak t8 λZ H Q d=>by
 obtain⟨L,U,m,r,s,e,k⟩:=d;cases (show O (Md.fr,T.int i)=O (m,r) from e);exact k _ _ _ (aM.refl _) (.int i) Fp.nil
def uN{i j pos}:PV G X (.Constant (.bool i) j pos) (eC (.bl i)):=PE.weak BR λZ H Q d=>by
 obtain⟨L,U,m,r,s,e,k⟩:=d;cases (show O (Md.fr,T.bl i)=O (m,r) from e);exact k _ _ _ (aM.refl _) (.bl i) Fp.nil
def v3{j pos}:PV G X (.Constant .none j pos) (eC .non):=PE.weak Ab λZ H Q d=>by
 obtain⟨L,U,m,r,s,e,k⟩:=d;cases (show O (Md.fr,T.non)=O (m,r) from e);exact k _ _ _ (aM.refl _) .non Fp.nil
def ji{x:Str}{t:Tx}{j pos}(h:x=sx t:=by decide +kernel)(f:ip t:=by decide):PV G X (.Constant (.str x) j pos) (eC (.str t)):=PE.weak vi λZ H Q d=>by
 obtain⟨L,U,m,r,s,e,k⟩:=d;cases (show O (Md.fr,T.str t)=O (m,r) from e);subst h;exact k _ _ _ (aM.refl _) (.str t f) Fp.nil
def dF(i:Nat){x:Str}{g:Pos}(q:X.N[i]?=O x:=by rfl)(n:FX X.env.scope x:=by first | exact Or.inl M | exact Or.inr (Or.inl M) | exact Or.inr (Or.inr M))(p:K2 x:=by decide)(w:K3 x:=by decide):PV G X (.Name x g) (ae i):=PE.weak (fh q n p w) λZ H Q o=>by
 obtain⟨L,U,m,r,s,e,k⟩:=o;unfold ae at e;split at e
 ·rename_i t h;obtain⟨v,h1,d⟩:=s.rp _ _ h;have l:VS.up .pu t=(m,r):=ZJ e;have u:t=r:=congrArg Prod.snd l;have em:(VS.up .pu t).1=m:=congrArg Prod.fst l;rw[← u,← em]at k;refine⟨v,h1,k v H (L i) (aM.refl _) d ?_⟩;have f:Fp L U H .pu (L i):=λa j=>.inr ⟨i,_,h,j⟩;exact f.up d
 ·rename_i t h;obtain⟨v,h1,d⟩:=s.rp _ _ h;cases e;exact⟨v,h1,k v H (L i) (aM.refl _) d λa j=>.inr (.inr ⟨i,_,h,j⟩)⟩
 ·cases e
structure Ly(G:Gx)(L:DJ)(U:VS.Env)(H0 H:Hp)(x y:Val)(u w:V)(F1 F2:Wn):Prop where
 same:aM H0 H
 r1:Rp G H u x.2 F1
 r2:Rp G H w y.2 F2
 f1:Fp L U H0 x.1 F1
 f2:Fp L U H0 y.1 F2
 nd:x.1=.fr->y.1=.fr->(F1++F2).Nodup
def fG(G:Gx)(r:R2)(f:Val->Val->Ve):Prop:=∀(L:DJ)(U:VS.Env)(e H:Hp)(x y:Val)(u w:V)(h g:Wn)(m:Md)(t:T)(Q:VK),Ly G L U e H x y u w h g->f x y=O (m,t) →
 (∀v d F,aM H d->Rp G d v t F->Fp L U e m F->Q v d)->r u w H Q
def vg{Z:p0.St}{H:Hp}{Q:V->V->Hp->Prop}{L:DJ}{U:VS.Env}{x y:Val}(s:SR G L U Z H)(n:ca U=O x)(m:cb U=O y)(k:∀u w d f e,Ly G L U H d x y u w f e->Q u w d):tE G ca Z H λu g=>tE G cb Z g λw d=>Q u w d:=by
 refine⟨L,U,x.1,x.2,s,n,λu g f e1 r1 f1=>⟨L,U,y.1,y.2,s.same e1,m,λw d e e2 r2 f2=>k u w d f e ⟨e1.trans e2,r1.same e2,r2,f1,f2.back e1,λi h=>?_⟩⟩⟩;rw[i]at f1;rw[h]at f2;refine ZA.mpr ⟨f1.1,f2.1,λa l b j z=>?_⟩;subst z;exact DI.td (r1.DY a l) (f2.2 a j)
def kf{r:R2}{f:Val->Val->Ve}(g:fG G r f){Z:p0.St}{H:Hp}{Q:VK}(h:tE G (e2 f ca cb) Z H Q):Ki r (tE G ca) (tE G cb) Z H Q:=by
 obtain⟨L,U,m,t,s,e,k⟩:=h;unfold e2 at e;obtain⟨x,j,e⟩:=Zz.mp e;obtain⟨y,i,e⟩:=Zz.mp e;exact vg s j i λu w l p o d=>g L U H l x y u w p o m t Q d e λv n F e1 r1 f1=>k v n F (d.same.trans e1) r1 f1
def ku{d:Operator}{r:R2}{f:Val->Val->Ve}(g:OpR X (binaryOp d) r)(e:fG G r f)(j:PV G X a ca)(i:PV G X b cb):PV G X (.BinOp a d b pos) (e2 f ca cb) :=
 PE.weak (Cn g j i) λZ H Q h=>kf e h
def Bu{d:CmpOp}{r:R2}{f:Val->Val->Ve}(g:OpR X (SB d) r)(e:fG G r f)(l:PV G X a ca)(j:PV G X b cb)(i:behindInMarks d b=S):PV G X (.Compare a [d] [b] pos) (e2 f ca cb) :=
 PE.weak (wY g l j i) λZ H Q h=>kf e h
def Tells(f:Val->Val->Ve):Prop:=∀x y m t,f x y=O (m,t)->∃b,t=.bl b
def Rp.E6{H:Hp}{v:V}{b:Bool}{F:Wn}(r:Rp G H v (.bl b) F):v=.bl b:=by cases r;rfl
def Rp.int_inv{H:Hp}{v:V}{b:Int}{F:Wn}(r:Rp G H v (.int b) F):v=.int b:=by cases r;rfl
def Rp.str_inv{H:Hp}{v:V}{b:Tx}{F:Wn}(r:Rp G H v (.str b) F):v=.str (sx b)/\ip b:=by cases r with | str _ h=>exact⟨rfl,h⟩
def pb{c:Ex}{t:TE}{Z:p0.St}{H:Hp}{Q:Bool->Hp->Prop}(h:tT G c Z H Q)(f:∀U m r,c U=O (m,r)->∃b,r=.bl b)(w:∀Q,tE G c Z H Q->t Z H Q):vX t Z H Q:=by
 obtain⟨L,U,m,r,b,s,e,d,k⟩:=h;refine w _ ⟨L,U,m,r,s,e,λv j F e1 r1 f1=>?_⟩;obtain⟨i,g⟩:=f U m r e;rw[g]at d r1;cases (show O i=O b from d);exact⟨_,r1.E6,k j e1⟩
def eU{d:CmpOp}{r:R2}{f:Val->Val->Ve}(j:OpR X (SB d) r)(g:fG G r f)(i:Tells f)(o:PV G X a ca)(n:PV G X b cb)(l:behindInMarks d b=S):Gn G X (.Compare a [d] [b] pos) (e2 f ca cb) :=
 PT.weak (zd j o n l) λZ H Q h=>pb h (λU m r e=>by
  unfold e2 at e;obtain⟨x,_,e⟩:=Zz.mp e;obtain⟨y,_,e⟩:=Zz.mp e;exact i x y m r e) λQ h=>kf g h
def bz{L:DJ}{U:VS.Env}{e H:Hp}{m:Md}{t:T}{v:V}{Q:VK}(k:∀v d F,aM H d->Rp G d v t F->Fp L U e m F->Q v d)(r:Rp G H v t []):Q v H:=k v H [] (aM.refl _) r Fp.nil
def bL{H:Hp}{p:GM}{o:HO}(h:H p=Y):aM H (upd H p o):=λb d e=>by rw[av (aR e h)];exact e
theorem Fp.new{L:DJ}{U:VS.Env}{g:Hp}{p:GM}{F:Wn}(d:g p=Y)(h:p∉F):∀{m:Md},Fp L U g m F->Fp L U g m (p :: F)
 |.fr,f=>⟨ZU.mpr ⟨h,f.1⟩,λa m=>(Zo.mp m).elim (λe=>by rw[e];exact d) (f.2 a)⟩
 |.pu,f=>λa m=>(Zo.mp m).elim (λe=>by rw[e];exact .inl d) (f a)
 |.bo,f=>λa m=>(Zo.mp m).elim (λe=>by rw[e];exact .inl d) (f a)
def mS{d m:Md}{l:Vd}{t:T}(e:Fh d l=O (m,t)):t=.lst l/\l.length<=fC/\m=(if eT l then .fr else d):=by
 unfold Fh at e;split at e
 ·rename_i h;cases e;exact⟨rfl,h,rfl⟩
 ·cases e
def g8{L:DJ}{U:VS.Env}{i H:Hp}{q m:Md}{l:Vd}{t:T}{o:List V}{n:Yb}{Q:VK}(d:aM i H)(e:Fh q l=O (m,t))(r:tx G H o l n)(f:Fp L U i q n.flatten)(k:∀v j F,aM H j->Rp G j v t F->Fp L U i m F->Q v j):∀p,H p=Y->Q (.ref p) (upd H p (.lst o)):=by
 intro p g;obtain⟨rfl,s,rfl⟩:=mS e;refine k _ _ _ (bL g) (.lst aw (r.same (bL g))) ?_;have np:p∉n.flatten:=λm=>DI.td (r.DY p m) g;by_cases h:eT l=J
 ·rw[h,Zr M];rw[r.DZ h]at np ⊢;exact Fp.nil.new (d.free g) np
 ·rw[Zm h];exact f.new (d.free g) np
theorem Ly.join{L:DJ}{U:VS.Env}{h H:Hp}{x y:Val}{u w:V}{f e:Wn}(i:Ly G L U h H x y u w f e){F:Wn}(g:F.Sublist (f++e)):Fp L U h (x.1.join y.1) F:=by
 obtain⟨same,r1,r2,f1,f2,nd⟩:=i;have split:∀a∈F,a∈f\/a∈e:=λa d=>Zc.mp (g.subset d);obtain⟨l,x⟩:=x;obtain⟨j,y⟩:=y;have both:∀{P:GM->Prop},(∀a∈f,P a)->(∀a∈e,P a)->∀a∈F,P a:=λh1 m a d=>(split a d).elim (h1 a) (m a);cases l<;>cases j
 ·exact⟨(nd M M).sublist g,both f1.2 f2.2⟩
 ·exact both (λa d=>.inl (f1.2 a d)) f2
 ·exact both (λa d=>.inl (f1.2 a d)) f2
 ·exact both f1 (λa d=>.inl (f2.2 a d))
 ·exact both f1 f2
 ·exact both (f1.bo) f2
 ·exact both f1 (λa d=>.inl (f2.2 a d))
 ·exact both f1 (f2.bo)
 ·exact both f1 f2
def fJ:fC=sizeLine:=rfl
def eO(s:Tx):(sx s).length=s.length:=rfl
def Bl(s t:Tx):sx s++sx t=sx (s++t):=by
 show Str.append (sx s) (sx t)=_;simp[sx,Str.append]
def Rp.lst_inv{H:Hp}{v:V}{l:Vd}{F:Wn}(r:Rp G H v (.lst l) F):∃a d e,v=.ref a/\F=a :: e.flatten/\H a=O (.lst d)/\tx G H d l e:=by
 cases r with
 |lst h q=>exact⟨_,_,_,rfl,rfl,h,q⟩
def Rp.Ew{H:Hp}{v:V}{l:Vd}{F:Wn}(r:Rp G H v (.tup l) F):∃a d e,v=.ref a/\F=e.flatten/\H a=O (.tup d)/\tx G H d l e:=by
 cases r with
 |tup h q=>exact⟨_,_,_,rfl,rfl,h,q⟩
def Rp.Ib{H:Hp}{v:V}{l:Vw}{F:Wn}(r:Rp G H v (.scr l) F):∃a,v=.ref a/\F=[]/\iV G.K H a l:=by
 cases r with
 |scr h=>exact⟨_,rfl,rfl,h⟩
end
section
variable{G:Gx}{X:Cx}
def BV:R2:=λx y H Q=>GN (λi j=>.int (i+j)) x y H Q\/(∃i j,x=.str i/\y=.str j/\i.length+j.length<=FS/\Q (.str (i++j)) H)\/Cq x y H Q
def xP:OpR X (binaryOp .Add) BV:=zP.or (qf.or zO)
def Av:fG G BV bD:=by
 intro L U I H x y u w B A m t Q f e k;have q:=λ{F:Wn} (h:List.Sublist F (B++A))=>f.join h;obtain⟨D,x⟩:=x;obtain⟨C,y⟩:=y;obtain⟨same,r1,r2,f1,f2,nd⟩:=f;unfold bD at e;split at e
 ·rename_i i _ j e1 e2;cases e1;cases e2;cases e;exact .inl ⟨_,_,r1.int_inv,r2.int_inv,bz k (.int _)⟩
 ·rename_i s _ p e1 e2;cases e1;cases e2;split at e
  ·rename_i d;cases e;refine .inr (.inl ⟨_,_,r1.str_inv.1,r2.str_inv.1,by rw[eO,eO,← fJ];exact d,?_⟩);rw[Bl];exact bz k (.str _ ⟨by rw[Zu];exact d,λc r=>(Zc.mp r).elim (r1.str_inv.2.2 c) (r2.str_inv.2.2 c)⟩)
  ·cases e
 ·rename_i s _ p e1 e2;cases e1;cases e2;obtain⟨a,n,N,rfl,rfl,z,l⟩:=r1.lst_inv;obtain⟨b,o,M,rfl,rfl,v,g⟩:=r2.lst_inv;obtain⟨_,d,_⟩:=mS e;refine .inr (.inr ⟨a,b,n,o,rfl,rfl,z,v,?_,g8 same e (l.append g) (q ?_) k⟩)
  ·rw[Zu]at d;rw[l.len.1,g.len.1,← fJ];exact d
  ·rw[Gk];exact(YM _ _).append (YM _ _)
 ·cases e
def AY:fG G (GN λi j=>.int (i-j)) ik:=by
 intro L U f H x y u w h g m t Q a e k;obtain⟨d,x⟩:=x;obtain⟨b,y⟩:=y;obtain⟨same,r1,r2,f1,f2,nd⟩:=a;unfold ik at e;split at e
 ·rename_i e1 e2;cases e1;cases e2;cases e;exact⟨_,_,r1.int_inv,r2.int_inv,bz k (.int _)⟩
 ·cases e
def zg:fG G (rI Cw λi j=>.int (i/j)) fi:=by
 intro L U f H x y u w l g m t Q a e k;obtain⟨d,x⟩:=x;obtain⟨b,y⟩:=y;obtain⟨same,r1,r2,f1,f2,nd⟩:=a;unfold fi at e;split at e
 ·rename_i e1 e2;cases e1;cases e2;split at e
  ·rename_i h;cases e;exact⟨_,_,r1.int_inv,r2.int_inv,h,bz k (.int _)⟩
  ·cases e
 ·cases e
def Bo:fG G (rI (λ_ j=>0<j) λi j=>.int (i%j)) oMod:=by
 intro L U f H x y u w l g m t Q a e k;obtain⟨d,x⟩:=x;obtain⟨b,y⟩:=y;obtain⟨same,r1,r2,f1,f2,nd⟩:=a;unfold oMod at e;split at e
 ·rename_i e1 e2;cases e1;cases e2;split at e
  ·rename_i h;cases e;exact⟨_,_,r1.int_inv,r2.int_inv,h,bz k (.int _)⟩
  ·cases e
 ·cases e
theorem ir:∀(s t:Tx),EB s t=decide (s<t)
 |[],[]=>by simp[EB]
 |[],_ :: _=>by simp[EB]
 |_ :: _,[]=>by simp[EB]
 |a :: s,b :: t=>by
  unfold EB;rw[ir s t];by_cases h1:a<b
  ·simp[h1,W0]
  ·by_cases d:b<a
   ·have:¬a=b:=by exact Nat.ne_of_gt d
    simp[h1,d,W0,this]
   ·have:a=b:=by lia
    subst this;simp[W0]
def Pf:R2:=λx y H Q=>GN (λi j=>.bl (decide (i<j))) x y H Q\/(∃i j,x=.str i/\y=.str j/\Q (.bl (decide (i.cps.toList<j.cps.toList))) H)
def qd:OpR X (SB .Lt) Pf:=Cc.or sd
def vL:fG G Pf oLt:=by
 intro L U g H x y u w i h m t Q b e k;obtain⟨f,x⟩:=x;obtain⟨d,y⟩:=y;obtain⟨same,r1,r2,f1,f2,nd⟩:=b;unfold oLt at e;split at e
 ·rename_i e1 e2;cases e1;cases e2;cases e;exact .inl ⟨_,_,r1.int_inv,r2.int_inv,bz k (.bl _)⟩
 ·rename_i s _ a e1 e2;cases e1;cases e2;cases e;refine .inr ⟨_,_,r1.str_inv.1,r2.str_inv.1,?_⟩;have:decide ((sx s).cps.toList<(sx a).cps.toList)=EB s a:=by rw[ir];exact decide_eq_decide.mpr (by simp[sx])
  rw[this];exact bz k (.bl _)
 ·cases e
def iY:Tells oLt:=by
 intro x y m t e;unfold oLt at e;split at e<;>first | (cases e;exact⟨_,rfl⟩) | cases e
def Be:LI=2 ^ 64:=rfl
def Br:fG G (rI zb λi j=>.int (i*j)) eG:=by
 intro L U f H x y u w l g m t Q a e k;obtain⟨d,x⟩:=x;obtain⟨b,y⟩:=y;obtain⟨same,r1,r2,f1,f2,nd⟩:=a;unfold eG at e;split at e
 ·rename_i e1 e2;cases e1;cases e2;split at e
  ·rename_i h;cases e;refine⟨_,_,r1.int_inv,r2.int_inv,?_,bz k (.int _)⟩;rw[Be]at h;exact h
  ·cases e
 ·cases e
def sk:OpR X (SB .LtE) (λx y H Q=>∃i j,x=.str i/\y=.str j/\Q (.bl (!decide (j.cps.toList<i.cps.toList))) H):=by
 intro a s Z H x y v u Q I d b h;obtain⟨i,j,rfl,rfl,q⟩:=h;obtain⟨t,rfl⟩:=d;obtain⟨e,rfl⟩:=b;exact PySem.P.le_str ⟨.bl _,H,I,rfl,q⟩
def Pg:R2:=λx y H Q=>GN (λi j=>.bl (decide (i<=j))) x y H Q\/(∃i j,x=.str i/\y=.str j/\Q (.bl (!decide (j.cps.toList<i.cps.toList))) H)
def u5:OpR X (SB .LtE) Pg:=CC.or sk
def zj:fG G Pg oLe:=by
 intro L U g H x y u w i h m t Q b e k;obtain⟨f,x⟩:=x;obtain⟨d,y⟩:=y;obtain⟨same,r1,r2,f1,f2,nd⟩:=b;unfold oLe at e;split at e
 ·rename_i e1 e2;cases e1;cases e2;cases e;exact .inl ⟨_,_,r1.int_inv,r2.int_inv,bz k (.bl _)⟩
 ·rename_i s _ a e1 e2;cases e1;cases e2;cases e;refine .inr ⟨_,_,r1.str_inv.1,r2.str_inv.1,?_⟩;have:decide ((sx a).cps.toList<(sx s).cps.toList)=EB a s:=by rw[ir];exact decide_eq_decide.mpr (by simp[sx])
  rw[this];exact bz k (.bl _)
 ·cases e
def nZ:Tells oLe:=by
 intro x y m t e;unfold oLe at e;split at e<;>first | (cases e;exact⟨_,rfl⟩) | cases e
def uv{n:Nat}{i:Int}:Et n i=Js n i:=by
 unfold Et Js;by_cases h:0<=i
 ·rw[Zr h,Zr h]
 ·rw[Zm h,Zm h];by_cases a:0<=i+n
  ·rw[Zr a,Zr (by lia)]
  ·rw[Zm a,Zm (by lia)]
def lW{α:Type}{l:List α}{i:Int}{k:Nat}{x:α}(h1:Et l.length i=O k)(a:l[k]?=O x):JP l i=O x:=by
 unfold JP;rw[← uv,h1];exact a
def gh{a:Yb}{F:Wn}{i:Nat}(h:a[i]?=O F):F.Sublist a.flatten:=by
 obtain⟨b,rfl⟩:=ZY.mp h;exact List.sublist_flatten_of_mem (XW b)
theorem Fp.sub{L:DJ}{U:VS.Env}{H:Hp}{F d:Wn}(h:F.Sublist d):∀{m:Md},Fp L U H m d->Fp L U H m F
 |.fr,f=>⟨f.1.sublist h,λa b=>f.2 a (h.subset b)⟩
 |.pu,f=>λa b=>f a (h.subset b)
 |.bo,f=>λa b=>f a (h.subset b)
def vT:fG G (MG G.K) aJ:=by
 intro L U M H x y u w P N m t Q A e k;obtain⟨I,x⟩:=x;obtain⟨D,y⟩:=y;obtain⟨same,r1,r2,f1,f2,nd⟩:=A;unfold aJ at e;split at e
 ·rename_i o l n i e1 e2;cases e1;cases e2;obtain⟨j,h1,e⟩:=Zz.mp e;obtain⟨x,b,e⟩:=Zn.mp e;obtain⟨a,h,C,rfl,rfl,p,g⟩:=r1.lst_inv;obtain⟨v,F,r,q,d⟩:=g.get j b;refine .inl ⟨a,h,i,v,rfl,r2.int_inv,DM.of p,lW (by rw[g.len.1];exact h1) r,?_⟩;have f:=((f1.sub (YM _ _)).sub (gh q)).up d;unfold VS.sub at e;rw[e]at f;have s:x=t:=congrArg Prod.snd e;rw[s]at d;exact k v H F (aM.refl _) d f
 ·rename_i o l n i e1 e2;cases e1;cases e2;obtain⟨j,h1,e⟩:=Zz.mp e;obtain⟨x,b,e⟩:=Zn.mp e;obtain⟨a,h,C,rfl,rfl,p,g⟩:=r1.Ew;obtain⟨v,F,r,q,d⟩:=g.get j b;refine .inr (.inl ⟨a,h,i,v,rfl,r2.int_inv,El.of p,lW (by rw[g.len.1];exact h1) r,?_⟩);have f:=(f1.sub (gh q)).up d;unfold VS.sub at e;rw[e]at f;have s:x=t:=congrArg Prod.snd e;rw[s]at d;exact k v H F (aM.refl _) d f
 ·rename_i o l n i e1 e2;cases e1;cases e2;obtain⟨j,h1,e⟩:=Zz.mp e;obtain⟨x,b,e⟩:=Zn.mp e;cases e;obtain⟨a,rfl,rfl,sa⟩:=r1.Ib;refine .inl ⟨a,l.map V.int,i,.int x,rfl,r2.int_inv,sa.seq,lW (by rw[Zv];exact h1) (by rw[ZR,b];rfl),bz k (.int _)⟩
 ·rename_i o l n i e1 e2;cases e1;cases e2;obtain⟨j,h1,e⟩:=Zz.mp e;obtain⟨x,b,e⟩:=Zn.mp e;cases e;obtain⟨rfl,z⟩:=r1.str_inv;refine .inr (.inr ⟨sx l,i,x,rfl,r2.int_inv,by rw[eO,← fJ];exact z.1,lW (k:=j) (by simpa[sx] using h1) (by simpa[sx] using b),?_⟩);exact bz k (.str [x] ⟨by show 1<=fC;decide,λc B=>by rw[Zf.mp B];exact z.2 x (YO b)⟩)
 ·cases e
end
section
variable{G:Gx}{X:Cx}{a b c e:Expr}{es:List Expr}{ca cb cc:Ex}{cs:D5}{pos p:Pos}
theorem rH{x:GM}:∀{l:Vf}{d:Yb},x∈EE l d->∃(i:Nat)(v:Val)(F:Wn),l[i]?=O v/\v.1=.fr/\d[i]?=O F/\x∈F
 |[],_,h=>by simp[EE]at h
 |_ :: _,[],h=>by simp[EE]at h
 |v :: l,F :: d,h=>by
  have go:x∈EE l d->∃(i:Nat)(u:Val)(f:Wn),(v :: l)[i]?=O u/\u.1=.fr/\(F :: d)[i]?=O f/\x∈f:=λm=>by
   obtain⟨i,u,f,h1,o,n,j⟩:=rH m;exact⟨i+1,u,f,by simpa using h1,o,by simpa using n,j⟩
  unfold EE at h;split at h
  ·rename_i g;rcases Zc.mp h with h | h
   ·exact⟨0,v,F,rfl,g,rfl,h⟩
   ·exact go h
  ·exact go h
def aj:Fc G X [] aC:=PA.weak eQ λZ H Q d=>by
 obtain⟨L,U,l,s,e,k⟩:=d;cases (show O ([]:Vf)=O l from e);exact k [] H [] (aM.refl _) .nil ⟨λi v F h=>by simp at h,by simp[EE]⟩
def aa(A:PV G X e ca)(t:Fc G X es cs)(r:K0 e es X:=by rfl):Fc G X (e :: es) (af ca cs):=PA.weak (dc A t r) λZ H Q w=>by
 obtain⟨L,U,l,s,e,k⟩:=w;unfold af at e;obtain⟨x,I,e⟩:=Zz.mp e;obtain⟨h,D,e⟩:=Zz.mp e;cases e;refine⟨L,U,x.1,x.2,s,I,λv P F e1 r1 f1=>⟨L,U,h,s.same e1,D,λj M N e2 r2 f2=>k (v :: j) M (F :: N) (e1.trans e2) (.cons (r1.same e2) r2) ⟨λi u g h1 d=>?_,?_⟩⟩⟩
 ·cases i with
  |zero =>
   cases (show O x=O u from h1);cases (show O F=O g from d);exact f1
  |succ i=>exact(f2.each i u g (by simpa using h1) (by simpa using d)).back e1
 ·unfold EE;split
  ·rename_i o;rw[o]at f1;refine ZA.mpr ⟨f1.1,f2.nd,λy n z m q=>?_⟩;subst q;obtain⟨i,u,g,h1,d,C,B⟩:=rH m;have f:=f2.each i u g h1 C;rw[d]at f;exact DI.td (r1.DY y n) (f.2 y B)
  ·exact f2.nd
theorem iJ:∀{l:Vf},bP l=.fr->∀v∈l,v.1=.fr
 |[],_,v,h=>by simp at h
 | (m,t) :: r,e,v,h=>by
  have d:m.join (bP r)=.fr:=e;have h1:m=.fr:=by
   revert d;cases m<;>cases bP r<;>simp[Md.join]
  have f:bP r=.fr:=by
   revert d;cases m<;>cases bP r<;>simp[Md.join]
  rcases Zo.mp h with rfl | h
  ·exact h1
  ·exact iJ f v h
theorem iE:∀{l:Vf},bP l ≠ .bo->∀v∈l,v.1 ≠ .bo
 |[],_,v,h=>by simp at h
 | (m,t) :: r,e,v,h=>by
  have d:m.join (bP r) ≠ .bo:=e;have h1:m ≠ .bo:=by
   revert d;cases m<;>cases bP r<;>simp[Md.join]
  have f:bP r ≠ .bo:=by
   revert d;cases m<;>cases bP r<;>simp[Md.join]
  rcases Zo.mp h with rfl | h
  ·exact h1
  ·exact iE f v h
theorem qW:∀{l:Vf}{d:Yb},l.length=d.length->(∀v∈l,v.1=.fr)->EE l d=d.flatten
 |[],[],_,_=>rfl
 |[],_ :: _,h,_=>by simp at h
 |_ :: _,[],h,_=>by simp at h
 |v :: l,F :: d,h,q=>by
  unfold EE;rw[q v Zx,qW (by simpa using h) λu f=>q u (Zw _ f)];rfl
def fB{x:GM}{d:Yb}(h:x∈d.flatten):∃(i:Nat)(F:Wn),d[i]?=O F/\x∈F:=by
 obtain⟨F,j,f⟩:=WN.mp h;obtain⟨i,g⟩:=List.mem_iff_getElem?.mp j;exact⟨i,F,g,f⟩
def Mp.join{L:DJ}{U:VS.Env}{H:Hp}{l:Vf}{j:Yb}(f:Mp L U H l j)(n:l.length=j.length):Fp L U H (bP l) j.flatten:=by
 have at':∀x∈j.flatten,∃v F,v∈l/\x∈F/\Fp L U H v.1 F:=λx d=>by
  obtain⟨i,F,m,g⟩:=fB d;have:i<l.length:=by
   have:=(ZY.mp m).1;lia
  exact⟨l[i],F,XW this,g,f.each i _ F (Zh this) m⟩
 cases e:bP l with
 |fr =>
  have al:=iJ e;refine⟨by rw[← qW n al];exact f.nd,λx d=>?_⟩;obtain⟨v,F,h,g,q⟩:=at' x d;rw[al v h]at q;exact q.2 x g
 |pu =>
  have al:=iE (l:=l) (by rw[e];decide);intro x d;obtain⟨v,F,h,g,q⟩:=at' x d;exact Fp.pu (al v h) q x g
 |bo =>
  intro x d;obtain⟨v,F,h,g,q⟩:=at' x d;exact q.bo x g
structure Args(G:Gx)(L:DJ)(U:VS.Env)(H0 H:Hp)(l:Vf)(vs:List V)(Fs:Yb):Prop where
 same:aM H0 H
 rp:tx G H vs (trees l) Fs
 fp:Mp L U H0 l Fs
theorem Args.len{L:DJ}{U:VS.Env}{g H:Hp}{l:Vf}{f:List V}{d:Yb}(A:Args G L U g H l f d):l.length=d.length:=by
 have:=A.rp.len.2;simp[trees]at this;exact Eq.symm this
def fW(G:Gx)(r:List V->Hp->VK->Prop)(f:Vf->Ve):Prop:=∀(L:DJ)(U:VS.Env)(h H:Hp)(l:Vf)(g:List V)(i:Yb)(m:Md)(t:T)(Q:VK),Args G L U h H l g i->f l=O (m,t) →
 (∀v d F,aM H d->Rp G d v t F->Fp L U h m F->Q v d)->r g H Q
def zF{r:List V->Hp->VK->Prop}{f:Vf->Ve}(h:fW G r f){Z:p0.St}{H:Hp}{Q:VK}{U:VS.Env}{L:DJ}{l:Vf}{m:Md}{t:T}(s:SR G L U Z H)(i:cs U=O l)(e:f l=O (m,t))(k:∀v d F,aM H d->Rp G d v t F->Fp L U H m F->Q v d):Kj G cs Z H λg n=>r g n Q :=
 ⟨L,U,l,s,i,λg d o e1 r1 f1=>h L U H d l g o m t Q ⟨e1,r1,f1⟩ e λv j F e2 r2 f2=>k v j F (e1.trans e2) r2 f2⟩
def iH{r:List V->Hp->VK->Prop}{f:Vf->Ve}{d:String}{x:Str}(q:dQ X (.builtin d) r)(g:fW G r f)(o:Gl X x)(n:X.mg x=Y)(h:bootBuiltins x=O (.builtin d))(u:Fc G X (e :: es) cs)(j:x ≠ "__name__" := by decide)(w:K2 x:=by decide)(he:K0 e es X:=by rfl)(hpl:K1 pos es X:=by rfl):PV G X (.Call (.Name x p) (e :: es) [] pos) (eN f cs) :=
 PE.weak (ox q o n h u j w he hpl) λZ H Q i=>by
  obtain⟨L,U,m,t,s,e,k⟩:=i;unfold eN at e;obtain⟨l,v,e⟩:=Zz.mp e;exact zF g s v e k
def kY{r:List V->Hp->VK->Prop}{f:Vf->Ve}{Ty:String}{x:Str}(o:dQ X (.type Ty) r)(d:fW G r f)(n:Gl X x)(j:X.mg x=Y)(g:bootBuiltins x=O (.type Ty))(q:Fc G X (e :: es) cs)(i:x ≠ "__name__" := by decide)(v:K2 x:=by decide)(he:K0 e es X:=by rfl)(hpl:K1 pos es X:=by rfl):PV G X (.Call (.Name x p) (e :: es) [] pos) (eN f cs) :=
 PE.weak (lQ o n j g q i v he hpl) λZ H Q h=>by
  obtain⟨L,U,m,t,s,e,k⟩:=h;unfold eN at e;obtain⟨l,u,e⟩:=Zz.mp e;exact zF d s u e k
def fY(h:Fc G X es cs):PV G X (.List es pos) (gR cs):=PE.weak (md h) λZ H Q f=>by
 obtain⟨L,U,m,t,s,e,k⟩:=f;unfold gR at e;obtain⟨l,i,e⟩:=Zz.mp e;refine⟨L,U,l,s,i,λd n o e1 r1 f1=>?_⟩;have A:Args G L U H n l d o:=⟨e1,r1,f1⟩
 obtain⟨_,g,_⟩:=mS e;refine⟨by rw[r1.len.1,← fJ];exact g,g8 e1 e r1 (f1.join A.len) λv j F e2 r2 f2=>k v j F (e1.trans e2) r2 f2⟩
def mw{x1}(h:Fc G X es cs):PV G X (.Tuple es x1 pos) (pF cs):=PE.weak (Ar h) λZ H Q d=>by
 obtain⟨L,U,m,t,s,e,k⟩:=d;unfold pF at e;obtain⟨l,n,e⟩:=Zz.mp e;refine⟨L,U,l,s,n,λf g i e1 r1 f1=>?_⟩;have A:Args G L U H g l f i:=⟨e1,r1,f1⟩
 unfold oV at e;split at e
 ·rename_i j;cases e;refine⟨by rw[r1.len.1,← fJ,trees,Zv];exact j,λq d=>?_⟩;have r2:Rp G (upd g q (.tup f)) (.ref q) (.tup (trees l)) i.flatten:=.tup aw (r1.same (bL d));exact k _ _ _ (e1.trans (bL d)) r2 (Fp.up (f1.join A.len) r2)
 ·cases e
def yT{H:Hp}{v:V}{t:T}{F:Wn}{k:Bool}(r:Rp G H v t F)(h:HX t=O k):AA G.K v H k:=by
 cases r with
 |non=>cases h;rfl
 |bl b=>cases h;rfl
 |int i=>cases h;rfl
 |str s j =>
  cases h;refine⟨by rw[eO,← fJ];exact j.1,?_⟩;rw[eO];cases s with
  |nil=>rfl
  |cons a r =>
   have:((List.length (a :: r):Int) != 0)=J:=by simp;lia
   rw[this];rfl
 |scr d=>cases h
 |tup d q =>
  cases h;refine .inr (.inl ⟨_,El.of d,?_⟩);have:=q.len.1;rename_i f g _;cases f<;>cases g<;>simp_all
 |lst d q =>
  cases h;refine .inl ⟨_,DM.of d,?_⟩;have:=q.len.1;rename_i f g _;cases f<;>cases g<;>simp_all
 |dct d j q =>
  cases h;refine .inr (.inr ⟨_,d,?_⟩);have:=q.len.1;rename_i l f g _;cases l<;>cases f<;>cases g<;>simp_all
 |dctT d j q=>cases h
 |dctN d j n q=>cases h
 |dctZ _ _ _=>cases h
 |exc _ _=>cases h
 |ins _ _ _ _=>cases h
 |mk _ _=>cases h
def yK(h:PV G X a ca)(f:X.K=G.K:=by rfl)(d:∀whole,isTrue a X.env whole=(do let v ← whole;standAt a.pos;holding [v] (truthy v)):=by intro _;rfl):Gn G X a ca :=
 PT.weak (wB h d) λZ H Q ⟨L,U,m,r,b,s,e,g,k⟩=>⟨L,U,m,r,s,e,λv i F e1 r1 f1=>⟨b,by rw[f];exact yT r1 g,k i e1⟩⟩
def HR(G:Gx)(X:Cx)(e:Expr)(c:Ex):Prop:=PW X e (tT G c)
def PW.weak{X:Cx}{e:Expr}{t f:TT}(h:PW X e t)(w:∀Z H Q,f Z H Q->t Z H Q):PW X e f:=λg d s Z H Q I q=>h g d s Z H Q I (w Z H Q q)
def HR.LQ(h:HR G X e ca):Gn G X e ca:=PW.pt h
variable{rest:List Expr}
def wz{U:VS.Env}{m:Md}{r:T}(e:mT ca cb U=O (m,r)):(∃n,ca U=O (n,.bl J)/\cb U=O (m,r))\/(∃n,ca U=O (n,.bl S)/\m=.fr/\r=.bl S):=by
 unfold mT at e;obtain⟨⟨n,x⟩,d,e⟩:=Zz.mp e;split at e
 ·rename_i h;cases (show x=.bl J from h);exact .inl ⟨n,d,e⟩
 ·rename_i h;cases (show x=.bl S from h);cases e;exact .inr ⟨n,d,rfl,rfl⟩
 ·cases e
def yI{U:VS.Env}{m:Md}{r:T}(e:Lf ca cb U=O (m,r)):(∃n,ca U=O (n,.bl S)/\cb U=O (m,r))\/(∃n,ca U=O (n,.bl J)/\m=.fr/\r=.bl J):=by
 unfold Lf at e;obtain⟨⟨n,x⟩,d,e⟩:=Zz.mp e;split at e
 ·rename_i h;cases (show x=.bl J from h);cases e;exact .inr ⟨n,d,rfl,rfl⟩
 ·rename_i h;cases (show x=.bl S from h);exact .inl ⟨n,d,e⟩
 ·cases e
def jJ(j:Gn G X a ca)(i:HR G X (.BoolOp .And (b :: rest) pos) cb):HR G X (.BoolOp .And (a :: b :: rest) pos) (mT ca cb) :=
 PW.weak (Ak j i) λZ H Q h=>by
  obtain⟨L,U,m,r,k,s,e,f,q⟩:=h;rcases wz e with⟨n,d,e2⟩ | ⟨n,d,rfl,rfl⟩
  ·refine⟨L,U,n,_,J,s,d,rfl,λg e1=>?_⟩;refine Ac ?_;exact⟨L,U,m,r,k,s.same e1,e2,f,λl e2=>q l (e1.trans e2)⟩
  ·refine⟨L,U,n,_,S,s,d,rfl,λg e1=>?_⟩;refine Ag ?_;cases f;exact q g e1
def AE(j:Gn G X a ca)(i:HR G X (.BoolOp .Or (b :: rest) pos) cb):HR G X (.BoolOp .Or (a :: b :: rest) pos) (Lf ca cb) :=
 PW.weak (Ct j i) λZ H Q h=>by
  obtain⟨L,U,m,r,k,s,e,f,q⟩:=h;rcases yI e with⟨n,d,e2⟩ | ⟨n,d,rfl,rfl⟩
  ·refine⟨L,U,n,_,S,s,d,rfl,λg e1=>?_⟩;refine Ag ?_;exact⟨L,U,m,r,k,s.same e1,e2,f,λl e2=>q l (e1.trans e2)⟩
  ·refine⟨L,U,n,_,J,s,d,rfl,λg e1=>?_⟩;refine Ac ?_;cases f;exact q g e1
def wN{U:VS.Env}{m:Md}{r:T}(e:om ca U=O (m,r)):∃n b,ca U=O (n,.bl b)/\m=.fr/\r=.bl (!b):=by
 unfold om at e;obtain⟨⟨n,x⟩,d,e⟩:=Zz.mp e;split at e
 ·rename_i b h;cases (show x=.bl b from h);cases e;exact⟨n,b,d,rfl,rfl⟩
 ·cases e
def qo(f:Gn G X a ca):Gn G X (.UnaryOp .Not a pos) (om ca):=PT.weak (Af f) λZ H Q d=>by
 obtain⟨L,U,m,r,k,s,e,g,q⟩:=d;obtain⟨n,b,h,rfl,rfl⟩:=wN e;cases g;exact⟨L,U,n,_,b,s,h,rfl,λi e1=>q i e1⟩
def ym{H:Hp}{v:V}{t:T}{F:Wn}(r:Rp G H v t F):decide (v=.non)=Nw t:=by
 cases r<;>simp[Nw]
def BE{t:TE}{c:Ex}{Z:p0.St}{H:Hp}{Q:Bool->Hp->Prop}(h:tT G c Z H Q)(f:∀U m r,c U=O (m,r)->∃b,r=.bl b)(w:∀Q,tE G c Z H Q->t Z H Q):tB t Z H Q:=by
 obtain⟨L,U,m,r,b,s,e,d,k⟩:=h;refine w _ ⟨L,U,m,r,s,e,λv j F e1 r1 f1=>?_⟩;obtain⟨i,g⟩:=f U m r e;rw[g]at d r1;cases (show O i=O b from d);exact⟨_,r1.E6,k j e1⟩
end
section
variable{G:Gx}{X:Cx}{a b c e:Expr}{es:List Expr}{ca cb cc:Ex}{cs:D5}{pos p:Pos}
def tx.one{H:Hp}{d:List V}{t:T}{f:Yb}(r:tx G H d [t] f):∃v F,d=[v]/\f=[F]/\Rp G H v t F:=by
 cases r with
 |cons r q=>cases q;exact⟨_,_,rfl,rfl,r⟩
def tx.two{H:Hp}{g:List V}{t h:T}{i:Yb}(r:tx G H g [t,h] i):∃v d F f,g=[v,d]/\i=[F,f]/\Rp G H v t F/\Rp G H d h f:=by
 cases r with
 |cons r q =>
  obtain⟨d,f,rfl,rfl,j⟩:=q.one;exact⟨_,_,_,_,rfl,rfl,r,j⟩
def CM(K:Xj):List V->Hp->VK->Prop:=λd H Q=>(∃x n,d=[x]/\Co K x H n/\Q (.int n) H)\/(∃a f,d=[V.ref a]/\H a=O (.dK f)/\Q (.int f.length) H)
def pV:dQ X (.builtin "len") (λf H Q=>∃a d,f=[V.ref a]/\H a=O (.dK d)/\Q (.int d.length) H):=by
 intro g s Z H f m Q I r h;obtain⟨a,d,rfl,j,q⟩:=h;obtain⟨u,rfl,i⟩:=vals1 r;cases i;exact BJ I (.inl j) λt n l=>⟨.int d.length,H,l,⟨t,rfl⟩,q⟩
def sE:dQ X (.builtin "len") (CM X.K):=wH.or pV
def zX:fW G (CM G.K) dS:=by
 intro L U C H l j o m t Q A e k;refine p0.fO λB f=>?_;unfold dS at e;split at e
 ·rename_i x;obtain⟨y,x⟩:=x;obtain⟨n,d,e⟩:=Zn.mp e;cases e;obtain⟨v,F,rfl,rfl,r⟩:=(show tx G H j [x] o from A.rp).one;have fin:Q (.int (n:Int)) H:=bz k (.int _);cases r with
  |non=>cases d
  |bl b=>cases d
  |int i=>cases d
  |str s g =>
   cases d;refine f ?_;exact .inl ⟨_,_,rfl,⟨by rw[eO,← fJ];exact g.1,rfl⟩,by rw[eO];exact fin⟩
  |scr h =>
   cases d;refine f ?_;refine .inl ⟨_,_,rfl,.inl ⟨_,h.seq,rfl⟩,?_⟩;rw[Zv];exact fin
  |tup h q =>
   cases d;refine f ?_;refine .inl ⟨_,_,rfl,.inr ⟨_,El.of h,rfl⟩,?_⟩;rw[q.len.1];exact fin
  |lst h q =>
   cases d;refine f ?_;refine .inl ⟨_,_,rfl,.inl ⟨_,DM.of h,rfl⟩,?_⟩;rw[q.len.1];exact fin
  |dct h g q =>
   cases d;refine f ?_;refine .inr ⟨_,_,rfl,h,?_⟩;rename_i z u w _;have e1:=q.len.1;rw[Yz,Zv]at fin;rw[Yz,e1];exact fin
  |dctT h g q=>cases d
  |dctN h g n q=>cases d
  |dctZ _ _ _=>cases d
  |exc _ _=>cases d
  |ins _ _ _ _=>cases d
  |mk _ _=>cases d
 ·cases e
def xG:fW G (λd H Q=>∃i j,d=[.int i,.int j]/\Q (.int (if j<i then j else i)) H) pq:=by
 intro L U o H l f h m t Q A e k;unfold pq at e;split at e
 ·rename_i _ i _ j;cases e;obtain⟨v,n,F,q,rfl,rfl,r,g⟩:=(show tx G H f [.int i,.int j] h from A.rp).two;exact⟨i,j,by rw[r.int_inv,g.int_inv],bz k (.int _)⟩
 ·cases e
def zw(K:Xj):List V->Hp->VK->Prop:=λf H Q=>∃p d,f=[.ref p]/\(DM K H p d\/El K H p d)/\∀l,H l=Y->Q (.ref l) (upd H l (.lst d))
def rg:fW G (zw G.K) zo:=by
 intro L U r H l j n m t Q A e k;unfold zo at e;split at e
 ·rename_i o x;obtain⟨v,F,rfl,rfl,g⟩:=(show tx G H j [.lst x] n from A.rp).one;obtain⟨a,d,q,rfl,rfl,i,h⟩:=g.lst_inv;have f:=A.fp.each 0 _ _ M M;exact⟨a,d,rfl,.inl (DM.of i),g8 A.same e h (f.sub (YM _ _)) k⟩
 ·rename_i o x;obtain⟨v,F,rfl,rfl,g⟩:=(show tx G H j [.tup x] n from A.rp).one;obtain⟨a,d,q,rfl,rfl,i,h⟩:=g.Ew;have f:=A.fp.each 0 _ _ M M;exact⟨a,d,rfl,.inr (El.of i),g8 A.same e h f k⟩
 ·cases e
def tO(G:Gx)(c:Option Ex):TO:=λZ H Q=>∃L U o,SR G L U Z H/\jw c U=O o/\∀d,aM H d->Q o d
def JQ(G:Gx)(X:Cx)(e:Option Expr)(c:Option Ex):Prop:=PO X e (tO G c)
def PO.weak{X:Cx}{e:Option Expr}{t f:TO}(h:PO X e t)(w:∀Z H Q,f Z H Q->t Z H Q):PO X e f:=λd s Z H Q I q=>h d s Z H Q I (w Z H Q q)
def fD:JQ G X Y Y:=PO.weak xm λZ H Q d=>by
 obtain⟨L,U,o,s,e,k⟩:=d;cases (show O (Y:Option Int)=O o from e);exact k H (aM.refl _)
def cf(h:PV G X a ca):JQ G X (O a) (O ca):=PO.weak (zf h) λZ H Q f=>by
 obtain⟨L,U,o,s,e,k⟩:=f;obtain⟨⟨m,y⟩,g,e⟩:=Zz.mp (show (ca U).bind (λy=>(int? y.2).map O)=O o from e);obtain⟨i,d,e⟩:=Zn.mp e;cases e;refine⟨L,U,m,y,s,g,λv l F e1 r1 f1=>?_⟩;cases y with
 |int j =>
  cases d;exact⟨_,r1.int_inv,k l e1⟩
 |_=>cases d
def je{α:Type}(l:List α)(d f:Option Int):cut l d f=(l.drop (HT.D7 l.length 0 d)).take (HT.D7 l.length l.length f-HT.D7 l.length 0 d):=by
 unfold cut;cases d<;>cases f<;>rfl
def uU(d f:Option Int)(n:Nat):Builtin.Str.strSliceIndices d f 1 n=Builtin.Str.strSliceIndices (O ((min (HT.D7 n 0 d) n:Nat):Int)) (O ((min (HT.D7 n n f) n:Nat):Int)) 1 n:=by
 have e1:∀k:Nat,¬((k:Int)<0):=λk=>by lia
 unfold Builtin.Str.strSliceIndices;simp only[show (1:Int) > 0 by decide,if_true,e1,if_false];congr 1
 ·cases d with
  |none=>simp only[HT.D7];lia
  |some i =>
   simp only[HT.D7];by_cases h:i<0
   ·simp only[h,if_true];lia
   ·simp only[h,if_false];lia
 ·cases f with
  |none=>simp only[HT.D7];lia
  |some i =>
   simp only[HT.D7];by_cases h:i<0
   ·simp only[h,if_true];lia
   ·simp only[h,if_false];lia
def kU(s:Tx)(d f:Option Int):PySem.StrLaws.sliceText (sx s) d f=sx (cut s d f):=by
 have key:PySem.StrLaws.sliceText (sx s) d f=PySem.StrLaws.sliceText (sx s) (O ((min (HT.D7 s.length 0 d) s.length:Nat):Int)) (O ((min (HT.D7 s.length s.length f) s.length:Nat):Int)):=by
  unfold PySem.StrLaws.sliceText;rw[eO,uU]
 rw[key];have hd:∀a:Nat,s.drop (min a s.length)=s.drop a:=λa=>by
  by_cases h:a<=s.length
  ·rw[Ys h]
  ·rw[WS (by exact XX h),Xo (Zs _),Xo (by exact XX h)]
 by_cases h:min (HT.D7 s.length 0 d) s.length<=min (HT.D7 s.length s.length f) s.length
 ·rw[PySem.StrLaws.sliceText_nat (sx s) h (by rw[eO];exact Nat.min_le_right _ _),je];show (⟨_⟩:Str)=⟨_⟩;congr 2;show ((sx s).cps.toList.drop _).take _=_;have:(sx s).cps.toList=s:=rfl;rw[this,hd];by_cases i:HT.D7 s.length 0 d<=s.length
  ·rw[Ys i];by_cases g:HT.D7 s.length s.length f<=s.length
   ·rw[Ys g]
   ·rw[WS (by exact XX g),GG (by rw[ZG];exact Zs _),GG (by rw[ZG];lia)]
  ·rw[Xo (by exact XX i)];simp
 ·have j:cut s d f=[]:=by
   rw[je];have:HT.D7 s.length s.length f-HT.D7 s.length 0 d=0:=by omega
   rw[this,List.take_zero]
  rw[j];unfold PySem.StrLaws.sliceText;have e2:Builtin.Str.strSliceIndices (O ((min (HT.D7 s.length 0 d) s.length:Nat):Int)) (O ((min (HT.D7 s.length s.length f) s.length:Nat):Int)) 1 (sx s).length=[]:=by
   have e1:∀k:Nat,¬((k:Int)<0):=λk=>by lia
   unfold Builtin.Str.strSliceIndices sliceRange;simp only[show (1:Int) > 0 by decide,if_true,e1,if_false,eO];rw[Zm (by omega)];rfl
  rw[e2];have:¬((1:Int)==1&&([]:W3).length==(sx s).length)=J:=by
   rw[eO];simp;lia
  rw[Zm this];rfl
def BK:V->Option Int->Option Int->Hp->VK->Prop:=λx lo d H Q=>∃z,x=.str z/\z.length<=FS/\Q (.str (PySem.StrLaws.sliceText z lo d)) H
def part_of{v:IR}{o:Option Int}(h:IsPart v o):∃q:Option (Int×Tok),v=partValue q/\o=q.map (·.1):=by
 cases h with
 |none=>exact⟨Y,rfl,rfl⟩
 |int i t=>exact⟨O (i,t),rfl,rfl⟩
def lV{α β:Type}(f:α->Option β)(l:List α):(l.filterMap f).length<=l.length:=List.length_filterMap_le f l
def yt(d f:Option Int)(n:Nat):(Builtin.Str.strSliceIndices d f 1 n).length<=n:=by
 rw[uU];by_cases h:min (HT.D7 n 0 d) n<=min (HT.D7 n n f) n
 ·rw[PySem.StrLaws.strSliceIndices_plain h (by exact Nat.min_le_right _ _),Zv,ZH];lia
 ·have e1:∀k:Nat,¬((k:Int)<0):=λk=>by lia
  unfold Builtin.Str.strSliceIndices sliceRange;simp only[show (1:Int) > 0 by decide,if_true,e1,if_false];rw[Zm (by omega)];simp
def Ai:I0 X BK:=by
 intro f s Z H x v o n lo w r Q I g m i pu h;obtain⟨z,rfl,j,q⟩:=h;obtain⟨t,rfl⟩:=g;obtain⟨l,rfl,rfl⟩:=part_of i;obtain⟨u,rfl,rfl⟩:=part_of pu;refine⟨"str",_,F.slot_str_getitem.lookup,typeIs_str s z t,wpAny_getItem_str_slice (l:=l) (u:=u) (st:=Y) m M ?_⟩;unfold sliceMade;split
 ·rename_i d;refine⟨.str z,H,I,⟨t,rfl⟩,?_⟩;have e:PySem.StrLaws.sliceText z (l.map (·.1)) (u.map (·.1))=z:=by
   unfold PySem.StrLaws.sliceText;exact Zr d
  rw[e]at q;exact q
 ·rename_i d;refine⟨ZV ?_ j,.str _,H,I.tok _,⟨_,rfl⟩,?_⟩
  ·show (List.filterMap _ _).toArray.size<=_;rw[Ze];exact ZV (lV _ _) (yt _ _ _)
  ·have e:PySem.StrLaws.sliceText z (l.map (·.1)) (u.map (·.1))=⟨((slicePicked z l u Y).filterMap (z.cps[·]?)).toArray⟩:=by
    unfold PySem.StrLaws.sliceText;exact Zm d
   rw[e]at q;exact q
def Ru(K:Xj):V->Option Int->Option Int->Hp->VK->Prop:=λx lo d H Q=>BK x lo d H Q\/Cg K x lo d H Q
def Dy:I0 X (Ru X.K):=Ai.or xU
def jR{α:Type}(l:List α)(d f:Option Int):(cut l d f).length<=l.length:=by
 rw[je,ZO,ZG];lia
theorem tx.cut{H:Hp}{g:List V}{i:Vd}{j:Yb}(r:tx G H g i j)(d f:Option Int):tx G H (sD g d f) (VS.cut i d f) (VS.cut j d f):=by
 have h:=r.len;rw[je,je,h.2];unfold sD;rw[h.1];exact(r.drop _).take _
def qx{α:Type}(l:List α)(d f:Option Int):(VS.cut l d f).Sublist l:=by
 rw[je];exact(List.take_sublist _ _).trans (List.drop_sublist _ _)
def wJ{F G:Yb}(h:F.Sublist G):F.flatten.Sublist G.flatten:=by
 induction h with
 |slnil=>exact WZ _
 |cons a _ d=>rw[Zd];exact d.trans (List.sublist_append_right _ _)
 |cons_cons a _ d=>rw[Zd,Zd];exact(WZ _).append d
def eJ{j n:Option Expr}{u w:Option Ex}{I:Pos}(ha:PV G X a ca)(d:JQ G X j u)(R:JQ G X n w)(hK:X.K=G.K:=by rfl):PV G X (.Subscript a (.Slice j n Y I) pos) (Gj ca u w) :=
 PE.weak (vG Dy ha d R) λZ H Q P=>by
  obtain⟨L,U,m,t,s,e,k⟩:=P;unfold Gj at e;obtain⟨⟨M,x⟩,ea,r⟩:=Zz.mp e;obtain⟨l,el,y⟩:=Zz.mp r;obtain⟨h,eh,f⟩:=Zz.mp y;clear e r y;refine⟨L,U,M,x,s,ea,λv H1 F e1 r1 f1=>⟨L,U,l,s.same e1,el,λH2 e2=>⟨L,U,h,(s.same e1).same e2,eh,λA o=>?_⟩⟩⟩;have g:aM H A:=(e1.trans e2).trans o;have i:=(r1.same e2).same o;unfold Pr at f;split at f
  ·rename_i N z q;cases q;cases f;obtain⟨rfl,d⟩:=i.str_inv;refine .inl ⟨_,rfl,by rw[eO,← fJ];exact d.1,?_⟩;rw[kU];exact k _ A _ g (.str _ ⟨ZV (jR _ _ _) d.1,λc W=>d.2 c ((qx _ _ _).subset W)⟩) Fp.nil
  ·rename_i N z q;cases q;obtain⟨a',B,Fs,rfl,rfl,Eg,C⟩:=i.lst_inv;refine .inr ⟨a',B,rfl,by rw[hK];exact DM.of Eg,g8 g f (C.cut l h) ((f1.sub (YM _ _)).sub (wJ (qx _ _ _))) λv H4 F e5 D f4=>k v H4 F (g.trans e5) D f4⟩
  ·cases f
def Ha:Ty->String
 |.int => "int"
 |.str => "str"
 |.bool => "bool"
 |.list => "list"
 |.tuple => "tuple"
 |.dict => "dict"
def Rv(K:Xj):List V->Hp->VK->Prop:=λd H Q=>∃x c t b,d=[x,.ty c]/\Ey K H x t/\PySem.W.kitOne K t (.type c)=O b/\Q (.bl b) H
def xZ:dQ X (.builtin "isinstance") (Rv X.K):=by
 intro d s Z H f i Q I r h;obtain⟨x,c,t,b,rfl,ty,e,q⟩:=h;obtain⟨u,g,rfl,r1,r2⟩:=vals2 r;cases r2;exact sI I r1 ty e λj=>⟨.bl b,H,I.tok _,rfl,q⟩
def xn(K:Xj)(d:Ty):(PySem.W.kitOne K (.type "NoneType") (.type (Ha d))=O S)/\(PySem.W.kitOne K (.type "bool") (.type (Ha d))=O (oP d (.bl J)))/\(PySem.W.kitOne K (.type "int") (.type (Ha d))=O (oP d (.int 0))) ∧
  (PySem.W.kitOne K (.type "str") (.type (Ha d))=O (oP d (.str [])))/\(PySem.W.kitOne K (.type "list") (.type (Ha d))=O (oP d (.lst [])))/\(PySem.W.kitOne K (.type "tuple") (.type (Ha d))=O (oP d (.tup [])))/\(PySem.W.kitOne K (.type "dict") (.type (Ha d))=O (oP d (.dct 0 []))):=by
 cases d<;>refine⟨?_,?_,?_,?_,?_,?_,?_⟩<;>kernel_rfl
def CF{H:Hp}{v:V}{t:T}{F:Wn}(d:Ty)(r:Rp G H v t F)(h:qE t=J):∃g,Ey G.K H v g/\PySem.W.kitOne G.K g (.type (Ha d))=O (oP d t):=by
 obtain⟨k1,k2,k3,k4,k5,k6,k7⟩:=xn G.K d;cases r with
 |non=>exact⟨_,.non,by rw[k1];cases d<;>rfl⟩
 |bl b=>exact⟨_,.bl b,by rw[k2];cases d<;>rfl⟩
 |int i=>exact⟨_,.int i,by rw[k3];cases d<;>rfl⟩
 |str s _=>exact⟨_,.str _,by rw[k4];cases d<;>rfl⟩
 |scr _=>cases h
 |tup f q=>exact⟨_,.tup f,by rw[k6];cases d<;>rfl⟩
 |lst f q=>exact⟨_,.lst f,by rw[k5];cases d<;>rfl⟩
 |dct f l q=>exact⟨_,.dK f,by rw[k7];cases d<;>rfl⟩
 |dctT f l q=>exact⟨_,.dT f,by rw[k7];cases d<;>rfl⟩
 |dctN f l n q=>simp at h
 |dctZ _ _ _=>cases h
 |exc _ _=>cases h
 |ins _ _ _ _=>cases h
 |mk _ _=>cases h
def CW(f:Ty){x:Str}{n d:Pos}(B:PV G X a ca)(A:Gl X "isinstance")(w:X.mg "isinstance" = Y)(I:Gl X x)(N:X.mg x=Y)(q:bootBuiltins x=O (.type (Ha f)))(j:X.K=G.K:=by rfl)(u:x ≠ "__name__" := by decide)(R:K2 x:=by decide)(i:KM [a,.Name x d] X.env=(S,eval a X.env) :: KM [.Name x d] X.env:=by rfl)(W:KM [.Name x d] X.env=(S,eval (.Name x d) X.env) :: KM [] X.env:=by rfl)(g:(backTo pos (KM [Expr.Name x d] X.env)).any (·.1)=S:=by rfl) :
  PV G X (.Call (.Name "isinstance" n) [a,.Name x d] [] pos) (Lg f ca) :=
 PE.weak (ox xZ A w boot_isinstance (dc B (dc (xV (v:=.ty (Ha f)) I N q M u R) eQ W) i) (by decide) M i g) λZ H Q r=>by
  obtain⟨L,U,m,t,s,e,k⟩:=r;unfold Lg at e;obtain⟨⟨o,y⟩,D,h⟩:=Zz.mp e;split at h
  ·rename_i z;cases h;refine⟨L,U,o,y,s,D,λv P F e1 r1 f1=>?_⟩;obtain⟨l,h1,C⟩:=CF f r1 z;exact⟨v,Ha f,l,_,rfl,by rw[j];exact h1,by rw[j];exact C,k _ P _ e1 (.bl _) Fp.nil⟩
  ·cases h
end
section
variable{G:Gx}{X:Cx}{a b c e:Expr}{es:List Expr}{ca cb cc:Ex}{cs:D5}{pos p:Pos}
theorem qq{H:Hp}:∀{d:List V}{l:Vd}{g:Yb}{f:List Tx},tx G H d l g->strs? l=O f->d=f.map λs=>V.str (sx s)
 |_,_,_,_,.nil,e=>by cases e;rfl
 |_,_,_,_,.cons (t:=t) r q,e=>by
  cases t with
  |str s =>
   simp only[strs?]at e;obtain⟨h,e1,e2⟩:=Zn.mp e;subst e2;rw[qq q e1,r.str_inv.1];rfl
  |_=>cases e
end
end VS
end
section
namespace VS
@[simp] def IH(x y:Val):Ve:=match x.2 with
 |.dct 0 l=>if iP y.2 then (dE l y.2).map (sub x.1) else Y
 |_=>aJ x y
def flat:T->Bool
 |.non=>J
 |.bl _=>J
 |.int _=>J
 |.str _=>J
 |_=>S
@[simp] def kR(x y:Val):Ve:=match y.2 with
 |.dct 0 l=>if iP x.2 then O (.fr,.bl (dE l x.2).isSome) else Y
 |.lst l=>if flat x.2&&l.all flat then O (.fr,.bl (l.any λy=>eqT y x.2)) else Y
 |.tup l=>if flat x.2&&l.all flat then O (.fr,.bl (l.any λy=>eqT y x.2)) else Y
 |_=>Y
@[simp] def C5(x y:Val):Ve:=match kR x y with
 |some (_,.bl b)=>O (.fr,.bl (!b))
 |_=>Y
noncomputable def pm{α:Type}(f:T->Option (T×α)):List Ky->T->Option (T×α)
 |[],t=>f t
 |.fld k :: r,t=>match t with
  |.obj (c+1) (q :: fs)=>(fs.findIdx? λp=>p.1==k).bind λi=>(fs[i]?).bind λp=>(pm f r p.2).map λz=>(.obj (c+1) (q :: fs.set i (p.1,z.1)),z.2)
  |_=>Y
 |.un :: r,t=>match t with
  |.obj 0 [(0,.bl true),(m,x)]=>(pm f r x).map λz=>(.obj 0 [(0,.bl J),(m,z.1)],z.2)
  |_=>Y
 |.at k :: r,t=>match t with
  |.lst l=>match k with
   |.int i=>(Et l.length i).bind λj=>(l[j]?).bind λx=>(pm f r x).map λz=>(.lst (l.set j z.1),z.2)
   |_=>Y
  |.dct 0 l=>if iP k then (l.findIdx? λp=>eqT p.1 k).bind λi=>(l[i]?).bind λp=>(pm f r p.2).map λz=>(.dct 0 (l.set i (p.1,z.1)),z.2) else Y
  |_=>Y
end VS
end
section
namespace VS
open PySem PySem.Spec PyProof.Rows p0
section
variable{G:Gx}{X:Cx}{a b c e:Expr}{es:List Expr}{ca cb cc:Ex}{cs:D5}{pos p:Pos}
mutual
def Ff:T->PyData
 |.non=>.none
 |.bl b=>.bool b
 |.int i=>.int i
 |.str s=>.str (sx s)
 |.tup l=>.tuple (jV l)
 |.lst l=>.list (jV l)
 |_=>.none
def jV:Vd->List PyData
 |[]=>[]
 |t :: r=>Ff t :: jV r
end
def CH{s:Tx}(h:ip s):PyData.strOk (sx s)=J:=by
 unfold PyData.strOk sx;simp only[Array.all_eq_true,decide_eq_true_eq];intro i a;have:s.toArray[i]∈s:=by simp
 have:=h.2 _ this;simpa using this
def vD{s t:Tx}:(sx s==sx t)=(s==t):=by
 rw[Wv,beq_iff_eq,beq_iff_eq];constructor
 ·intro h;have:(sx s).cps=(sx t).cps:=by rw[h]
  simpa[sx] using this
 ·intro h;rw[h]
mutual
theorem mG:∀(n k:Nat)(t u:T),Ek n t=J->Ek k u=J->PyData.eqv (Ff t) (Ff u)=eqT t u
 |n,k,t,u,h1,a=>by
  cases t with
  |scr _=>cases n<;>simp at h1
  |dct _ _=>cases n<;>simp at h1
  |obj _ _=>cases n<;>simp at h1
  |tup l =>
   cases n with
   |zero=>simp at h1
   |succ n =>
    cases u with
    |tup r =>
     cases k with
     |zero=>simp at a
     |succ k =>
      simp only[Ff,PyData.eqv,eqT];exact kD n k l r (by simpa using h1) (by simpa using a)
    |scr _=>cases k<;>simp at a
    |dct _ _=>cases k<;>simp at a
    |obj _ _=>cases k<;>simp at a
    |_=>simp[Ff,PyData.eqv,eqT]
  |lst l =>
   cases n with
   |zero=>simp at h1
   |succ n =>
    cases u with
    |lst r =>
     cases k with
     |zero=>simp at a
     |succ k =>
      simp only[Ff,PyData.eqv,eqT];exact kD n k l r (by simpa using h1) (by simpa using a)
    |scr _=>cases k<;>simp at a
    |dct _ _=>cases k<;>simp at a
    |obj _ _=>cases k<;>simp at a
    |_=>simp[Ff,PyData.eqv,eqT]
  |str s =>
   cases u with
   |str r=>simp only[Ff,PyData.eqv,eqT];exact vD
   |scr _=>cases k<;>simp at a
   |dct _ _=>cases k<;>simp at a
   |obj _ _=>cases k<;>simp at a
   |_=>simp[Ff,PyData.eqv,eqT]
  |_ =>
   cases u with
   |scr _=>cases k<;>simp at a
   |dct _ _=>cases k<;>simp at a
   |obj _ _=>cases k<;>simp at a
   |_=>simp[Ff,PyData.eqv,eqT]
theorem kD:∀(n k:Nat)(l r:Vd),(∀t∈l,Ek n t=J)->(∀t∈r,Ek k t=J)->PyData.eqvAll (jV l) (jV r)=il l r
 |_,_,[],[],_,_=>rfl
 |_,_,[],_ :: _,_,_=>rfl
 |_,_,_ :: _,[],_,_=>rfl
 |n,k,t :: l,u :: r,h1,b=>by
  simp only[jV,PyData.eqvAll,il];rw[mG n k t u (h1 t Zx) (b u Zx),kD n k l r (λx a=>h1 x (Zw _ a)) λx a=>b x (Zw _ a)]
end
def Rp.Hk{H:Hp}{v:V}{d:Vd}{F:Wn}(r:Rp G H v (.tup d) F):∃b a e,v=.ref b/\H b=O (.tup a)/\tx G H a d e:=by
 cases r with
 |tup h q=>exact⟨_,_,_,rfl,h,q⟩
def Rp.Hs{H:Hp}{v:V}{d:Vd}{F:Wn}(r:Rp G H v (.lst d) F):∃b a e,v=.ref b/\H b=O (.lst a)/\tx G H a d e:=by
 cases r with
 |lst h q=>exact⟨_,_,_,rfl,h,q⟩
theorem jb{H:Hp}{s:FB}{n:Nat}(f:∀{v:V}{t:T}{F:Wn}{u:IR},Rp G H v t F->RelV v u->Ek n t=J->∃b,Reads s.heap u (Ff t) b/\(Ff t).canLay0=J/\(Ff t).depth<=n):∀{d:List V}{a:Vd}{m:Yb}{e:Wm},tx G H d a m->aQ d e->(∀t∈a,Ek n t=J) →
  ∃b,ReadsAll s.heap e (jV a) b/\PyData.canLayAll0 (jV a)=J/\PyData.depthAll (jV a)<=n
 |_,_,_,_,.nil,r,_=>by cases r;exact⟨_,.nil,rfl,ZM _⟩
 |_,_,_,_,.cons p q,r,h=>by
  cases r with
  |cons r1 r2 =>
   obtain⟨b,h1,i,o⟩:=f p r1 (h _ Zx);obtain⟨bs,l,j,w⟩:=jb f q r2 λt g=>h t (Zw _ g);exact⟨_,.cons h1 l,by simp only[jV,PyData.canLayAll0,i,j,Bool.and_self],by simp only[jV,PyData.depthAll];lia⟩
def jS{h:SC}{H:Hp}{v:V}{t:T}{F:Wn}{u:IR}{n:Nat}(r:Rp G H v t F)(a:RelV v u)(d:flat t=J):∃e,Reads h u (Ff t) e/\(Ff t).canLay0=J/\(Ff t).depth<=n:=by
 cases r with
 |non=>cases a;exact⟨_,.none,rfl,ZM _⟩
 |bl b=>cases a;exact⟨_,.bool b,rfl,ZM _⟩
 |int i=>obtain⟨t,rfl⟩:=a;exact⟨_,.int i t,rfl,ZM _⟩
 |str s h=>obtain⟨t,rfl⟩:=a;exact⟨_,.str _ t,CH h,ZM _⟩
 |_=>cases d
def iB{H:Hp}{d:Yh}{Z:p0.St}{s:FB}(I:Inv X d Z H s)(n:Nat):∀{v:V}{t:T}{F:Wn}{u:IR},Rp G H v t F->RelV v u->Ek n t=J->∃p,Reads s.heap u (Ff t) p/\(Ff t).canLay0=J/\(Ff t).depth<=n:=by
 induction n with
 |zero =>
  intro v t F u r a h;refine jS r a ?_;cases t<;>first | rfl | exact h
 |succ n w =>
  intro v t F u r a h;cases t with
  |tup l =>
   obtain⟨b,x,D,rfl,e,q⟩:=Rp.Hk r;cases a;obtain⟨A,f,y,C⟩:=I.tuple (El.of e);obtain⟨p,h1,m,j⟩:=jb w q f (by simpa using h);obtain⟨o,g,i,B,hd⟩:=y;exact⟨_,.tuple g i hd (by simpa using h1),m,by simp only[Ff,PyData.depth];exact Y2 j⟩
  |lst l =>
   obtain⟨b,x,D,rfl,e,q⟩:=Rp.Hs r;cases a;obtain⟨A,f,z,C⟩:=I.list (DM.of e);obtain⟨p,h1,m,j⟩:=jb w q f (by simpa using h);obtain⟨o,g,i,B,hd⟩:=z.isList;exact⟨_,.list g i hd (by simpa using h1),m,by simp only[Ff,PyData.depth];exact Y2 j⟩
  |scr _=>simp at h
  |dct _ _=>simp at h
  |obj _ _=>simp at h
  |_=>exact jS r a M
def yO(G:Gx)(a:Bool):R2:=λx y H Q=>∃t u F b,Rp G H x t F/\Rp G H y u b/\Ek 60 t=J/\Ek 60 u=J/\Q (.bl (if a then !eqT t u else eqT t u)) H
def g7{d:PyData}(h:d.canLay0=J)(a:d.depth<=60):SeqAt.shaped d=J:=by
 unfold SeqAt.shaped;rw[h,W7];exact ZT (by lia)
def vp(f:X.A.units+64<cLine):OpR X (SB .Eq) (yO G S):=by
 intro a s Z H x y v u Q I e d h;obtain⟨t,w,F,m,r1,r2,h1,b,q⟩:=h;obtain⟨l,a1,a2,a3⟩:=iB I 60 r1 e h1;obtain⟨bs,j,i,g⟩:=iB I 60 r2 d b;refine eq_dataH a1 j (g7 a2 a3) (g7 i g) f ⟨.bl _,H,I,rfl,?_⟩;rw[mG 60 60 t w h1 b];exact q
def uD(f:X.A.units+64<cLine):OpR X (SB .NotEq) (yO G J):=by
 intro a s Z H x y v u Q I e d h;obtain⟨t,w,F,m,r1,r2,h1,b,q⟩:=h;obtain⟨l,a1,a2,a3⟩:=iB I 60 r1 e h1;obtain⟨bs,j,i,g⟩:=iB I 60 r2 d b;refine ne_dataH a1 j (g7 a2 a3) (g7 i g) f ⟨.bl _,H,I,rfl,?_⟩;rw[mG 60 60 t w h1 b];exact q
def zB:fG G (yO G S) oEq:=by
 intro L U b H x y u w f d m t Q a e k;unfold oEq at e;split at e
 ·rename_i h;cases e;exact⟨_,_,_,_,a.r1,a.r2,h.1,h.2,bz k (.bl _)⟩
 ·cases e
def zC:fG G (yO G J) HG:=by
 intro L U b H x y u w f d m t Q a e k;unfold HG at e;split at e
 ·rename_i h;cases e;exact⟨_,_,_,_,a.r1,a.r2,h.1,h.2,bz k (.bl _)⟩
 ·cases e
def tells_eq:Tells oEq:=by
 intro x y m t e;unfold oEq at e;split at e<;>first | (cases e;exact⟨_,rfl⟩) | cases e
def oN:Tells HG:=by
 intro x y m t e;unfold HG at e;split at e<;>first | (cases e;exact⟨_,rfl⟩) | cases e
end
structure Ed(L:DJ)(U:VS.Env)(H:Hp)(L':DJ)(U':VS.Env)(H':Hp):Prop where
 keep:∀a o,H a=some o->¬bT L U a->H' a=some o/\¬bT L' U' a
 DY:∀a,H a≠none->H' a≠none
 ow:∀a,bT L' U' a->bT L U a\/H a=none
 pu:∀a,di L' U' a->di L U a\/bT L U a\/H a=none
 kept:Kept H H'
theorem Ed.refl(L:DJ)(U:VS.Env)(H:Hp):Ed L U H L U H:=⟨λa o h n=>⟨h,n⟩,λ_ h=>h,λ_ h=>.inl h,λ_ h=>.inl h,Kept.refl H⟩
theorem Ed.none{L g:DJ}{U d:VS.Env}{H b:Hp}(f:Ed L U H g d b){a:GM}(h:b a=Y):H a=Y:=by
 cases e:H a with
 |none=>rfl
 |some o=>exact absurd h (f.DY a (by rw[e];exact λz=>nomatch z))
theorem Ed.trans{L i e:DJ}{U d b:VS.Env}{H l j:Hp}(f:Ed L U H i d l)(g:Ed i d l e b j):Ed L U H e b j where
 keep:=λa o h n=>let ⟨h1,m⟩:=f.keep a o h n;g.keep a o h1 m
 DY:=λa h=>g.DY a (f.DY a h)
 ow:=λa h=>by
  rcases g.ow a h with h | h
  ·exact f.ow a h
  ·exact .inr (f.none h)
 pu:=λa h=>by
  rcases g.pu a h with h | h | h
  ·exact f.pu a h
  ·rcases f.ow a h with h | h
   ·exact .inr (.inl h)
   ·exact .inr (.inr h)
  ·exact .inr (.inr (f.none h))
 kept:=f.kept.trans g.kept
def Ed.same{L:DJ}{U:VS.Env}{H b:Hp}(e:aM H b):Ed L U H L U b :=
 ⟨λa o h n=>⟨e a o h,n⟩,λa h z=>h (e.free z),λ_ h=>.inl h,λ_ h=>.inl h,Kept.of e⟩
def o8(L:DJ)(U:VS.Env)(H:Hp):Md->Wn->Prop
 |.fr,F=>F.Nodup/\∀a∈F,H a=Y\/bT L U a
 |_,F=>∀a∈F,H a=Y\/di L U a\/bT L U a
theorem o8.back{L e:DJ}{U d:VS.Env}{H g:Hp}(f:Ed L U H e d g){F:Wn}:∀{m:Md},o8 e d g m F->o8 L U H m F
 |.fr,h=>⟨h.1,λa b=>(h.2 a b).elim (λz=>.inl (f.none z)) λz=>(f.ow a z).elim .inr .inl⟩
 |.pu,h=>λa b=>by
  rcases h a b with z | z | z
  ·exact .inl (f.none z)
  ·rcases f.pu a z with z | z | z
   ·exact .inr (.inl z)
   ·exact .inr (.inr z)
   ·exact .inl z
  ·exact(f.ow a z).elim (λz=>.inr (.inr z)) .inl
 |.bo,h=>λa b=>by
  rcases h a b with z | z | z
  ·exact .inl (f.none z)
  ·rcases f.pu a z with z | z | z
   ·exact .inr (.inl z)
   ·exact .inr (.inr z)
   ·exact .inl z
  ·exact(f.ow a z).elim (λz=>.inr (.inr z)) .inl
def Nx(G:Gx)(L:DJ)(U:VS.Env)(H:Hp)(d:VS.Env)(k:p0.St->Hp->Prop):Prop:=∀e b a,SR G e d b a->Ed L U H e d a->k b a
def rP(G:Gx)(L:DJ)(U:VS.Env)(H:Hp)(D:Ends):Out->Prop
 |.nx a=>Nx G L U H a D.nx
 |.bk a=>Nx G L U H a D.bk
 |.ct a=>Nx G L U H a D.ct
 |.rt v a=>∀u b F d e,SR G d a e b->Ed L U H d a b->Rp G b u v.2 F->o8 L U H v.1 F->D.rt u b
def tS(G:Gx)(c:Sx):TS:=λD Z H=>∃L U o,SR G L U Z H/\c U=O o/\rP G L U H D o
def PSV(G:Gx)(X:Cx)(a:Stmt)(c:Sx):Prop:=PS X a (tS G c)
def jm(G:Gx)(X:Cx)(a:List Stmt)(c:Sx):Prop:=Fu X a (tS G c)
def PS.weak{X:Cx}{e:Stmt}{t b:TS}(h:PS X e t)(w:∀D Z H,b D Z H->t D Z H):PS X e b:=λa s Z H D I q=>h a s Z H D I (w D Z H q)
def Fu.weak{X:Cx}{e:List Stmt}{t b:TS}(h:Fu X e t)(w:∀D Z H,b D Z H->t D Z H):Fu X e b:=λa s Z H D I q=>h a s Z H D I (w D Z H q)
theorem rP.back{G:Gx}{L j:DJ}{U i:VS.Env}{H l:Hp}{D:Ends}(f:Ed L U H j i l):∀{o:Out},rP G L U H D o->rP G j i l D o
 |.nx e,h=>λb a d s g=>h b a d s (f.trans g)
 |.bk e,h=>λb a d s g=>h b a d s (f.trans g)
 |.ct e,h=>λb a d s g=>h b a d s (f.trans g)
 |.rt v e,h=>λu d F b a s g r q=>h u d F b a s (f.trans g) r (q.back f)
section
variable{G:Gx}{X:Cx}{st:Stmt}{Kl:List Stmt}{c c1 c2:Sx}{pos:Pos}{e:Expr}{ce:Ex}
def df:jm G X [] h9:=Fu.weak yJ λD Z H a=>by
 obtain⟨L,U,o,s,e,k⟩:=a;cases (show O (Out.nx U)=O o from e);exact k L Z H s (Ed.refl _ _ _)
def ah(h1:PSV G X st c1)(h:jm G X Kl c2):jm G X (st :: Kl) (au c1 c2):=Fu.weak (uJ h1 h) λD Z H g=>by
 obtain⟨L,U,o,s,e,k⟩:=g;unfold au at e;obtain⟨b,e1,e2⟩:=Zz.mp e;refine⟨L,U,b,s,e1,?_⟩;cases b with
 |nx a=>exact λi j l d f=>⟨i,a,o,d,e2,k.back f⟩
 |rt v a=>cases e2;exact k
 |bk a=>cases e2;exact k
 |ct a=>cases e2;exact k
def d6{t:Expr}{f:Ex}{a b:List Stmt}(i:Gn G X t f)(l:jm G X a c1)(j:jm G X b c2):PSV G X (.If t a b pos) (FF f c1 c2):=PS.weak (Cm i l j) λD Z H h=>by
 obtain⟨L,U,o,s,e,k⟩:=h;unfold FF at e;obtain⟨⟨m,x⟩,n,e1⟩:=Zz.mp e;obtain⟨g,p,e2⟩:=Zz.mp e1;refine⟨L,U,m,x,g,s,n,p,λq d=>?_⟩;cases g with
 |true =>
  rw[Zr M]at e2;exact Ac ⟨L,U,o,s.same d,e2,k.back (Ed.same d)⟩
 |false =>
  rw[Zm Zk]at e2;exact Ag ⟨L,U,o,s.same d,e2,k.back (Ed.same d)⟩
theorem Fp.ret{L:DJ}{U:VS.Env}{H:Hp}{F:Wn}:∀{m:Md},Fp L U H m F->o8 L U H (match m with | .bo=>.pu | m=>m) F
 |.fr,f=>⟨f.1,λa b=>.inl (f.2 a b)⟩
 |.pu,f=>λa b=>(f a b).elim .inl λz=>.inr (.inl z)
 |.bo,f=>f
def bQ(b:PV G X e ce):PSV G X (.Return (O e) pos) (eE ce):=PS.weak (p9 b) λD Z H a=>by
 obtain⟨L,U,o,s,e,k⟩:=a;unfold eE at e;obtain⟨⟨m,x⟩,d,e1⟩:=Zz.mp e;cases e1;exact⟨L,U,m,x,s,d,λv f F e1 r1 f1=>k v f F L Z (s.same e1) (Ed.same e1) r1 f1.ret⟩
def bU{U:VS.Env}{i j:Nat}{c:Cell}(h:(U.set i Y)[j]?=O (O c)):j≠i/\U[j]?=O (O c):=by
 rw[Vr]at h;split at h
 ·split at h<;>cases h
 ·rename_i n;exact⟨λz=>n z.symm,h⟩
def SR.drop{L:DJ}{U:VS.Env}{Z:p0.St}{H:Hp}(s:SR G L U Z H)(i:Nat):SR G L (U.set i Y) Z H :=
 ⟨by rw[XO];exact s.len,λj c h=>s.rp j c (bU h).2,λj t h=>s.nd j t (bU h).2,λj k t c h1 a n=>s.sep j k t c (bU h1).2 (bU a).2 n⟩
def Ed.drop{L:DJ}{U:VS.Env}{H:Hp}(i:Nat):Ed L U H L (U.set i Y) H :=
 ⟨λa o h n=>⟨h,λ⟨j,t,h1,b⟩=>n ⟨j,t,(bU h1).2,b⟩⟩,λ_ h=>h,λa ⟨j,t,h1,b⟩=>.inl ⟨j,t,(bU h1).2,b⟩,λa ⟨j,t,h1,b⟩=>.inl ⟨j,t,(bU h1).2,b⟩,Kept.refl H⟩
def gg(i:Nat){x:Str}{p:Pos}(n:X.N[i]?=O x:=by rfl)(g:FX X.env.scope x:=by first | exact Or.inl M | exact Or.inr (Or.inl M) | exact Or.inr (Or.inr M))(l:K2 x:=by decide)(r:K3 x:=by decide):PSV G X (.Return (O (.Name x p)) pos) (jv i):=PS.weak (p9 (fh n g l r)) λD Z H j=>by
 obtain⟨L,U,o,s,e,k⟩:=j;unfold jv at e;split at e
 ·rename_i t h;obtain⟨v,h1,b⟩:=s.rp _ _ h;cases e;exact⟨v,h1,k v H (L i) L Z (s.drop i) (Ed.drop i) b ⟨s.nd i t h,λa d=>.inr ⟨i,t,h,d⟩⟩⟩
 ·rename_i t h;obtain⟨v,h1,b⟩:=s.rp _ _ h;cases e;refine⟨v,h1,k v H (L i) L Z s (Ed.refl _ _ _) b ?_⟩;have f:Fp L U H .pu (L i):=λa d=>.inr ⟨i,t,h,d⟩;have f2:=(f.up b).ret;have:(match (VS.up .pu (jB (.pu t))).1 with | .bo=>Md.pu | m=>m)=(VS.up .pu t).1:=by
   show (match (VS.up .pu t).1 with | .bo=>Md.pu | m=>m)=_;unfold VS.up;split<;>(rename_i q;revert q;split<;>simp)
  rw[this]at f2;exact f2
 ·cases e
def ic(L:DJ)(i:Nat)(F:Wn):DJ:=λj=>if j=i then F else L j
def fN{L:DJ}{i:Nat}{F:Wn}:ic L i F i=F:=Zr M
def fQ{L:DJ}{i j:Nat}{F:Wn}(h:j≠i):ic L i F j=L j:=Zm h
def gu{U:VS.Env}{i j:Nat}{c a:Cell}(h:(U.set i (O c))[j]?=O (O a)):(j=i/\a=c)\/(j≠i/\U[j]?=O (O a)):=by
 rw[Vr]at h;split at h
 ·rename_i e;split at h
  ·exact .inl ⟨e.symm,(ZJ (ZJ h)).symm⟩
  ·cases h
 ·rename_i n;exact .inr ⟨λz=>n z.symm,h⟩
def SR.put{L:DJ}{U:VS.Env}{Z:p0.St}{H H':Hp}{i:Nat}{v:V}{c:Cell}{F:Wn}(s:SR G L U Z H)(p:i<U.length)(r:Rp G H' v (jB c) F)(o:∀j b,j≠i->U[j]?=O (O b)->∀w,Rp G H w (jB b) (L j)->Rp G H' w (jB b) (L j))(u:∀t,c=.ow t->F.Nodup)(x:∀t,c=.ow t->∀j b,j≠i->U[j]?=O (O b)->∀a∈F,a∉L j)(q:∀j t,j≠i->U[j]?=O (O (.ow t))->∀a∈L j,a∉F) :
  SR G (ic L i F) (U.set i (O c)) (Z.set i (O v)) H' where
 len:=by rw[XO,XO];exact s.len
 rp:=λj b h=>by
  rcases gu h with⟨rfl,rfl⟩ | ⟨n,h⟩
  ·exact⟨v,by rw[Xp (by rw[← s.len];exact p)],by rw[fN];exact r⟩
  ·obtain⟨w,h1,f⟩:=s.rp j b h;exact⟨w,by rw[Xb (YE n)];exact h1,by rw[fQ n];exact o j b n h w f⟩
 nd:=λj t h=>by
  rcases gu h with⟨rfl,e⟩ | ⟨n,h⟩
  ·rw[fN];exact u t e.symm
  ·rw[fQ n];exact s.nd j t h
 sep:=λj k t b h1 f n=>by
  rcases gu h1 with⟨rfl,e⟩ | ⟨g,m⟩
  ·rcases gu f with⟨rfl,e2⟩ | ⟨d,l⟩
   ·exact absurd M n
   ·rw[fN,fQ d];exact x t e.symm k b d l
  ·rcases gu f with⟨rfl,e2⟩ | ⟨d,l⟩
   ·rw[fN,fQ g];exact q j t g m
   ·rw[fQ g,fQ d];exact s.sep j k t b m l n
def kF{L:DJ}{U:VS.Env}{i:Nat}{c:Cell}{F:Wn}{a:GM}(h:bT (ic L i F) (U.set i (O c)) a):(∃t,c=.ow t/\a∈F)\/bT L U a:=by
 obtain⟨j,t,h1,b⟩:=h;rcases gu h1 with⟨rfl,e⟩ | ⟨n,h1⟩
 ·rw[fN]at b;exact .inl ⟨t,e.symm,b⟩
 ·rw[fQ n]at b;exact .inr ⟨j,t,h1,b⟩
def pJ{L:DJ}{U:VS.Env}{i:Nat}{c:Cell}{F:Wn}{a:GM}(h:di (ic L i F) (U.set i (O c)) a):(∃t,c=.pu t/\a∈F)\/di L U a:=by
 obtain⟨j,t,h1,b⟩:=h;rcases gu h1 with⟨rfl,e⟩ | ⟨n,h1⟩
 ·rw[fN]at b;exact .inl ⟨t,e.symm,b⟩
 ·rw[fQ n]at b;exact .inr ⟨j,t,h1,b⟩
def SR.Hn{L:DJ}{U:VS.Env}{Z:p0.St}{H:Hp}(s:SR G L U Z H){a:GM}(h:bT L U a)(f:di L U a):False:=by
 obtain⟨j,t,h1,d⟩:=h;obtain⟨k,u,b,g⟩:=f;have n:j≠k:=λe=>by subst e;rw[h1]at b;cases b
 exact s.sep j k t _ h1 b n a d g
def SR.val{L:DJ}{U:VS.Env}{Z:p0.St}{H y:Hp}{i:Nat}{v:V}{t:T}{m:Md}{F:Wn}{c:Cell}(s:SR G L U Z H)(B:i<U.length)(e:aM H y)(r:Rp G y v t F)(f:Fp L U H m F)(p:(c=.pu t/\m ≠ .bo)\/(c=.ow t/\m=.fr)):SR G (ic L i F) (U.set i (O c)) (Z.set i (O v)) y/\Ed L U H (ic L i F) (U.set i (O c)) y:=by
 have DY:∀{a},H a=Y->∀j x,U[j]?=O (O x)->a∉L j:=λ{a} h j x g b=>by
  obtain⟨w,_,q⟩:=s.rp j x g;exact DI.td (q.DY a b) h
 have ct:jB c=t:=by rcases p with⟨rfl,_⟩ | ⟨rfl,_⟩<;>rfl
 have A:∀a∈F,H a=Y\/di L U a:=λa b=>by
  rcases p with⟨_,n⟩ | ⟨_,n⟩
  ·exact f.pu n a b
  ·rw[n]at f;exact .inl (f.2 a b)
 constructor
 ·refine s.put B (by rw[ct];exact r) (λj x n g w q=>q.same e) (λu d=>?_) (λu d j x n g a b=>?_) λj u n g a b C=>?_
  ·rcases p with⟨h,_⟩ | ⟨_,h⟩
   ·rw[h]at d;cases d
   ·rw[h]at f;exact f.1
  ·rcases p with⟨h,_⟩ | ⟨_,h⟩
   ·rw[h]at d;cases d
   ·rw[h]at f;exact DY (f.2 a b) j x g
  ·rcases A a C with z | z
   ·exact DY z j _ g b
   ·exact s.Hn ⟨j,u,g,b⟩ z
 ·refine⟨λa o h n=>⟨e a o h,λz=>?_⟩,λa h z=>h (e.free z),λa h=>?_,λa h=>?_,Kept.of e⟩
  ·rcases kF z with⟨u,d,b⟩ | z
   ·rcases p with⟨l,_⟩ | ⟨_,l⟩
    ·rw[l]at d;cases d
    ·rw[l]at f;rw[f.2 a b]at h;cases h
   ·exact n z
  ·rcases kF h with⟨u,d,b⟩ | z
   ·rcases p with⟨l,_⟩ | ⟨_,l⟩
    ·rw[l]at d;cases d
    ·rw[l]at f;exact .inr (f.2 a b)
   ·exact .inl z
  ·rcases pJ h with⟨u,d,b⟩ | z
   ·exact(A a b).elim (λz=>.inr (.inr z)) .inl
   ·exact .inl z
def fR{i:Nat}{x:Str}{a:Pos}(q:PV G X e ce)(r:X.N.Nodup)(n:X.N[i]?=O x:=by rfl)(g:Loc X.env.scope x:=by first | exact Or.inl M | exact Or.inr M)(h:swapsWith e (O (.Name x a)) pos.line X.env=pure S:=by rfl)(p:X.fn x=J\/X.env.scope.names.lookup x=O .local:=by first | exact .inl M | exact .inr M) :
  PSV G X (.Assign [.Name x a] e pos) (jf i ce):=PS.weak (wa r n g q h p) λD Z H j=>by
 obtain⟨L,U,o,s,e,k⟩:=j;unfold jf at e;obtain⟨⟨m,t⟩,w,e1⟩:=Zz.mp e;obtain⟨c,eC,e2⟩:=Zz.mp e1;split at e2
 ·rename_i l;cases e2;refine⟨L,U,m,t,s,w,λv z F y b u=>?_⟩;obtain⟨f,d⟩:=s.val (c:=c) l y b u (by
   unfold cellOf at eC;cases m with
   |fr =>
    simp only[Option.some.injEq]at eC;split at eC
    ·exact .inr ⟨eC.symm,rfl⟩
    ·exact .inl ⟨eC.symm,by decide⟩
   |pu=>cases eC;exact .inl ⟨rfl,by decide⟩
   |bo=>cases eC)
  exact k _ _ z f d
 ·cases e2
def ar{i:Nat}{x:Str}{a:Pos}(r:PV G X e ce)(u:X.N.Nodup)(p:X.N[i]?=O x:=by rfl)(g:Loc X.env.scope x:=by first | exact Or.inl M | exact Or.inr M)(h:swapsWith e (O (.Name x a)) pos.line X.env=pure S:=by rfl)(q:X.fn x=J\/X.env.scope.names.lookup x=O .local:=by first | exact .inl M | exact .inr M) :
  PSV G X (.Assign [.Name x a] e pos) (aK i ce):=PS.weak (wa u p g r h q) λD Z H j=>by
 obtain⟨L,U,o,s,e,k⟩:=j;unfold aK at e;obtain⟨⟨m,t⟩,y,e1⟩:=Zz.mp e;split at e1
 ·cases e1
 ·rename_i l;split at e1
  ·rename_i n;cases e1;refine⟨L,U,m,t,s,y,λv A F z b w=>?_⟩;obtain⟨f,d⟩:=s.val (c:=.pu t) n z b w (.inl ⟨rfl,l⟩);exact k _ _ A f d
  ·cases e1
def SR.frz{L:DJ}{U:VS.Env}{Z:p0.St}{H:Hp}{i:Nat}{t:T}(s:SR G L U Z H)(h:U[i]?=O (O (.ow t))):SR G L (U.set i (O (.pu t))) Z H/\Ed L U H L (U.set i (O (.pu t))) H:=by
 have back:∀{j c},(U.set i (O (.pu t)))[j]?=O (O c)->∃g,U[j]?=O (O g)/\jB g=jB c/\∀u,c=.ow u->g=.ow u:=λ{j c} f=>by
  rcases gu f with⟨rfl,rfl⟩ | ⟨n,f⟩
  ·exact⟨.ow t,h,rfl,λu m=>nomatch m⟩
  ·exact⟨c,f,rfl,λu m=>m⟩
 refine⟨⟨by rw[XO];exact s.len,λj c f=>?_,λj u f=>?_,λj k u c h1 b n=>?_⟩,⟨λa o p n=>⟨p,λ⟨j,u,h1,b⟩=>?_⟩,λ_ h=>h,λa ⟨j,u,h1,b⟩=>?_,λa ⟨j,u,h1,b⟩=>?_,Kept.refl H⟩⟩
 ·obtain⟨g,h1,b,_⟩:=back f;obtain⟨v,d,r⟩:=s.rp j g h1;exact⟨v,d,by rw[← b];exact r⟩
 ·obtain⟨g,h1,_,q⟩:=back f;rw[q u M]at h1;exact s.nd j u h1
 ·obtain⟨c1,d,_,l⟩:=back h1;obtain⟨c2,k1,_,_⟩:=back b;rw[l u M]at d;exact s.sep j k u c2 d k1 n
 ·obtain⟨c1,d,_,l⟩:=back h1;rw[l u M]at d;exact n ⟨j,u,d,b⟩
 ·obtain⟨c1,d,_,l⟩:=back h1;rw[l u M]at d;exact .inl ⟨j,u,d,b⟩
 ·rcases gu h1 with⟨rfl,_⟩ | ⟨n,h1⟩
  ·exact .inr (.inl ⟨j,t,h,b⟩)
  ·exact .inl ⟨j,u,h1,b⟩
def rn(i:Nat)(h:jm G X Kl c):jm G X Kl (au (xF i) c):=Fu.weak h λD Z H f=>by
 obtain⟨L,U,o,s,e,k⟩:=f;unfold au at e;obtain⟨g,e1,e2⟩:=Zz.mp e;unfold xF at e1;split at e1
 ·rename_i t d;cases e1;obtain⟨b,a⟩:=s.frz d;exact⟨L,_,o,b,e2,k.back a⟩
 ·cases e1;exact⟨L,U,o,s,e2,k⟩
 ·cases e1
end
section
variable{G:Gx}{X:Cx}{st:Stmt}{Kl:List Stmt}{c c1 c2:Sx}{pos:Pos}{e:Expr}{es:List Expr}{ce:Ex}{cs:D5}
structure EV(G:Gx)(H:Hp)(v:V)(F:Wn)(t':T)(H2:Hp)(F':Wn):Prop where
 kept:Kept H H2
 keep:∀b o,b∉F->H b=some o->H2 b=some o
 DY:∀b,H b≠none->H2 b≠none
 rp:Rp G H2 v t' F'
 nd:F'.Nodup
 sub:∀a∈F',a∈F\/H a=none
def SR.mut{L:DJ}{U:VS.Env}{Z:p0.St}{H x:Hp}{i:Nat}{v:V}{t r:T}{p:Wn}(s:SR G L U Z H)(m:U[i]?=O (O (.ow t)))(A:Z[i]?=O (O v))(g:EV G H v (L i) r x p) :
  SR G (ic L i p) (U.set i (O (.ow r))) Z x/\Ed L U H (ic L i p) (U.set i (O (.ow r))) x:=by
 have C:i<U.length:=(ZY.mp m).1;have off:∀j d,j≠i->U[j]?=O (O d)->∀a∈L j,a∉L i:=λj d n f a b l=>s.sep i j t d m f (YE n) a l b;have es:Z.set i (O v)=Z:=by
  obtain⟨h,e⟩:=ZY.mp A;rw[← e];exact List.set_getElem_self h
 have new:∀a∈p,∀j d,j≠i->U[j]?=O (O d)->a∉L j:=λa b j d n f l=>by
  rcases g.sub a b with z | z
  ·exact off j d n f a l z
  ·obtain⟨w,_,q⟩:=s.rp j d f;exact DI.td (q.DY a l) z
 constructor
 ·have:=s.put (c:=.ow r) (F:=p) (H':=x) (v:=v) C g.rp (λj d n f w q=>q.keep g.kept λa b o B=>g.keep a o (off j d n f a b) B) (λ_ _=>g.nd) (λu y j d n f a b=>new a b j d n f) λj u n f a b l=>new a l j _ n f b;rw[es]at this;exact this
 ·refine⟨λa o h n=>⟨g.keep a o (λz=>n ⟨i,t,m,z⟩) h,λz=>?_⟩,g.DY,λa h=>?_,λa h=>?_,g.kept⟩
  ·rcases kF z with⟨u,_,b⟩ | z
   ·rcases g.sub a b with z | z
    ·exact n ⟨i,t,m,z⟩
    ·rw[z]at h;cases h
   ·exact n z
  ·rcases kF h with⟨u,_,b⟩ | z
   ·rcases g.sub a b with z | z
    ·exact .inl ⟨i,t,m,z⟩
    ·exact .inr z
   ·exact .inl z
  ·rcases pJ h with⟨u,y,b⟩ | z
   ·cases y
   ·exact .inl z
def zy(G:Gx)(r:V->List V->Hp->VK->Prop)(f:T->Vf->Option (T×Val)):Prop:=∀(L:DJ)(U:VS.Env)(H g:Hp)(v:V)(t b:T)(F:Wn)(l:Vf)(a:List V)(h:Yb)(x:Val)(Q:VK),
 Rp G H v t F->F.Nodup->Args G L U H g l a h->f t l=O (b,x)->(∀u d i,EV G H v F b d i->Q u d)->r v a g Q
def vc{p m:String}{a x:Str}{r:V->List V->Hp->VK->Prop}{f:T->Vf->Option (T×Val)}{b d j:Pos}(i:Nat)(W:PlainAttrs p)(h:Slot p a m)(KD:typeOf (.builtin m)=pure (.type "method_descriptor"))(hm:LF X m r)(ok:zy G r f)(hT:∀H v t F l z,Rp G H v t F->f t l=O z->tyV G.K p v H)(ha:Fc G X (e :: es) cs)(hK:X.K=G.K:=by rfl)(hN:X.N[i]?=O x:=by rfl)(hv:FX X.env.scope x:=by first | exact Or.inl M | exact Or.inr (Or.inl M) | exact Or.inr (Or.inr M))(hd:K2 x:=by decide)(D4:K3 x:=by decide)(Ge:SZ (.Name x j) a X.env (eval (.Name x j) X.env)=eval (.Name x j) X.env:=by rfl)(Gy:((backTo d (KM (e :: es) X.env)).all (λx=>!x.1)&&(backToKw d (P3 [] X.env)).all (λx=>x.1.isSome)
   && decide ((e :: es).length+([]:List Keyword).length+(if ([]:List Keyword).isEmpty then 0 else 1)<30))=J:=by rfl)(E3:(b.endLine==d.line)=J:=by rfl)(hs:K0 e es X:=by rfl)(E2:K1 d es X:=by rfl)(KG:swapsWith (.Call (.Attribute (.Name x j) a b) (e :: es) [] d) Y pos.line X.env=pure S:=by rfl) :
  PSV G X (.Expr (.Call (.Attribute (.Name x j) a b) (e :: es) [] d) pos) (sX (mD i [] f cs)) :=
 PS.weak (lT (rB W h KD hm (fh hN hv hd D4) ha Ge Gy E3 hs E2) KG) λD Z H hq=>by
  obtain⟨L,U,o,s,e,k⟩:=hq;unfold sX mD at e;obtain⟨⟨q,U'⟩,e1,e2⟩:=Zn.mp e;split at e1
  ·rename_i t n;obtain⟨ks,ek,e3⟩:=Zz.mp e1;cases (show O ([]:List Ky)=O ks from ek);obtain⟨l,el,e4⟩:=Zz.mp e3;obtain⟨⟨w,x2⟩,e5,e6⟩:=Zn.mp e4;cases e6;cases e2;obtain⟨v,h1,y⟩:=s.rp _ _ n;have A:f t l=O (w,q):=e5;refine⟨v,h1,by rw[hK];exact hT H v t _ l _ y A,L,U,l,s,el,λI H' Fs R Q P=>?_⟩;refine ok L U H H' v t w (L i) l I Fs q _ y (s.nd i t n) ⟨R,Q,P⟩ A λu H2 F' g=>?_;obtain⟨C,B⟩:=s.mut n h1 g;exact k _ Z H2 C B
  ·cases e1
theorem EV.upd{H d:Hp}{v:V}{F:Wn}{a:GM}{o:HO}{t':T}{f:Wn}(e:aM H d)(n:a∈F)(l:DI (d a))(r:Rp G (upd d a o) v t' f)(j:f.Nodup)(g:∀a∈f,a∈F\/H a=Y):EV G H v F t' (upd d a o) f :=
 ⟨(Kept.of e).trans (Kept.upd (.inl l)),λb i m h=>by rw[av (λz=>m (by rw[z];exact n))];exact e b i h,
  λb h z=>by
   by_cases q:b=a
   ·subst q;rw[aw]at z;cases z
   ·rw[av q]at z;exact h (e.free z),r,j,g⟩
def tx.off{H:Hp}{f:List V}{g:Vd}{d:Yb}{a:GM}{o:HO}(r:tx G H f g d)(j:DI (H a))(h:a∉d.flatten):tx G (upd H a o) f g d :=
 r.keep (Kept.upd (.inl j)) λb l m i=>by rw[av (λz=>h (by rw[← z];exact l))];exact i
def qU{v:Val}{t:T}(h:fit v=O t):v=(.fr,t):=by
 obtain⟨m,x⟩:=v;unfold fit at h;cases m<;>first | (cases h;rfl) | cases h
def jr:zy G jO bx:=by
 intro L U H n v t Z F l u R x Q r nd A e k;unfold bx at e;split at e
 ·rename_i W y;obtain⟨z,I,e1⟩:=Zz.mp e;have N:=qU I;subst N;split at e1
  ·rename_i C;cases e1;obtain⟨a,q,p,rfl,rfl,j,h⟩:=r.lst_inv;obtain⟨w,g,rfl,rfl,P⟩:=(show tx G n u [z] R from A.rp).one;have f:Fp L U H .fr g:=A.fp.each 0 _ _ M M;have s:n a=O (.lst q):=A.same a _ j;have i:DI (n a):=by rw[s];exact True.intro
   have na:a∉p.flatten:=(ZU.mp nd).1;have nw:a∉g:=λz=>by rw[f.2 a z]at j;cases j
   refine⟨a,q,w,rfl,rfl,s,by rw[h.len.1];exact C,k _ _ (a :: (p++[g]).flatten) ?_⟩;have off:∀b∈p.flatten,b∉g:=λb d hw=>DI.td (h.DY b d) (f.2 b hw);refine EV.upd A.same Zx i (.lst aw (((h.same A.same).off i na).append (.cons (P.keep (Kept.upd (.inl i)) λb d o B=>by rw[av (λz=>nw (by rw[← z];exact d))];exact B) .nil))) ?_ ?_
   ·rw[Gk];refine ZU.mpr ⟨λm=>?_,ZA.mpr ⟨(ZU.mp nd).2,by simpa using f.1,λb d c D z=>?_⟩⟩
    ·rcases Zc.mp m with m | m
     ·exact na m
     ·exact nw (by simpa using m)
    ·subst z;exact off b d (by simpa using D)
   ·intro b d;rcases Zo.mp d with rfl | d
    ·exact .inl Zx
    ·rw[Gk]at d;rcases Zc.mp d with d | d
     ·exact .inl (Zw _ d)
     ·exact .inr (f.2 b (by simpa using d))
  ·cases e1
 ·cases e
def ub{H:Hp}{v:V}{b:Vd}{F:Wn}(r:Rp G H v (.lst b) F):tyV G.K "list" v H:=by
 obtain⟨a,f,h,rfl,rfl,d,g⟩:=r.lst_inv;exact .inl ⟨rfl,_,DM.of d⟩
def gM{H:Hp}{v:V}{t:T}{F:Wn}{l:Vf}{z:T×Val}(r:Rp G H v t F)(h:bx t l=O z):tyV G.K "list" v H:=by
 unfold bx at h;split at h
 ·exact ub r
 ·cases h
end
structure GH(G:Gx)(J:It)(l:Vd)(C:Wn)(H:Hp):Prop where
 run:∀H2,Kept H H2->(∀a∈C,∀o,H a=some o->H2 a=some o) →
  (∀(i:Nat)(t:T),l[i]?=some t->J.go i H2/\∀x H3,J.LJ i H2 x H3->aM H2 H3/\∃F,Rp G H3 x t F/\∀a∈F,a∈C\/H2 a=none)/\∀(i:Nat),l.length<=i->J.stop i H2
 DY:∀a∈C,H a≠none
def QL(L:DJ)(U:VS.Env)(H:Hp)(m:Md)(C:Wn):Prop:=∀a∈C,H a=Y\/di L U a\/(m=.bo/\bT L U a)
theorem Fp.c{L:DJ}{U:VS.Env}{H:Hp}{F:Wn}:∀{m:Md},Fp L U H m F->QL L U H m F
 |.fr,f=>λa b=>.inl (f.2 a b)
 |.pu,f=>λa b=>(f a b).imp id .inl
 |.bo,f=>λa b=>(f a b).imp id λz=>z.imp id λz=>⟨rfl,z⟩
def tI(G:Gx)(c:Em):TI:=λZ H R=>∃L U m l,SR G L U Z H/\c U=O (m,l)/\∀J a C,aM H a->GH G J l C a->QL L U H m C->R J a
def PVI(G:Gx)(X:Cx)(b a:Expr)(c:Em):Prop:=PI X b a (tI G c)
def PI.weak{X:Cx}{b e:Expr}{t d:TI}(h:PI X b e t)(w:∀Z H Q,d Z H Q->t Z H Q):PI X b e d:=λa s Z H Q I q=>h a s Z H Q I (w Z H Q q)
section
variable{G:Gx}{X:Cx}{tg e a b:Expr}{es:List Expr}{ca cb:Ex}{cs:D5}{pos p:Pos}
def vt(H:Hp)(d:Int)(n:Nat):GH G (Mn d n) (rng d n) [] H:=by
 refine⟨λq _ _=>⟨λi t h=>?_,λi h=>(by simpa[rng] using h:n<=i)⟩,λa h=>by simp at h⟩;unfold rng at h;rw[ZR]at h;obtain⟨k,g,e⟩:=Zn.mp h;obtain⟨f,e2⟩:=ZY.mp g;rw[ZH]at f;have j:i=k:=by simpa using e2
 subst j;refine⟨f,λx o ⟨m,l⟩=>?_⟩;subst m;subst l;rw[← e];exact⟨aM.refl _,[],.int _,λa h=>by simp at h⟩
def dk(u:PV G X a ca)(t:Gl X "range")(r:X.mg "range" = Y)(o:K0 a [] X:=by rfl)(z:KM [a] X.env=[(S,eval a X.env)]:=by rfl):PVI G X tg (.Call (.Name "range" p) [a] [] pos) (cR ca) :=
 PI.weak (sF t r (dc u eQ o) z) λZ H R q=>by
  obtain⟨L,U,m,l,s,e,k⟩:=q;unfold cR at e;obtain⟨⟨n,x⟩,w,e1⟩:=Zz.mp e;obtain⟨j,f,e2⟩:=Zz.mp e1;split at e2
  ·rename_i d;cases e2;refine⟨L,U,n,x,s,w,λv g F y i B=>?_⟩;cases x with
   |int A =>
    cases f;refine⟨j,by rw[i.int_inv],?_,?_,k _ g [] y (vt g 0 j.toNat) λa h=>by simp at h⟩
    ·have:=d.1;unfold JV at this;lia
    ·have:=d.2;unfold JV at this;lia
   |_=>cases f
  ·cases e2
def dH{d:Yb}{i:Nat}{F:Wn}(h:d[i]?=O F){a:GM}(f:a∈F):a∈d.flatten:=(gh h).subset f
def rS{H:Hp}{a:GM}{d:List V}{g:Vd}{j:Yb}(K:Xj)(m:H a=O (.lst d))(r:tx G H d g j):GH G (Mo K a) g (a :: j.flatten) H:=by
 refine⟨λn k c=>?_,λb f=>?_⟩
 ·have l:n a=O (.lst d):=c a Zx _ m;have r2:tx G n d g j:=r.keep k λb f o q=>c b (Zw _ f) o q;refine⟨λi t h=>?_,λi h=>⟨d,DM.of l,by rw[r.len.1];exact h⟩⟩;obtain⟨v,F,h1,u,s⟩:=r2.get i h;refine⟨⟨d,v,DM.of l,h1⟩,λx w ⟨e1,e2⟩=>?_⟩;subst e1;have ex:=e2 d (DM.of l);rw[h1]at ex;cases ex;exact⟨aM.refl _,F,s,λb f=>.inl (Zw _ (dH u f))⟩
 ·rcases Zo.mp f with rfl | f
  ·rw[m];exact λz=>nomatch z
  ·exact DI.td (r.DY b f)
def Bn{H:Hp}{a:GM}{d:List V}{g:Vd}{j:Yb}(K:Xj)(q:H a=O (.tup d))(r:tx G H d g j):GH G (O6 K a) g j.flatten H:=by
 refine⟨λm k c=>?_,λb f=>DI.td (r.DY b f)⟩;have l:m a=O (.tup d):=k.tup a _ q;have r2:tx G m d g j:=r.keep k λb f o n=>c b f o n;refine⟨λi t h=>?_,λi h=>⟨d,El.of l,by rw[r.len.1];exact h⟩⟩;obtain⟨v,F,h1,u,s⟩:=r2.get i h;refine⟨⟨d,v,El.of l,h1⟩,λx w ⟨e1,e2⟩=>?_⟩;subst e1;have ex:=e2 d (El.of l);rw[h1]at ex;cases ex;exact⟨aM.refl _,F,s,λb f=>.inl (dH u f)⟩
def tG(G:Gx)(g:Tg):TG:=λv Z H Q=>∃L U t F d,SR G L U Z H/\Rp G H v t F/\(∀a∈F,¬bT L U a)/\g t U=O d ∧
 ∀f h,SR G f d h H->(∀a,bT f d a->bT L U a)->(∀a,di f d a->di L U a\/a∈F)->Q h H
def Rb(G:Gx)(l:List Tg):IA:=λj Z H Q=>∃L U h g d,SR G L U Z H/\tx G H j h g/\(∀a∈g.flatten,¬bT L U a)/\p7 l h U=O d ∧
 ∀f i,SR G f d i H->(∀a,bT f d a->bT L U a)->(∀a,di f d a->di L U a\/a∈g.flatten)->Q i H
def JS(G:Gx)(X:Cx)(e:Expr)(g:Tg):Prop:=PG X e (tG G g)
def yo(G:Gx)(X:Cx)(e:List Expr)(g:List Tg):Prop:=HS X e (Rb G g)
def PG.weak{X:Cx}{e:Expr}{t f:TG}(h:PG X e t)(w:∀v Z H Q,f v Z H Q->t v Z H Q):PG X e f:=λd s Z H v u Q I r q=>h d s Z H v u Q I r (w v Z H Q q)
def HS.weak{X:Cx}{e:List Expr}{t f:IA}(h:HS X e t)(w:∀v Z H Q,f v Z H Q->t v Z H Q):HS X e f:=λd s Z H v u Q I r q=>h d s Z H v u Q I r (w v Z H Q q)
def aU(i:Nat){x:Str}(B:X.N.Nodup)(y:X.N[i]?=O x:=by rfl)(l:Loc X.env.scope x:=by first | exact Or.inl M | exact Or.inr M)(A:X.fn x=J\/X.env.scope.names.lookup x=O .local:=by first | exact .inl M | exact .inr rfl):JS G X (.Name x pos) (br i):=PG.weak (rG B y l A) λv Z H Q m=>by
 obtain⟨L,U,t,F,I,s,r,no,e,k⟩:=m;unfold br at e;split at e
 ·rename_i o;cases e;refine k (ic L i F) (Z.set i (O v)) (s.put (c:=.pu t) o r (λj D n g w q=>q) (λu d=>nomatch d) (λu d=>nomatch d) λj u n g a f C=>no a C ⟨j,u,g,f⟩) (λa h=>?_) λa h=>?_
  ·rcases kF h with⟨u,d,_⟩ | z
   ·cases d
   ·exact z
  ·rcases pJ h with⟨u,d,f⟩ | z
   ·exact .inr f
   ·exact .inl z
 ·cases e
def oC:yo G X [] []:=HS.weak xo λv Z H Q f=>by
 obtain⟨L,U,g,i,d,s,r,no,e,k⟩:=f;cases r with
 |nil =>
  cases (show O U=O d from e);exact⟨rfl,k L Z s (λ_ h=>h) λ_ h=>.inl h⟩
 |cons r q=>cases (show (Y:Option VS.Env)=O d from e)
def hV{g:Tg}{i:List Tg}(h1:JS G X e g)(y:yo G X es i)(w:(assignEach (e :: es) X.env).map (·.2)=assign e X.env :: (assignEach es X.env).map (·.2):=by rfl):yo G X (e :: es) (g :: i) :=
 HS.weak (v8 h1 y w) λv Z H Q x=>by
  obtain⟨L,U,F,W,l,s,r,no,e,k⟩:=x;cases r with
  |nil=>cases (show (Y:Option VS.Env)=O l from e)
  |cons r q =>
   rename_i D I F' N P R;obtain⟨j,e1,e2⟩:=Zz.mp e;refine⟨_,_,rfl,L,U,_,_,j,s,r,λa d=>no a (by rw[Zd];exact Y8 _ d),e1,λC M n f t=>?_⟩;refine⟨C,j,_,_,l,n,q,λa d z=>no a (by rw[Zd];exact GF _ d) (f a z),e2,λB A m u o=>k B A m (λa h=>f a (u a h)) λa h=>?_⟩;rcases o a h with h | h
   ·rcases t a h with h | h
    ·exact .inl h
    ·exact .inr (by rw[Zd];exact Y8 _ h)
   ·exact .inr (by rw[Zd];exact GF _ h)
theorem nC:∀{i:List Tg}{f:Vd}{U d:VS.Env},p7 i f U=O d->f.length=i.length
 |[],[],_,_,_=>rfl
 |[],_ :: _,_,_,h=>by simp[p7]at h
 |_ :: _,[],_,_,h=>by simp[p7]at h
 |g :: i,t :: f,U,d,h=>by
  obtain⟨j,_,e2⟩:=Zz.mp (show (g t U).bind (λd=>p7 i f d)=O d from h);simp[nC e2]
def q0{d:List Tg}{k:Nat}(m:X.calm=J)(h:yo G X es d)(j:(assignEach es X.env).length=d.length:=by rfl)(w:(assignEach es X.env).findIdx? (·.1)=Y:=by rfl)(z:X.K=G.K:=by rfl):JS G X (.Tuple es k pos) (mY d) :=
 PG.weak (Ad (n:=d.length) m h j w) λv Z H Q i=>by
  obtain⟨L,U,t,F,u,s,r,no,e,q⟩:=i;unfold mY at e;split at e
  ·rename_i l;obtain⟨o,g,x,rfl,rfl,y,f⟩:=r.Ew;exact⟨o,g,rfl,El.of y,by rw[f.len.1];exact nC e,L,U,l,x,u,s,f,no,e,q⟩
  ·cases e
def lz{tgt:Tg}{body:Sx}{l:Vd}{U:VS.Env}{i:Nat}{t:T}(h:l[i]?=O t):l.drop i=t :: l.drop (i+1):=by
 obtain⟨d,e⟩:=ZY.mp h;rw[← e];exact YI d
def wx{ci:Em}{g:Tg}{cb:Sx}{D:Ends}{Z:p0.St}{H:Hp}(hq:tS G (eW g ci cb) D Z H):AQ (tI G ci) (tG G g) (tS G cb) D Z H:=by
 obtain⟨L,U,o,s,e,k⟩:=hq;unfold eW at e;obtain⟨⟨m,l⟩,el,e1⟩:=Zz.mp e;dsimp only at e1;split at e1
 ·rename_i hm;have KQ:m ≠ .bo:=λz=>by rw[z]at hm;cases hm
  refine⟨L,U,m,l,s,el,λJ Q C e2 ok fc=>?_⟩;have Ux:∀a∈C,¬bT L U a:=λa A z=>by
   rcases fc a A with q | q | q
   ·exact DI.td (s.EA z) q
   ·exact s.Hn z q
   ·exact KQ q.1
  refine⟨λi n Z2 P=>n=l.length-i/\∃N d,SR G N d Z2 P/\Ed L U H N d P/\Kept Q P/\(∀a∈C,∀o,Q a=O o->P a=O o/\¬bT N d a)/\forL g cb (l.drop i) d=O o,
   ⟨l.length-0,rfl,L,U,s.same e2,Ed.same e2,Kept.refl _,λa A y B=>⟨B,Ux a A⟩,by rw[XC];exact e1⟩,?_⟩
  rintro i n Z2 P ⟨rfl,N,d,s2,f2,kp,con,e3⟩;obtain⟨go,stop⟩:=ok.run P kp λa A y B=>(con a A y B).1;cases hit:l[i]? with
  |none =>
   have hl:l.length<=i:=Yw.mp hit;left;rw[Xo hl]at e3;cases (show O (Out.nx d)=O o from e3);exact⟨stop i hl,k N Z2 P s2 f2⟩
  |some t =>
   have hl:i<l.length:=(ZY.mp hit).1;right;obtain⟨g1,y1⟩:=go i t hit;rw[lz (tgt:=g) (body:=cb) (U:=d) hit]at e3;obtain⟨U3,e4,e5⟩:=Zz.mp (show (g t d).bind (λU1=>(cb U1).bind λo=>match o with
    |.nx d=>forL g cb (l.drop (i+1)) d
    |.ct d=>forL g cb (l.drop (i+1)) d
    |.bk d=>O (.nx d)
    |.rt v d=>O (.rt v d))=O o from e3)
   obtain⟨y,e6,e7⟩:=Zz.mp e5;refine⟨g1,λI r=>∃j f,SR G j f I r/\Ed L U H j f r/\Kept Q r/\(∀a∈C,∀o,Q a=O o->r a=O o/\¬bT j f a)/\forL g cb (l.drop (i+1)) f=O o,λI r ⟨j,f,q⟩=>⟨l.length-(i+1),by omega,rfl,j,f,q⟩,λx H3 yl=>?_⟩;obtain⟨R,F,rF,hF⟩:=y1 x H3 yl;have s3:=s2.same R;have Si:∀a∈F,¬bT N d a:=λa A z=>by
    rcases hF a A with q | q
    ·have Hc:=ok.DY a q;cases B:Q a with
     |none=>exact Hc B
     |some Sf=>exact(con a q Sf B).2 z
    ·exact DI.td (s2.EA z) q
   refine⟨N,d,t,F,U3,s3,rF,Si,e4,λL3 Z3 s4 o3 p3=>?_⟩;have W:Ed L U H L3 U3 H3:=⟨λa y h n=>let ⟨h1,n1⟩:=f2.keep a y h n;⟨R a y h1,λz=>n1 (o3 a z)⟩,λa h z=>f2.DY a h (R.free z),λa h=>f2.ow a (o3 a h),λa h=>by
    rcases p3 a h with h | h
    ·exact f2.pu a h
    ·rcases hF a h with q | q
     ·rcases fc a q with q | q | q
      ·exact .inr (.inr q)
      ·exact .inl q
      ·exact .inr (.inl q.2)
     ·exact .inr (.inr (f2.none q)),f2.kept.trans (Kept.of R)⟩
   have next:∀{j f r},Ed L3 U3 H3 j f r->Kept Q r/\∀a∈C,∀o,Q a=O o->r a=O o/\¬bT j f a:=λw =>
    ⟨(kp.trans (Kept.of R)).trans w.kept,λa A y B=>by
     obtain⟨h1,n1⟩:=con a A y B;exact w.keep a y (R a y h1) λz=>n1 (o3 a z)⟩
   refine⟨L3,U3,y,s4,e6,?_⟩;cases y with
   |nx f=>exact λj I r M w=>⟨j,f,M,W.trans w,(next w).1,(next w).2,e7⟩
   |ct f=>exact λj I r M w=>⟨j,f,M,W.trans w,(next w).1,(next w).2,e7⟩
   |bk f =>
    cases (show O (Out.nx f)=O o from e7);exact λj I r M w=>k j I r M (W.trans w)
   |rt v f =>
    cases (show O (Out.rt v f)=O o from e7);exact λu r F4 j I M w r5 q5=>k u r F4 j I M (W.trans w) r5 (q5.back W)
 ·cases e1
def cD{d:Expr}{f:List Stmt}{h:Em}{g:Tg}{i:Sx}(m:PassesOwn (FM X.prog X.w) X.A X.env X.xe)(q:X.calm=J)(n:PVI G X tg d h)(o:JS G X tg g)(r:jm G X f i)(j:∀x,UF d X.env x=pure x:=by intro _;rfl):PSV G X (.For tg d f [] pos) (eW g h i):=PS.weak (uq m q n o r j) λD Z H l=>wx l
end
def Dc(H:Hp)(b:Yb):Md->Wn->Prop
 |.fr,F=>F.Nodup/\∀a∈F,H a=Y
 |_,F=>∀a∈F,H a=Y\/a∈b.flatten
def G0(G:Gx)(g:Fn):Sp:=λe H Q _=>∃b d m r,tx G H e b d/\g b=O (m,r)/\∀v a F,aM H a->Rp G a v r F->Dc H d m F->Q v a
section
variable{G:Gx}{X:Cx}{k:Nat}{f:GM}{fd:On}{ps:List Str}{x:Str}{p pos:Pos}{e:Expr}{es:List Expr}{cs:D5}{g:Fn}
def call_of{Z:p0.St}{H:Hp}{Q:VK}{E:XK}(h:tE G (aN g cs) Z H Q):zE (G0 G g) [] E (Kj G cs) Z H Q:=by
 obtain⟨L,U,m,t,s,e,u⟩:=h;unfold aN at e;obtain⟨l,P,e1⟩:=Zz.mp e;obtain⟨⟨n,r⟩,N,e2⟩:=Zz.mp e1;refine⟨L,U,l,s,P,λD y C b M I=>?_⟩;have A:Args G L U H y l D C:=⟨b,M,I⟩
 have i:=I.join A.len;show G0 G g (D++[]) y Q E;rw[Ft];refine⟨trees l,C,n,r,M,N,λv B F q o j=>?_⟩;have wide:(∀a∈F,y a=Y\/a∈C.flatten)->Fp L U H ((Md.pu).join (bP l)) F:=λh=>by
  cases w:bP l with
  |fr =>
   rw[w]at i;exact λa d=>.inl ((h a d).elim b.free (i.2 a))
  |pu =>
   rw[w]at i;exact λa d=>(h a d).elim (λz=>.inl (b.free z)) (i a)
  |bo =>
   rw[w]at i;exact λa d=>(h a d).elim (λz=>.inl (b.free z)) (i a)
 cases n with
 |fr =>
  cases e2;exact u v B F (b.trans q) o ⟨j.1,λa d=>b.free (j.2 a d)⟩
 |pu =>
  cases e2;exact u v B F (b.trans q) o (wide j)
 |bo =>
  cases e2;exact u v B F (b.trans q) o (wide j)
def xJ(F:FnOk X.prog X.w X.K X.mg X.base FC k f fd ps (G0 G g))(b:xt k X.A)(j:Gl X x)(d:X.mg x=O (.ref f))(i:PySem.W.keepIn X.K (.ref f)=J)(m:Binds X.K fd ps [])(n:Fc G X (e :: es) cs)(o:K2 x:=by decide)(l:K0 e es X:=by rfl)(a:K1 pos es X:=by rfl) :
  PV G X (.Call (.Name x p) (e :: es) [] pos) (aN g cs) :=
 PE.weak (xO F b j d i m .nil BC n o l a) λZ H Q h=>call_of h
def wc{H:Hp}{d:List V}{a:Vd}{l:Yb}(r:tx G H d a l)(n m:Nat)(u:m=d.length):SR G (λi=>l.getD i []) (a.map (λt=>O (.pu t))++List.replicate (n-a.length) Y) (d.map O++List.replicate (n-m) Y) H:=by
 subst u;have z:=r.len;have back:∀{i:Nat}{c:Cell},(a.map (λt=>O (Cell.pu t))++List.replicate (n-a.length) Y)[i]?=O (O c)->∃t,a[i]?=O t/\c=.pu t:=λ{i c} h=>by
  by_cases o:i<a.length
  ·rw[Yv (by rw[Zv];exact o),ZR]at h;obtain⟨t,h1,b⟩:=Zn.mp h;exact⟨t,h1,(ZJ b).symm⟩
  ·rw[Hg (by rw[Zv];exact Xv o),Xu]at h;split at h<;>cases h
 refine⟨by simp;lia,λi c h=>?_,λi t h=>?_,λi j t c h=>?_⟩
 ·obtain⟨t,h1,rfl⟩:=back h;obtain⟨v,F,q,y,w⟩:=r.get i h1;refine⟨v,?_,?_⟩
  ·have:i<d.length:=(ZY.mp q).1;rw[Yv (by rw[Zv];exact this),ZR,q];rfl
  ·show Rp G H v t (l.getD i []);rw[ZQ,y];exact w
 ·obtain⟨s,_,b⟩:=back h;cases b
 ·obtain⟨s,_,b⟩:=back h;cases b
def gJ{b:Vd}{n:Nat}{L:DJ}{a:GM}:¬bT L (b.map (λt=>O (Cell.pu t))++List.replicate n Y) a:=by
 rintro⟨i,t,h,_⟩;by_cases d:i<b.length
 ·rw[Yv (by rw[Zv];exact d),ZR]at h;obtain⟨l,_,j⟩:=Zn.mp h;cases j
 ·rw[Hg (by rw[Zv];exact Xv d),Xu]at h;split at h<;>cases h
def nR{H:Hp}{vs:List V}{j:Vd}{d:Yb}{n:Nat}{a:GM}(h:di (λi=>d.getD i []) (j.map (λt=>O (Cell.pu t))++List.replicate n Y) a):a∈d.flatten:=by
 obtain⟨i,t,_,b⟩:=h;simp only[ZQ]at b;cases e:d[i]? with
 |none=>rw[e]at b;simp at b
 |some F=>rw[e]at b;exact dH e b
end
section
variable{G:Gx}{P:PP}{w:SL}{K:Xj}{mg:X2}{base:SC}
def vC{e f:Nat}{c:Sx}{d:List Str}(g:d.length=e){b:List V}{H:Hp}{Q:VK}{E:XK}(h:G0 G (fn e f c) b H Q E):b.length=d.length:=by
 obtain⟨j,l,m,r,h1,a,_⟩:=h;unfold fn at a;split at a
 ·rename_i i;rw[h1.len.1,i,g]
 ·cases a
def vH{p f:Nat}{c:Sx}{N:List Str}(s:N.length=f){vs:List V}{H:Hp}{Q:VK}{E:XK}(h:G0 G (fn p f c) vs H Q E):tS G c { nx:=λ_ d=>Q .non d,rt:=Q } (p0.start N vs) H:=by
 obtain⟨C,D,m,r,h1,g,q⟩:=h;unfold fn at g;split at g
 ·rename_i t;obtain⟨o,e1,e2⟩:=Zz.mp g;have j:=wc h1 f vs.length M;rw[t]at j;have x:p0.start N vs=vs.map O++List.replicate (f-vs.length) Y:=by
   unfold p0.start;rw[s]
  rw[x];refine⟨_,_,o,j,e1,?_⟩;cases o with
  |nx i =>
   cases e2;intro A y d l fr;exact q .non d [] (λa o h=>(fr.keep a o h gJ).1) .non ⟨List.nodup_nil,λa h=>by simp at h⟩
  |rt v i =>
   cases e2;intro u d B A y l fr n e;refine q u d B (λa o h=>(fr.keep a o h gJ).1) n ?_;cases m with
   |fr=>exact⟨e.1,λa b=>(e.2 a b).elim id λz=>absurd z gJ⟩
   |pu=>exact λa b=>(e a b).elim .inl λz=>z.elim (λz=>.inr (nR (H:=H) (vs:=vs) z)) λz=>absurd z gJ
   |bo=>exact λa b=>(e a b).elim .inl λz=>z.elim (λz=>.inr (nR (H:=H) (vs:=vs) z)) λz=>absurd z gJ
  |bk i=>cases e2
  |ct i=>cases e2
 ·cases g
def Qq{x a:Str}{b:Stmt}{f:GM}{j:On}{N e:List Str}{k g i:Nat}{c:Sx}(F:EH K x a b f j)(S:xa N e (aq b))(n:e.length=g)(o:N.length=i)(p:∀(d:IR)(A:Pi)(outer:List PySem.Env)(s:FB)(H:Hp)(E:XK),xt k (A.deeper (envOfC a (aq b) s.heap.objs.size f d))->jm G (kQ FC P w K mg base N a (aq b) f d A outer s H E).Ig (aS b) c) :
  FnOk P w K mg base FC (k+1) f j e (G0 G (fn g i c)) :=
 F.ok S (λl H Q E h=>vC n h) λd A outer s H l Q E m h=>⟨_,p d A outer s H E m,vH o h⟩
end
end VS
end
section
namespace p0
open PySem PySem.Spec PyProof.Rows
theorem ju(b:Env):∀(l:List (Str×NameKind))(acc:List (Str×GM)),(∀y∈l,y.2=.free->∃c,b.cells.lookup y.1=O c)->(∀x c,acc.lookup x=O c->b.cells.lookup x=O c) →
  ∃cl,(forIn l acc (λx r=>if (x.snd==NameKind.free)=J then (do let a ← cellOf b x.fst;pure (ForInStep.yield ((x.fst,a) :: r))) else pure (ForInStep.yield r)):Sem (List (Str×GM)))=pure cl ∧
   (∀x c,cl.lookup x=O c->b.cells.lookup x=O c)/\(∀x c,acc.lookup x=O c->∃e,cl.lookup x=O e)/\∀y∈l,y.2=.free->∃c,cl.lookup y.1=O c
 |[],acc,_,i=>⟨acc,rfl,i,λx c h=>⟨c,h⟩,λy d=>nomatch d⟩
 | (n,k) :: l,acc,o,i=>by
  by_cases m:k=.free
  ·subst m;obtain⟨c,p⟩:=o (n,.free) Zx M;have t:cellOf b n=pure c:=by unfold cellOf;dsimp only at p;rw[p]
   have u:∀x e,((n,c) :: acc).lookup x=O e->b.cells.lookup x=O e:=λx e h=>by
    rw[Y3]at h;split at h
    ·rename_i g;have:x=n:=by simpa using g
     rw[this,← h];exact p
    ·exact i x e h
   obtain⟨cl,h1,s,f,q⟩:=ju b l ((n,c) :: acc) (λy d=>o y (Zw _ d)) u;refine⟨cl,?_,s,λx e h=>?_,λy d j=>?_⟩
   ·rw[List.forIn_cons];dsimp only;rw[Zr (show (NameKind.free==NameKind.free)=J from rfl),t,pure_bind,pure_bind];exact h1
   ·by_cases g:x=n
    ·exact f x c (by rw[Y3,g];simp)
    ·refine f x e ?_;rw[Y3];have:(x==n)=S:=by simpa using g
     rw[this];exact h
   ·rcases Zo.mp d with rfl | d
    ·exact f n c (by rw[Y3];simp)
    ·exact q y d j
  ·obtain⟨cl,h1,s,f,q⟩:=ju b l acc (λy d=>o y (Zw _ d)) i;refine⟨cl,?_,s,f,λy d j=>?_⟩
   ·rw[List.forIn_cons];dsimp only;rw[Zm (by simpa using m),pure_bind];exact h1
   ·rcases Zo.mp d with rfl | d
    ·exact absurd j m
    ·exact q y d j
def qX{sc:Scope}{env:Env}(a:∀y∈sc.names,y.2=.free->∃c,env.cells.lookup y.1=O c) :
  ∃cl,closureFor sc env=pure cl/\(∀x c,cl.lookup x=O c->env.cells.lookup x=O c)/\∀y∈sc.names,y.2=.free->∃c,cl.lookup y.1=O c:=by
 obtain⟨cl,h1,d,_,b⟩:=ju env sc.names [] a (λx c h=>nomatch h);refine⟨cl,?_,d,b⟩;simp only[closureFor];rw[h1];rfl
def bX{l:List (Str×NameKind)}{x:Str}{k:NameKind}(h:l.lookup x=O k):(x,k)∈l:=by
 induction l with
 |nil=>cases h
 |cons p l a =>
  rw[Y3]at h;split at h
  ·rename_i b;have e:x=p.1:=by simpa using b
   cases h;rw[e];exact Zx
  ·exact Zw _ (a h)
theorem cT{a:Env}{x:Str}{k:NameKind}:∀{l:List (Str×NameKind)},(l.map λ(n,k)=>if (k==NameKind.free&&a.scope.kind == .function&&a.kindOf n==O .cell) then (n,NameKind.cell) else (n,k)).lookup x=O k →
  ∃k0,l.lookup x=O k0/\(k=k0\/(k0=.free/\k=.cell))
 |[],h=>nomatch h
 | (n,k1) :: l,h=>by
  rw[Zt,Y3]at h;by_cases d:(k1==NameKind.free&&a.scope.kind == .function&&a.kindOf n==O .cell)=J
  ·simp only[d,if_true]at h;rw[Y3];cases b:x==n with
   |true =>
    rw[b]at h;have:k1=.free:=by
     have:=(Wy.mp (Wy.mp d).1).1;simpa using this
    exact⟨k1,rfl,.inr ⟨this,(ZJ h).symm⟩⟩
   |false=>rw[b]at h;exact cT h
  ·simp only[d,if_false,FW]at h;rw[Y3];cases b:x==n with
   |true=>rw[b]at h;exact⟨k1,rfl,.inl (ZJ h).symm⟩
   |false=>rw[b]at h;exact cT h
def cH(X:Cx)(N:List Str)(a:Scope)(d:List (Str×GM))(C:GM)(s:FB)(H:Hp)(b:Wn):Cx :=
 { X with N:=N,s₀:=s,H₀:=H,env:=compEnvC a d C X.env,outer:=X.stack,ex:=b,fn:=λ_=>false,pn:=[],xe:=λ_ _=>False }
def iw(env:Env)(sc:Scope):Bool:=sc.kind == .function&&sc.names.all λy=>match y.2 with
 |.cell=>S
 |.local=>sc.names.lookup y.1==O .local
 |.free=>env.kindOf y.1==O .cell||env.kindOf y.1==O .free
 |_=>J
def iO(d:Scope):List Str->List Str->Bool
 |[],[]=>J
 |a :: e,b :: bs=>((a==b&&d.names.lookup a==O .free)||d.names.lookup a==Y||d.names.lookup a==O .globalImplicit)&&iO d e bs
 |_,_=>S
theorem mF{d:Scope}:∀{f bs:List Str},iO d f bs=J->f.length=bs.length/\∀(i:Nat)(x:Str),f[i]?=O x->(bs[i]?=O x/\d.names.lookup x=O .free)\/d.names.lookup x=Y\/d.names.lookup x=O .globalImplicit
 |[],[],_=>⟨rfl,λi x h=>by simp at h⟩
 |a :: f,b :: bs,h=>by
  simp only[iO,FV]at h;obtain⟨h1,m⟩:=h;obtain⟨l,r⟩:=mF m;refine⟨by simp[l],λi x e=>?_⟩;cases i with
  |zero =>
   have:a=x:=by simpa using e
   subst this;simp only[Bool.or_eq_true,FV]at h1;rcases h1 with (⟨j,g⟩ | z) | z
   ·exact .inl ⟨by simpa using(by simpa using j:a=b).symm,by simpa using g⟩
   ·exact .inr (.inl (by simpa using z))
   ·exact .inr (.inr (by simpa using z))
  |succ i=>simpa using r i x (by simpa using e)
 |[],_ :: _,h=>by simp[iO]at h
 |_ :: _,[],h=>by simp[iO]at h
section
variable{X:Cx}{pins:Yh}{Z:St}{H:Hp}{s:FB}
def Inv.block{N:List Str}{sc:Scope}{cl:List (Str×GM)}{C D:GM}{fp:Wn}{k:Nat}{h1:SC}{t:Nat}{m:X2}(I:Inv X pins Z H s)(Q:iw X.env sc=J)(Gc:iO sc (N.drop k) X.N=J)(Hy:k<=N.length)(j:∀x c,cl.lookup x=O c->X.env.cells.lookup x=O c)(Hv:∀y∈sc.names,y.2=.free->∃c,cl.lookup y.1=O c)(F:∀b∈fp,gc X pins H b)(A:s.heap.objs.size<=D)(U:s.heap.objs.size<=C)(Mi:D≠C)(Mh:C∉fp)(d:∀b u,s.heap.get? b=O u->h1.get? b=O u)(IL:h1.Ns C m)(Os:h1.get? D=O { cls:=.type "list",data:=.seq ([]:Wm).toArray 0 }) :
  Inv (cH X N sc cl C s H fp) [] (List.replicate k Y++Z) (upd H D (.lst [])) { s with heap:=h1,toks:=t }:=by
 unfold iw at Q;rw[FV,ZE]at Q;obtain⟨hk,Ef⟩:=Q;have Ei:sc.kind=.function:=by simpa using hk
 obtain⟨hlen,GU⟩:=mF Gc;have EN:∀y∈sc.names,y.2 ≠ .cell:=λy hy e=>by have:=Ef y hy;rw[e]at this;cases this
 have frees:∀x a,(relabel sc X.env).names.lookup x=O a->a=.cell\/a=.free->sc.names.lookup x=O .free:=λx a h P1=>by
  obtain⟨k0,f,Tn⟩:=cT h;rcases Tn with e | ⟨e,_⟩
  ·subst e;rcases P1 with e | e
   ·subst e;exact absurd M (EN _ (bX f))
   ·subst e;exact f
  ·subst e;exact f
 have Ir:H D=Y:=I.xb.fresh A;have TJ:H C=Y:=I.xb.fresh U;refine⟨⟨I.mod,Ei,I.ok.glob,I.ok.blt,U,λx y c e1 e2=>I.ok.inj x y c (j x c e1) (j y c e2),λx hx=>?_,λx c e=>(nomatch e),I.ok.hd,I.ok.frames,.inl M,λb g=>⟨λ(e:b=C)=>Mh (e ▸ g),λx c e=>(F b g).2.2.2.2.1 x c (j x c e)⟩,
  I.tb,I.bs,ZV I.ok.HP I.sz,λb o e g=>?_,λb g P=>?_,I.stack,I.FD⟩,rfl,I.bare,Un.laid d A Ir,⟨m,IL,λi x v e1 e2 G=>?_⟩,λx c e=>?_,?_,λx c e=>?_,λp hp=>(nomatch hp),I.xb.laid d A ?_,?_⟩
 ·have h:∃a,(relabel sc X.env).names.lookup x=O a/\(a=.cell\/a=.free):=by
   rcases hx with e | e
   ·exact⟨_,e,.inl M⟩
   ·exact⟨_,e,.inr M⟩
  obtain⟨a,B,L⟩:=h;exact Hv _ (bX (frees x a B L)) M
 ·have P:b∈fp:=g;rcases (F b P).2.2.2.1 with z | z
  ·exact I.ok.Hr b o e z
  ·exact absurd (ZD (ZZ e) (ZV I.ok.HP z)) (Yg _)
 ·have Oi:b∈EE X.stack:=P;rcases Zo.mp (I.Ez b Oi) with z | z
  ·exact(F b g).2.1 z
  ·exact(F b g).2.2.1 z
 ·
  have IP:k<=i:=by
   rcases WG i k with z | z
   ·rw[Yv (by simpa using z),Xu]at e2;split at e2<;>cases e2
   ·exact z
  rw[Hg (by simpa using IP),Y4]at e2;have Lh:(N.drop k)[i-k]?=O x:=by
   rw[W9,show k+(i-k)=i by exact Vs IP];exact e1
  have QV:sc.names.lookup x=O .free->∃a,(relabel sc X.env).names.lookup x=O a/\(a=.cell\/a=.free):=λf=>by
   have w:FX (relabel sc X.env) x:=G;rcases w with z | z | z
   ·obtain⟨k0,B,L⟩:=cT z;rw[f]at B;cases B;rcases L with q | ⟨_,q⟩<;>cases q
   ·exact⟨_,z,.inl M⟩
   ·exact⟨_,z,.inr M⟩
  have no:∀k0,sc.names.lookup x=O k0->∃a,(relabel sc X.env).names.lookup x=O a->True:=λ_ _=>⟨.local,λ_=>trivial⟩
  rcases GU _ x Lh with⟨hX,f⟩ | f | f
  ·obtain⟨a,J3,Il⟩:=QV f;have hf:=Ef _ (bX f);have W:X.env.kindOf x=O .cell\/X.env.kindOf x=O .free:=by
    simpa using hf
   obtain⟨mX,S5,NU⟩:=I.loc;have Mu:FX X.env.scope x:=W.elim (λz=>.inr (.inl z)) λz=>.inr (.inr z);obtain⟨u,r,l⟩:=NU _ x v hX e2 Mu;refine⟨u,r,.inr ⟨?_,?_⟩⟩
   ·rcases Il with z | z
    ·subst z;exact .inl J3
    ·subst z;exact .inr J3
   ·obtain⟨c,R⟩:=Hv _ (bX f) M;refine⟨c,R,?_⟩;rcases l with⟨z,_⟩ | ⟨_,c',E4,GA⟩
    ·rcases W with q | q<;>(rw[z]at q;cases q)
    ·have:=j x c R;rw[E4]at this;cases this;exact GA.keeps d
  ·have w:FX (relabel sc X.env) x:=G;rcases w with z | z | z<;>(obtain⟨k0,n,_⟩:=cT z;rw[f]at n;cases n)
  ·have w:FX (relabel sc X.env) x:=G;rcases w with z | z | z<;>(obtain⟨k0,n,z2⟩:=cT z;rw[f]at n;cases n;rcases z2 with q | ⟨q,_⟩<;>cases q)
 ·obtain⟨v,z⟩:=I.cell x c (j x c e);exact⟨v,z.keeps d⟩
 ·show upd H D (.lst []) C=Y;rw[av (YE Mi)];exact TJ
 ·obtain⟨v,z⟩:=I.cell x c (j x c e);rw[av (ZL (ZD z.lt A))];exact I.Ec x c (j x c e)
 ·exact⟨ZM _,[],0,.nil,Os⟩
 ·show (List.replicate k Y++Z).length=N.length;rw[Zu,Y4,I.len,← hlen,ZG];exact Vs Hy
def yd(X:Cx)(a:List Expr)(t:TT):Prop :=
 ∀(pins:Yh)(s:FB)(Z:St)(H:Hp)(Q:Bool->Hp->Prop),Inv X pins Z H s->t Z H Q →
  KB (FM X.prog X.w) X.A (forIn a J λc r=>if r=J then (do let ok ← isTrue c X.env (eval c X.env);pure (ForInStep.yield ok)) else pure (ForInStep.yield r)) (TP X pins Z Q) X.xe s
def oW:yd X [] (λZ H Q=>Q J H):=λpins s Z H Q I q=>Zp ⟨H,I,q⟩
def ua{c:Expr}{t:TT}(h:PT X c t):yd X [c] t:=λpins s Z H Q I q=>by
 rw[List.forIn_cons,Zr M];refine Zy (Zy (thn (h pins s Z H Q I q) λb d a=>Zp ?_));exact Zp a
section
variable{prog:PP}{w:SL}{A:Pi}{R:Result->FB->Prop}
def nB{i a f:Expr}{g:List Expr}{d:Scope}{l:Pos}{o j:IR}{b:Env}{s:FB}(I:Nat->FB->Prop)(turn:∀n s,I n s->KB (FM prog w) A (pyNext o) (λr q=>match r with
   |none=>R (.ok .next) q
   |some v=>KB (FM prog w) A (letOwnedTupleGo a o v) (λ_ B=>KB (FM prog w) A (assign a b v) (λ_ z =>
     KB (FM prog w) A (forIn g J λc r=>if r=J then (do let ok ← isTrue c b (eval c b);pure (ForInStep.yield ok)) else pure (ForInStep.yield r)) (λok p =>
      if ok=J then KB (FM prog w) A (eval i b) (λx y =>
       KB (FM prog w) A (call (.builtin "list.append") [j,x]) (λ_ u=>∃m,m<n/\I m u) (λ_ _=>False) y) (λ_ _=>False) p
      else ∃m,m<n/\I m p) (λ_ _=>False) z) (λ_ _=>False) B) (λ_ _=>False) q) (λ_ _=>False) s)(n:Nat)(h:I n s) :
  codeAny (FM prog w) A (.compLoop (.ListComp i [⟨a,f,g,0⟩] d l) 0 o j b) R s:=by
 refine codeAny_loop M I (λn s L=>?_) n h;show KB _ A ((compTurn (.ListComp i [⟨a,f,g,0⟩] d l) 0 o j b).onRaise (λx=>do noteFrame x b;theTreesLotGoes x)) _ _ s;refine wpAny_noted ?_;rw[compTurn_list];refine Zy (wpAny_standAt (Zy (Yn (turn n s L) (λr q C=>?_) λ_ _ e=>e.elim)));cases r with
 |none=>exact Zp C
 |some v =>
  refine Zy (Yn C (λ_ B h₀=>?_) λ_ _ e=>e.elim);refine Zy (Yn h₀ (λ_ z G=>Zy (Yn G (λok p t=>?_) λ_ _ e=>e.elim)) λ_ _ e=>e.elim);cases ok with
  |false=>exact Zp ⟨rfl,t⟩
  |true =>
   rw[Zr M]at t;exact Zy (Zy (Yn t (λx y F=>Zy (Yn F (λ_ u D=>Zp (Zp ⟨rfl,D⟩)) λ_ _ e=>e.elim)) λ_ _ e=>e.elim))
end
noncomputable def u4(k:Nat)(p:TI)(g:TG)(r:TT)(q:TE)(Z:St)(H:Hp)(Q:VK):Prop:=p Z H λJ o=>∀D,o D=Y->∃W:Nat->Nat->St->Hp->Prop,
 (∃m,W 0 m (List.replicate k Y++Z) (upd o D (.lst [])))/\∀i m h d,W i m h d->(J.stop i d/\Q (.ref D) d)\/(J.go i d/\∀x n,J.LJ i d x n->g x h n λe t=>r e t λb l =>
  if b=true then q e l λy j=>∃f,j D=O (.lst f)/\f.length<FS/\∃a,a<m/\W (i+1) a e (upd j D (.lst (f++[y]))) else ∃a,a<m/\W (i+1) a e l)
def sW{G tg j:Expr}{B:List Expr}{sc:Scope}{pos pos':Pos}{N:List Str}{k:Nat}{wi:TI}{g:TG}{tc:TT}{te:TE}{use:Option (IR->Sem Unit)}{QQ:Yl}{Q:VK}(Ej:X.calm=true)(hi:PI X tg j wi)(EK:iw X.env sc=true)(Gc:iO sc (N.drop k) X.N=true)(Hy:k<=N.length)(Eo:∀cl C s H fp,PG (cH X N sc cl C s H fp) tg g/\yd (cH X N sc cl C s H fp) B tc/\PE (cH X N sc cl C s H fp) G te)(hs:∀x,UF j X.env x=pure x)(I:Inv X pins Z H s)(h:u4 k wi g tc te Z H Q)(hq:∀s' l D C m,Inv X pins Z l s'->Q (.ref D) l->s'.heap.Ns C m->gc X pins l C->compPost (FM X.prog X.w) X.A X.xe use QQ (.ref D) C (.ok .next) s') :
  KB (FM X.prog X.w) X.A (comprehension (.ListComp G [⟨tg,j,B,0⟩] sc pos) sc X.env pos' (newList []) S (eval j X.env) use) QQ X.xe s:=by
 have ES:=EK;unfold iw at ES;rw[FV,ZE]at ES;obtain⟨hk,Ef⟩:=ES;have Ei:sc.kind=.function:=by simpa using hk
 have EN:∀y∈sc.names,y.2 ≠ .cell:=λy F e=>by have:=Ef y F;rw[e]at this;cases this
 have JA:∀y∈sc.names,y.2=.local->sc.names.lookup y.1=O .local:=λy F e=>by
  have:=Ef y F;rw[e]at this;simpa using this
 obtain⟨cl,Ip,FA,Hv⟩:=qX (sc:=sc) (env:=X.env) λy F e=>I.ok.has y.1 (by
  have:=Ef y F;rw[e]at this;simpa using this)
 refine wpAny_comprehension_free (use:=use) M hs Ip Ei JA (thn (hi pins s Z H _ I h) λv s1 h1=>thn h1 λNv f h2=>?_);obtain⟨it,fp,tn,J,H2,e,I2,T,D2,f2,hW⟩:=h2;subst e;refine X7 (wpAny_newFunctionEnv EN (by intro y F;simp at F) (λh₁ Gv FI=>?_) Ei);dsimp only at Gv FI ⊢;generalize hP:f.heap.push { cls:=.type "list",dict:=none,data:=.seq ([]:Wm).toArray }=P at Gv FI ⊢;have Ou:P.objs.size=f.heap.objs.size+1:=by rw[← hP,Heap.size_push]
 have old:∀b o,f.heap.get? b=O o->h₁.get? b=O o:=λb o e =>
  FI.extBut b o (by rw[Ou];exact ZL (Xi (ZZ e))) (Zg _ (hP ▸ Zg _ e))
 have Mi:f.heap.objs.size≠P.objs.size:=by rw[Ou];exact ZL (Vl _)
 have Os:h₁.get? f.heap.objs.size=O { cls:=.type "list",data:=.seq ([]:Wm).toArray 0 }:=FI.extBut _ _ Mi (Zg _ (hP ▸ ZX _ M));have JG:f.heap.objs.size<=P.objs.size:=by rw[Ou];exact Nat.le_succ _
 have IK:∀b∈fp,b<f.heap.objs.size:=λb a=>let ⟨o,ho,_⟩:=T.obj 0 _ D2 b a;ZZ ho
 have Mh:P.objs.size∉fp:=λa=>absurd (ZD (IK _ a) JG) (Yg _);have IY:=I2.block (N:=N) (sc:=sc) (cl:=cl) (C:=P.objs.size) (D:=f.heap.objs.size) (fp:=fp) (k:=k) (t:=f.toks+([]:List (Str×IR)).length) EK Gc Hy FA Hv f2 (Zs _) JG Mi Mh old Gv Os;obtain⟨hG,hT,hE⟩:=Eo cl P.objs.size f H2 fp;generalize hY:cH X N sc cl P.objs.size f H2 fp=Y at IY hG hT hE;have TH:Y.prog=X.prog/\Y.w=X.w/\Y.K=X.K/\Y.A=X.A/\Y.env=compEnvC sc cl P.objs.size X.env/\Y.calm=X.calm/\(Y.xe=λ_ _=>False):=by rw[← hY];exact⟨rfl,rfl,rfl,rfl,rfl,rfl,rfl⟩
 obtain⟨U,R,y3,L,y5,y6,y7⟩:=TH;have Gp:∀{l:Hp},(∀b∈fp,l b=none)->∀b∈fp,gc Y [] l b:=λ{l} hn b a=>by
  rw[← hY];refine⟨hn b a,λ(e:b=P.objs.size)=>Mh (e ▸ a),λGS=>?_,.inl a,λx c e=>(f2 b a).2.2.2.2.1 x c (FA x c e),λp hp=>(nomatch hp)⟩;rcases Zo.mp (I2.Ez b GS) with z | z
  ·exact(f2 b a).2.1 z
  ·exact(f2 b a).2.2.1 z
 obtain⟨W,⟨m0,w0⟩,turn⟩:=hW f.heap.objs.size (I2.xb.fresh (Zs _));have N2:∀b∈fp,upd H2 f.heap.objs.size (.lst []) b=none:=λb a=>by rw[av (ZL (IK b a))];exact(f2 b a).1
 have FE:tn 0 h₁:=T.keep _ _ _ D2 λb _ o e=>old b o e;have loop:codeAny (FM X.prog X.w) X.A (.compLoop (.ListComp G [⟨tg,j,B,0⟩] sc pos) 0 (.ref it) (.ref f.heap.objs.size) (compEnvC sc cl P.objs.size X.env)) (compPost (FM X.prog X.w) X.A X.xe use QQ (.ref f.heap.objs.size) P.objs.size)
   { f with heap:=h₁,toks:=f.toks+([]:List (Str×IR)).length }:=by
  refine nB (λn s'=>∃i Z' l,Inv Y [] Z' l s'/\tn i s'.heap/\(∀b∈fp,l b=none)/\W i n Z' l) ?_ m0 ⟨0,_,_,IY,FE,N2,w0⟩;rintro n s3 ⟨i,Z3,H3,I3,FE,Le,w3⟩;rcases turn i n Z3 H3 w3 with⟨stop,qn⟩ | ⟨go,step⟩
  ·have q:=T.done Y U R y3 (y6.trans Ej) i [] s3 Z3 H3 (λ_ _=>False) I3 (Gp Le) FE stop;rw[L]at q;refine thn q λr s4 ⟨hr,I4⟩=>?_;subst hr;have IX:Inv X pins Z H3 s4:=by
    have b4:=I4.base;have o4:=I4.os;have k4:=I4.xb;rw[← hY]at b4 o4 k4;refine I2.Ls (ch:=fp) o4 b4 k4 I4.bare λb a=>?_;exact⟨(f2 b a).2.2.2.1,(f2 b a).2.1,(f2 b a).2.2.2.2.1,(f2 b a).2.2.2.2.2⟩
   obtain⟨mC,PX,_⟩:=I4.loc;have f4:=I4.free;rw[y5]at PX f4;exact hq s4 H3 _ P.objs.size mC IX qn PX (I2.Fm JG f4)
  ·have q:=T.item Y U R y3 (y6.trans Ej) i [] s3 Z3 H3 (λ_ _=>False) I3 (Gp Le) FE go;rw[L]at q;refine thn q λr s4 ⟨u,hr,h4⟩=>?_;subst hr;refine thn h4 λ_ s5 ⟨x,H5,I5,r5,QR,Jh,Ow⟩=>?_;have O8:=I5.pinned (Gp Ow) (T.obj _ _ Jh);have again:∀{Z7:St}{H7:Hp}{s7:FB}{m:Nat},Inv Y ([]++kE fp s5.heap) Z7 H7 s7->W (i+1) m Z7 H7->∃i Z' l,Inv Y [] Z' l s7/\tn i s7.heap/\(∀b∈fp,l b=none)/\W i m Z' l:=λ{Z7 H7 s7 m} I7 w7=>by
    refine⟨i+1,Z7,H7,I7.Eu,T.keep _ _ _ Jh λb a o e=>(I7.pin (b,o) (GF _ (GF _ (gD a e)))).1,λb a=>?_,w7⟩;obtain⟨o,e,d⟩:=T.obj _ _ Jh b a;exact(I7.pin (b,o) (GF _ (GF _ (gD a e)))).2.1
   have qa:=hG _ s5 Z3 H5 x u _ O8 r5 (step x H5 QR);rw[U,R,L,y5,y7]at qa;refine thn qa λ_ s6 ⟨Z6,H6,I6,q6⟩=>?_;have qt:=hT _ s6 Z6 H6 _ I6 q6;rw[U,R,L,y5,y7]at qt;refine thn qt λb s7 ⟨H7,I7,q7⟩=>?_;cases b with
   |false =>
    rw[Zm Zk]at q7 ⊢;obtain⟨m',hm,w7⟩:=q7;exact⟨m',hm,again I7 w7⟩
   |true =>
    rw[Zr M]at q7 ⊢;have qe:=hE _ s7 Z6 H7 _ I7 q7;rw[U,R,L,y5,y7]at qe;refine thn qe λyv s8 ⟨y,H8,I8,r8,ys,TK,Tf,m',hm,w8⟩=>?_;have qp:=g9 (X:=Y) _ s8 Z6 H8 (.ref f.heap.objs.size) [y] (.ref f.heap.objs.size) [yv] (λ_ H9=>W (i+1) m' Z6 H9) I8 M (.cons r8 .nil) ⟨_,ys,y,rfl,rfl,TK,Tf,w8⟩;rw[U,R,L,y7]at qp;refine thn qp λ_ s9 ⟨_,H9,I9,_,w9⟩=>?_;exact⟨m',hm,again I9 w9⟩
 exact codeAny_compStart_list loop (T.self _ 0 _ _ _ FE loop)
def ng{j l a:Expr}{i:List Expr}{d:Scope}{n:Pos}{N:List Str}{k:Nat}{p:TI}{g:TG}{t:TT}{r:TE}(P:X.calm=J)(y:PI X l a p)(R:iw X.env d=J)(G:iO d (N.drop k) X.N=J)(B:k<=N.length)(M:∀cl C s H fp,PG (cH X N d cl C s H fp) l g/\yd (cH X N d cl C s H fp) i t/\PE (cH X N d cl C s H fp) j r)(v:∀x,UF a X.env x=pure x:=by intro _;rfl):PE X (.ListComp j [⟨l,a,i,0⟩] d n) (u4 k p g t r):=by
 intro pins s Z H Q I h;rw[eval_ListComp];refine sW (use:=Y) P y R G B M v I h λu F D C m A q w f=>⟨m,w,λU L=>?_⟩
 exact⟨.ref D,F,A.turned (it:=C) (t':=u.toks) (λb o z e=>L.extBut b o z e) f.1 f.2.1 f.2.2.2.1 f.2.2.2.2.1 f.2.2.2.2.2,rfl,q⟩
end
end p0
end
section
namespace VS
open PySem PySem.Spec PyProof.Rows p0
def xW(k:Nat)(g:Tg):Prop:=∀t U a,g t U=O a->a.length=U.length/\∀i,k<=i->a[i]?=U[i]?
def iI{k i:Nat}(h:i<k:=by decide):xW k (br i):=λt U b e=>by
 unfold br at e;split at e
 ·cases e;exact⟨by simp,λj a=>by rw[Xb (by lia)]⟩
 ·cases e
theorem qm:∀(l:Vd){i:Nat}{t:T},eT l=J->l[i]?=O t->DZ t=J
 |[],_,_,_,h=>by simp at h
 |x :: l,0,t,h,e=>by
  simp only[eT,FV]at h;simp at e;rw[← e];exact h.1
 |x :: l,i+1,t,h,e=>by
  simp only[eT,FV]at h;exact qm l h.2 (by simpa using e)
def tC(G:Gx):Option Ex->TT
 |none=>λZ H Q=>Q J H
 |some c=>tT G c
section
variable{G:Gx}{L:DJ}{U:VS.Env}{Z:p0.St}{H:Hp}{k:Nat}
def iX{i:Nat}{c:Cell}:(List.replicate k Y++U)[i]?=O (O c)↔k<=i/\U[i-k]?=O (O c):=by
 rcases WG i k with h | h
 ·rw[Yv (by simpa using h),Xu];constructor
  ·intro e;split at e<;>cases e
  ·intro ⟨e,_⟩;lia
 ·rw[Hg (by simpa using h),Y4];exact⟨λe=>⟨h,e⟩,λe=>e.2⟩
def vd{a:GM}:bT (λi=>L (i-k)) (List.replicate k Y++U) a↔bT L U a:=by
 constructor
 ·rintro⟨j,t,h1,b⟩;exact⟨j-k,t,(iX.mp h1).2,b⟩
 ·rintro⟨j,t,h1,b⟩;refine⟨j+k,t,iX.mpr ⟨Xk _ _,by rw[Wk];exact h1⟩,?_⟩;show a∈L (j+k-k);rw[Wk];exact b
def uM{a:GM}:di (λi=>L (i-k)) (List.replicate k Y++U) a↔di L U a:=by
 constructor
 ·rintro⟨j,t,h1,b⟩;exact⟨j-k,t,(iX.mp h1).2,b⟩
 ·rintro⟨j,t,h1,b⟩;refine⟨j+k,t,iX.mpr ⟨Xk _ _,by rw[Wk];exact h1⟩,?_⟩;show a∈L (j+k-k);rw[Wk];exact b
def SR.sh(s:SR G L U Z H):SR G (λi=>L (i-k)) (List.replicate k Y++U) (List.replicate k Y++Z) H:=by
 refine⟨by simp[s.len],λi c h=>?_,λi t h=>?_,λi j t c h1 a n=>?_⟩
 ·obtain⟨h1,a⟩:=iX.mp h;obtain⟨v,d,b⟩:=s.rp _ c a;refine⟨v,?_,b⟩;rw[Hg (by simpa using h1),Y4];exact d
 ·exact s.nd _ t (iX.mp h).2
 ·obtain⟨a1,a2⟩:=iX.mp h1;obtain⟨f,e⟩:=iX.mp a;exact s.sep _ _ t c a2 e (by lia)
def SR.less{a:VS.Env}(s:SR G L a Z H)(b:U.length=a.length)(h:∀(i:Nat) c,U[i]?=O (O c)->a[i]?=O (O c)):SR G L U Z H :=
 ⟨b.trans s.len,λi c e=>s.rp i c (h i c e),λi t e=>s.nd i t (h i _ e),λi j t c e1 e2 n=>s.sep i j t c (h i _ e1) (h j _ e2) n⟩
def SR.off{D:GM}{o:HO}(s:SR G L U Z H)(m:DI (H D)\/H D=Y)(f:¬di L U D)(d:¬bT L U D):SR G L U Z (upd H D o):=by
 refine⟨s.len,λi c e=>?_,s.nd,s.sep⟩;obtain⟨v,j,h⟩:=s.rp i c e;refine⟨v,j,h.keep (Kept.upd m) λb a l g=>?_⟩;rw[av λz=>?_]
 ·exact g
 ·subst z;cases c with
  |pu t=>exact f ⟨i,t,e,a⟩
  |ow t=>exact d ⟨i,t,e,a⟩
theorem ka:∀(l:Vf)(v:Val),bP (l++[v])=(bP l).join v.1
 |[],(m,t)=>by cases m<;>rfl
 | (m,t) :: l,v=>by
  show m.join (bP (l++[v]))=(m.join (bP l)).join v.1;rw[ka l v];generalize bP l=q;generalize v.1=r;cases m<;>cases q<;>cases r<;>rfl
def Fp.Kz{m n:Md}{F j:Wn}(f:Fp L U H m F)(g:Fp L U H n j)(d:n=.fr->∀a∈F,a∉j):Fp L U H (m.join n) (F++j):=by
 have both:∀{P:GM->Prop},(∀a∈F,P a)->(∀a∈j,P a)->∀a∈F++j,P a:=λp q a h=>(Zc.mp h).elim (p a) (q a);cases m<;>cases n
 ·exact⟨ZA.mpr ⟨f.1,g.1,λa i b l e=>d M a i (e ▸ l)⟩,both f.2 g.2⟩
 ·exact both (λa i=>.inl (f.2 a i)) g
 ·exact both (λa i=>.inl (f.2 a i)) g
 ·exact both f λa i=>.inl (g.2 a i)
 ·exact both f g
 ·exact both (λa i=>(f a i).imp id .inl) g
 ·exact both f λa i=>.inl (g.2 a i)
 ·exact both f λa i=>(g a i).imp id .inl
 ·exact both f g
def Fp.Lk{m:Md}{F:Wn}{D:GM}(f:Fp L U H m F)(h:H D=Y)(d:D∉F):Fp L U H m (D :: F):=by
 have all:∀{P:GM->Prop},P D->(∀a∈F,P a)->∀a∈D :: F,P a:=λp q a b=>(Zo.mp b).elim (λe=>e ▸ p) (q a);cases m
 ·exact⟨ZU.mpr ⟨d,f.1⟩,all h f.2⟩
 ·exact all (.inl h) f
 ·exact all (.inl h) f
end
section
variable{G:Gx}{k:Nat}{tg:Tg}{ci:Em}{cond:Option Ex}{ce:Ex}
noncomputable def CI(G:Gx)(L:DJ)(U b:VS.Env)(H p:Hp)(D:GM)(l:Vd)(h:Vf)(q:Tg)(d:Option Ex)(r:Ex)(i n:Nat)(s:p0.St)(f:Hp):Prop:=n=l.length-i/\∃e g j m rest,SR G e b s f/\(∀a,bT e b a->bT L U a)/\(∀a,di e b a->H a=Y\/di L U a)/\¬di e b D/\¬bT e b D/\Kept p f ∧
     (∀a o,a≠D->p a=O o->f a=O o)/\f D=O (.lst m)/\tx G f m (trees g) j/\D∉j.flatten/\Fp L U H (bP g) j.flatten/\ij q d r b (l.drop i)=O rest/\g++rest=h
def qG{Z:p0.St}{H:Hp}{Q:VK}(Eo:xW k tg)(h:tE G (dJ k tg ci cond ce) Z H Q):u4 k (tI G ci) (tG G tg) (tC G cond) (tE G ce) Z H Q:=by
 refine p0.fO λP_ R=>?_;obtain⟨L,U,m,r,s,e,kq⟩:=h;unfold dJ at e;obtain⟨⟨mi,l⟩,el,e1⟩:=Zz.mp e;dsimp only at e1;split at e1
 ·rename_i xb;obtain⟨all,ea,e2⟩:=Zz.mp e1;unfold Fh at e2;split at e2
  ·rename_i hlen;cases e2;refine R ?_;refine⟨L,U,mi,l,s,el,λJ H1 C e3 ok fc D hD=>?_⟩;have Ir:H D=Y:=e3.free hD;let X:VS.Env:=List.replicate k Y++U
   have good:∀{t:T}{i:Nat}{N H2:Hp}{v:V}{F:Wn},l[i]?=O t->Rp G H2 v t F->(∀a,H1 a≠Y->N a≠Y)->(∀a∈F,a∈C\/N a=Y)->∀a∈F,(H a=Y\/di L U a)/\¬bT L U a:=λ{t i N H2 v F} hi rF keep hF a d=>by
    have DY:∀{b},H b≠Y->N b≠Y:=λ{b} hb=>keep b λz=>hb (e3.free z);rcases hF a d with z | z
    ·rcases fc a z with q | q | ⟨q,w⟩
     ·exact⟨.inl q,λw=>DI.td (s.EA w) q⟩
     ·exact⟨.inr q,λw=>s.Hn w q⟩
     ·subst q;have:DZ t=true:=by
       exact qm l xb hi
      rw[rF.DZ this]at d;simp at d
    ·have hz:H a=Y:=Classical.byContradiction λq=>DY q z;exact⟨.inl hz,λw=>DI.td (s.EA w) hz⟩
   refine⟨CI G L U X H H1 D l all tg cond ce,?_,?_⟩
   ·refine⟨l.length-0,rfl,λi=>L (i-k),[],[],[],all,?_,λa h=>vd.mp h,λa h=>.inr (uM.mp h),λh=>?_,λh=>?_,Kept.upd (.inr hD),λa o n h=>by rw[av n];exact h,aw,.nil,by simp,Fp.nil,by rw[XC];exact ea,rfl⟩
    ·exact((s.same e3).sh).off (.inr hD) (λh=>DI.td (s.Hm (uM.mp h)) Ir) λh=>DI.td (s.EA (vd.mp h)) Ir
    ·exact DI.td (s.Hm (uM.mp h)) Ir
    ·exact DI.td (s.EA (vd.mp h)) Ir
   ·intro i n Z' N Ts;refine p0.fO λP_ R=>?_;obtain⟨rfl,L1,P,Fs,xs,rest,s1,Po,Rw,Sh,Sj,kp,old,J5,rp,nD,fp,er,ev⟩:=Ts;refine R ?_;have GP:∀a,H1 a≠Y->N a≠Y:=λa d z=>by
     by_cases q:a=D
     ·subst q;rw[J5]at z;cases z
     ·cases e:H1 a with
      |none=>exact d e
      |some o=>rw[old a o q e]at z;cases z
    refine p0.fO λP_ R=>?_;obtain⟨go,stop⟩:=ok.run N kp λa d o ho=>old a o (λz=>ok.DY a d (z ▸ hD)) ho;cases hit:l[i]? with
    |none =>
     have hl:l.length<=i:=Yw.mp hit;refine R ?_;left;refine⟨stop i hl,?_⟩;rw[Xo hl]at er;cases (show O ([]:Vf)=O rest from er);rw[Ft]at ev;subst ev;refine kq (.ref D) N (D :: Fs.flatten) (λa o h=>old a o (λz=>by rw[z,Ir]at h;cases h) (e3 a o h)) (.lst J5 rp) ?_;by_cases hi:eT (trees P)=true
     ·rw[Zr hi,rp.DZ hi];exact⟨by simp,λa d=>by rw[Zf.mp d];exact Ir⟩
     ·rw[Zm hi];exact fp.Lk Ir nD
    |some t =>
     have hl:i<l.length:=(ZY.mp hit).1;obtain⟨g1,y1⟩:=go i t hit;refine R ?_;right;refine⟨g1,λx H2 yl=>?_⟩;refine p0.fO λP_ R=>?_;obtain⟨B,F,rF,hF⟩:=y1 x H2 yl;rw[lz (tgt:=tg) (body:=h9) (U:=U) hit]at er;rw[ij]at er;obtain⟨p,e4,e5⟩:=Zz.mp er;obtain⟨b,eb,e6⟩:=Zz.mp e5;have gd:=good hit rF GP hF;have s2:=s1.same B;have DF:D∉F:=λh=>by
      rcases hF D h with z | z
      ·exact ok.DY D z hD
      ·rw[J5]at z;cases z
     refine R ?_;refine⟨L1,X,t,F,p,s2,rF,λa d z=>(gd a d).2 (Po a z),e4,λg Z3 s3 o3 p3=>?_⟩;obtain⟨tl,Kg⟩:=Eo t X p e4;have low:∀j c,X[j]?=O (O c)->p[j]?=O (O c):=λj c h=>by rw[Kg j (iX.mp h).1];exact h
     have LS:∀a,di g p a->H a=Y\/di L U a:=λa h=>(p3 a h).elim (Rw a) λh=>(gd a h).1;have MP:∀a,bT g p a->bT L U a:=λa h=>Po a (o3 a h);have Ks:¬di g p D:=λh=>(p3 D h).elim Sh DF;have LX:¬bT g p D:=λh=>Sj (o3 D h);have LR:∀a,di g X a->di g p a:=λa ⟨j,u,h1,h2⟩=>⟨j,u,low j _ h1,h2⟩
     have LU:∀a,bT g X a->bT g p a:=λa ⟨j,u,h1,h2⟩=>⟨j,u,low j _ h1,h2⟩
     have IE:∀A,aM H2 A->(if b=true then tE G ce Z3 A λy I=>∃ys,I D=O (.lst ys)/\ys.length<FS/\∃m',m'<l.length-i/\CI G L U X H H1 D l all tg cond ce (i+1) m' Z3 (upd I D (.lst (ys++[y]))) else ∃m',m'<l.length-i/\CI G L U X H H1 D l all tg cond ce (i+1) m' Z3 A):=λA f=>by
      have eo:∀{I},aM A I->∀a o,N a=O o->I a=O o:=λ{I} J9 a o h=>J9 a o (f a o (B a o h));cases b with
      |false =>
       rw[Zm Zk]at e6 ⊢;have same:=eo (aM.refl A);exact⟨_,by lia,rfl,g,P,Fs,xs,rest,(s3.same f).less (by rw[tl]) low,λa h=>MP a (LU a h),λa h=>LS a (LR a h),λh=>Ks (LR D h),λh=>LX (LU D h),kp.trans ((Kept.of B).trans (Kept.of f)),λa o n h=>same a o (old a o n h),same D _ J5,rp.same (aM.trans B f),nD,fp,e6,ev⟩
      |true =>
       rw[Zr M]at e6 ⊢;obtain⟨⟨mv,tv⟩,T4,e7⟩:=Zz.mp e6;obtain⟨Kp,TY,EO⟩:=Zn.mp e7;refine⟨g,p,mv,tv,s3.same f,T4,λy I Fy J9 ry W=>?_⟩;have same:=eo J9;have Qk:=same D _ J5;have L0:DI (I D):=by rw[Qk];exact True.intro
       have Ot:A D=O (.lst xs):=f D _ (B D _ J5);have Hq:∀a,A a=Y->H a=Y:=λa h=>Classical.byContradiction λq=>GP a (λz=>q (e3.free z)) (B.free (f.free h));have TR:Fp L U H mv Fy:=by
        cases mv with
        |fr=>exact⟨W.1,λa d=>Hq a (W.2 a d)⟩
        |pu=>exact λa d=>(W a d).elim (λz=>.inl (Hq a z)) (LS a)
        |bo=>exact λa d=>(W a d).elim (λz=>.inl (Hq a z)) λz=>z.elim (λz=>(LS a z).imp id .inl) λz=>.inr (.inr (MP a z))
       have QN:D∉Fy:=λh=>by
        cases mv with
        |fr=>have:=W.2 D h;rw[Ot]at this;cases this
        |pu=>exact(W D h).elim (λz=>by rw[Ot]at z;cases z) Ks
        |bo=>exact(W D h).elim (λz=>by rw[Ot]at z;cases z) λz=>z.elim Ks LX
       have Rt:tx G I xs (trees P) Fs:=rp.same ((B.trans f).trans J9);have Sq:xs.length=P.length:=by rw[rp.len.1];simp
       have Sr:P.length<all.length:=by rw[← ev,← EO];simp
       refine⟨xs,Qk,?_,_,by lia,rfl,g,P++[(mv,tv)],Fs++[Fy],xs++[y],Kp,(((s3.same f).same J9).off (.inl L0) Ks LX).less (by rw[tl]) low,λa h=>MP a (LU a h),λa h=>LS a (LR a h),λh=>Ks (LR D h),λh=>LX (LU D h),?_,λa o n h=>?_,aw,?_,?_,?_,TY,?_⟩
       ·have PY:all.length<=fC:=by simpa using hlen
        have:FS=fC:=rfl;lia
       ·exact(kp.trans ((Kept.of B).trans ((Kept.of f).trans (Kept.of J9)))).trans (Kept.upd (.inl L0))
       ·rw[av n];exact same a o (old a o n h)
       ·have:trees (P++[(mv,tv)])=trees P++[tv]:=by simp
        rw[this];exact(Rt.off L0 nD).append (.cons (ry.keep (Kept.upd (.inl L0)) λb hb o ho=>by rw[av (λz=>QN (by rw[← z];exact hb))];exact ho) .nil)
       ·rw[Gk];intro h;rcases Zc.mp h with z | z
        ·exact nD z
        ·exact QN (by simpa using z)
       ·rw[Gk,ka];have:([Fy]:Yb).flatten=Fy:=by simp
        rw[this];refine fp.Kz TR λhm a d hb=>?_;subst hm;have h4:=W.2 a hb;have:DI (A a):=(rp.same (B.trans f)).DY a d;rw[h4]at this;exact this
       ·rw[Zb,← ev,← EO];rfl
     cases cond with
     |none =>
      cases (show O true=O b from eb);exact IE H2 (aM.refl H2)
     |some c =>
      obtain⟨⟨mc,xc⟩,T6,T5⟩:=Zz.mp eb;exact⟨g,p,mc,xc,b,s3,T6,T5,λA f=>IE A f⟩
  ·cases e2
 ·cases e1
end
section
variable{G:Gx}{X:Cx}{elt tg iter c:Expr}{sc:Scope}{pos pos' Km:Pos}{N:List Str}{k i:Nat}{x:Str}{ci:Em}{g:Tg}{cc ce:Ex}
def mI(k:Nat)(N:List Str)(m:X.calm=J)(b:PVI G X tg iter ci)(l:xW k g)(d:∀cl C s H fp,JS G (cH X N sc cl C s H fp) tg g)(e:∀cl C s H fp,PV G (cH X N sc cl C s H fp) elt ce)(n:iw X.env sc=J:=by rfl)(j:iO sc (N.drop k) X.N=J:=by rfl)(f:k<=N.length:=by decide)(a:∀x,UF iter X.env x=pure x:=by intro _;rfl) :
  PV G X (.ListComp elt [⟨tg,iter,[],0⟩] sc pos) (dJ k g ci Y ce) :=
 PE.weak (ng m b n j f (λcl C s H fp=>⟨d cl C s H fp,oW,e cl C s H fp⟩) a) λZ H Q h=>qG (cond:=Y) l h
def lh(k:Nat)(N:List Str)(n:X.calm=J)(b:PVI G X tg iter ci)(m:xW k g)(d:∀cl C s H fp,JS G (cH X N sc cl C s H fp) tg g)(f:∀cl C s H fp,Gn G (cH X N sc cl C s H fp) c cc)(e:∀cl C s H fp,PV G (cH X N sc cl C s H fp) elt ce)(o:iw X.env sc=J:=by rfl)(l:iO sc (N.drop k) X.N=J:=by rfl)(j:k<=N.length:=by decide)(a:∀x,UF iter X.env x=pure x:=by intro _;rfl) :
  PV G X (.ListComp elt [⟨tg,iter,[c],0⟩] sc pos) (dJ k g ci (O cc) ce) :=
 PE.weak (ng n b o l j (λcl C s H fp=>⟨d cl C s H fp,ua (f cl C s H fp),e cl C s H fp⟩) a) λZ H Q h=>qG (cond:=O cc) m h
end
end VS
end
section
namespace p0
open PySem PySem.Spec PyProof.Rows
def O7(K:Xj)(a:GM):It :=
 ⟨λi H=>∃b x,DM K H a b/\b[i]?=O x,λi H v d=>∃p x,H p=Y/\v=.ref p/\d=upd H p (.tup [.int i,x])/\∀b,DM K H a b->b[i]?=O x,λi H=>∃b,DM K H a b/\b.length<=i⟩
def sy{P:PP}{w:SL}{K:Xj}{D:List Expr}{n:Nat}{N:Pos}(a e g:GM)(Hc:e≠g):Turn P w K (.Tuple D n N) (O7 K a) [e,g] e (λi h=>(∃old,IsEnum h e g i old)/\h.IsListIter g a i) where
 mem:=by simp
 obj:=λi h st b f=>by
  obtain⟨⟨old,j⟩,o,R,c,d⟩:=st;rcases Zo.mp f with rfl | f
  ·exact⟨_,j,λv z=>by cases (show Data.fields _=Data.cell v from z)⟩
  ·rw[Zf.mp f];exact⟨o,R,λv z=>by rw[d]at z;cases z⟩
 keep:=λi h h' st k=>⟨let ⟨old,j⟩:=st.1;⟨old,k e (by simp) _ j⟩,st.2.at λo x=>k g (by simp) o x⟩
 item:=by
  intro X W hw hK hc i l s Z H E I A st U;subst W hw hK;obtain⟨xs,x,G,Q⟩:=U;obtain⟨oe,L,p,hz⟩:=I.list G;obtain⟨u,hu,ru⟩:=L.get Q;obtain⟨⟨old,j⟩,hit⟩:=st;refine wpAny_pyNext_enum_item j hit p.isList (x:=u) (by simpa using hu) Hc λh1 R NX hT hsz hk=>⟨_,rfl,?_⟩
  refine wpAny_letOwnedTupleGo_enum R λC N8 F=>?_;have F:Heap.SameBut e h1 C:=F;have PD:e<s.heap.objs.size:=ZZ j;have ltI:g<s.heap.objs.size:=let ⟨_,z,_⟩:=hit;ZZ z
  have Qj:H s.heap.objs.size=Y:=I.xb.fresh (Zs _);have B:∀b o,b∉[e,g]->s.heap.get? b=O o->C.get? b=O o:=λb o f q=>by
   have Qm:b≠e:=λz=>f (by simp[z]);have TM:b≠g:=λz=>f (by simp[z]);exact(F.2 b Qm).trans (hk b o Qm TM q)
  have Qh:C.get? s.heap.objs.size=O { cls:=.type "tuple",data:=.seq #[.int i s.toks,u] }:=(F.2 _ (Nat.ne_of_gt PD)).trans hT;have Pu:∀b o,H b=O o->b∉[e,g]:=λb o q f=>by rw[(A b f).1]at q;cases q
  have lt:∀b o,s.heap.get? b=O o->b≠s.heap.objs.size:=λb o q=>ZL (ZZ q);have up:∀b o,H b=O o->upd H s.heap.objs.size (.tup [.int i,x]) b=O o:=λb o q=>by rw[av (aR q Qj)];exact q
  have NH:Ee X.prog X.w (upd H s.heap.objs.size (.tup [.int i,x])) C:=λb ob q=>by
   by_cases f:b=s.heap.objs.size
   ·subst f;rw[aw]at q;cases q;exact⟨by show 2<=FS;decide,[.int i s.toks,u],.cons ⟨_,rfl⟩ (.cons ru .nil),IB.of Qh M,⟨_,Qh,rfl,_,rfl⟩⟩
   ·rw[av f]at q;refine(I.xb b ob q).F7 (λc v t r=>B c v ?_ r) (λc r=>up c _ r) (λc ys r=>up c _ r) λc _ _ r=>up c _ r;rcases t with z | z
    ·rw[z];exact Pu b ob q
    ·exact Pu c _ z
  refine⟨.ref s.heap.objs.size,upd H s.heap.objs.size (.tup [.int i,x]),?_,rfl,⟨_,x,Qj,rfl,rfl,λys hy=>by rw[I.Ga hy G];exact Q⟩,⟨⟨u,by simpa using N8⟩,NX.at λo y=>(F.2 g Hc.symm).trans y⟩,λb f=>?_⟩
  ·show Inv X l Z _ { s with heap:=C,gens:=s.gens,drawn:=s.drawn,toks:=s.toks+1 };refine I.step (g':=s.gens) (d':=s.drawn) (t':=s.toks+1) (ch:=[e,g]) (λb f=>?_) (λb o _ _ t q _=>B b o t q) (λb o _ _ t q _=>⟨o.slots,B b o t q⟩) (λb o _ q r=>by rw[av (lt b o q)];exact r) (λb o t q=>⟨o,B b o t q⟩)
    (λb ys q=>up b _ q) (λb o v q=>up b _ q) (λb _ q=>up b _ q) (λm hm=>?_) NH I.bare
   ·obtain⟨f0,f1,f2,f3,f4,f5⟩:=A b f;exact⟨f3,f1,f4,f5⟩
   ·obtain⟨o,es,ep,G4,r⟩:=hm;refine⟨o,es,ep,B _ o (λz=>?_) G4,r⟩;exact(A _ z).2.1 M
  ·have:b≠s.heap.objs.size:=by
    rcases Zo.mp f with rfl | f
    ·exact ZL PD
    ·rw[Zf.mp f];exact ZL ltI
   rw[av this];exact(A b f).1
 done:=by
  intro X W hw hK hc i l s Z H E I A st U;subst W hw hK;obtain⟨xs,G,Q⟩:=U;obtain⟨oe,L,p,hz⟩:=I.list G;obtain⟨⟨old,j⟩,hit⟩:=st;obtain⟨f0,f1,f2,f3,f4,f5⟩:=A g (by simp);have hl:=L.length;exact wpAny_pyNext_enum_end (I.ok.hd hc) j hit p.isList (by simp;lia) λh' eb=>⟨rfl,I.turned (t':=s.toks) (λb o f q=>eb b o f q) f0 f1 f3 f4 f5⟩
 self:=λ_ _ _ _ _ st h=>let ⟨_,j⟩:=st.1;wpAny_pyIter_enum j h
section
variable{X:Cx}{tg a:Expr}{ta:TA}{p pos:Pos}
def C9(K:Xj)(f:TA):TI:=λZ H R=>f Z H λe b=>∃l,e=[.ref l]/\(∃d,DM K b l d)/\R (O7 K l) b
def wU{f:List Expr}{n:Nat}{D:Pos}(B:Gl X "enumerate")(z:X.mg "enumerate" = Y)(C:PA X [a] ta)(x:KM [a] X.env=[(S,eval a X.env)]:=by rfl):PI X (.Tuple f n D) (.Call (.Name "enumerate" p) [a] [] pos) (C9 X.K ta):=by
 intro d s Z H R I h;refine Call_ (gE I B z boot_enumerate (Y0 (thn (C pos d s Z H _ I h) λN g ⟨L,F,i,r1,u⟩=>?_) x M));obtain⟨l,e,⟨G,y⟩,q⟩:=u;subst e;cases r1 with
 |cons r t =>
  cases t;cases r;obtain⟨Q,P,v,U⟩:=i.list y;refine call_enumerate_list v.isList λW m hit w A=>?_;refine wpAny_pyIter_enum m ?_;refine⟨_,_,_,_,F,rfl,i.kept (t':=g.toks) A,sy l (g.heap.objs.size+1) g.heap.objs.size (Nat.succ_ne_self _),⟨⟨_,m⟩,hit⟩,λb j=>?_,q⟩;have o:g.heap.objs.size<=b:=by
   rcases Zo.mp j with rfl | j
   ·exact ZI _ _
   ·rw[Zf.mp j];exact Zs _
  exact i.Fm o (i.xb.fresh o)
end
end p0
namespace VS
open PySem PySem.Spec PyProof.Rows p0
section
variable{G:Gx}{X:Cx}{a:Expr}{ca:Ex}{pos p Jf:Pos}{elts:List Expr}{n:Nat}
theorem oO:∀(l:Vd)(k i:Nat){t:T},(fz k l)[i]?=O t->∃x,l[i]?=O x/\t=.tup [.int ((k+i:Nat):Int),x]
 |[],_,_,_,h=>by simp[fz]at h
 |x :: l,k,0,t,h=>by
  simp[fz]at h;exact⟨x,rfl,by rw[← h];rfl⟩
 |x :: l,k,i+1,t,h=>by
  obtain⟨y,h1,b⟩:=oO l (k+1) i (by simpa[fz] using h);refine⟨y,by simpa using h1,?_⟩;rw[b,show k+1+i=k+(i+1) by lia]
theorem lO:∀(l:Vd)(k:Nat),(fz k l).length=l.length
 |[],_=>rfl
 |x :: l,k=>by simp[fz,lO l (k+1)]
def yq{H:Hp}{a:GM}{d:List V}{f:Vd}{j:Yb}(K:Xj)(s:H a=O (.lst d))(r:tx G H d f j):GH G (O7 K a) (fz 0 f) (a :: j.flatten) H:=by
 refine⟨λg k c=>?_,λb e=>?_⟩
 ·have l:g a=O (.lst d):=c a Zx _ s;have r2:tx G g d f j:=r.keep k λb e o B=>c b (Zw _ e) o B;refine⟨λi t h=>?_,λi h=>⟨d,DM.of l,by rw[lO]at h;rw[r.len.1];exact h⟩⟩;obtain⟨y,w,u⟩:=oO f 0 i h;rw[Y7]at u;obtain⟨v,F,h1,D,C⟩:=r2.get i w;refine⟨⟨d,v,DM.of l,h1⟩,λx L ⟨p,z,A,e1,e2,I⟩=>?_⟩;subst e1 e2;have ex:=I d (DM.of l);rw[h1]at ex;cases ex;have m:aM g (upd g p (.tup [.int i,v])):=λb o q=>by rw[av (aR q A)];exact q
  refine⟨m,F,?_,λb e=>.inl (Zw _ (dH D e))⟩;rw[u];have:F=([[],F]:Yb).flatten:=by simp
  rw[this];exact .tup aw (.cons (.int _) (.cons (C.same m) .nil))
 ·rcases Zo.mp e with rfl | e
  ·rw[s];exact λz=>nomatch z
  ·exact DI.td (r.DY b e)
def oM(r:PV G X a ca)(q:Gl X "enumerate")(o:X.mg "enumerate" = Y)(i:K0 a [] X:=by rfl)(A:KM [a] X.env=[(S,eval a X.env)]:=by rfl) :
  PVI G X (.Tuple elts n Jf) (.Call (.Name "enumerate" p) [a] [] pos) (oF ca) :=
 PI.weak (wU q o (dc r eQ i) A) λZ H R j=>by
  obtain⟨L,U,m,l,s,e,k⟩:=j;unfold oF at e;obtain⟨⟨h,x⟩,u,e1⟩:=Zz.mp e;refine⟨L,U,h,x,s,u,λv z F w g t=>?_⟩;cases x with
  |lst B =>
   cases e1;obtain⟨y,d,C,rfl,rfl,b,f⟩:=g.lst_inv;exact⟨y,rfl,⟨d,DM.of b⟩,k _ z _ w (yq X.K b f) t.c⟩
  |_=>cases e1
end
instance {s:Tx}:Decidable (ip s):=inferInstanceAs (Decidable (_/\_))
section
variable{G:Gx}{X:Cx}{a b c e:Expr}{es:List Expr}{ca cb cc:Ex}{cs:D5}{pos p p1 p2 apos xh:Pos}{k k':Nat}
def w_add(f:PV G X a ca)(d:PV G X b cb):PV G X (.BinOp a .Add b pos) (e2 bD ca cb):=ku xP Av f d
def w_sub(f:PV G X a ca)(d:PV G X b cb):PV G X (.BinOp a .Sub b pos) (e2 ik ca cb):=ku zI AY f d
def w_mul(f:PV G X a ca)(d:PV G X b cb):PV G X (.BinOp a .Mult b pos) (e2 eG ca cb):=ku zV Br f d
def fX(f:PV G X a ca)(d:PV G X b cb):PV G X (.BinOp a .FloorDiv b pos) (e2 fi ca cb):=ku yu zg f d
def w_mod(f:PV G X a ca)(d:PV G X b cb):PV G X (.BinOp a .Mod b pos) (e2 oMod ca cb):=ku Ah Bo f d
def rO(d:xt k X.A)(g:PV G X a ca)(f:PV G X b cb):Gn G X (.Compare a [.Eq] [b] pos) (e2 oEq ca cb):=eU (vp d.units) zB tells_eq g f (gr _)
def aZ(g:PV G X a ca)(f:PV G X b cb)(d:jI b:=by intro _ _;rfl)(i:X.K=G.K:=by rfl):PV G X (.Subscript a b pos) (e2 aJ ca cb) :=
 PE.weak (wK uZ g f d) λZ H Q h=>by rw[i];exact kf vT h
def fA(d:X.mg "len" = Y)(g:Fc G X [e] cs)(f:Gl X "len" := by rfl)(h:X.K=G.K:=by rfl)(he:K0 e [] X:=by rfl):PV G X (.Call (.Name "len" p) [e] [] pos) (eN dS cs) :=
 iH (h ▸ sE) zX f d PySem.boot_len g (he:=he) (hpl:=rfl)
def AS:bootBuiltins ("min" : Str)=O (.builtin "min"):=by decide +kernel
def rM:bootBuiltins ("list" : Str)=O (.type "list"):=by decide +kernel
def wy(d:X.mg "min" = Y)(h:Fc G X [a,b] cs)(g:X.calm=J:=by rfl)(f:Gl X "min" := by rfl)(he:KM [a,b] X.env=(S,eval a X.env) :: KM [b] X.env:=by rfl)(hpl:(backTo pos (KM [b] X.env)).any (·.1)=S:=by rfl):PV G X (.Call (.Name "min" p) [a,b] [] pos) (eN pq cs) :=
 iH (r6 g) xG f d AS h (he:=he) (hpl:=hpl)
def IC:Ty->Str
 |.int => "int" |.str => "str" |.bool => "bool" |.list => "list" |.tuple => "tuple" |.dict => "dict"
def CG(t:Ty):bootBuiltins (IC t)=O (.type (Ha t)):=by cases t<;>decide +kernel
def w_is(t:Ty)(f:X.mg "isinstance" = Y)(l:X.mg (IC t)=Y)(h:PV G X a ca)(g:Gl X "isinstance" := by rfl)(j:Gl X (IC t):=by rfl)(i:X.K=G.K:=by rfl)(d:KM [a,.Name (IC t) p2] X.env=(S,eval a X.env) :: KM [.Name (IC t) p2] X.env:=by rfl):PV G X (.Call (.Name "isinstance" p1) [a,.Name (IC t) p2] [] pos) (Lg t ca) :=
 CW t h g f j l (CG t) i (by cases t<;>decide) (by cases t<;>decide) d M M
def gO(i:Nat){x:Str}(j:Fc G X [e] cs)(n:X.K=G.K:=by rfl)(m:X.N[i]?=O x:=by rfl)(d:FX X.env.scope x:=by first | exact Or.inl M | exact Or.inr (Or.inl M) | exact Or.inr (Or.inr M))(g:K2 x:=by decide)(s:K3 x:=by decide)(o:((backTo xh (KM [e] X.env)).all (λx=>!x.1)&&(backToKw xh (P3 [] X.env)).all (λx=>x.1.isSome)
   && decide ([e].length+([]:List Keyword).length+(if ([]:List Keyword).isEmpty then 0 else 1)<30))=J:=by rfl)(q:(apos.endLine==xh.line)=J:=by rfl)(f:K0 e [] X:=by rfl) :
  PSV G X (.Expr (.Call (.Attribute (.Name x p1) "append" apos) [e] [] xh) pos) (sX (mD i [] bx cs)) :=
 vc i WT WV WW g9 jr (λH v t F l z r h=>gM r h) j n m d g s M o q f M M
end
structure FnAt(P:PP)(w:SL)(K:Xj)(mg:X2)(base:SC)(k:Nat)(x:Str)(ps:List Str)(G:Gx)(g:Fn):Prop where
 ex:∃f fd,FnOk P w K mg base FC k f fd ps (G0 G g)/\mg x=some (.ref f)/\PySem.W.keepIn K (.ref f)=true/\Binds K fd ps []
section
variable{G:Gx}{X:Cx}{e:Expr}{es:List Expr}{cs:D5}{pos p:Pos}{k k':Nat}{x:Str}{ps:List Str}{g:Fn}
def aT(F:FnAt X.prog X.w X.K X.mg X.base k x ps G g)(b:xt k' X.A)(j:Fc G X (e :: es) cs)(d:k<=k':=by decide)(h:Gl X x:=by rfl)(o:K2 x:=by decide)(i:K0 e es X:=by rfl)(a:K1 pos es X:=by rfl) :
  PV G X (.Call (.Name x p) (e :: es) [] pos) (aN g cs):=by
 obtain⟨f,fd,h1,n,m,l⟩:=F.ex;exact xJ h1 (b.mono d) h n m l j o i a
end
section
variable{G:Gx}{P:PP}{w:SL}{K:Xj}{mg:X2}{base:SC}
def fF{x:Str}{a:Stmt}{f:GM}{i:On}{N b:List Str}{k g h:Nat}{c:Sx}(F:EH K x x a f i)(m:mg x=O (.ref f))(S:xa N b (aq a))(j:b.length=g)(l:N.length=h)(o:∀(kV doc pm:IR)(an:Option GM)(d ct:IR)(e:Wm),e.length=b.length->bindArgs (PySem.W.fnOf x x (aY a) (aS a) (aq a) .none kV doc pm an d ct) ⟨e,[]⟩=pure (b.zip e))(n:∀(d:IR)(A:Pi)(outer:List PySem.Env)(s:FB)(H:Hp)(E:XK),xt k (A.deeper (envOfC x (aq a) s.heap.objs.size f d))->jm G (kQ FC P w K mg base N x (aq a) f d A outer s H E).Ig (aS a) c) :
  FnAt P w K mg base (k+1) x b G (fn g h c) :=
 ⟨f,i,Qq F S j l n,m,F.kp,F.binds o⟩
end
end VS
end
section
namespace p0
open PySem PySem.Spec PyProof.Rows
def Em(x:Str):It:=⟨λi _=>i<x.cps.size,λi H v a=>a=H/\∃c,x.cps[i]?=O c/\v=.str ⟨#[c]⟩,λi _=>x.cps.size<=i⟩
def kZ{P:PP}{w:SL}{K:Xj}{M:Expr}(x:Str)(t:Tok)(a:GM)(l:String)(hn:["enumerate", "zip", "dict_itemiterator", "dict_reverseitemiterator", "odict_iterator", "itertools.zip_longest", "itertools.pairwise"].contains l=S)(W:∀A:Pi,A.handled=Y->Walks P w A a [a] [a] x.cps.size (λi v=>∃c u,x.cps[i]?=O c/\v=.str ⟨#[c]⟩ u) (λi h=>h.IsStrIter a l x t i))(N7:∀(A:Pi),A.handled=Y->∀(i:Nat)(s:FB)(Q:Wd->FB->Prop)(E:Yl),s.heap.IsStrIter a l x t i->x.cps[i]?=Y->(∀j,Heap.ExtBut a s.heap j->Q Y { s with heap:=j })->KB (FM P w) A (pyNext (.ref a)) Q E s)(KH:∀(A:Pi)(i:Nat)(s:FB)(Q:Yl)(E:Yl),s.heap.IsStrIter a l x t i->Q (.ref a) s->KB (FM P w) A (pyIter (.ref a)) Q E s) :
  Turn P w K M (Em x) [a] a (λi h=>h.IsStrIter a l x t i) where
 mem:=by simp
 obj:=λi h st b g=>by
  rw[Zf.mp g];obtain⟨o,e,c,d⟩:=st;exact⟨o,e,λv z=>by rw[d]at z;cases z⟩
 keep:=λi h j st k=>let ⟨o,e,r⟩:=st;⟨o,k a (by simp) o e,r⟩
 item:=by
  intro X q hw y p i f s Z H E I m st n;subst q hw y;obtain⟨F,f1,f2,D,C,B⟩:=m a (by simp);refine(W X.A (I.ok.hd p)).item i s _ _ n st λv j G U L N=>?_;obtain⟨c,u,E4,rfl⟩:=U;have I1:Inv X f Z H { s with heap:=j,toks:=G }:=I.turned (λb o g e=>N b o (by simpa using g) e) F f1 D C B;obtain⟨o,e,c1,d⟩:=id L;exact⟨_,rfl,oR (s:={ s with heap:=j,toks:=G }) e c1 d hn ⟨.str ⟨#[c]⟩,H,I1,⟨u,rfl⟩,⟨rfl,c,E4,rfl⟩,L,λb g=>(m b g).1⟩⟩
 done:=by
  intro X q hw y p i f s Z H E I m st n;subst q hw y;obtain⟨F,f1,f2,D,C,B⟩:=m a (by simp);have R:x.cps.size<=i:=n;exact N7 X.A (I.ok.hd p) i s _ _ st (by simp[R]) λj eb=>⟨rfl,I.turned (t':=s.toks) (λb o g e=>eb b o g e) F f1 D C B⟩
 self:=λA i s Q E st h=>KH A i s Q E st h
def ux{P:PP}{w:SL}{K:Xj}{g:Expr}(x:Str)(t:Tok)(a:GM):Turn P w K g (Em x) [a] a (λi h=>h.IsStrIter a (strIterType x) x t i):=by
 cases f:x.cps.all (· < 128)
 ·have e:strIterType x = "str_iterator" := by simp[strIterType,f]
  rw[e];exact kZ x t a "str_iterator" rfl (λA b=>Walks.strWide b a x t) (λA b i s Q E st d q=>wpAny_pyNext_wide_end b st d q) λA i s Q E st q=>wpAny_pyIter_striter_wide st q
 ·have e:strIterType x = "str_ascii_iterator" := by simp[strIterType,f]
  rw[e];exact kZ x t a "str_ascii_iterator" rfl (λA b=>Walks.strAscii b a x t) (λA b i s Q E st d q=>wpAny_pyNext_ascii_end b st d q) λA i s Q E st q=>wpAny_pyIter_striter_ascii st q
section
variable{X:Cx}{tg l a b c:Expr}{tl ta tb tc:TE}{pos:Pos}
def CQ(K:Xj)(f:TE):TI:=λZ H R=>f Z H λx d=>(∃a,x=.ref a/\(∃e,DM K d a e)/\R (Mo K a) d)\/(∃a,x=.ref a/\(∃e,El K d a e)/\R (O6 K a) d)\/∃z,x=.str z/\R (Em z) d
def yY(A:PE X l tl):PI X tg l (CQ X.K tl):=by
 intro f s Z H R I h;refine thn (A f s Z H _ I h) λv d ⟨x,i,g,r1,w⟩=>?_;have m:∀b∈[d.heap.objs.size],gc X f i b:=λb B=>by
  rw[Zf.mp B];exact g.Fm (Zs _) (g.xb.fresh (Zs _))
 rcases w with⟨a,e,⟨r,j⟩,q⟩ | ⟨a,e,⟨r,j⟩,q⟩ | ⟨z,e,q⟩
 ·subst e;cases r1;obtain⟨n,u,p,y⟩:=g.list j;exact wpAny_pyIter_list p.isList ⟨d.heap.objs.size,[d.heap.objs.size],_,_,i,rfl,g.kept (t':=d.toks) λb o e=>Zg _ e,ly a _,⟨_,ZX _ M,rfl,rfl⟩,m,q⟩
 ·subst e;cases r1;obtain⟨n,u,p,y⟩:=g.tuple j;exact wpAny_pyIter_tuple (show d.heap.IsTuple a n.toArray from p) ⟨d.heap.objs.size,[d.heap.objs.size],_,_,i,rfl,g.kept (t':=d.toks) λb o e=>Zg _ e,qb a _,⟨_,ZX _ M,rfl,rfl⟩,m,q⟩
 ·subst e;obtain⟨t,rfl⟩:=r1;exact wpAny_pyIter_strU ⟨d.heap.objs.size,[d.heap.objs.size],_,_,i,rfl,g.kept (t':=d.toks) λb o e=>Zg _ e,ux z t _,⟨_,ZX _ M,rfl,rfl⟩,m,q⟩
def xg{s:FB}{d:SC}{o:Obj}(g:∀b x,b∉[s.heap.objs.size]->(s.heap.push o).get? b=O x->d.get? b=O x)(b:GM)(x:Obj)(e:s.heap.get? b=O x):d.get? b=O x :=
 g b x (λf=>Yg _ (by have:=ZZ e;rw[Zf.mp f]at this;exact this)) (Zg _ e)
def we(L:X.calm=J):dQ X (.builtin "sum") (λw H Q=>∃p,∃ns:Vw,w=[.ref p]/\DM X.K H p (ns.map V.int)/\Q (.int ns.sum) H):=by
 intro y s Z H w P Q I C h;obtain⟨p,ns,rfl,G,q⟩:=h;obtain⟨u,rfl,j⟩:=C.one;cases j;obtain⟨d,g,m,U⟩:=I.list G;have z:p<s.heap.objs.size:=by obtain⟨_,e,_⟩:=m.isList;exact ZZ e
 refine call_sum_walkG (wpAny_pyIter_list m.isList ⟨s.heap.objs.size,[s.heap.objs.size,p],[s.heap.objs.size],d.toArray.size,_,_,λi=>(ns[i]?).getD 0,rfl,Walks.list (A:=X.A.in1) (I.ok.hd L) _ p (ZL z) d.toArray,
  ⟨⟨_,ZX _ M,rfl,rfl⟩,m.isList.push _⟩,λb r=>?_,λi v N=>?_,λW R B o=>⟨.int ns.sum,H,I.kept (xg o),⟨B,?_⟩,q⟩⟩)
 ·rw[Heap.size_push];rcases Zo.mp r with rfl | r
  ·exact Vl _
  ·rw[Zf.mp r];exact Xi z
 ·have f:d[i]?=O v:=by simpa using N
  cases e:ns[i]? with
  |none =>
   have:=g.none_of (i:=i) (by rw[ZR,e];rfl);rw[this]at f;cases f
  |some n =>
   obtain⟨u,F,j⟩:=g.get (i:=i) (x:=.int n) (by rw[ZR,e];rfl);rw[F]at f;cases f;obtain⟨t,rfl⟩:=j;exact⟨t,by simp[e]⟩
 ·have hlen:d.toArray.size=ns.length:=by have:=g.length;simp at this ⊢;exact Eq.symm this
  have:∀k,k<=ns.length->preSum (λi=>(ns[i]?).getD 0) k=(ns.take k).sum:=λk=>by
   induction k with
   |zero=>intro _;simp[preSum]
   |succ k D =>
    intro o;rw[List.take_succ,List.sum_append,preSum,D (by exact Xg o)];cases e:ns[k]? <;> simp
  rw[hlen,this _ (Zs _),List.take_length]
def sH:OpR X (SB .Gt) (λx y H Q=>∃i j,x=.str i/\y=.str j/\Q (.bl (decide (j.cps.toList<i.cps.toList))) H):=by
 intro d s Z H x y v u Q I f e h;obtain⟨i,j,rfl,rfl,q⟩:=h;obtain⟨t,rfl⟩:=f;obtain⟨g,rfl⟩:=e;exact PySem.P.gt_str ⟨.bl _,H,I,rfl,q⟩
def tf:OpR X (SB .GtE) (λx y H Q=>∃i j,x=.str i/\y=.str j/\Q (.bl (!decide (i.cps.toList<j.cps.toList))) H):=by
 intro d s Z H x y v u Q I f e h;obtain⟨i,j,rfl,rfl,q⟩:=h;obtain⟨t,rfl⟩:=f;obtain⟨g,rfl⟩:=e;exact PySem.P.ge_str ⟨.bl _,H,I,rfl,q⟩
end
end p0
end
section
namespace VS
open PySem PySem.Spec PyProof.Rows p0
section
variable{G:Gx}{X:Cx}{a b c e tg:Expr}{es:List Expr}{ca cb cc:Ex}{cs:D5}{pos p p1 p2 apos xh:Pos}{k k':Nat}
def Ap(H:Hp)(s:Tx)(l:ip s):GH G (p0.Em (sx s)) (s.map λc=>T.str [c]) [] H:=by
 have sz:(sx s).cps.size=s.length:=rfl;refine⟨λn _ _=>⟨λi t h=>?_,λi h=>(by rw[Zv]at h;show (sx s).cps.size<=i;lia)⟩,λa h=>by simp at h⟩;rw[ZR]at h;obtain⟨c,f,rfl⟩:=Zn.mp h;refine⟨(by show i<(sx s).cps.size;have:=(ZY.mp f).1;lia),λx m ⟨e1,g,j,e2⟩=>?_⟩;subst e1;have:g=c:=by
  have h1:(sx s).cps[i]?=O c:=by simp[sx,f]
  rw[h1]at j;exact(ZJ j).symm
 subst this;rw[e2];exact⟨aM.refl _,[],.str [g] ⟨(by show 1<=fC;decide),λd hd=>by rw[Zf.mp hd];exact l.2 g (YO f)⟩,λa h=>by simp at h⟩
def ef(w:PV G X a ca)(B:X.K=G.K:=by rfl):PVI G X tg a (fT ca) :=
 PI.weak (yY w) λZ H R u=>by
  obtain⟨L,U,m,l,s,e,k⟩:=u;unfold fT at e;obtain⟨⟨t,x⟩,y,e1⟩:=Zz.mp e;refine⟨L,U,t,x,s,y,λv f F n j q=>?_⟩;cases x with
  |lst r =>
   cases e1;obtain⟨o,g,A,rfl,rfl,d,i⟩:=j.lst_inv;exact .inl ⟨o,rfl,⟨g,DM.of d⟩,k _ f _ n (rS X.K d i) q.c⟩
  |tup r =>
   cases e1;obtain⟨o,g,A,rfl,rfl,d,i⟩:=j.Ew;exact .inr (.inl ⟨o,rfl,⟨g,El.of d⟩,k _ f _ n (Bn X.K d i) q.c⟩)
  |str z =>
   cases e1;obtain⟨rfl,ok⟩:=j.str_inv;exact .inr (.inr ⟨_,rfl,k _ f [] n (Ap f z ok) λa h=>by simp at h⟩)
  |_=>cases e1
theorem qL{H:Hp}:∀{d:List V}{l:Vd}{g:Yb}{f:Vw},tx G H d l g->jA l=O f->d=f.map V.int
 |_,_,_,_,.nil,e=>by cases e;rfl
 |_,_,_,_,.cons (t:=t) r q,e=>by
  cases t with
  |int s =>
   simp only[jA]at e;obtain⟨h,e1,e2⟩:=Zn.mp e;subst e2;rw[qL q e1,r.int_inv];rfl
  |_=>cases e
def zY:fW G (λd H Q=>∃p,∃ns:Vw,d=[.ref p]/\DM G.K H p (ns.map V.int)/\Q (.int ns.sum) H) pR:=by
 intro L U q H l f j m t Q A e k;unfold pR at e;split at e
 ·rename_i o x;obtain⟨is,e1,e2⟩:=Zz.mp e;cases e2;obtain⟨v,F,rfl,rfl,g⟩:=(show tx G H f [.lst x] j from A.rp).one;obtain⟨a,n,r,rfl,rfl,i,h⟩:=g.lst_inv;exact⟨a,is,rfl,by rw[← qL h e1];exact DM.of i,bz k (.int _)⟩
 ·cases e
def Bj:bootBuiltins ("sum" : Str)=O (.builtin "sum"):=by decide +kernel
def uA:bootBuiltins ("tuple" : Str)=O (.type "tuple"):=by decide +kernel
def w_sum(d:X.mg "sum" = Y)(h:Fc G X [e] cs)(f:Gl X "sum" := by rfl)(i:X.K=G.K:=by rfl)(g:X.calm=J:=by rfl)(he:K0 e [] X:=by rfl):PV G X (.Call (.Name "sum" p) [e] [] pos) (eN pR cs) :=
 iH (we g) (i ▸ zY) f d Bj h (he:=he) (hpl:=rfl)
def vb:fW G (λh H Q=>∃p d,h=[.ref p]/\((DM G.K H p d/\∀l,H l=Y->Q (.ref l) (upd H l (.tup d)))\/(El G.K H p d/\Q (.ref p) H))) gq:=by
 intro L U B H l i w m t Q A e k;unfold gq at e;split at e
 ·rename_i y x;split at e
  ·rename_i z;cases e;obtain⟨v,F,rfl,rfl,j⟩:=(show tx G H i [.lst x] w from A.rp).one;obtain⟨a,d,u,rfl,rfl,s,n⟩:=j.lst_inv;have f:=(A.fp.each 0 _ _ M M).sub (YM _ _);refine⟨a,d,rfl,.inl ⟨DM.of s,λq o=>?_⟩⟩;have g:aM H (upd H q (.tup d)):=bL o;have r:Rp G (upd H q (.tup d)) (.ref q) (.tup x) u.flatten:=.tup aw (n.same g);exact k _ _ _ g r (f.up r)
  ·cases e
 ·cases e
def qO(d:X.mg "tuple" = Y)(g:Fc G X [e] cs)(f:Gl X "tuple" := by rfl)(h:X.K=G.K:=by rfl)(he:K0 e [] X:=by rfl):PV G X (.Call (.Name "tuple" p) [e] [] pos) (eN gq cs) :=
 kY kP (h ▸ vb) f d uA g (he:=he) (hpl:=rfl)
def Pj:R2:=λx y H Q=>GN (λi j=>.bl (decide (j<i))) x y H Q\/(∃i j,x=.str i/\y=.str j/\Q (.bl (decide (j.cps.toList<i.cps.toList))) H)
def Pk:R2:=λx y H Q=>GN (λi j=>.bl (decide (j<=i))) x y H Q\/(∃i j,x=.str i/\y=.str j/\Q (.bl (!decide (i.cps.toList<j.cps.toList))) H)
def vJ(s t:Tx):decide ((sx s).cps.toList<(sx t).cps.toList)=EB s t:=by rw[ir];exact decide_eq_decide.mpr (by simp[sx])
def Cu:fG G Pj Gi:=by
 intro L U i H x y u w l j m t Q d e k;obtain⟨h,x⟩:=x;obtain⟨g,y⟩:=y;obtain⟨same,r1,r2,f1,f2,nd⟩:=d;unfold Gi oLt at e;split at e
 ·rename_i e1 e2;cases e1;cases e2;cases e;exact .inl ⟨_,_,r1.int_inv,r2.int_inv,bz k (.bl _)⟩
 ·rename_i s _ f e1 e2;cases e1;cases e2;cases e;refine .inr ⟨_,_,r1.str_inv.1,r2.str_inv.1,?_⟩;rw[vJ];exact bz k (.bl _)
 ·cases e
def CP:fG G Pk II:=by
 intro L U i H x y u w l j m t Q d e k;obtain⟨h,x⟩:=x;obtain⟨g,y⟩:=y;obtain⟨same,r1,r2,f1,f2,nd⟩:=d;unfold II oLe at e;split at e
 ·rename_i e1 e2;cases e1;cases e2;cases e;exact .inl ⟨_,_,r1.int_inv,r2.int_inv,bz k (.bl _)⟩
 ·rename_i s _ f e1 e2;cases e1;cases e2;cases e;refine .inr ⟨_,_,r1.str_inv.1,r2.str_inv.1,?_⟩;rw[vJ];exact bz k (.bl _)
 ·cases e
def vI:Tells Gi:=λx y m t e=>iY y x m t e
def v5:Tells II:=λx y m t e=>nZ y x m t e
def lj(f:PV G X a ca)(d:PV G X b cb):Gn G X (.Compare a [.Gt] [b] pos) (e2 Gi ca cb):=eU (r:=Pj) (Cy.or sH) Cu vI f d (gr _)
def zk(f:PV G X a ca)(d:PV G X b cb):Gn G X (.Compare a [.GtE] [b] pos) (e2 II ca cb):=eU (r:=Pk) (BY.or tf) CP v5 f d (gr _)
def v9{r o:R2}{f g:Val->Val->Ve}(N:fG G r f)(RQ:fG G o g){Z:p0.St}{H:Hp}{Q:VK}(h:tE G (gH f g ca cb cc) Z H Q):vQ r o (tE G ca) (tE G cb) (tE G cc) Z H Q:=by
 obtain⟨L,U,m,t,s,e,k⟩:=h;unfold gH at e;obtain⟨x,ea,e⟩:=Zz.mp e;obtain⟨y,eb,e⟩:=Zz.mp e;obtain⟨⟨P,z⟩,ez,e⟩:=Zz.mp e;refine vg s ea eb λu w H2 F1 A d=>N L U H H2 x y u w F1 A P z _ d ez λv H3 F e1 r1 f1=>?_;cases z with
 |bl q =>
  refine⟨q,r1.E6,?_⟩;cases q with
  |false =>
   cases e;rw[Zm Zk];exact k _ H3 [] (d.same.trans e1) (.bl S) Fp.nil
  |true =>
   rw[Zr M];obtain⟨l,ec,e⟩:=Zz.mp (show (cc U).bind (λz=>g y z)=O (m,t) from e);have i:=d.same.trans e1;refine⟨L,U,l.1,l.2,s.same i,ec,λB H4 F4 n I j=>?_⟩;refine RQ L U H H4 y l w B A F4 m t Q ⟨i.trans n,(d.r2.same e1).same n,I,d.f2,j.back i,λW R=>?_⟩ e λC H5 F5 e5 D f5=>k C H5 F5 ((i.trans n).trans e5) D f5;have f2:=d.f2;rw[W]at f2;rw[R]at j;refine ZA.mpr ⟨f2.1,j.1,λa ha b hb z=>?_⟩;subst z;exact DI.td ((d.r2.same e1).DY a ha) (j.2 a hb)
 |_=>cases e
end
end VS
end
section
namespace p0
open PySem PySem.Spec PyProof.Rows
section
variable{X:Cx}
def sZ{α:Type}(l:List α)(n:Nat):∀acc:List α,List.foldl (λa x2=>a++x2) acc.toArray (List.replicate n l.toArray)=(acc++(List.replicate n l).flatten).toArray:=by
 induction n with
 |zero=>intro acc;simp
 |succ n b =>
  intro acc;rw[Wt,List.foldl_cons];have e:acc.toArray++l.toArray=(acc++l).toArray:=by simp
  rw[e,b (acc++l),Wt,Zd,Zb]
def yh:OpR X (binaryOp .Mult) (λx y H Q=>∃(l:W3)(k:Int),x=.str ⟨l.toArray⟩/\y=.int k/\-(2 ^ 62)<=k/\k<2 ^ 62/\l.length*k.toNat<=FS/\Q (.str ⟨(List.replicate k.toNat l).flatten.toArray⟩) H):=by
 intro f s Z H x y v u Q I i g h;obtain⟨l,k,rfl,rfl,h1,r,b,q⟩:=h;obtain⟨t,rfl⟩:=i;obtain⟨p,rfl⟩:=g;have hlen:(⟨l.toArray⟩:Str).length=l.length:=rfl;refine PySem.P.mul_str ?_ ?_ ?_ ?_
 ·rw[Bool.or_eq_false_iff];exact⟨ZP (by lia),ZP (by lia)⟩
 ·intro d _ n;rw[hlen]at n;have m:0<k:=by lia
  have:(l.length:Int)*k<=16777216:=by
   have w:l.length*k.toNat<=16777216:=b;have:((l.length*k.toNat:Nat):Int)<=16777216:=by lia
   rw[Int.natCast_mul]at this
   rwa [Int.toNat_of_nonneg (by lia)]at this
  have o:(l.length:Int)*k<=2 ^ 63-1:=by lia
  have:=(Int.le_ediv_iff_mul_le m).mpr o;lia
 ·intro _ _;rw[hlen];exact ZP (by show ¬_ > _;exact Nat.not_lt.mpr b)
 ·by_cases d:k<1
  ·rw[Zr d];have e:k.toNat=0:=by lia
   rw[e]at q;exact⟨by decide,⟨.str ⟨#[]⟩,H,I.tok _,⟨_,rfl⟩,q⟩⟩
  ·rw[Zm d];split
   ·rename_i a;have e:(List.replicate k.toNat l).flatten=l:=by
     rw[Bool.or_eq_true]at a;rcases a with a | a
     ·have:k=1:=by simpa using a
      subst this;show (List.replicate 1 l).flatten=l;simp
     ·have:l=[]:=by
       rw[hlen]at a;exact Wz (by simpa using a)
      subst this;simp
    rw[e]at q;exact⟨.str ⟨l.toArray⟩,H,I,⟨t,rfl⟩,q⟩
   ·have e:=sZ l k.toNat [];rw[YS]at e;rw[show (⟨l.toArray⟩:Str).cps=l.toArray from rfl,e];refine⟨?_,⟨.str ⟨(List.replicate k.toNat l).flatten.toArray⟩,H,I.tok _,⟨s.toks,rfl⟩,q⟩⟩;have j:=len_rep l k.toNat;show (⟨(List.replicate k.toNat l).flatten.toArray⟩:Str).length<=FS;show ((List.replicate k.toNat l).flatten.toArray).size<=FS;rw[Ze,j,Nat.mul_comm];exact b
end
end p0
namespace VS
open PySem PySem.Spec PyProof.Rows p0
section
variable{G:Gx}{X:Cx}{a b c e tg:Expr}{es:List Expr}{ca cb cc:Ex}{cs:D5}{pos p p1 p2 apos xh:Pos}{k k':Nat}
def xw:fG G (λx y H Q=>∃(l:W3)(k:Int),x=.str ⟨l.toArray⟩/\y=.int k/\-(2 ^ 62)<=k/\k<2 ^ 62/\l.length*k.toNat<=FS/\Q (.str ⟨(List.replicate k.toNat l).flatten.toArray⟩) H) nH:=by
 intro L U v H x y u w A z m t Q g e k;obtain⟨s,x⟩:=x;obtain⟨r,y⟩:=y;obtain⟨same,r1,r2,f1,f2,nd⟩:=g;unfold nH at e;split at e
 ·rename_i _ h _ j e1 e2;cases e1;cases e2;split at e
  ·rename_i d;cases e;have o:=d.2.1;have n:=d.2.2;unfold JV at o n;refine⟨h,j,r1.str_inv.1,r2.int_inv,by lia,by lia,d.1,bz k (.str _ ⟨?_,λc q=>?_⟩)⟩
   ·rw[len_rep,Nat.mul_comm];exact d.1
   ·obtain⟨x,i,f⟩:=WN.mp q;rw[(List.mem_replicate.mp i).2]at f;exact r1.str_inv.2.2 c f
  ·cases e
 ·cases e
def zM:PV G X (.Dict [] [] pos) (oq 0 []):=PE.weak uE λZ H Q d=>by
 obtain⟨L,U,m,t,s,e,k⟩:=d;cases (show O (Md.fr,T.dct 0 [])=O (m,t) from e);intro q d;have:Rp G (upd H q (.dK [])) (.ref q) (.dct 0 ((([]:List Key).map aL).zip [])) (q :: ([]:Yb).flatten):=.dct aw M .nil;exact k _ _ [q] (bL d) this ⟨by simp,λb f=>by rw[Zf.mp f];exact d⟩
end
section
variable{G:Gx}{X:Cx}{a b c e tg:Expr}{es:List Expr}{ca cb cc ce:Ex}{cs:D5}{pos p p1 p2 apos xh pos':Pos}{k k':Nat}
def rX{h:List Stmt}{C:Sx}(hp:PassesOwn (FM X.prog X.w) X.A X.env X.xe)(hc:Gn G X c cc)(hb:jm G X h C):PSV G X (.While c h [] pos) (p8 cc C) :=
 PS.weak (wG hp hc hb) λD Z H hq=>by
  obtain⟨L,U,o,s,e,k⟩:=hq;refine⟨λn F I=>∃r m,SR G r m F I/\Ed L U H r m I/\eM cc C n m=O o,⟨yX,L,U,s,Ed.refl L U H,e⟩,?_⟩;rintro n F I ⟨r,m,Q,f2,e2⟩;cases n with
  |zero=>cases (show (Y:Option Out)=O o from e2)
  |succ n =>
   rw[eM]at e2;obtain⟨⟨mx,x⟩,ex,e3⟩:=Zz.mp e2;obtain⟨t,et,B⟩:=Zz.mp e3;refine⟨r,m,mx,x,t,Q,ex,et,λW N=>?_⟩;have P:=Q.same N;have y:Ed L U H r m W:=f2.trans (Ed.same N);cases t with
   |false =>
    rw[Zm Zk]at B;cases B;show if S=J then _ else _
    rw[Zm Zk];exact k r F W P y
   |true =>
    rw[Zr M]at B;show if J=J then _ else _
    rw[Zr M];obtain⟨R,e5,z⟩:=Zz.mp B;refine⟨λi g=>∃f d,SR G f d i g/\Ed L U H f d g/\eM cc C n d=O o,λi g q=>⟨n,Vl n,q⟩,r,m,R,P,e5,?_⟩;cases R with
    |nx d=>exact λf i g j l=>⟨f,d,j,y.trans l,z⟩
    |ct d=>exact λf i g j l=>⟨f,d,j,y.trans l,z⟩
    |bk d =>
     cases (show O (Out.nx d)=O o from z);exact λf i g j l=>k f i g j (y.trans l)
    |rt v d =>
     cases (show O (Out.rt v d)=O o from z);exact λu g F4 f i j l r5 q5=>k u g F4 f i j (y.trans l) r5 (q5.back y)
def fP{H:Hp}{v:V}{l:List (T×T)}{F:Wn}(r:Rp G H v (.dct 0 l) F):∃(a:GM)(f:List Key)(d:List V)(g:Vd)(i:Yb),v=.ref a/\F=a :: i.flatten/\H a=O (.dK (f.zip d))/\f.length=d.length/\l=(f.map aL).zip g/\tx G H d g i:=by
 cases r with
 |dct h j q=>exact⟨_,_,_,_,_,rfl,rfl,h,j,rfl,q⟩
def fq{H:Hp}{v:V}{t:T}{F:Wn}(r:Rp G H v t F)(h:iP t=J):∃k:Key,v=kV k/\t=aL k:=by
 cases t with
 |int i=>exact⟨.inl i,r.int_inv,rfl⟩
 |str s=>exact⟨.inr (sx s),r.str_inv.1,by simp[aL,sx]⟩
 |_=>cases h
theorem jL{H:Hp}{k:Key}:∀{d:List Key}{f:List V}{ts:Vd}{Fs:Yb},d.length=f.length->tx G H f ts Fs →
  (dE ((d.map aL).zip ts) (aL k)=Y/\cq (d.zip f) k=Y)\/∃(i:Nat)(v:V)(t:T)(F:Wn),dE ((d.map aL).zip ts) (aL k)=O t/\cq (d.zip f) k=O v/\f[i]?=O v/\Fs[i]?=O F/\Rp G H v t F
 |[],[],_,_,_,.nil=>.inl ⟨rfl,rfl⟩
 |k' :: d,v :: f,_,_,o,.cons (t:=t) (F:=F) (ts:=ts) (Fs:=Fs) r q=>by
  have e:eqT (aL k') (aL k)=decide (k'=k):=by
   rw[Wv,decide_eq_true_eq];cases k with
   |inl i=>cases k'<;>simp[aL]
   |inr x =>
    obtain⟨⟨x⟩⟩:=x;cases k' with
    |inl j=>simp[aL]
    |inr y=>obtain⟨⟨y⟩⟩:=y;simp[aL]
  by_cases g:k'=k
  ·refine .inr ⟨0,v,t,F,?_,bW g,rfl,rfl,r⟩;have l:eqT (aL k') (aL k)=J:=by rw[e];exact ZT g
   simp only[dE,Zt,ZC,Yx,l];rfl
  ·have h1:dE (((k' :: d).map aL).zip (t :: ts)) (aL k)=dE ((d.map aL).zip ts) (aL k):=by
    have l:eqT (aL k') (aL k)=S:=by rw[e];exact ZP g
    simp only[dE,Zt,ZC,Yx,l]
   have s:cq ((k' :: d).zip (v :: f)) k=cq (d.zip f) k:=by simp[cq,g]
   rw[h1,s];rcases jL (k:=k) (by simpa using o) q with h | ⟨i,m,n,u,a1,a2,a3,a4,a5⟩
   ·exact .inl h
   ·exact .inr ⟨i+1,m,n,u,a1,a2,by simpa using a3,by simpa using a4,a5⟩
def xx(m:X.A.units+1<cLine):Hh X (λx y H Q=>∃a v,x=.ref a/\jD H a y (O v)/\Q v H):=by
 intro value slice d s Z H x y v u Q I l j h n;obtain⟨a,w,rfl,g,q⟩:=h;cases l;have f:=nU I g;unfold subscriptTail;refine Zy ?_;rw[getitemInPython_of_ne f.not_modules];refine Zy (XB f PySem.F.slot_dict_getitem.lookup ?_);have fin:KB (FM X.prog X.w) X.A (subscripted slice S (.ref a) u) (λr i=>KB (FM X.prog X.w) X.A (letTemporaryGo value (.ref a) r >>= λ_=>pure r) (EP X d Z Q) X.xe i) X.xe s:=by
  rw[n];exact wpAny_operating (tm m I g j λz B o t=>Zy (wpAny_letTemporaryGo (Zp ⟨w,H,o,t,q⟩)))
 first
  |exact Zp (Zy fin)
  |exact Zy (Zp (Zy fin))
  |exact Zy fin
def DD(K:Xj):R2:=λx y H Q=>MG K x y H Q\/∃a v,x=.ref a/\jD H a y (O v)/\Q v H
def BD:fG G (DD G.K) IH:=by
 intro L U z H x y u w B A m t Q d e k;obtain⟨g,x⟩:=x;by_cases hd:∃l,x=.dct 0 l
 ·obtain⟨l,rfl⟩:=hd;simp only[IH]at e;split at e
  ·rename_i n;obtain⟨M,e1,e2⟩:=Zn.mp e;obtain⟨a,N,C,D,R,rfl,rfl,o,j,rfl,q⟩:=fP d.r1;obtain⟨h,rfl,r⟩:=fq d.r2 n;rw[r]at e1;rcases jL (k:=h) j q with⟨h1,_⟩ | ⟨i,v,I,F,a1,a2,a3,a4,a5⟩
   ·rw[h1]at e1;cases e1
   ·rw[a1]at e1;cases e1;cases e2;refine .inr ⟨a,v,rfl,by rw[← a2];exact jD.k o,?_⟩;have f:=((d.f1.sub (YM _ _)).sub (gh a4)).up a5;exact k v H F (aM.refl _) a5 f
  ·cases e
 ·have s:aJ (g,x) y=O (m,t):=by
   simp only[IH]at e;split at e
   ·rename_i l P;exact absurd ⟨_,rfl⟩ hd
   ·exact e
  exact .inl (vT L U z H (g,x) y u w B A m t Q d s k)
def Bx(f:xt k X.A)(i:PV G X a ca)(g:PV G X b cb)(d:jI b:=by intro _ _;rfl)(j:X.K=G.K:=by rfl):PV G X (.Subscript a b pos) (e2 IH ca cb) :=
 PE.weak (wK (Hh.or uZ (xx (rR f))) i g d) λZ H Q h=>by rw[j];exact kf BD h
def fV:T->V
 |.bl b=>.bl b
 |.int i=>.int i
 |.str s=>.str (sx s)
 |_=>.non
def zA{H:Hp}{v:V}{t:T}{F:Wn}(r:Rp G H v t F)(h:flat t=J):v=fV t/\eR v=J:=by
 cases r with
 |non=>exact⟨rfl,rfl⟩
 |bl b=>exact⟨rfl,rfl⟩
 |int i=>exact⟨rfl,rfl⟩
 |str s d=>exact⟨rfl,rfl⟩
 |_=>cases h
theorem CO:∀{t u:T},flat t=J->flat u=J->HN (fV t) (fV u)=eqT t u
 |.non,.non,_,_=>rfl
 |.non,.bl _,_,_=>rfl
 |.non,.int _,_,_=>rfl
 |.non,.str _,_,_=>rfl
 |.bl _,.non,_,_=>rfl
 |.bl _,.bl _,_,_=>rfl
 |.bl _,.int _,_,_=>rfl
 |.bl _,.str _,_,_=>rfl
 |.int _,.non,_,_=>rfl
 |.int _,.bl _,_,_=>rfl
 |.int _,.int _,_,_=>rfl
 |.int _,.str _,_,_=>rfl
 |.str _,.non,_,_=>rfl
 |.str _,.bl _,_,_=>rfl
 |.str _,.int _,_,_=>rfl
 |.str _,.str _,_,_=>vD
def uV{H:Hp}{v w:V}{t u:T}{F g:Wn}(r:Rp G H v t F)(f:Rp G H w u g)(h1:flat t=J)(d:flat u=J):HN v w=eqT t u/\eR v=J/\eR w=J:=by
 obtain⟨e1,f1⟩:=zA r h1;obtain⟨e2,f2⟩:=zA f d;refine⟨?_,f1,f2⟩;rw[e1,e2];exact CO h1 d
theorem mm{H:Hp}{x:V}{t:T}{F:Wn}(r:Rp G H x t F)(g:flat t=J):∀{d:List V}{f:Vd}{l:Yb},tx G H d f l->f.all flat=J->d.all eR=J/\KA x d=f.any λy=>eqT y t
 |_,_,_,.nil,_=>⟨rfl,rfl⟩
 |_,_,_,.cons j q,h=>by
  rw[WU,FV]at h;obtain⟨h1,i⟩:=mm r g q h.2;obtain⟨e1,e2,m⟩:=uV j r h.1 g;refine⟨by rw[WU,e2,h1];rfl,?_⟩;unfold KA at i ⊢;rw[Xz,Xz,i,e1]
def By(K:Xj):R2:=λx y H Q=>Ph K S x y H Q\/∃a o,y=.ref a/\jD H a x o/\Q (.bl o.isSome) H
def xC(j:X.A.units+1<cLine):OpR X (SB .In) (λx y H Q=>∃a o,y=.ref a/\jD H a x o/\Q (.bl o.isSome) H):=by
 intro d s Z H x y v u Q I i f h;obtain⟨a,o,rfl,g,q⟩:=h;cases f;exact Dd j I g i λm l=>⟨.bl o.isSome,H,l,rfl,q⟩
def wo{L:DJ}{U:VS.Env}{D H:Hp}{x y:Val}{u w:V}{M I:Wn}{m:Md}{t:T}(f:Ly G L U D H x y u w M I)(e:kR x y=O (m,t)) :
  ∃b,m=.fr/\t=.bl b/\((∃p l,w=.ref p/\(DM G.K H p l\/El G.K H p l)/\eR u=J/\l.all eR=J/\KA u l=b)\/∃a o,w=.ref a/\jD H a u o/\o.isSome=b):=by
 obtain⟨Q,y⟩:=y;simp only[kR]at e;split at e
 ·split at e
  ·rename_i d;cases e;obtain⟨a,A,g,N,z,rfl,rfl,h,B,rfl,q⟩:=fP f.r2;obtain⟨s,rfl,C⟩:=fq f.r1 d;refine⟨_,rfl,rfl,.inr ⟨a,cq (A.zip g) s,rfl,jD.k h,?_⟩⟩;rw[C];rcases jL (k:=s) B q with⟨h1,j⟩ | ⟨i,v,P,F,a1,a2,_⟩
   ·rw[h1,j];rfl
   ·rw[a1,a2];rfl
  ·cases e
 ·split at e
  ·rename_i d;cases e;rw[FV]at d;obtain⟨a,g,z,rfl,rfl,h,n⟩:=f.r2.lst_inv;obtain⟨h1,j⟩:=mm f.r1 d.1 n d.2;have r:eR u=J:=(uV f.r1 f.r1 d.1 d.1).2.1;exact⟨_,rfl,rfl,.inl ⟨a,g,rfl,.inl (DM.of h),r,h1,j⟩⟩
  ·cases e
 ·split at e
  ·rename_i d;cases e;rw[FV]at d;obtain⟨a,g,z,rfl,rfl,h,n⟩:=f.r2.Ew;obtain⟨h1,j⟩:=mm f.r1 d.1 n d.2;have r:eR u=J:=(uV f.r1 f.r1 d.1 d.1).2.1;exact⟨_,rfl,rfl,.inl ⟨a,g,rfl,.inr (El.of h),r,h1,j⟩⟩
  ·cases e
 ·cases e
def BU:fG G (By G.K) kR:=by
 intro L U l H x y u w q n m t Q i e k;obtain⟨b,rfl,rfl,h⟩:=wo i e;rcases h with⟨p,f,rfl,j,f1,f2,d⟩ | ⟨a,o,rfl,g,d⟩
 ·refine .inl ⟨p,f,rfl,j,f1,f2,?_⟩;rw[d];exact bz k (.bl b)
 ·refine .inr ⟨a,o,rfl,g,?_⟩;rw[d];exact bz k (.bl b)
def vA:Tells kR:=by
 intro x y m t e;simp only[kR]at e;split at e
 all_goals first | (split at e<;>first | (cases e;exact⟨_,rfl⟩) | cases e) | cases e
def B3(d:xt k X.A)(h:PV G X a ca)(g:PV G X b cb)(f:behindInMarks .In b=S:=by with_unfolding_all rfl)(i:X.K=G.K:=by rfl):Gn G X (.Compare a [.In] [b] pos) (e2 kR ca cb):=eU (r:=By X.K) (tH.or (xC (rR d))) (i ▸ BU) vA h g f
end
end VS
end
section
open PySem PyProof.Rows
namespace TS
def mU:Bool->KF->Array KF->Nat->Nat->Nat->StateT Pv Sem (Option Nat):=sortPriv% PySem.Builtin.gallop
def kA:Array KF->Array KF->StateT Pv Sem (Array KF):=sortPriv% PySem.Builtin.mergeLo
def kI:Array KF->Array KF->StateT Pv Sem (Array KF):=sortPriv% PySem.Builtin.mergeHi
def all2{b a:Type}{P:b×a->Prop}(h:∀a0 a1,P (a0,a1)):∀x,P x:=λ(a0,a1)=>h a0 a1
def gF{d b a:Type}{P:d×b×a->Prop}(h:∀a0 a1 a2,P (a0,a1,a2)):∀x,P x:=λ(a0,a1,a2)=>h a0 a1 a2
def rY{f e d b a:Type}{P:f×e×d×b×a->Prop}(h:∀a0 a1 a2 a3 a4,P (a0,a1,a2,a3,a4)):∀x,P x:=λ(a0,a1,a2,a3,a4)=>h a0 a1 a2 a3 a4
def oy{g f e d b a:Type}{P:g×f×e×d×b×a->Prop}(h:∀a0 a1 a2 a3 a4 a5,P (a0,a1,a2,a3,a4,a5)):∀x,P x:=λ(a0,a1,a2,a3,a4,a5)=>h a0 a1 a2 a3 a4 a5
def xj{i g f e d b a:Type}{P:i×g×f×e×d×b×a->Prop}(h:∀a0 a1 a2 a3 a4 a5 a6,P (a0,a1,a2,a3,a4,a5,a6)):∀x,P x:=λ(a0,a1,a2,a3,a4,a5,a6)=>h a0 a1 a2 a3 a4 a5 a6
variable{prog:PP}{w:SL}{A:Pi}{E:Yl}{s:FB}
structure Ep(prog:PP)(w:SL)(A:Pi)(E:Yl)(s:FB)(κ:SortKind)(G:KF->Prop)(r:KF->KF->Bool):Prop where
 run:∀(st:Pv)(x y:KF)(Q:Option Bool->Pv->Prop),kindOf st=κ->G x->G y->Q (some (r x y)) st->wpS (FM prog w) A E s (lt' x y) Q st
 Lw:∀x y,G x->G y->r x y=true->r y x=false
 trans:∀x y z,G x->G y->G z->r y x=false->r z y=false->r z x=false
variable{κ:SortKind}{G:KF->Prop}{r:KF->KF->Bool}
def le(r:KF->KF->Bool)(x y:KF):Prop:=r y x=S
def dM{a:Array KF}{i:Nat}{Q:KF->Pv->Prop}{b:Pv}(d:i<a.size)(h:Q a[i] b):wpS (FM prog w) A E s (elem' a i) Q b:=by
 rw[elem'_eq,getElem?_pos a i d];exact Zl h
def G8(r:KF->KF->Bool)(left:Bool)(a x:KF):Bool:=if left then r x a else !(r a x)
def bf(left:Bool)(a:KF)(b:Array KF)(i:Nat):StateT Pv Sem (Option Bool):=do
 let x ← elem' b i
 if left=J then lt' x a else do
  let l ← lt' a x
  pure (Option.map (λx=>!x) l)
def iM(C:Ep prog w A E s κ G r){left:Bool}{b:KF}{a:Array KF}{i:Nat}{Q:Option Bool->Pv->Prop}{d:Pv}(e:kindOf d=κ)(j:G b)(l:∀x∈a,G x)(f:i<a.size)(h:Q (O (G8 r left b a[i])) d) :
  wpS (FM prog w) A E s (bf left b a i) Q d:=by
 unfold bf;refine Za (dM f ?_);have g:=l _ (Zi f);cases left with
 |true=>exact C.run d _ _ _ e g j h
 |false=>exact Za (C.run d _ _ _ e j g (Zl h))
def pM(C:Ep prog w A E s κ G r){left:Bool}{t:KF}{d:Array KF}{b n a:Nat}{Q:Option Nat->Pv->Prop}{u:Pv}(H:kindOf u=κ)(R:G t)(U:∀x∈d,G x)(hb:b+n<=d.size)(hh:a<n)(B:∀i j (g:b+i<d.size) (Z:b+j<d.size),i<=j->j<n->G8 r left t d[b+j]=J->G8 r left t d[b+i]=J)(h:∀k,k<=n->(∀i (g:b+i<d.size),i<k->G8 r left t d[b+i]=J)->(∀i (g:b+i<d.size),k<=i->i<n->G8 r left t d[b+i]=S)->Q (O k) u) :
  wpS (FM prog w) A E s (mU left t d b n a) Q u:=by
 obtain⟨f,y⟩:∃f:Nat->Bool,∀i (g:b+i<d.size),f i=G8 r left t d[b+i]:=⟨λi=>if g:b+i<d.size then G8 r left t d[b+i] else S,λi g=>dif_pos g⟩
 have D:∀i j,i<=j->j<n->f j=J->f i=J:=λi j Ht Z e=>by
  rw[y j (by lia)]at e;rw[y i (by lia)];exact B i j (by lia) (by lia) Ht Z e
 have fin:∀k,k<=n->(∀i,i<k->f i=J)->(∀i,k<=i->i<n->f i=S)->Q (O k) u:=λk h1 P N =>
  h k h1 (λi g IP=>by rw[← y i g];exact P i IP) λi g L h5=>by rw[← y i g];exact N i L h5
 clear h B;unfold mU;change wpS (FM prog w) A E s (_>>=_) Q u;dsimp only;have h0:b+a<d.size:=by lia
 refine Za (iM C H R U h0 ?_);dsimp only;rw[← y _ h0];cases e0:f a with
 |true =>
  rw[Zr M];refine Za (Y9 (Yc
   (I:=λx c o=>u=o/\c.1=Y/\f (a+c.2.1)=J/\c.2.1<c.2.2/\a+c.2.1<n/\x<c.2.2)
   (Q:=λc o=>u=o/\c.1=Y/\f (a+c.2.1)=J/\c.2.1<c.2.2/\a+c.2.1<n/\(a+c.2.2<n->f (a+c.2.2)=S)) ?step1 ?fin1 ?init1) ?post1)
  case init1=>exact⟨rfl,rfl,e0,by decide,by dsimp only;omega,by decide⟩
  case fin1 =>
   refine gF λc1 c2 c3=>?_;rintro o ⟨rfl,e1,q,m,l,p⟩;dsimp only at *;exact⟨rfl,e1,q,m,l,λz=>by(try dsimp only at z);lia⟩
  case step1 =>
   intro x;refine gF λc1 c2 c3=>?_;rintro o _ W ⟨rfl,e1,q,m,l,p⟩;dsimp only at *;split
   ·exact Zl ⟨rfl,rfl,q,m,l,λz=>by(try dsimp only at z);lia⟩
   ·have v:b+(a+c3)<d.size:=by lia
    refine Za (iM C H R U v ?_);dsimp only;rw[← y _ v];cases e:f (a+c3) with
    |true=>exact Zl ⟨rfl,rfl,e,by dsimp only;lia,by dsimp only;lia,by dsimp only;lia⟩
    |false=>exact Zl ⟨rfl,rfl,q,m,l,λ_=>e⟩
  case post1 =>
   refine gF λc1 c2 c3=>?_;rintro o ⟨rfl,e1,q,m,l,p⟩;dsimp only at *;subst e1;dsimp only;have h1:a+c2+1<=a+min c3 (n-a):=by omega
   have P:a+min c3 (n-a)<=n:=by omega
   have N:∀i,i<a+c2+1->f i=J:=λi g=>D i _ (by exact YW g) (by omega) q;have L:∀i,a+min c3 (n-a)<=i->i<n->f i=S:=λi g F=>by
    cases e2:f i with
    |false=>rfl
    |true =>
     have:=p (by lia);rw[D _ i (by lia) F e2]at this;cases this
   clear q m l p;refine Za (Y9 (Yc
    (I:=λx c o=>u=o/\c.1=Y/\c.2.1<=c.2.2/\c.2.2<=n/\(∀i,i<c.2.1->f i=J)/\(∀i,c.2.2<=i->i<n->f i=S)/\c.2.2-c.2.1+x<=n)
    (Q:=λc o=>u=o/\c.1=Y/\c.2.1=c.2.2/\c.2.2<=n/\(∀i,i<c.2.1->f i=J)/\(∀i,c.2.2<=i->i<n->f i=S)) ?step ?fin ?init) ?post)
   case init=>exact⟨rfl,rfl,h1,P,N,L,by(try dsimp only);omega⟩
   case fin =>
    refine gF λc1 c2 c3=>?_;rintro o ⟨rfl,e1,q,m,l,p,X⟩
    try dsimp only at *
    exact⟨rfl,e1,by(try dsimp only at *);lia,m,l,p⟩
   case step =>
    intro x;refine gF λc1 c2 c3=>?_;rintro o _ W ⟨rfl,e1,q,m,l,p,X⟩
    try dsimp only at *
    split
    ·exact Zl ⟨rfl,rfl,by(try dsimp only at *);lia,m,l,p⟩
    ·have v:b+(c2+(c3-c2)/2)<d.size:=by lia
     refine Za (iM C H R U v ?_)
     try dsimp only
     rw[← y _ v];cases e:f (c2+(c3-c2)/2) with
     |true =>
      rw[Zr M];exact Zl ⟨rfl,rfl,by(try dsimp only);lia,m,λi g=>D i _ (by(try dsimp only at g);exact YW g) (by lia) e,p,by(try dsimp only);lia⟩
     |false =>
      rw[Zm Zk];refine Zl ⟨rfl,rfl,by(try dsimp only);exact ZI _ _,by(try dsimp only);lia,l,λi g F=>?_,by(try dsimp only);omega⟩
      try dsimp only at g
      cases e2:f i with
      |false=>rfl
      |true=>rw[D _ i g F e2]at e;cases e
   case post =>
    refine gF λc1 c2 c3=>?_;rintro o ⟨rfl,e1,q,m,l,p⟩
    try dsimp only at *
    subst e1;exact Zl (fin c3 m (λi g=>l i (by lia)) p)
 |false =>
  rw[Zm Zk];refine Za (Y9 (Yc
   (I:=λx c o=>u=o/\c.1=Y/\f (a-c.2.1)=S/\c.2.1<c.2.2/\c.2.1<=a/\x<c.2.2)
   (Q:=λc o=>u=o/\c.1=Y/\f (a-c.2.1)=S/\c.2.1<c.2.2/\c.2.1<=a/\(c.2.2<=a->f (a-c.2.2)=J)) ?step1 ?fin1 ?init1) ?post1)
  case init1=>exact⟨rfl,rfl,e0,by decide,by dsimp only;exact ZM _,by decide⟩
  case fin1 =>
   refine gF λc1 c2 c3=>?_;rintro o ⟨rfl,e1,q,m,l,p⟩;dsimp only at *;exact⟨rfl,e1,q,m,l,λz=>by(try dsimp only at z);lia⟩
  case step1 =>
   intro x;refine gF λc1 c2 c3=>?_;rintro o _ W ⟨rfl,e1,q,m,l,p⟩;dsimp only at *;split
   ·exact Zl ⟨rfl,rfl,q,m,l,λz=>by(try dsimp only at z);lia⟩
   ·have v:b+(a-c3)<d.size:=by lia
    refine Za (iM C H R U v ?_);dsimp only;rw[← y _ v];cases e:f (a-c3) with
    |true=>exact Zl ⟨rfl,rfl,q,m,l,λ_=>e⟩
    |false=>exact Zl ⟨rfl,rfl,e,by dsimp only;lia,by dsimp only;lia,by dsimp only;lia⟩
  case post1 =>
   refine gF λc1 c2 c3=>?_;rintro o ⟨rfl,e1,q,m,l,p⟩;dsimp only at *;subst e1;dsimp only;have h1:a+1-min c3 (a+1)<=a-c2:=by omega
   have P:a-c2<=n:=by lia
   have N:∀i,i<a+1-min c3 (a+1)->f i=J:=λi g=>D i _ (by omega) (by omega) (p (by omega));have L:∀i,a-c2<=i->i<n->f i=S:=λi g F=>by
    cases e2:f i with
    |false=>rfl
    |true=>rw[D _ i (by omega) F e2]at q;cases q
   clear q m l p;refine Za (Y9 (Yc
    (I:=λx c o=>u=o/\c.1=Y/\c.2.1<=c.2.2/\c.2.2<=n/\(∀i,i<c.2.1->f i=J)/\(∀i,c.2.2<=i->i<n->f i=S)/\c.2.2-c.2.1+x<=n)
    (Q:=λc o=>u=o/\c.1=Y/\c.2.1=c.2.2/\c.2.2<=n/\(∀i,i<c.2.1->f i=J)/\(∀i,c.2.2<=i->i<n->f i=S)) ?step ?fin ?init) ?post)
   case init=>exact⟨rfl,rfl,h1,P,N,L,by(try dsimp only);omega⟩
   case fin =>
    refine gF λc1 c2 c3=>?_;rintro o ⟨rfl,e1,q,m,l,p,X⟩
    try dsimp only at *
    exact⟨rfl,e1,by(try dsimp only at *);lia,m,l,p⟩
   case step =>
    intro x;refine gF λc1 c2 c3=>?_;rintro o _ W ⟨rfl,e1,q,m,l,p,X⟩
    try dsimp only at *
    split
    ·exact Zl ⟨rfl,rfl,by(try dsimp only at *);lia,m,l,p⟩
    ·have v:b+(c2+(c3-c2)/2)<d.size:=by lia
     refine Za (iM C H R U v ?_)
     try dsimp only
     rw[← y _ v];cases e:f (c2+(c3-c2)/2) with
     |true =>
      rw[Zr M];exact Zl ⟨rfl,rfl,by(try dsimp only);lia,m,λi g=>D i _ (by(try dsimp only at g);exact YW g) (by lia) e,p,by(try dsimp only);lia⟩
     |false =>
      rw[Zm Zk];refine Zl ⟨rfl,rfl,by(try dsimp only);exact ZI _ _,by(try dsimp only);lia,l,λi g F=>?_,by(try dsimp only);omega⟩
      try dsimp only at g
      cases e2:f i with
      |false=>rfl
      |true=>rw[D _ i g F e2]at e;cases e
   case post =>
    refine gF λc1 c2 c3=>?_;rintro o ⟨rfl,e1,q,m,l,p⟩
    try dsimp only at *
    subst e1;exact Zl (fin c3 m (λi g=>l i (by lia)) p)
end TS
end
section
open PySem PyProof.Rows
namespace TS
variable{prog:PP}{w:SL}{A:Pi}{E:Yl}{s:FB}{κ:SortKind}{G:KF->Prop}{r:KF->KF->Bool}
def Ep.refl(C:Ep prog w A E s κ G r){x:KF}(h:G x):le r x x:=by
 unfold le;cases e:r x x with
 |false=>rfl
 |true=>exact absurd (C.Lw x x h h e) (by rw[e];exact λz=>nomatch z)
def Ep.tr(C:Ep prog w A E s κ G r){x y z:KF}(d:G x)(b:G y)(a:G z)(h1:le r x y)(e:le r y z):le r x z:=C.trans x y z d b a h1 e
def Ep.EZ(C:Ep prog w A E s κ G r){x y:KF}(b:G x)(a:G y)(h:r x y=J):le r x y:=C.Lw x y b a h
def Seg(r:KF->KF->Bool)(a:Array KF)(b d:Nat):Prop:=∀i j (f:i<a.size) (e:j<a.size),b<=i->i<=j->j<d->le r a[i] a[j]
def fH(C:Ep prog w A E s κ G r){left:Bool}{d:KF}{b:Array KF}{a n hint:Nat}{Q:Option Nat->Pv->Prop}{m:Pv}(y:kindOf m=κ)(l:G d)(u:∀x∈b,G x)(B:a+n<=b.size)(z:hint<n)(v:Seg r b a (a+n))(h:∀k,k<=n->(∀i (f:i<b.size),a<=i->i<a+k->le r b[i] d)->(∀i (f:i<b.size),a+k<=i->i<a+n->le r d b[i])->Q (O k) m) :
  wpS (FM prog w) A E s (mU left d b a n hint) Q m:=by
 have g:∀i (f:i<b.size),G b[i]:=λi f=>u _ (Zi f);refine pM C y l u B z (λi j f o N L e=>?_) λk h1 H F=>h k h1 (λi f t D=>?_) λi f t D=>?_
 ·have q:=v (a+i) (a+j) f o (by exact ZI _ _) (by lia) (by lia);cases left with
  |true =>
   unfold G8 at e ⊢;rw[Zr M]at e ⊢;cases e2:r b[a+i] d with
   |true=>rfl
   |false=>rw[show r b[a+j] d=S from C.tr l (g _ f) (g _ o) e2 q]at e;cases e
  |false =>
   unfold G8 at e ⊢;rw[Zm Zk]at e ⊢;have I:r d b[a+j]=S:=by simpa using e
   have:=C.tr (g _ f) (g _ o) l q I;rw[show r d b[a+i]=S from this];rfl
 ·have e:=H (i-a) (by lia) (by lia);have p:a+(i-a)=i:=by exact Vs t
  simp only[p]at e;cases left with
  |true =>
   unfold G8 at e;rw[Zr M]at e;exact C.EZ (g _ f) l e
  |false =>
   unfold G8 at e;rw[Zm Zk]at e;show r d b[i]=S;simpa using e
 ·have e:=F (i-a) (by lia) (by lia) (by omega);have p:a+(i-a)=i:=by lia
  simp only[p]at e;cases left with
  |true =>
   unfold G8 at e;rw[Zr M]at e;exact e
  |false =>
   unfold G8 at e;rw[Zm Zk]at e;exact C.EZ l (g _ f) (by simpa using e)
def oh{a:Array KF}{i:Nat}{x:KF}(h:x∈a.toList.drop i):∃j,∃(d:j<a.size),i<=j/\a[j]=x:=by
 obtain⟨k,b,e⟩:=GE h;rw[ZG]at b;rw[Xe]at e;have:i+k<a.size:=by simpa using(by omega:i+k<a.toList.length)
 exact⟨i+k,this,by exact ZI _ _,by simpa using e⟩
def iU{a:Array KF}{i k:Nat}{x:KF}(h:x∈(a.toList.drop i).take k):∃j,∃(d:j<a.size),i<=j/\j<i+k/\a[j]=x:=by
 obtain⟨m,b,e⟩:=GE h;rw[ZO,ZG]at b;rw[Xf,Xe]at e;have:i+m<a.size:=by simpa using(by omega:i+m<a.toList.length)
 exact⟨i+m,this,by exact ZI _ _,by lia,by simpa using e⟩
def qC{a:Array KF}{i:Nat}(h:i<a.size):a.toList.drop i=a[i] :: a.toList.drop (i+1):=by
 have:i<a.toList.length:=by simpa using h
 rw[YI this];simp
def gU{a:Array KF}(h:Seg r a 0 a.size):a.toList.Pairwise (le r):=by
 rw[Y5];intro i j d b e;simpa using h i j (by simpa using d) (by simpa using b) (ZM _) (by exact ZK e) (by simpa using b)
def vY(C:Ep prog w A E s κ G r){a:Array KF}(f:∀x∈a,G x)(h:a.toList.Pairwise (le r)):Seg r a 0 a.size:=by
 intro i j d e _ g _;rcases WG i j with l | b
 ·have:=Y5.mp h i j (by simpa using d) (by simpa using e) l;simpa using this
 ·have:i=j:=by exact Nat.le_antisymm g b
  subst this;exact C.refl (f _ (Zi d))
structure MI(r:KF->KF->Bool)(a b out:Array KF)(ia ib:Nat):Prop where
 pm:(out.toList++(a.toList.drop ia++b.toList.drop ib)).Perm (a.toList++b.toList)
 so:out.toList.Pairwise (le r)
 la:∀x∈out.toList,∀y∈a.toList.drop ia,le r x y
 lb:∀x∈out.toList,∀y∈b.toList.drop ib,le r x y
def MR(r:KF->KF->Bool)(a b d:Array KF):Prop:=d.toList.Perm (a.toList++b.toList)/\d.toList.Pairwise (le r)
theorem MI.size{a b d:Array KF}{f e:Nat}(m:MI r a b d f e)(h1:f<=a.size)(g:e<=b.size):d.size+(a.size-f)+(b.size-e)=a.size+b.size:=by
 have:=m.pm.length_eq;simp at this;lia
def MI.GD{a b f:Array KF}{d l k:Nat}(m:MI r a b f d l)(p:Seg r a 0 a.size)(q:∀i (o:i<a.size),d<=i->i<d+k->∀j (n:j<b.size),l<=j->le r a[i] b[j]) :
  MI r a b (f++a.extract d (d+k)) (d+k) l:=by
 have e1:(f++a.extract d (d+k)).toList=f.toList++(a.toList.drop d).take k:=by
  simp[List.extract_eq_drop_take]
 have e2:a.toList.drop d=(a.toList.drop d).take k++a.toList.drop (d+k):=by
  rw[← List.drop_drop];exact(YV _ _).symm
 have h:(a.toList.drop d).Pairwise (le r):=(gU p).drop;rw[e2,ZS]at h;refine⟨?_,?_,?_,?_⟩
 ·rw[e1];have:=m.pm;rw[e2]at this;simpa[Zb] using this
 ·rw[e1,ZS];refine⟨m.so,h.1,λx e y g=>m.la x e y ?_⟩;exact Yk g
 ·rw[e1];intro x e y g;rcases Zc.mp e with e | e
  ·exact m.la x e y (by rw[e2];exact GF _ g)
  ·exact h.2.2 x e y g
 ·rw[e1];intro x e y g;rcases Zc.mp e with e | e
  ·exact m.lb x e y g
  ·obtain⟨i,o,h1,u,rfl⟩:=iU e;obtain⟨j,n,t,rfl⟩:=oh g;exact q i o h1 u j n t
def MI.swap{a b d:Array KF}{f e:Nat}(m:MI r a b d f e):MI r b a d e f :=
 ⟨((YH.append_left _).trans m.pm).trans YH,m.so,m.lb,m.la⟩
def MI.HB{a b e:Array KF}{f d k:Nat}(m:MI r a b e f d)(g:Seg r b 0 b.size)(h:∀i (n:i<b.size),d<=i->i<d+k->∀j (l:j<a.size),f<=j->le r b[i] a[j]) :
  MI r a b (e++b.extract d (d+k)) f (d+k):=(m.swap.GD g h).swap
def uf{a b:Array KF}{i:Nat}(h:i<a.size):b.push a[i]=b++a.extract i (i+1):=by
 apply Array.ext';have:(a.extract i (i+1)).toList=[a[i]]:=by
  have e:i<a.toList.length:=by simpa using h
  simp[List.extract_eq_drop_take,YI e]
 rw[Yp,this,Vp]
def MI.DU{a b e:Array KF}{d f:Nat}(m:MI r a b e d f)(l:Seg r a 0 a.size)(h:d<a.size)(n:∀j (g:j<b.size),f<=j->le r a[d] b[j]):MI r a b (e.push a[d]) (d+1) f:=by
 rw[uf h];refine m.GD l λi p h1 q j g o=>?_;have:i=d:=by lia
 subst this;exact n j g o
def MI.EJ{a b d:Array KF}{f e:Nat}(m:MI r a b d f e)(g:Seg r b 0 b.size)(h:e<b.size)(i:∀j (l:j<a.size),f<=j->le r b[e] a[j]):MI r a b (d.push b[e]) f (e+1):=(m.swap.DU g h i).swap
def gy{a:Array KF}{i:Nat}:(a.extract i a.size).toList=a.toList.drop i:=by
 rw[Ww,List.extract_eq_drop_take,GG (by simp)]
def MI.fin{a b d:Array KF}{g f:Nat}(m:MI r a b d g f)(n:Seg r a 0 a.size)(l:Seg r b 0 b.size)(h:g=a.size\/f=b.size):MR r a b (d++a.extract g a.size++b.extract f b.size):=by
 have e:(d++a.extract g a.size++b.extract f b.size).toList=d.toList++(a.toList.drop g++b.toList.drop f):=by
  rw[Yp,Yp,gy,gy,Zb]
 refine⟨by rw[e];exact m.pm,?_⟩;rw[e,ZS];refine⟨m.so,?_,λx j y i=>?_⟩
 ·rcases h with h | h
  ·rw[YL (as:=a.toList) (by simp[h]),YS];exact(gU l).drop
  ·rw[YL (as:=b.toList) (by simp[h]),Ft];exact(gU n).drop
 ·rcases Zc.mp i with i | i
  ·exact m.la x j y i
  ·exact m.lb x j y i
def MI.last{a b d:Array KF}{f i:Nat}(m:MI r a b d f i)(o:Seg r b 0 b.size)(h:f+1=a.size)(p:∀j (n:j<b.size),le r b[j] a[f]):MR r a b (d++b.extract i b.size++a.extract f a.size):=by
 have e:(d++b.extract i b.size++a.extract f a.size).toList=d.toList++(b.toList.drop i++a.toList.drop f):=by
  rw[Yp,Yp,gy,gy,Zb]
 have e2:a.toList.drop f=[a[f]]:=by rw[qC (by omega),YL (by simp;lia)]
 refine⟨by rw[e];exact(YH.append_left _).trans m.pm,?_⟩;rw[e,ZS];refine⟨m.so,?_,λx l y g=>?_⟩
 ·rw[ZS];refine⟨(gU o).drop,by rw[e2];exact WO _ _,λx l y g=>?_⟩;rw[e2]at g;obtain⟨j,n,_,rfl⟩:=oh l;rw[Zf.mp g];exact p j n
 ·rcases Zc.mp g with g | g
  ·exact m.lb x l y g
  ·exact m.la x l y g
end TS
end
section
open PySem PyProof.Rows
namespace TS
variable{prog:PP}{w:SL}{A:Pi}{E:Yl}{s:FB}{κ:SortKind}{G:KF->Prop}{r:KF->KF->Bool}
def fU(a b:Pv):Prop:=kindOf b=kindOf a/\arrOf b=arrOf a/\Re b=Re a/\failedOf b=failedOf a
def d9:Nat->StateT Pv Sem Unit:=sortPriv% PySem.Builtin.setMinGallop
def gv{g:Nat}{Q:Unit->Pv->Prop}{a d:Pv}(e:fU d a)(h:∀b,fU d b->Q () b):wpS (FM prog w) A E s (d9 g) Q a:=by
 unfold d9;exact Wu (h _ e)
def gn{t:String}{Q:Unit->Pv->Prop}{a:Pv}(h:Q () a):wpS (FM prog w) A E s (liftM (rule t)) Q a:=wpS_lift (Wr ⟨rfl,h⟩)
def aG{α:Type}{c:Prop}[Decidable c]{x y:StateT Pv Sem α}{Q:α->Pv->Prop}{b:Pv}(d:c->wpS (FM prog w) A E s x Q b)(e:¬c->wpS (FM prog w) A E s y Q b) :
  wpS (FM prog w) A E s (if c then x else y) Q b:=by
 by_cases a:c
 ·rw[Zr a];exact d a
 ·rw[Zm a];exact e a
def qA{α:Type}{c:Nat->Prop}[∀n,Decidable (c n)]{d a:Nat->StateT Pv Sem α}{Q:α->Pv->Prop}{b:Pv}(e:∀n,d n=a (n-1))(h:∀n,wpS (FM prog w) A E s (a n) Q b):∀n,wpS (FM prog w) A E s (if c n then d n else a n) Q b :=
 λn=>aG (λ_=>by rw[e];exact h _) λ_=>h n
def bg{α:Type}{a:Array KF}{i:Nat}{c:KF->Prop}[∀v,Decidable (c v)]{x y:KF->StateT Pv Sem α}{Q:α->Pv->Prop}{b:Pv}(e:i<a.size)(d:c a[i]->wpS (FM prog w) A E s (x a[i]) Q b)(f:¬c a[i]->wpS (FM prog w) A E s (y a[i]) Q b) :
  wpS (FM prog w) A E s (elem' a i >>= λv=>if c v then x v else y v) Q b:=Za (dM e (aG d f))
def uo{α:Type}{c d:Prop}[Decidable c][Decidable d]{x y z:StateT Pv Sem α}{Q:α->Pv->Prop}{a:Pv}(h1:c->wpS (FM prog w) A E s x Q a)(f:¬c->d->wpS (FM prog w) A E s y Q a)(b:¬c->¬d->wpS (FM prog w) A E s z Q a) :
  wpS (FM prog w) A E s (if c then x else if d then y else z) Q a:=aG h1 λe=>aG (f e) (b e)
def gZ{α β:Type}{a:Array KF}{i:Nat}{m:KF->StateT Pv Sem β}{f:KF->β->StateT Pv Sem α}{Q:α->Pv->Prop}{b:Pv}(d:i<a.size)(h:wpS (FM prog w) A E s (m a[i]) (λv e=>wpS (FM prog w) A E s (f a[i] v) Q e) b) :
  wpS (FM prog w) A E s (elem' a i >>= λu=>m u >>= λv=>f u v) Q b:=Za (dM d (Za h))
structure MC(G:KF->Prop)(r:KF->KF->Bool)(a b:Array KF):Prop where
 ga:∀x∈a,G x
 gb:∀x∈b,G x
 sa:Seg r a 0 a.size
 sb:Seg r b 0 b.size
 na:0<a.size
 nb:0<b.size
 first:le r b[0] a[0]
 last:∀j (hj:j<b.size),le r b[j] a[a.size-1]
def MC.E1{a b:Array KF}(M:MC G r a b){i:Nat}(f:i<a.size)(h:i+1=a.size):∀j (d:j<b.size),le r b[j] a[i]:=by
 intro j d;have:=M.last j d;have e:a.size-1=i:=by lia
 simpa[e] using this
def MC.bA(C:Ep prog w A E s κ G r){a b:Array KF}(M:MC G r a b){i j:Nat}(e:i<a.size)(f:j<b.size)(h:le r b[j] a[i]):∀k (d:k<a.size),i<=k->le r b[j] a[k]:=λk d g =>
 C.tr (M.gb _ (Zi f)) (M.ga _ (Zi e)) (M.ga _ (Zi d)) h (M.sa i k e d (ZM _) g d)
def MC.aB(C:Ep prog w A E s κ G r){a b:Array KF}(M:MC G r a b){i j:Nat}(f:i<a.size)(e:j<b.size)(h:le r a[i] b[j]):∀k (d:k<b.size),j<=k->le r a[i] b[k]:=λk d g =>
 C.tr (M.ga _ (Zi f)) (M.gb _ (Zi e)) (M.gb _ (Zi d)) h (M.sb j k e d (ZM _) g d)
def g0{a:Array KF}(h:Seg r a 0 a.size)(d e:Nat):Seg r a d e:=λi j g b h1 f l=>h i j g b (ZM _) f b
def Cd(C:Ep prog w A E s κ G r){a b:Array KF}{D:Pv}{Q:Array KF->Pv->Prop}(hk:kindOf D=κ)(M:MC G r a b)(h:∀res o,fU D o->MR r a b res->Q res o) :
  wpS (FM prog w) A E s (kA a b) Q D:=by
 have PU:=M.na;have S4:=M.nb;unfold kA;change wpS (FM prog w) A E s (_>>=_) Q D;dsimp only;refine Za (gn ?_);have m0:MI r a b #[] 0 0:=⟨by simp,by simp,by simp,by simp⟩
 have m1:MI r a b #[b[0]] 0 1:=m0.EJ M.sb M.nb λj l _=>M.bA C M.na M.nb M.first j l (ZM _);have Jr:fU D D:=⟨rfl,rfl,rfl,rfl⟩
 refine bg M.nb (λe=>?_) λe1=>?_
 ·exact Zl (h _ _ Jr (m1.fin M.sa M.sb (.inr (by simpa using e))))
 refine aG (λe=>?_) λe2=>?_
 ·exact Zl (h _ _ Jr (m1.last M.sb (by simpa using e) (M.E1 M.na (by simpa using e))))
 have Lh:1<b.size:=by simp at e1;lia
 have Hz:0+1<a.size:=by simp at e2;lia
 refine Za (We ?_);refine Za (Y9 (Yc
  (I:=λx c o=>fU D o/\c.1=Y/\MI r a b c.2.1 c.2.2.1 c.2.2.2.1/\c.2.2.1+1<a.size/\c.2.2.2.1<b.size/\x<c.2.1.size)
  (Q:=λc o=>fU D o/\∃res,c.1=O res/\MR r a b res) ?step ?fin ?init) ?post)
 case init=>exact⟨Jr,rfl,m1,Hz,Lh,by simp⟩
 case fin =>
  refine rY λc1 out u B mg o d=>?_;have kp:=d.1;have t:=d.2.1;have m:=d.2.2.1;have p:=d.2.2.2.1;have f:=d.2.2.2.2.1;have L:=d.2.2.2.2.2;clear d;dsimp only at *;have:=m.size (by lia) (by exact ZK f);lia
 case post =>
  refine rY λc1 out u B mg=>?_;rintro o ⟨kp,res,t,p⟩;dsimp only at *;subst t;exact Zl (h _ _ kp p)
 case step =>
  intro x;refine rY λc1 out u B mg o _ hx d=>?_;have kp:=d.1;have t:=d.2.1;have m:=d.2.2.1;have p:=d.2.2.2.1;have f:=d.2.2.2.2.1;have L:=d.2.2.2.2.2;clear d;dsimp only at *;refine Za (Y9 (Yc
   (I:=λy c o=>fU D o/\c.1=Y/\MI r a b c.2.1 c.2.2.1 c.2.2.2.1/\c.2.2.1+1<a.size/\c.2.2.2.1<b.size/\x+y<c.2.1.size)
   (Q:=λc o=>fU D o/\((∃res,c.1=O res/\MR r a b res)\/(c.1=Y/\MI r a b c.2.1 c.2.2.1 c.2.2.2.1/\c.2.2.1+1<a.size/\c.2.2.2.1<b.size/\x+1<c.2.1.size))) ?step2 ?fin2 ?init2) ?post2)
  case init2=>exact⟨kp,rfl,m,p,f,by simpa using L⟩
  case fin2 =>
   refine oy λc1 out u B ac bc o d=>?_;have kp:=d.1;have t:=d.2.1;have m:=d.2.2.1;have p:=d.2.2.2.1;have f:=d.2.2.2.2.1;have L:=d.2.2.2.2.2;clear d;dsimp only at *;exact⟨kp,.inr ⟨t,m,p,f,by(try dsimp only);lia⟩⟩
  case step2 =>
   intro y;refine oy λc1 out u B ac bc o _ hy d=>?_;have kp:=d.1;have t:=d.2.1;have m:=d.2.2.1;have p:=d.2.2.2.1;have f:=d.2.2.2.2.1;have L:=d.2.2.2.2.2;clear d;dsimp only at *;have U:u<a.size:=by exact Xh p
   have gA:=M.ga _ (Zi U);have gB:=M.gb _ (Zi f);refine gZ f (dM U ?_);refine Za (C.run _ _ _ _ (kp.1.trans hk) gB gA ?_);dsimp only;cases e:r b[B] a[u] with
   |true =>
    rw[Zr rfl];have H:=m.EJ M.sb f (M.bA C U f (C.EZ gB gA e));refine bg f (λR=>?_) λR=>?_
    ·exact Zl ⟨kp,.inl ⟨_,rfl,H.fin M.sa M.sb (.inr (by simpa using R))⟩⟩
    ·have FN:B+1<b.size:=by simp at R;lia
     refine aG (λ_=>?_) λ_=>?_
     ·exact Zl ⟨kp,.inr ⟨rfl,H,p,FN,by simp;lia⟩⟩
     ·exact Zl ⟨kp,rfl,H,p,FN,by simp;lia⟩
   |false =>
    rw[Zm Zk];have H:=m.DU M.sa U (M.aB C U f e);refine bg U (λR=>?_) λR=>?_
    ·exact Zl ⟨kp,.inl ⟨_,rfl,H.last M.sb (by simpa using R) (M.E1 (by omega) (by simpa using R))⟩⟩
    ·have FN:u+1+1<a.size:=by simp at R;lia
     refine aG (λ_=>?_) λ_=>?_
     ·exact Zl ⟨kp,.inr ⟨rfl,H,FN,f,by simp;lia⟩⟩
     ·exact Zl ⟨kp,rfl,H,FN,f,by simp;lia⟩
  case post2 =>
   refine oy λc1 out u B ac bc=>?_;rintro o ⟨kp,⟨res,t,p⟩ | ⟨t,m,p,f,L⟩⟩
   ·dsimp only at *;subst t;exact Zl ⟨kp,res,rfl,p⟩
   ·dsimp only at *;subst t;dsimp only;refine Za (gn ?_);refine Za (Y9 (Yc
     (I:=λy c o=>fU D o/\c.1=Y/\MI r a b c.2.1 c.2.2.1 c.2.2.2.1/\c.2.2.1+1<a.size/\c.2.2.2.1<b.size/\x+1<c.2.1.size)
     (Q:=λc o=>fU D o/\((∃res,c.1=O res/\MR r a b res)\/(c.1=Y/\MI r a b c.2.1 c.2.2.1 c.2.2.2.1/\c.2.2.1+1<a.size/\c.2.2.2.1<b.size/\x+1<c.2.1.size))) ?step3 ?fin3 ?init3) ?post3)
    case init3=>exact⟨kp,rfl,m,p,f,L⟩
    case fin3 =>
     refine oy λc1 out u B ac bc o d=>?_;have kp:=d.1;have t:=d.2.1;have m:=d.2.2.1;have p:=d.2.2.2.1;have f:=d.2.2.2.2.1;have L:=d.2.2.2.2.2;clear d;exact⟨kp,.inr ⟨t,m,p,f,L⟩⟩
    case post3 =>
     refine xj λc1 out u B mg ac bc=>?_;rintro o ⟨kp,⟨res,t,p⟩ | ⟨t,m,p,f,L⟩⟩
     ·dsimp only at *;subst t;exact Zl ⟨kp,res,rfl,p⟩
     ·dsimp only at *;subst t;dsimp only;exact Za (gv kp λD2 n=>Zl ⟨n,rfl,m,p,f,L⟩)
    case step3 =>
     intro y;refine xj λc1 out u B mg ac bc o _ hy d=>?_;have kp:=d.1;have t:=d.2.1;have m:=d.2.2.1;have p:=d.2.2.2.1;have f:=d.2.2.2.2.1;have L:=d.2.2.2.2.2;clear d;dsimp only at *;have both:∀{mg:Nat}{F:Unit->StateT Pv Sem (ForInStep (Option (Array KF)×Array KF×Nat×Nat×Nat×Nat×Nat))}{P},(∀D2,fU D D2->wpS (FM prog w) A E s (F ()) P D2)->wpS (FM prog w) A E s (d9 mg>>=F) P o:=λhF=>Za (gv kp λD2 n=>hF D2 n);revert mg;refine qA (λ_=>rfl) λSn=>?_;refine both λD2 n=>?_;have U:u<a.size:=by exact Xh p
     have gB:=M.gb _ (Zi f);refine gZ f (fH C (n.1.trans hk) gB M.ga (by lia) (by exact Vu U) (g0 M.sa _ _) λk J3 Il J2=>?_);dsimp only;refine aG (λe5=>?_) λe5=>?_
     ·have H:=m.GD (k:=k) M.sa (λi N h1 h2 j l h3=>C.tr (M.ga _ (Zi N)) gB (M.gb _ (Zi l)) (Il i N h1 h2) (M.sb _ j f l (ZM _) h3 l));refine uo (λq=>?_) (λq g=>?_) λq g=>?_
      ·exact Zl ⟨n,.inl ⟨_,rfl,H.last M.sb (by simpa using q) (M.E1 (by simp at q;lia) (by simpa using q))⟩⟩
      ·exact Zl ⟨n,.inl ⟨_,rfl,H.fin M.sa M.sb (.inl (by simpa using g))⟩⟩
      have v:u+k<a.size:=by simp at q g;lia
      have Vc:u+k+1<a.size:=by simp at q g;lia
      have hle:∀j (l:j<a.size),u+k<=j->le r b[B] a[j]:=λj l h=>J2 j l h (by lia);clear q;have W:=H.EJ M.sb f hle;refine bg f (λX=>?_) λX=>?_
      ·exact Zl ⟨n,.inl ⟨_,rfl,W.fin M.sa M.sb (.inr (by simpa using X))⟩⟩
      have JM:B+1<b.size:=by simp at X;lia
      refine gZ v (fH C (n.1.trans hk) (M.ga _ (Zi v)) M.gb (by lia) (by exact Vu JM) (g0 M.sb _ _) λk2 Hd EL Fz=>?_);dsimp only;have m4:=W.HB (k:=k2) M.sb (λi N h1 h2 j l h3=>C.tr (M.gb _ (Zi N)) (M.ga _ (Zi v)) (M.ga _ (Zi l)) (EL i N h1 h2) (M.sa _ j v l (ZM _) h3 l));refine aG (λe5=>?_) λe5=>?_
      ·refine aG (λq=>?_) λq=>?_
       ·exact Zl ⟨n,.inl ⟨_,rfl,m4.fin M.sa M.sb (.inr (by simpa using q))⟩⟩
       have z:=m4.DU M.sa v (λj l h=>Fz j l h (by omega));refine bg v (λg=>?_) λg=>?_
       ·exact Zl ⟨n,.inl ⟨_,rfl,z.last M.sb (by simpa using g) (M.E1 (by simp at g;omega) (by simpa using g))⟩⟩
       have Z:=g;simp at Z;refine aG (λ_=>?_) λ_=>?_
       ·exact Zl ⟨n,.inr ⟨rfl,z,by(try dsimp only);lia,by(try dsimp only);(try simp at q);lia,by simp;lia⟩⟩
       ·exact Zl ⟨n,rfl,z,by(try dsimp only);lia,by(try dsimp only);(try simp at q);lia,by simp;lia⟩
      ·have z:=W.DU M.sa v (λj l h=>Fz j l (by lia) (by omega));refine bg v (λg=>?_) λg=>?_
       ·exact Zl ⟨n,.inl ⟨_,rfl,z.last M.sb (by simpa using g) (M.E1 (by simp at g;omega) (by simpa using g))⟩⟩
       have Z:=g;simp at Z;refine aG (λ_=>?_) λ_=>?_
       ·exact Zl ⟨n,.inr ⟨rfl,z,by(try dsimp only);lia,by(try dsimp only);(try simp at q);omega,by simp;lia⟩⟩
       ·exact Zl ⟨n,rfl,z,by(try dsimp only);lia,by(try dsimp only);(try simp at q);omega,by simp;lia⟩
     ·have H:=m;have v:u<a.size:=by omega
      have hle:∀j (l:j<a.size),u<=j->le r b[B] a[j]:=λj l h=>J2 j l (by lia) (by lia);have W:=H.EJ M.sb f hle;refine bg f (λX=>?_) λX=>?_
      ·exact Zl ⟨n,.inl ⟨_,rfl,W.fin M.sa M.sb (.inr (by simpa using X))⟩⟩
      have JM:B+1<b.size:=by simp at X;lia
      refine gZ v (fH C (n.1.trans hk) (M.ga _ (Zi v)) M.gb (by lia) (by exact Vu JM) (g0 M.sb _ _) λk2 Hd EL Fz=>?_);dsimp only;have m4:=W.HB (k:=k2) M.sb (λi N h1 h2 j l h3=>C.tr (M.gb _ (Zi N)) (M.ga _ (Zi v)) (M.ga _ (Zi l)) (EL i N h1 h2) (M.sa _ j v l (ZM _) h3 l));refine aG (λe5=>?_) λe5=>?_
      ·refine aG (λq=>?_) λq=>?_
       ·exact Zl ⟨n,.inl ⟨_,rfl,m4.fin M.sa M.sb (.inr (by simpa using q))⟩⟩
       have z:=m4.DU M.sa v (λj l h=>Fz j l h (by omega));refine bg v (λg=>?_) λg=>?_
       ·exact Zl ⟨n,.inl ⟨_,rfl,z.last M.sb (by simpa using g) (M.E1 (by simp at g;omega) (by simpa using g))⟩⟩
       have Z:=g;simp at Z;refine aG (λ_=>?_) λ_=>?_
       ·exact Zl ⟨n,.inr ⟨rfl,z,by(try dsimp only);lia,by(try dsimp only);(try simp at q);lia,by simp;lia⟩⟩
       ·exact Zl ⟨n,rfl,z,by(try dsimp only);lia,by(try dsimp only);(try simp at q);lia,by simp;lia⟩
      ·have z:=W.DU M.sa v (λj l h=>Fz j l (by lia) (by omega));refine bg v (λg=>?_) λg=>?_
       ·exact Zl ⟨n,.inl ⟨_,rfl,z.last M.sb (by simpa using g) (M.E1 (by simp at g;omega) (by simpa using g))⟩⟩
       have Z:=g;simp at Z;refine aG (λ_=>?_) λ_=>?_
       ·exact Zl ⟨n,.inr ⟨rfl,z,by(try dsimp only);lia,by(try dsimp only);(try simp at q);omega,by simp;lia⟩⟩
       ·exact Zl ⟨n,rfl,z,by(try dsimp only);lia,by(try dsimp only);(try simp at q);omega,by simp;lia⟩
end TS
end
section
open PySem PyProof.Rows
namespace TS
variable{prog:PP}{w:SL}{A:Pi}{E:Yl}{s:FB}{κ:SortKind}{G:KF->Prop}{r:KF->KF->Bool}
def t9{a:Array KF}{n:Nat}{x:KF}(h:x∈a.toList.take n):∃j,∃(d:j<a.size),j<n/\a[j]=x:=by
 obtain⟨m,b,e⟩:=GE h;rw[ZO]at b;rw[Xf]at e;have:m<a.size:=by simpa using(by lia:m<a.toList.length)
 exact⟨m,this,by lia,by simpa using e⟩
structure HI(r:KF->KF->Bool)(a b out:Array KF)(na nb:Nat):Prop where
 pm:(a.toList.take na++(b.toList.take nb++out.toList.reverse)).Perm (a.toList++b.toList)
 so:out.toList.reverse.Pairwise (le r)
 la:∀x∈out.toList,∀y∈a.toList.take na,le r y x
 lb:∀x∈out.toList,∀y∈b.toList.take nb,le r y x
theorem HI.size{a b d:Array KF}{f e:Nat}(m:HI r a b d f e)(h1:f<=a.size)(g:e<=b.size):d.size+f+e=a.size+b.size:=by
 have:=m.pm.length_eq;simp at this;lia
def HI.GD{a b d:Array KF}{f n k:Nat}(m:HI r a b d f n)(q:Seg r a 0 a.size)(u:k<=f)(t:∀i (p:i<a.size),k<=i->i<f->∀j (o:j<b.size),j<n->le r b[j] a[i]) :
  HI r a b (d++(a.extract k f).reverse) k n:=by
 have e1:(d++(a.extract k f).reverse).toList.reverse=(a.toList.drop k).take (f-k)++d.toList.reverse:=by
  simp[List.extract_eq_drop_take]
 have e2:a.toList.take f=a.toList.take k++(a.toList.drop k).take (f-k):=by
  rw[← YV k (a.toList.take f),List.take_take,Wf,Ys u]
 have l:(a.toList.take f).Pairwise (le r):=(gU q).take;rw[e2,ZS]at l;have mem:∀x,x∈(d++(a.extract k f).reverse).toList->x∈d.toList\/x∈(a.toList.drop k).take (f-k):=λx e=>by
  have:x∈(d++(a.extract k f).reverse).toList.reverse:=YQ.mpr e;rw[e1]at this;rcases Zc.mp this with h | h
  ·exact .inr h
  ·exact .inl (YQ.mp h)
 refine⟨?_,?_,?_,?_⟩
 ·rw[e1];have:=m.pm;rw[e2]at this;refine List.Perm.trans ?_ this;rw[Zb];refine List.Perm.append_left _ ?_;rw[← Zb,← Zb];exact List.Perm.append_right _ YH
 ·rw[e1,ZS];refine⟨l.2.1,m.so,λx e y g=>m.la y (YQ.mp g) x ?_⟩;rw[e2];exact GF _ e
 ·intro x e y g;rcases mem x e with e | e
  ·exact m.la x e y (by rw[e2];exact Y8 _ g)
  ·exact l.2.2 y g x e
 ·intro x e y g;rcases mem x e with e | e
  ·exact m.lb x e y g
  ·obtain⟨i,p,h1,z,rfl⟩:=iU e;obtain⟨j,o,v,rfl⟩:=t9 g;exact t i p h1 (by lia) j o v
def HI.swap{a b d:Array KF}{f e:Nat}(m:HI r a b d f e):HI r b a d e f:=by
 refine⟨?_,m.so,m.lb,m.la⟩;refine List.Perm.trans ?_ (m.pm.trans YH);rw[← Zb,← Zb];exact List.Perm.append_right _ YH
def HI.HB{a b d:Array KF}{f e k:Nat}(m:HI r a b d f e)(g:Seg r b 0 b.size)(l:k<=e)(h:∀i (o:i<b.size),k<=i->i<e->∀j (n:j<a.size),j<f->le r a[j] b[i]) :
  HI r a b (d++(b.extract k e).reverse) f k:=(m.swap.GD g l h).swap
def wL{a b:Array KF}{i:Nat}(h:i<a.size):b.push a[i]=b++(a.extract i (i+1)).reverse:=by
 apply Array.ext';have:(a.extract i (i+1)).toList=[a[i]]:=by
  have e:i<a.toList.length:=by simpa using h
  simp[List.extract_eq_drop_take,YI e]
 rw[Yp,Wx,this,Vp];rfl
def HI.DU{a b f:Array KF}{d g:Nat}(m:HI r a b f d g)(n:Seg r a 0 a.size)(u:0<d)(h:d-1<a.size)(o:∀j (l:j<b.size),j<g->le r b[j] a[d-1]):HI r a b (f.push a[d-1]) (d-1) g:=by
 rw[wL h];have e:d-1+1=d:=by lia
 rw[e];refine m.GD n (by exact YN _ _) λi q h1 t j l p=>?_;have:i=d-1:=by lia
 subst this;exact o j l p
def HI.EJ{a b e:Array KF}{f d:Nat}(m:HI r a b e f d)(g:Seg r b 0 b.size)(l:0<d)(h:d-1<b.size)(i:∀j (n:j<a.size),j<f->le r a[j] b[d-1]):HI r a b (e.push b[d-1]) f (d-1):=(m.swap.DU g l h i).swap
def yZ{a:Array KF}{n:Nat}:(a.extract 0 n).toList=a.toList.take n:=by
 rw[Ww,List.extract_eq_drop_take,XC,Nat.sub_zero]
def HI.fin{a b d:Array KF}{g f:Nat}(m:HI r a b d g f)(n:Seg r a 0 a.size)(l:Seg r b 0 b.size)(h:g=0\/f=0):MR r a b (a.extract 0 g++b.extract 0 f++d.reverse):=by
 have e:(a.extract 0 g++b.extract 0 f++d.reverse).toList=a.toList.take g++(b.toList.take f++d.toList.reverse):=by
  rw[Yp,Yp,yZ,yZ,Zb,Wx]
 refine⟨by rw[e];exact m.pm,?_⟩;rw[e,← Zb,ZS];refine⟨?_,m.so,λx i y j=>?_⟩
 ·rcases h with h | h
  ·subst h;rw[List.take_zero,YS];exact(gU l).take
  ·subst h;rw[List.take_zero,Ft];exact(gU n).take
 ·rcases Zc.mp i with i | i
  ·exact m.la y (YQ.mp j) x i
  ·exact m.lb y (YQ.mp j) x i
def HI.first{a b d:Array KF}{i g:Nat}(m:HI r a b d i g)(o:Seg r a 0 a.size)(h:g=1)(q:0<b.size)(p:∀j (n:j<a.size),le r b[0] a[j]):MR r a b (b.extract 0 g++a.extract 0 i++d.reverse):=by
 have e:(b.extract 0 g++a.extract 0 i++d.reverse).toList=b.toList.take g++(a.toList.take i++d.toList.reverse):=by
  rw[Yp,Yp,yZ,yZ,Zb,Wx]
 have e2:b.toList.take g=[b[0]]:=by
  subst h;have:=qC q;rw[XC]at this;rw[this];rfl
 refine⟨?_,?_⟩
 ·rw[e];exact m.swap.pm.trans YH
 rw[e,← Zb,ZS];refine⟨?_,m.so,λx f y l=>?_⟩
 ·rw[ZS];refine⟨by rw[e2];exact WO _ _,(gU o).take,λx f y l=>?_⟩;rw[e2]at f;obtain⟨j,n,_,rfl⟩:=t9 l;rw[Zf.mp f];exact p j n
 ·rcases Zc.mp f with f | f
  ·exact m.lb y (YQ.mp l) x f
  ·exact m.la y (YQ.mp l) x f
def MC.EF(C:Ep prog w A E s κ G r){a b:Array KF}(M:MC G r a b):∀j (d:j<a.size),le r (b[0]'M.nb) a[j]:=λj d=>M.bA C M.na M.nb M.first j d (ZM _)
def Cv(C:Ep prog w A E s κ G r){a b:Array KF}{L:Pv}{Q:Array KF->Pv->Prop}(hk:kindOf L=κ)(M:MC G r a b)(h:∀res n,fU L n->MR r a b res->Q res n) :
  wpS (FM prog w) A E s (kI a b) Q L:=by
 have PU:=M.na;have S4:=M.nb;unfold kI;change wpS (FM prog w) A E s (_>>=_) Q L;dsimp only;have PZ:a.size-1<a.size:=by omega
 refine Za (gn ?_);have m0:HI r a b #[] a.size b.size:=⟨by simp[GG],by simp,by simp,by simp⟩
 have m1:HI r a b #[a[a.size-1]] (a.size-1) b.size:=m0.DU M.sa PU PZ λj g _=>M.last j g;have Jr:fU L L:=⟨rfl,rfl,rfl,rfl⟩
 refine bg PZ (λe=>?_) λe1=>?_
 ·exact Zl (h _ _ Jr (m1.fin M.sa M.sb (.inl (by simpa using e))))
 refine aG (λe=>?_) λe2=>?_
 ·exact Zl (h _ _ Jr (m1.first M.sa (by simpa using e) M.nb (M.EF C)))
 have Lh:0<a.size-1:=by simp at e1;exact Yi e1
 have Hz:1<b.size:=by simp at e2;lia
 refine Za (We ?_);refine Za (Y9 (Yc
  (I:=λx c n=>fU L n/\c.1=Y/\HI r a b c.2.2.2.1 c.2.1 c.2.2.1/\0<c.2.1/\c.2.1<=a.size/\1<c.2.2.1/\c.2.2.1<=b.size/\x<c.2.2.2.1.size)
  (Q:=λc n=>fU L n/\∃res,c.1=O res/\MR r a b res) ?step ?fin ?init) ?post)
 case init=>exact⟨Jr,rfl,m1,Lh,by(try dsimp only);exact YN _ _,Hz,Zs _,by simp⟩
 case fin =>
  refine rY λc1 na nb out mg n d=>?_;have kp:=d.1;have u:=d.2.1;have m:=d.2.2.1;have o:=d.2.2.2.1;have H:=d.2.2.2.2.1;have v:=d.2.2.2.2.2.1;have D:=d.2.2.2.2.2.2.1;have U:=d.2.2.2.2.2.2.2;clear d;dsimp only at *;have:=m.size (by omega) (by omega);lia
 case post =>
  refine rY λc1 na nb out mg=>?_;rintro n ⟨kp,res,u,o⟩;dsimp only at *;subst u;exact Zl (h _ _ kp o)
 case step =>
  intro x;refine rY λc1 na nb out mg n _ hx d=>?_;have kp:=d.1;have u:=d.2.1;have m:=d.2.2.1;have o:=d.2.2.2.1;have H:=d.2.2.2.2.1;have v:=d.2.2.2.2.2.1;have D:=d.2.2.2.2.2.2.1;have U:=d.2.2.2.2.2.2.2;clear d;dsimp only at *;refine Za (Y9 (Yc
   (I:=λy c n=>fU L n/\c.1=Y/\HI r a b c.2.2.2.1 c.2.1 c.2.2.1/\0<c.2.1/\c.2.1<=a.size/\1<c.2.2.1/\c.2.2.1<=b.size/\x+y<c.2.2.2.1.size)
   (Q:=λc n=>fU L n/\((∃res,c.1=O res/\MR r a b res)\/(c.1=Y/\HI r a b c.2.2.2.1 c.2.1 c.2.2.1/\0<c.2.1/\c.2.1<=a.size/\1<c.2.2.1/\c.2.2.1<=b.size/\x+1<c.2.2.2.1.size))) ?step2 ?fin2 ?init2) ?post2)
  case init2=>exact⟨kp,rfl,m,o,H,v,D,by simpa using U⟩
  case fin2 =>
   refine oy λc1 na nb out ac bc n d=>?_;have kp:=d.1;have u:=d.2.1;have m:=d.2.2.1;have o:=d.2.2.2.1;have H:=d.2.2.2.2.1;have v:=d.2.2.2.2.2.1;have D:=d.2.2.2.2.2.2.1;have U:=d.2.2.2.2.2.2.2;clear d;dsimp only at *;exact⟨kp,.inr ⟨u,m,o,H,v,D,by(try dsimp only);lia⟩⟩
  case step2 =>
   intro y;refine oy λc1 na nb out ac bc n _ hy d=>?_;have kp:=d.1;have u:=d.2.1;have m:=d.2.2.1;have o:=d.2.2.2.1;have H:=d.2.2.2.2.1;have v:=d.2.2.2.2.2.1;have D:=d.2.2.2.2.2.2.1;have U:=d.2.2.2.2.2.2.2;clear d;dsimp only at *;have f:na-1<a.size:=by lia
   have t:nb-1<b.size:=by lia
   have gA:=M.ga _ (Zi f);have gB:=M.gb _ (Zi t);refine gZ t (dM f ?_);refine Za (C.run _ _ _ _ (kp.1.trans hk) gB gA ?_);dsimp only;cases e:r b[nb-1] a[na-1] with
   |true =>
    rw[Zr rfl];have R:=m.DU M.sa o f (λj g P2=>C.tr (M.gb _ (Zi g)) gB gA (M.sb j _ g t (ZM _) (by lia) t) (C.EZ gB gA e));refine bg f (λX=>?_) λX=>?_
    ·exact Zl ⟨kp,.inl ⟨_,rfl,R.fin M.sa M.sb (.inl (by simpa using X))⟩⟩
    ·have FN:0<na-1:=by simp at X;exact Yi X
     refine aG (λ_=>?_) λ_=>?_
     ·exact Zl ⟨kp,.inr ⟨rfl,R,FN,by(try dsimp only);exact ZK f,v,D,by simp;lia⟩⟩
     ·exact Zl ⟨kp,rfl,R,FN,by(try dsimp only);exact ZK f,v,D,by simp;lia⟩
   |false =>
    rw[Zm Zk];have R:=m.EJ M.sb (by exact Xh v) t (λj g P2=>C.tr (M.ga _ (Zi g)) gA gB (M.sa j _ g f (ZM _) (by lia) f) e);refine bg t (λX=>?_) λX=>?_
    ·exact Zl ⟨kp,.inl ⟨_,rfl,R.first M.sa (by simpa using X) M.nb (M.EF C)⟩⟩
    ·have FN:1<nb-1:=by simp at X;lia
     refine aG (λ_=>?_) λ_=>?_
     ·exact Zl ⟨kp,.inr ⟨rfl,R,o,H,FN,by(try dsimp only);exact ZK t,by simp;lia⟩⟩
     ·exact Zl ⟨kp,rfl,R,o,H,FN,by(try dsimp only);exact ZK t,by simp;lia⟩
  case post2 =>
   refine oy λc1 na nb out ac bc=>?_;rintro n ⟨kp,⟨res,u,o⟩ | ⟨u,m,o,H,v,D,U⟩⟩
   ·dsimp only at *;subst u;exact Zl ⟨kp,res,rfl,o⟩
   ·dsimp only at *;subst u;dsimp only;refine Za (gn ?_);refine Za (Y9 (Yc
     (I:=λy c n=>fU L n/\c.1=Y/\HI r a b c.2.2.2.1 c.2.1 c.2.2.1/\0<c.2.1/\c.2.1<=a.size/\1<c.2.2.1/\c.2.2.1<=b.size/\x+1<c.2.2.2.1.size)
     (Q:=λc n=>fU L n/\((∃res,c.1=O res/\MR r a b res)\/(c.1=Y/\HI r a b c.2.2.2.1 c.2.1 c.2.2.1/\0<c.2.1/\c.2.1<=a.size/\1<c.2.2.1/\c.2.2.1<=b.size/\x+1<c.2.2.2.1.size))) ?step3 ?fin3 ?init3) ?post3)
    case init3=>exact⟨kp,rfl,m,o,H,v,D,U⟩
    case fin3 =>
     refine oy λc1 na nb out ac bc n d=>?_;have kp:=d.1;have u:=d.2.1;have m:=d.2.2.1;have o:=d.2.2.2.1;have H:=d.2.2.2.2.1;have v:=d.2.2.2.2.2.1;have D:=d.2.2.2.2.2.2.1;have U:=d.2.2.2.2.2.2.2;clear d;exact⟨kp,.inr ⟨u,m,o,H,v,D,U⟩⟩
    case post3 =>
     refine xj λc1 na nb out mg ac bc=>?_;rintro n ⟨kp,⟨res,u,o⟩ | ⟨u,m,o,H,v,D,U⟩⟩
     ·dsimp only at *;subst u;exact Zl ⟨kp,res,rfl,o⟩
     ·dsimp only at *;subst u;dsimp only;exact Za (gv kp λD2 l=>Zl ⟨l,rfl,m,o,H,v,D,U⟩)
    case step3 =>
     intro y;refine xj λc1 na nb out mg ac bc n _ hy d=>?_;have kp:=d.1;have u:=d.2.1;have m:=d.2.2.1;have o:=d.2.2.2.1;have H:=d.2.2.2.2.1;have v:=d.2.2.2.2.2.1;have D:=d.2.2.2.2.2.2.1;have U:=d.2.2.2.2.2.2.2;clear d;dsimp only at *;have both:∀{mg:Nat}{F:Unit->StateT Pv Sem (ForInStep (Option (Array KF)×Nat×Nat×Array KF×Nat×Nat×Nat))}{P},(∀D2,fU L D2->wpS (FM prog w) A E s (F ()) P D2)->wpS (FM prog w) A E s (d9 mg>>=F) P n:=λhF=>Za (gv kp λD2 l=>hF D2 l);revert mg;refine qA (λ_=>rfl) λSn=>?_;refine both λD2 l=>?_;have Ql:0<nb:=by exact Xh v
     have t:nb-1<b.size:=by lia
     have gB:=M.gb _ (Zi t);refine gZ t (fH C (l.1.trans hk) gB M.ga (by lia) (by lia) (g0 M.sa _ _) λk J3 Il J2=>?_);dsimp only;refine aG (λe5=>?_) λe5=>?_
     ·have R:=m.GD (k:=k) M.sa (by omega) (λi W h1 h2 j g h3=>C.tr (M.gb _ (Zi g)) gB (M.ga _ (Zi W)) (M.sb j _ g t (ZM _) (by lia) t) (J2 i W (by lia) (by lia)));refine aG (λp=>?_) λp=>?_
      ·exact Zl ⟨l,.inl ⟨_,rfl,R.fin M.sa M.sb (.inl (by simpa using p))⟩⟩
      have K9:0<k:=by simp at p;exact Yi p
      have f:k-1<a.size:=by lia
      have hle:∀j (g:j<a.size),j<k->le r a[j] b[nb-1]:=λj g h=>Il j g (ZM _) (by lia);clear p;have m3:=R.EJ M.sb Ql t hle;refine bg t (λe4=>?_) λe4=>?_
      ·exact Zl ⟨l,.inl ⟨_,rfl,m3.first M.sa (by simpa using e4) M.nb (M.EF C)⟩⟩
      have JM:1<nb-1:=by simp at e4;lia
      refine gZ f (fH C (l.1.trans hk) (M.ga _ (Zi f)) M.gb (by lia) (by lia) (g0 M.sb _ _) λk2 Hd EL Fz=>?_);dsimp only;have Z:=m3.HB (k:=k2) M.sb (by omega) (λi W h1 h2 j g h3=>C.tr (M.ga _ (Zi g)) (M.ga _ (Zi f)) (M.gb _ (Zi W)) (M.sa j _ g f (ZM _) (by lia) f) (Fz i W (by lia) (by lia)));refine aG (λe5=>?_) λe5=>?_
      ·refine aG (λq=>?_) λq=>?_
       ·exact Zl ⟨l,.inl ⟨_,rfl,Z.first M.sa (by simpa using q) M.nb (M.EF C)⟩⟩
       refine aG (λN=>?_) λN=>?_
       ·exact Zl ⟨l,.inl ⟨_,rfl,Z.fin M.sa M.sb (.inr (by simpa using N))⟩⟩
       have z:=Z.DU M.sa K9 f (λj g h=>EL j g (ZM _) (by lia));refine bg f (λp=>?_) λp=>?_
       ·exact Zl ⟨l,.inl ⟨_,rfl,z.fin M.sa M.sb (.inl (by simpa using p))⟩⟩
       have B:=p;simp at B;refine aG (λ_=>?_) λ_=>?_
       ·exact Zl ⟨l,.inr ⟨rfl,z,by(try dsimp only);exact Yi B,by(try dsimp only);exact ZK f,by(try dsimp only);(try simp at q);(try simp at N);lia,by(try dsimp only);(try simp at q);lia,by simp;lia⟩⟩
       ·exact Zl ⟨l,rfl,z,by(try dsimp only);exact Yi B,by(try dsimp only);exact ZK f,by(try dsimp only);(try simp at q);(try simp at N);lia,by(try dsimp only);(try simp at q);lia,by simp;lia⟩
      ·have z:=m3.DU M.sa K9 f (λj g h=>EL j g (ZM _) (by lia));refine bg f (λp=>?_) λp=>?_
       ·exact Zl ⟨l,.inl ⟨_,rfl,z.fin M.sa M.sb (.inl (by simpa using p))⟩⟩
       have B:=p;simp at B;refine aG (λ_=>?_) λ_=>?_
       ·exact Zl ⟨l,.inr ⟨rfl,z,by(try dsimp only);exact Yi B,by(try dsimp only);exact ZK f,by(try dsimp only);(try simp at q);(try simp at N);omega,by(try dsimp only);(try simp at q);exact ZK t,by simp;lia⟩⟩
       ·exact Zl ⟨l,rfl,z,by(try dsimp only);exact Yi B,by(try dsimp only);exact ZK f,by(try dsimp only);(try simp at q);(try simp at N);omega,by(try dsimp only);(try simp at q);exact ZK t,by simp;lia⟩
     ·have R:=m;have K9:0<na:=o;have f:na-1<a.size:=by lia
      have hle:∀j (g:j<a.size),j<na->le r a[j] b[nb-1]:=λj g h=>Il j g (ZM _) (by lia);have m3:=R.EJ M.sb Ql t hle;refine bg t (λe4=>?_) λe4=>?_
      ·exact Zl ⟨l,.inl ⟨_,rfl,m3.first M.sa (by simpa using e4) M.nb (M.EF C)⟩⟩
      have JM:1<nb-1:=by simp at e4;lia
      refine gZ f (fH C (l.1.trans hk) (M.ga _ (Zi f)) M.gb (by lia) (by lia) (g0 M.sb _ _) λk2 Hd EL Fz=>?_);dsimp only;have Z:=m3.HB (k:=k2) M.sb (by omega) (λi W h1 h2 j g h3=>C.tr (M.ga _ (Zi g)) (M.ga _ (Zi f)) (M.gb _ (Zi W)) (M.sa j _ g f (ZM _) (by lia) f) (Fz i W (by lia) (by lia)));refine aG (λe5=>?_) λe5=>?_
      ·refine aG (λq=>?_) λq=>?_
       ·exact Zl ⟨l,.inl ⟨_,rfl,Z.first M.sa (by simpa using q) M.nb (M.EF C)⟩⟩
       refine aG (λN=>?_) λN=>?_
       ·exact Zl ⟨l,.inl ⟨_,rfl,Z.fin M.sa M.sb (.inr (by simpa using N))⟩⟩
       have z:=Z.DU M.sa K9 f (λj g h=>EL j g (ZM _) (by lia));refine bg f (λp=>?_) λp=>?_
       ·exact Zl ⟨l,.inl ⟨_,rfl,z.fin M.sa M.sb (.inl (by simpa using p))⟩⟩
       have B:=p;simp at B;refine aG (λ_=>?_) λ_=>?_
       ·exact Zl ⟨l,.inr ⟨rfl,z,by(try dsimp only);exact Yi B,by(try dsimp only);exact ZK f,by(try dsimp only);(try simp at q);(try simp at N);lia,by(try dsimp only);(try simp at q);lia,by simp;lia⟩⟩
       ·exact Zl ⟨l,rfl,z,by(try dsimp only);exact Yi B,by(try dsimp only);exact ZK f,by(try dsimp only);(try simp at q);(try simp at N);lia,by(try dsimp only);(try simp at q);lia,by simp;lia⟩
      ·have z:=m3.DU M.sa K9 f (λj g h=>EL j g (ZM _) (by lia));refine bg f (λp=>?_) λp=>?_
       ·exact Zl ⟨l,.inl ⟨_,rfl,z.fin M.sa M.sb (.inl (by simpa using p))⟩⟩
       have B:=p;simp at B;refine aG (λ_=>?_) λ_=>?_
       ·exact Zl ⟨l,.inr ⟨rfl,z,by(try dsimp only);exact Yi B,by(try dsimp only);exact ZK f,by(try dsimp only);(try simp at q);(try simp at N);omega,by(try dsimp only);(try simp at q);exact ZK t,by simp;lia⟩⟩
       ·exact Zl ⟨l,rfl,z,by(try dsimp only);exact Yi B,by(try dsimp only);exact ZK f,by(try dsimp only);(try simp at q);(try simp at N);omega,by(try dsimp only);(try simp at q);exact ZK t,by simp;lia⟩
end TS
end
section
open PySem PyProof.Rows
namespace TS
variable{prog:PP}{w:SL}{A:Pi}{E:Yl}{s:FB}{κ:SortKind}{G:KF->Prop}{r:KF->KF->Bool}
def K(a:Array KF)(i:Nat):Keyed:=(a[i]?).getD (.none,.none)
def uz{a:Array KF}{i:Nat}(h:i<a.size):K a i=a[i]:=by unfold K;rw[getElem?_pos a i h];rfl
def Sg(r:KF->KF->Bool)(a:Array KF)(b d:Nat):Prop:=∀i j,b<=i->i<=j->j<d->le r (K a i) (K a j)
def Ds(r:KF->KF->Bool)(a:Array KF)(b d:Nat):Prop:=∀i j,b<=i->i<=j->j<d->le r (K a j) (K a i)
def jx{a:Array KF}{i j:Nat}(b:j<=a.size)(k:Nat):K (mirror a i j ((j-i)/2)) k=if i<=k/\k<j then K a (i+j-1-k) else K a k:=by
 unfold K;rw[getElem?_mirror_all b];split<;>rfl
def zq{b:Array KF}{a d:Nat}(e:a<b.size)(f:d<=a)(k:Nat):K (bubble b a d) k=if k=a-d then K b a else if a-d<k/\k<=a then K b (k-1) else K b k:=by
 unfold K;rw[getElem?_bubble e d f];split
 ·rfl
 ·split<;>rfl
structure Lc(lo:Nat)(Eh st:Pv):Prop where
 kind:kindOf st=kindOf Eh
 pend:Re st=Re Eh
 fail:failedOf st=failedOf Eh
 perm:(arrOf st).Perm (arrOf Eh)
 pre:∀j,j<lo->(arrOf st)[j]?=(arrOf Eh)[j]?
theorem Lc.refl(b:Nat)(a:Pv):Lc b a a:=⟨rfl,rfl,rfl,Array.Perm.refl _,λ_ _=>rfl⟩
theorem Lc.size{b:Nat}{a st:Pv}(d:Lc b a st):(arrOf st).size=(arrOf a).size:=d.perm.size_eq
def Lc.good{f:Nat}{d a:Pv}(b:Lc f d a)(g:∀x∈arrOf d,G x){i:Nat}(e:i<(arrOf d).size):G (K (arrOf a) i):=by
 rw[uz (by rw[b.size];exact e)];refine g _ ?_;have:(arrOf a)[i]'(by rw[b.size];exact e)∈(arrOf a).toList:=by simp
 have:=(YK.mp b.perm).mem_iff.mp this;simpa using this
def Lc.arr{e:Nat}{g b:Pv}(a:Lc e g b){d:Array KF}(i:d.Perm (arrOf b))(h:∀j,j<e->d[j]?=(arrOf b)[j]?):Lc e g (setArr b d) :=
 ⟨a.kind,a.pend,a.fail,i.trans a.perm,λj f=>(h j f).trans (a.pre j f)⟩
def Lc.IJ{b:Nat}{d a:Pv}(e:Lc b d a){i j:Nat}(h:b<=i)(f:j<=(arrOf d).size):Lc b d (setArr a (mirror (arrOf a) i j ((j-i)/2))) :=
 e.arr (mirror_perm _ _ _ _) λk g=>by rw[getElem?_mirror_all (by rw[e.size];exact f),Zm (by lia)]
def i8(C:Ep prog w A E s κ G r){p:Nat}{d a:Pv}(q:kindOf d=κ)(g:∀x∈arrOf d,G x)(b:Lc p d a){i j:Nat}{Q:Option Bool->Pv->Prop}(f:i<(arrOf d).size)(e:j<(arrOf d).size)(h:Q (O (r (K (arrOf a) i) (K (arrOf a) j))) a):wpS (FM prog w) A E s (ltAt' i j) Q a:=by
 have m:=b.good g f;have l:=b.good g e;have o:i<(arrOf a).size:=by rw[b.size];exact f
 have n:j<(arrOf a).size:=by rw[b.size];exact e
 rw[ltAt'_eq];refine Za (We ?_);refine Za (dM o (Za (dM n ?_)));rw[uz o]at m h;rw[uz n]at l h;exact C.run a _ _ _ (b.kind.trans q) m l h
def Ds.IJ(C:Ep prog w A E s κ G r){f:Array KF}{g e i:Nat}(D:Ds r f g e)(h:∀k,k<e->G (K f k))(h1:g<=i)(l:e<=f.size)(n:∀k,i<=k->k<e->le r (K f k) (K f (e-1))) :
  Ds r (mirror f i e ((e-i)/2)) g e:=λp q j o m=>by
 rw[jx l,jx l];have eqv:∀u v,i<=u->u<e->i<=v->v<e->le r (K f u) (K f v):=λu v a b c d=>C.tr (h u b) (h _ (by lia)) (h v d) (n u a b) (D v (e-1) (by exact ZV h1 c) (by lia) (by lia));split
 ·split
  ·exact eqv _ _ (by omega) (by omega) (by lia) (by omega)
  ·exact D p _ j (by lia) (by omega)
 ·split
  ·lia
  ·exact D p q j o m
def Ds.rev{d:Array KF}{b a:Nat}(D:Ds r d b a)(g:a<=d.size):Sg r (mirror d b a ((a-b)/2)) b a:=λp q f h e=>by
 rw[jx g,jx g,Zr ⟨f,by exact Wl h e⟩,Zr ⟨by exact ZV f h,e⟩];exact D _ _ (by omega) (by omega) (by omega)
def Sg.snoc(C:Ep prog w A E s κ G r){xs:Array KF}{a n:Nat}(S:Sg r xs a (a+n))(b:∀k,k<=a+n->G (K xs k))(h1:1<=n)(h:le r (K xs (a+n-1)) (K xs (a+n))):Sg r xs a (a+n+1):=λi j d f g=>by
 by_cases e:j<a+n
 ·exact S i j d f e
 ·have:j=a+n:=by lia
  subst this;by_cases e2:i=a+n
  ·subst e2;exact C.refl (b _ (Zs _))
  ·exact C.tr (b i (by omega)) (b _ (by exact YN _ _)) (b _ (Zs _)) (S i (a+n-1) d (by lia) (by omega)) h
def Ds.snoc(C:Ep prog w A E s κ G r){xs:Array KF}{a n:Nat}(S:Ds r xs a (a+n))(b:∀k,k<=a+n->G (K xs k))(h1:1<=n)(h:le r (K xs (a+n)) (K xs (a+n-1))):Ds r xs a (a+n+1):=λi j d f g=>by
 by_cases e:j<a+n
 ·exact S i j d f e
 ·have:j=a+n:=by lia
  subst this;by_cases e2:i=a+n
  ·subst e2;exact C.refl (b _ (Zs _))
  ·exact C.tr (b _ (Zs _)) (b _ (by exact YN _ _)) (b i (by omega)) h (S i (a+n-1) d (by lia) (by omega))
def jK{a:Pv}{i j:Nat}{Q:Unit->Pv->Prop}(h:Q () (setArr a (mirror (arrOf a) i j ((j-i)/2)))):wpS (FM prog w) A E s (reverseSlice' i j) Q a:=by
 rw[reverseSlice'_eq];exact Wu h
def n9{α:Type}{c:Prop}[Decidable c]{x R:StateT Pv Sem α}{Q:α->Pv->Prop}{P:Pv->Prop}{a:Pv}(D:∀D3,P D3->wpS (FM prog w) A E s R Q D3)(b:¬c->P a)(h1:c->(∀D3,P D3->wpS (FM prog w) A E s R Q D3)->wpS (FM prog w) A E s x Q a):wpS (FM prog w) A E s (if c then x else R) Q a :=
 aG (λz=>h1 z D) λz=>D a (b z)
def Bg(C:Ep prog w A E s κ G r){a n:Nat}{t:Pv}{Q:Option Nat->Pv->Prop}(u:kindOf t=κ)(g:∀x∈arrOf t,G x)(h0:1<=n)(hn:a+n<=(arrOf t).size)(h:∀m b,Lc a t b->1<=m->m<=n->Sg r (arrOf b) a (a+m)->Q (O m) b):wpS (FM prog w) A E s (countRun' a n) Q t:=by
 unfold countRun';change wpS (FM prog w) A E s (_>>=_) Q t;dsimp only;have Mm:=Lc.refl a t;have Nd:1<=1:=Zs _;have s0:Sg r (arrOf t) a (a+1):=λi j h1 y h3=>by
  have e1:i=a:=by lia
  have e2:j=a:=by lia
  subst e1 e2;exact C.refl (Mm.good g (by lia))
 refine Za (Y9 (Yc
  (I:=λx c b=>Lc a t b/\c.1=Y/\c.2=x/\1<=x/\Sg r (arrOf b) a (a+x))
  (Q:=λc b=>Lc a t b/\c.1=Y/\1<=c.2/\c.2<=n/\Sg r (arrOf b) a (a+c.2)/\(c.2<n->r (K (arrOf b) (a+c.2)) (K (arrOf b) (a+c.2-1))=J)) ?stepA ?finA ?initA) ?postA)
 case initA=>exact⟨Mm,rfl,rfl,Nd,s0⟩
 case finA =>
  refine all2 λc1 c2=>?_;rintro b ⟨d,v,q,p,l⟩;dsimp only at *;subst q;refine⟨d,v,by(try dsimp only);omega,by(try dsimp only);lia,l,λz=>?_⟩
  (try dsimp only at z)
  lia
 case stepA =>
  intro x;refine all2 λc1 c2=>?_;rintro b L7 Z ⟨d,v,q,p,l⟩;dsimp only at *;subst q;refine Za (i8 C u g d (by lia) (by omega) ?_);dsimp only;have f:∀k,k<=a+c2->G (K (arrOf b) k):=λk u=>d.good g (by lia);cases e:r (K (arrOf b) (a+c2)) (K (arrOf b) (a+c2-1)) with
  |true=>exact Zl ⟨d,rfl,p,by(try dsimp only);exact ZK Z,l,λ_=>e⟩
  |false=>exact Zl ⟨d,rfl,rfl,by exact Xk _ _,Sg.snoc C l f p e⟩
 case postA =>
  refine all2 λc1 c2=>?_;rintro b ⟨d,v,q,p,l,B⟩;dsimp only at *;subst v;dsimp only;refine aG (λe=>?_) λe=>?_
  ·exact Zl (h c2 b d q p l)
  have e':c2<n:=by simp at e;exact Nat.lt_of_le_of_ne p e
  have sm:=B e';have f:∀k,k<=a+c2->G (K (arrOf b) k):=λk u=>d.good g (by lia);have X:le r (K (arrOf b) (a+c2)) (K (arrOf b) (a+c2-1)):=C.EZ (f _ (by exact Zs _)) (f _ (by exact YN _ _)) sm;have F:=d.size;refine n9 (P:=λD3=>Lc a t D3/\Ds r (arrOf D3) a (a+(c2+1))) ?D ?two ?one
  case one =>
   intro e3 Dk;refine Za (i8 C u g d (by lia) (by lia) ?_);dsimp only;cases e4:r (K (arrOf b) a) (K (arrOf b) (a+c2-1)) with
   |true=>exact Zl (h c2 b d q p l)
   |false =>
    rw[Zm Zk];refine Za (jK ?_);have W:=d.IJ (i:=a) (j:=a+c2) (by exact Zs _) (by lia);have d0:Ds r (arrOf b) a (a+c2):=λi j h1 y h3=>C.tr (f j (by exact ZK h3)) (f _ (by exact YN _ _)) (f i (by lia)) (l j (a+c2-1) (by exact ZV h1 y) (by lia) (by omega))
     (C.tr (f _ (by exact YN _ _)) (f _ (by exact ZI _ _)) (f i (by lia)) e4 (l a i (by exact Zs _) h1 (by exact Wl y h3)))
    have N:=Ds.IJ C d0 (λk u=>f k (by exact ZK u)) (i:=a) (by exact Zs _) (by lia) (λk h1 y=>l k _ h1 (by lia) (by omega));have U:=Ds.snoc C N (λk u=>W.good g (by lia)) q (by
     rw[jx (by lia),jx (by lia),Zm (by lia),Zr (by omega)];exact C.tr (f _ (by exact Zs _)) (f _ (by exact YN _ _)) (f _ (by omega)) X (d0 _ _ (by omega) (by omega) (by omega)))
    exact Dk _ ⟨W,U⟩
  case two =>
   intro e3;have e5:c2=1:=by lia
   have d0:Ds r (arrOf b) a (a+c2):=λi j h1 y h3=>by
    have e1:i=a:=by lia
    have e2:j=a:=by lia
    subst e1 e2;exact C.refl (f _ (by exact ZI _ _))
   have U:=Ds.snoc C d0 f q X;exact⟨d,U⟩
  case D =>
   rintro b ⟨W,U⟩;clear f F;refine Za (gn ?_);refine Za (Y9 (Yc
    (I:=λx c b=>Lc a t b/\c.1=Y/\c.2.1=x/\c.2.2+1<=x/\Ds r (arrOf b) a (a+x)/\(∀k,a+x-(c.2.2+1)<=k->k<a+x->le r (K (arrOf b) k) (K (arrOf b) (a+x-1))))
    (Q:=λc b=>Lc a t b/\c.1=Y/\c.2.2+1<=c.2.1/\c.2.1<=n/\Ds r (arrOf b) a (a+c.2.1)/\(∀k,a+c.2.1-(c.2.2+1)<=k->k<a+c.2.1->le r (K (arrOf b) k) (K (arrOf b) (a+c.2.1-1)))) ?stepD ?finD ?initD) ?postD)
   case initD =>
    refine⟨W,rfl,rfl,by(try dsimp only);exact Xk _ _,U,λk h1 y=>?_⟩
    (try dsimp only at h1 y)
    have e:k=a+(c2+1)-1:=by lia
    subst e;exact C.refl (W.good g (by lia))
   case finD =>
    refine gF λc1 o H=>?_;rintro b ⟨d,v,q,p,l,B⟩;dsimp only at *;subst q;exact⟨d,v,p,by(try dsimp only);lia,l,B⟩
   case stepD =>
    intro x;refine gF λc1 o H=>?_;rintro b L7 Z ⟨d,v,q,p,l,B⟩;dsimp only at *;subst q;refine Za (i8 C u g d (by lia) (by omega) ?_);dsimp only;have f:∀k,k<=a+o->G (K (arrOf b) k):=λk u=>d.good g (by lia);have F:=d.size;cases e:r (K (arrOf b) (a+o)) (K (arrOf b) (a+o-1)) with
    |true =>
     rw[Zr M];have X:le r (K (arrOf b) (a+o)) (K (arrOf b) (a+o-1)):=C.EZ (f _ (by exact Zs _)) (f _ (by exact YN _ _)) e;refine aG (λz=>?_) λz=>?_
     ·refine Za (jK ?_);have L:=d.IJ (i:=a+o-(H+1)) (j:=a+o) (by lia) (by lia);have N:=Ds.IJ C l (λk u=>f k (by exact ZK u)) (i:=a+o-(H+1)) (by lia) (by lia) B;refine Zl ⟨L,rfl,rfl,by(try dsimp only);exact Xk _ _,Ds.snoc C N (λk u=>L.good g (by lia)) (by lia) ?_,λk h1 y=>?_⟩
      ·show le r (K (mirror _ _ _ _) _) (K (mirror _ _ _ _) _);rw[jx (by lia),jx (by lia),Zm (by lia),Zr (by omega)];exact C.tr (f _ (by exact Zs _)) (f _ (by exact YN _ _)) (f _ (by omega)) X (l _ _ (by lia) (by omega) (by omega))
      ·(try dsimp only at h1 y)
       have e:k=a+(o+1)-1:=by lia
       subst e;exact C.refl (L.good g (by lia))
     ·refine Zl ⟨d,rfl,rfl,by(try dsimp only);exact Xk _ _,Ds.snoc C l f (by lia) X,λk h1 y=>?_⟩
      (try dsimp only at h1 y)
      have e:k=a+(o+1)-1:=by lia
      subst e;exact C.refl (d.good g (by lia))
    |false =>
     rw[Zm Zk];refine Za (i8 C u g d (by lia) (by lia) ?_);dsimp only;cases e2:r (K (arrOf b) (a+o-1)) (K (arrOf b) (a+o)) with
     |true=>exact Zl ⟨d,rfl,p,by(try dsimp only);exact ZK Z,l,B⟩
     |false =>
      refine Zl ⟨d,rfl,rfl,by(try dsimp only);exact Y2 p,Ds.snoc C l f (by lia) e2,λk h1 y=>?_⟩
      (try dsimp only at h1 y)
      have ee:a+(o+1)-1=a+o:=by lia
      rw[ee];by_cases ek:k=a+o
      ·subst ek;exact C.refl (f _ (by exact Zs _))
      ·exact C.tr (f _ (by lia)) (f _ (by exact YN _ _)) (f _ (by exact Zs _)) (B k (by lia) (by lia)) e
   case postD =>
    refine gF λc1 o H=>?_;rintro b ⟨d,v,p,q6,l,B⟩;dsimp only at *;subst v;dsimp only;have f:∀k,k<a+o->G (K (arrOf b) k):=λk u=>d.good g (by lia);have F:=d.size;have Nd:1<=o:=by lia
    refine n9 (P:=λD3=>Lc a t D3/\Ds r (arrOf D3) a (a+o)) ?R ?two2 ?one2
    case one2 =>
     intro z UQ;refine Za (jK ?_);have L:=d.IJ (i:=a+o-(H+1)) (j:=a+o) (by lia) (by lia);have N:=Ds.IJ C l f (i:=a+o-(H+1)) (by lia) (by lia) B;exact UQ _ ⟨L,N⟩
    case two2=>exact λ_=>⟨d,l⟩
    case R =>
     clear l B f F d;rintro b ⟨d,l⟩;have F:=d.size;refine Za (jK ?_);have Mm:=d.IJ (i:=a) (j:=a+o) (by exact Zs _) (by lia);have s0:=l.rev (by lia);refine Za (Y9 (Yc
      (I:=λx c b=>Lc a t b/\c.1=Y/\c.2=x/\1<=x/\Sg r (arrOf b) a (a+x))
      (Q:=λc b=>Lc a t b/\c.1=Y/\1<=c.2/\c.2<=n/\Sg r (arrOf b) a (a+c.2)/\(c.2<n->r (K (arrOf b) (a+c.2)) (K (arrOf b) (a+c.2-1))=J)) ?stepA ?finA ?initA) ?postA)
     case initA=>exact⟨Mm,rfl,rfl,Nd,s0⟩
     case finA =>
      refine all2 λc1 c2=>?_;rintro b ⟨d,v,q,p,l⟩;dsimp only at *;subst q;refine⟨d,v,by(try dsimp only);omega,by(try dsimp only);lia,l,λz=>?_⟩
      (try dsimp only at z)
      lia
     case stepA =>
      intro x;refine all2 λc1 c2=>?_;rintro b L7 Z ⟨d,v,q,p,l⟩;dsimp only at *;subst q;refine Za (i8 C u g d (by lia) (by lia) ?_);dsimp only;have f:∀k,k<=a+c2->G (K (arrOf b) k):=λk u=>d.good g (by lia);cases e:r (K (arrOf b) (a+c2)) (K (arrOf b) (a+c2-1)) with
      |true=>exact Zl ⟨d,rfl,p,by(try dsimp only);exact ZK Z,l,λ_=>e⟩
      |false=>exact Zl ⟨d,rfl,rfl,by exact Xk _ _,Sg.snoc C l f p e⟩
     case postA =>
      refine all2 λc1 c3=>?_;rintro b ⟨d,v,q,p,l,B⟩;dsimp only at *;subst v;exact Zl (h c3 b d q p l)
end TS
end
section
open PySem PyProof.Rows
namespace TS
variable{prog:PP}{w:SL}{A:Pi}{E:Yl}{s:FB}{κ:SortKind}{G:KF->Prop}{r:KF->KF->Bool}
def va{a:Pv}{i j:Nat}{Q:Unit->Pv->Prop}(h:Q () (setArr a (bubble (arrOf a) i (i-j)))):wpS (FM prog w) A E s (moveDown' i j) Q a:=by
 rw[moveDown'_eq];exact Wu h
def Lc.Uy{b:Nat}{e a:Pv}(f:Lc b e a){i d:Nat}(j:b+d<=i)(g:i<(arrOf e).size):Lc b e (setArr a (bubble (arrOf a) i d)) :=
 f.arr (bubble_perm _ _ _) λk h=>by rw[getElem?_bubble (by rw[f.size];exact g) d (by lia),Zm (by lia),Zm (by lia)]
def AI(C:Ep prog w A E s κ G r){a n q:Nat}{f:Pv}{Q:Bool->Pv->Prop}(P:kindOf f=κ)(g:∀x∈arrOf f,G x)(h0:1<=q)(U:q<=n)(X:a+n<=(arrOf f).size)(S:Sg r (arrOf f) a (a+q))(h:∀b,Lc a f b->Sg r (arrOf b) a (a+n)->Q J b):wpS (FM prog w) A E s (binarySort' a n q) Q f:=by
 unfold binarySort';change wpS (FM prog w) A E s (_>>=_) Q f;dsimp only;have em:max q 1=q:=by lia
 rw[em];refine Za (Y9 (Yc
  (I:=λx c b=>Lc a f b/\c.1=Y/\Sg r (arrOf b) a (a+x))
  (Q:=λc b=>Lc a f b/\c.1=Y/\Sg r (arrOf b) a (a+n)) ?step ?fin ?init) ?post)
 case init=>exact⟨Lc.refl _ _,rfl,S⟩
 case fin =>
  refine all2 λc1 c2=>?_;rintro b ⟨p,F,d⟩;have e:max q n=n:=by lia
  rw[e]at d;exact⟨p,F,d⟩
 case post =>
  refine all2 λc1 c2=>?_;rintro b ⟨p,F,d⟩;dsimp only at *;subst F;exact Zl (h b p d)
 case step =>
  intro k;refine all2 λc1 c2=>?_;rintro b J3 Il ⟨p,F,d⟩;dsimp only at *;have N:=p.size;have o:∀j,j<=a+k->G (K (arrOf b) j):=λj Z=>p.good g (by lia);refine Za (Y9 (Yc
   (I:=λx c v=>b=v/\c.1=Y/\c.2.1<=c.2.2/\c.2.2<=k/\c.2.2-c.2.1+x<=k/\(∀i,a<=i->i<a+c.2.1->le r (K (arrOf b) i) (K (arrOf b) (a+k)))/\(∀i,a+c.2.2<=i->i<a+k->le r (K (arrOf b) (a+k)) (K (arrOf b) i)))
   (Q:=λc v=>b=v/\c.1=Y/\c.2.1=c.2.2/\c.2.2<=k/\(∀i,a<=i->i<a+c.2.1->le r (K (arrOf b) i) (K (arrOf b) (a+k)))/\(∀i,a+c.2.2<=i->i<a+k->le r (K (arrOf b) (a+k)) (K (arrOf b) i))) ?step2 ?fin2 ?init2) ?post2)
  case init2=>exact⟨rfl,rfl,by(try dsimp only);exact ZM _,by(try dsimp only);exact Zs _,by(try dsimp only);lia,λi h1 m=>by(try dsimp only at m);lia,λi h1 m=>by(try dsimp only at h1);lia⟩
  case fin2 =>
   refine gF λL l y=>?_;rintro v ⟨e,D,H,B,M,u,t⟩;dsimp only at *;exact⟨e,D,by(try dsimp only);lia,B,u,t⟩
  case step2 =>
   intro x;refine gF λL l y=>?_;rintro v _ W ⟨e,D,H,B,M,u,t⟩;subst e;dsimp only at *;refine aG (λz=>?_) λz=>?_
   ·exact Zl ⟨rfl,rfl,by(try dsimp only);exact Nat.le_antisymm H z,B,u,t⟩
   ·refine Za (i8 C P g p (by lia) (by lia) ?_);dsimp only;cases e2:r (K (arrOf b) (a+k)) (K (arrOf b) (a+(l+y)/2)) with
    |true =>
     have l1:=C.EZ (o _ (by exact Zs _)) (o _ (by lia)) e2;exact Zl ⟨rfl,rfl,by(try dsimp only);lia,by(try dsimp only);lia,by(try dsimp only);lia,u,λi h1 m=>C.tr (o _ (by exact Zs _)) (o _ (by lia)) (o _ (by exact ZK m)) l1 (d _ i (by exact ZI _ _) h1 m)⟩
    |false =>
     refine Zl ⟨rfl,rfl,by(try dsimp only);lia,by(try dsimp only);omega,by(try dsimp only);lia,λi h1 m=>?_,t⟩
     (try dsimp only at m)
     exact C.tr (o _ (by lia)) (o _ (by lia)) (o _ (by exact Zs _)) (d i (a+(l+y)/2) h1 (by lia) (by lia)) e2
  case post2 =>
   refine gF λL l y=>?_;rintro v ⟨e,D,H,B,u,t⟩;subst e;dsimp only at *;subst D;dsimp only;refine Za (va ?_);have R:a+k-(a+l)=k-l:=by lia
   rw[R];refine Zl ⟨p.Uy (by lia) (by lia),rfl,λi j h1 m h3=>?_⟩;show le r (K (bubble _ _ _) i) (K (bubble _ _ _) j);rw[zq (by lia) (by lia),zq (by lia) (by lia)];by_cases c1:i=a+k-(k-l)
   ·rw[Zr c1];by_cases c2:j=a+k-(k-l)
    ·rw[Zr c2];exact C.refl (o _ (by exact Zs _))
    ·rw[Zm c2,Zr (by omega)];exact t _ (by omega) (by lia)
   ·rw[Zm c1];by_cases c3:a+k-(k-l)<i/\i<=a+k
    ·rw[Zr c3];rw[Zm (by lia),Zr (by omega)];exact d _ _ (by omega) (by lia) (by lia)
    ·rw[Zm c3];by_cases c2:j=a+k-(k-l)
     ·rw[Zr c2];exact u i h1 (by lia)
     ·rw[Zm c2];by_cases c4:a+k-(k-l)<j/\j<=a+k
      ·rw[Zr c4];exact d _ _ h1 (by omega) (by lia)
      ·rw[Zm c4];exact d _ _ h1 m (by omega)
theorem qR(b:Nat):∀(l:List KF)(off:Nat)(arr:Array KF),b+off+l.length<=arr.size →
  ((l.zipIdx off).foldl (λa x=>a.setIfInBounds (b+x.snd) x.fst) arr).toList=arr.toList.take (b+off)++l++arr.toList.drop (b+off+l.length)
 |[],off,arr,h=>by simp
 |x :: l,off,arr,h=>by
  rw[WQ,List.foldl_cons];rw[Zj]at h;rw[qR b l (off+1) _ (by rw[Array.size_setIfInBounds];lia)];dsimp only;have d:b+off<arr.toList.length:=by simp;lia
  rw[Array.toList_setIfInBounds,List.set_eq_take_append_cons_drop,Zr d];have e1:(arr.toList.take (b+off)++x :: arr.toList.drop (b+off+1)).take (b+(off+1))=arr.toList.take (b+off)++[x]:=by
   have:(arr.toList.take (b+off)).length=b+off:=by rw[ZO];lia
   rw[List.take_append,this,GG (by rw[this];lia)];have:b+(off+1)-(b+off)=1:=by lia
   rw[this];rfl
  have e2:(arr.toList.take (b+off)++x :: arr.toList.drop (b+off+1)).drop (b+(off+1)+l.length)=arr.toList.drop (b+off+(l.length+1)):=by
   have:(arr.toList.take (b+off)).length=b+off:=by rw[ZO];lia
   rw[X4,this,YL (by rw[this];lia),YS];have:b+(off+1)+l.length-(b+off)=l.length+1:=by lia
   rw[this,List.drop_succ_cons,List.drop_drop];congr 1;lia
  rw[e1,e2];simp
end TS
end
section
open PySem PyProof.Rows
namespace TS
variable{prog:PP}{w:SL}{A:Pi}{E:Yl}{s:FB}{κ:SortKind}{G:KF->Prop}{r:KF->KF->Bool}
def gz{a:Array KF}{P X S:List KF}(e:a.toList=P++X++S)(j:Nat)(b:j<X.length):∃h:P.length+j<a.size,a[P.length+j]=X[j]:=by
 have d:a.size=P.length+X.length+S.length:=by
  have:=congrArg List.length e;simp at this;lia
 have h:P.length+j<a.size:=by lia
 refine⟨h,?_⟩;have h1:a[P.length+j]?=X[j]?:=by
  rw[← Gm,e,Zb,Hg (by exact ZI _ _),YD,Yv b]
 rw[getElem?_pos a _ h,getElem?_pos X _ b]at h1;exact ZJ h1
def qD(C:Ep prog w A E s κ G r){a:Array KF}{P X S:List KF}(e:a.toList=P++X++S)(g:∀x∈a,G x)(f:X.Pairwise (le r)):Seg r a P.length (P.length+X.length):=by
 intro i j h n h1 p o;obtain⟨d,rfl⟩:∃d,i=P.length+d:=⟨i-P.length,by lia⟩
 obtain⟨b,rfl⟩:∃b,j=P.length+b:=⟨j-P.length,by lia⟩
 obtain⟨_,e1⟩:=gz e d (by lia);obtain⟨_,e2⟩:=gz e b (by lia);rcases WG d b with m | l
 ·rw[e1,e2];exact Y5.mp f d b (by lia) (by lia) m
 ·have:d=b:=by lia
  subst this;exact C.refl (g _ (Zi h))
def AZ(C:Ep prog w A E s κ G r){i L MH:Nat}{b:Pv}{Q:Bool->Pv->Prop}{P X Y S:List KF}(N:kindOf b=κ)(g:∀x∈arrOf b,G x)(W:failedOf b=none)(o:(arrOf b).toList=P++X++(Y++S))(p1:(Re b)[i]?=O (P.length,X.length,L))(p2:(Re b)[i+1]?=O (P.length+X.length,Y.length,MH))(z:X.Pairwise (le r))(D:Y.Pairwise (le r))(nX:0<X.length)(nY:0<Y.length)(h:∀I M,M.Perm (X++Y)->M.Pairwise (le r)->(arrOf I).toList=P++M++S->kindOf I=kindOf b->failedOf I=none →
   Re I=((Re b).setIfInBounds i (P.length,X.length+Y.length,L)).eraseIdxIfInBounds (i+1)->Q J I):wpS (FM prog w) A E s (mergeAt' i) Q b:=by
 have e2:(arrOf b).toList=(P++X)++Y++S:=by rw[o];simp
 have hs:(arrOf b).size=P.length+X.length+Y.length+S.length:=by
  have:=congrArg List.length o;simp at this;lia
 have gm:∀x,x∈(arrOf b).toList->G x:=λx d=>g x (by simpa using d);have B:∀x∈X,G x:=λx d=>gm x (by rw[o];simp[d]);have F:∀x∈Y,G x:=λx d=>gm x (by rw[o];simp[d]);have MD:=qD C o g z;have Ji:=qD C e2 g D;rw[Zu]at Ji;obtain⟨H,eb⟩:=gz e2 0 nY;simp only[Zu,Nat.add_zero]at H eb;obtain⟨hl,el⟩:=gz o (X.length-1) (by lia);have gb:G (arrOf b)[P.length+X.length]:=g _ (Zi H);unfold mergeAt';change wpS (FM prog w) A E s (_>>=_) Q b;dsimp only;refine Za (We ?_);rw[show (sortPriv% PySem.Builtin.SortState.pending) b=Re b from rfl,p1,p2];dsimp only;refine Za (show wpS _ _ _ _ (set _) _ _ from ?_);refine(show wpS (FM prog w) A E s (modify (λ_=>SortSt.mk' (kindOf b) (arrOf b) (((Re b).setIfInBounds i (P.length,X.length+Y.length,L)).eraseIdxIfInBounds (i+1)) (gallopOf b) (failedOf b))) _ b from Wu ?_);refine Za (dM H ?_);refine Za (fH C (hint:=0) (by exact N) gb g (by show P.length+X.length<=(arrOf b).size;exact ZK H) nX MD λk J3 Il J2=>?_);dsimp only;have U:∀x∈X.take k,le r x (arrOf b)[P.length+X.length]:=λx d=>by
  obtain⟨j,n,rfl⟩:=GE d;rw[ZO]at n;obtain⟨h1,f⟩:=gz o j (by lia);rw[Xf,← f];exact Il _ h1 (by exact ZI _ _) (by lia)
 have z2:∀x∈X.drop k,le r (arrOf b)[P.length+X.length] x:=λx d=>by
  obtain⟨j,n,rfl⟩:=GE d;rw[ZG]at n;obtain⟨h1,f⟩:=gz o (k+j) (by lia);rw[Xe,← f];exact J2 _ h1 (by lia) (by lia)
 have OW:∀y∈Y,le r (arrOf b)[P.length+X.length] y:=λy e=>by
  obtain⟨j,n,rfl⟩:=GE e;obtain⟨h1,f⟩:=gz e2 j n;simp only[Zu]at h1 f;rw[← f];exact Ji _ _ H h1 (by exact Zs _) (by exact ZI _ _) (by lia)
 refine aG (λf=>?_) λf=>?_
 ·have FN:X.length<=k:=by simp at f;lia
  refine Zl (h _ (X++Y) (Xs _) ?_ (by show (arrOf b).toList=_;rw[o];simp) rfl W rfl);rw[ZS];refine⟨z,D,λx d y e=>C.tr (B x d) gb (F y e) (U x (by rw[GG FN];exact d)) (OW y e)⟩
 have P1:k<X.length:=by simp at f;lia
 have ei:P.length+k+(X.length-k)-1=P.length+(X.length-1):=by lia
 refine Za (dM (show P.length+k+(X.length-k)-1<(arrOf b).size by omega) ?_);have OI:∀(q:P.length+k+(X.length-k)-1<(arrOf b).size),(arrOf b)[P.length+k+(X.length-k)-1]=X[X.length-1]:=λq=>by
  simp only[ei];exact el
 rw[OI];have gl:G X[X.length-1]:=B _ (XW _);refine Za (fH C (hint:=Y.length-1) (by exact N) gl g (by show P.length+X.length+Y.length<=(arrOf b).size;lia) (by lia) Ji λm J1 KP Tc=>?_);dsimp only;have y1:∀x∈Y.take m,le r x X[X.length-1]:=λx d=>by
  obtain⟨j,n,rfl⟩:=GE d;rw[ZO]at n;obtain⟨h1,f⟩:=gz e2 j (by lia);simp only[Zu]at h1 f;rw[Xf,← f];exact KP _ h1 (by exact ZI _ _) (by lia)
 have y2:∀x∈Y.drop m,le r X[X.length-1] x:=λx d=>by
  obtain⟨j,n,rfl⟩:=GE d;rw[ZG]at n;obtain⟨h1,f⟩:=gz e2 (m+j) (by lia);simp only[Zu]at h1 f;rw[Xe,← f];exact Tc _ h1 (by lia) (by lia)
 have xl:∀x∈X,le r x X[X.length-1]:=λx d=>by
  obtain⟨j,n,rfl⟩:=GE d;rcases WG j (X.length-1) with Gd | hge
  ·exact Y5.mp z j _ n (by omega) Gd
  ·have:j=X.length-1:=by omega
   subst this;exact C.refl gl
 refine aG (λR=>?_) λR=>?_
 ·have JM:m=0:=by simpa using R
  subst JM;refine Zl (h _ (X++Y) (Xs _) ?_ (by show (arrOf b).toList=_;rw[o];simp) rfl W rfl);rw[ZS];exact⟨z,D,λx d y e=>C.tr (B x d) gl (F y e) (xl x d) (y2 y e)⟩
 have KQ:0<m:=by simp at R;exact Yi R
 have ex:((arrOf b).extract (P.length+k) (P.length+X.length)).toList=X.drop k:=by
  rw[Ww,List.extract_eq_drop_take,o,Zb,X4,YL (by exact ZI _ _),YS];have:P.length+k-P.length=k:=by exact YD _ _
  rw[this,X4,Nat.sub_eq_zero_of_le (by omega:k<=X.length),XC];rw[X8 (by rw[ZG];lia),GG (by rw[ZG];lia)]
 have v:((arrOf b).extract (P.length+X.length) (P.length+X.length+m)).toList=Y.take m:=by
  rw[Ww,List.extract_eq_drop_take,e2,Zb,X4,YL (by simp),YS];have:P.length+X.length-(P++X).length=0:=by simp
  rw[this,XC];have:P.length+X.length+m-(P.length+X.length)=m:=by exact YD _ _
  rw[this,X8 (by omega)]
 obtain⟨l,Z⟩:∃l,l=(arrOf b).extract (P.length+k) (P.length+X.length):=⟨_,rfl⟩
 obtain⟨t,Oj⟩:∃t,t=(arrOf b).extract (P.length+X.length) (P.length+X.length+m):=⟨_,rfl⟩
 rw[← Z]at ex;rw[← Oj]at v;have mx:∀x,x∈l->x∈X.drop k:=λx d=>by rw[← ex];simpa using d
 have my:∀x,x∈t->x∈Y.take m:=λx d=>by rw[← v];simpa using d
 have UT:l.size=X.length-k:=by have:=congrArg List.length ex;simpa using this
 have US:t.size=m:=by have:=congrArg List.length v;simp at this;lia
 have Qo:∀x∈l,G x:=λx d=>B x (Ye (mx x d));have Qn:∀x∈t,G x:=λx d=>F x (Yk (my x d));have y0:∀(q:0<t.size),t[0]=(arrOf b)[P.length+X.length]:=λq=>by
  rw[eb];have:t[0]?=Y[0]?:=by rw[← Gm,v,List.getElem?_take_of_lt KQ]
  rw[getElem?_pos t 0 q,getElem?_pos Y 0 nY]at this;exact ZJ this
 have QT:∀(q:l.size-1<l.size),l[l.size-1]=X[X.length-1]:=λq=>by
  have:l[l.size-1]?=X[X.length-1]?:=by
   rw[← Gm,ex,W9];congr 1;lia
  rw[getElem?_pos l _ q,getElem?_pos X _ (by omega)]at this;exact ZJ this
 have M:MC G r l t:=by
  refine⟨Qo,Qn,vY C Qo (by rw[ex];exact z.drop),vY C Qn (by rw[v];exact D.take),by lia,by lia,?_,λj n=>?_⟩
  ·rw[y0];exact z2 _ (mx _ (Zi _))
  ·rw[QT];exact y1 _ (my _ (Zi n))
 have fin:∀(D3:Pv)(res:Array KF),fU (SortSt.mk' (kindOf b) (arrOf b) (((Re b).setIfInBounds i (P.length,X.length+Y.length,L)).eraseIdxIfInBounds (i+1)) (gallopOf b) (failedOf b)) D3->MR r l t res →
   Q (failedOf D3).isNone (SortSt.mk' (kindOf D3) (res.toList.zipIdx.foldl (λa x=>a.setIfInBounds (P.length+k+x.snd) x.fst) (arrOf D3)) (Re D3) (gallopOf D3) (failedOf D3)):=λD3 res kp u=>by
  obtain⟨k1,k2,k3,k4⟩:=kp;have SH:failedOf D3=none:=k4.trans W;have Nu:arrOf D3=arrOf b:=k2;rw[SH];have hl:res.toList.length=X.length-k+m:=by
   rw[u.1.length_eq,ex,v];simp;exact Ys J1
  have mem:∀x,x∈res.toList->x∈X.drop k\/x∈Y.take m:=λx d=>by
   have:=u.1.mem_iff.mp d;rw[ex,v]at this;exact Zc.mp this
  have bk:=qR (P.length+k) res.toList 0 (arrOf D3) (by rw[Nu];omega);rw[Nu,Nat.add_zero]at bk;have t1:(arrOf b).toList.take (P.length+k)=P++X.take k:=by
   rw[o,Zb,List.take_append,GG (by exact ZI _ _),YD,X8 (by omega)]
  have t2:(arrOf b).toList.drop (P.length+k+res.toList.length)=Y.drop m++S:=by
   rw[e2,Zb,X4,YL (by rw[Zu];omega),YS];have:P.length+k+res.toList.length-(P++X).length=m:=by rw[Zu];omega
   rw[this,List.drop_append_of_le_length (by omega)]
  refine h _ (X.take k++res.toList++Y.drop m) ?_ ?_ ?_ k1 rfl k3
  ·have p:(X.take k++(X.drop k++Y.take m)++Y.drop m)=X++Y:=by
    rw[← Zb,YV,Zb,YV]
   rw[← p];have:=u.1;rw[ex,v]at this;exact(this.append_left _).append_right _
  ·rw[ZS,ZS];refine⟨⟨z.take,u.2,λx d y e=>?_⟩,D.drop,λx d y e=>?_⟩
   ·rcases mem y e with e | e
    ·have:=z;rw[← YV k X,ZS]at this;exact this.2.2 x d y e
    ·exact C.tr (B _ (Yk d)) gb (F _ (Yk e)) (U x d) (OW y (Yk e))
   ·rcases Zc.mp d with d | d
    ·exact C.tr (B _ (Yk d)) gb (F _ (Ye e)) (U x d) (OW y (Ye e))
    ·rcases mem x d with d | d
     ·exact C.tr (B _ (Ye d)) gl (F _ (Ye e)) (xl x (Ye d)) (y2 y e)
     ·have:=D;rw[← YV m Y,ZS]at this;exact this.2.2 x d y e
  ·show (List.foldl _ (arrOf D3) _).toList=_;rw[Nu,bk,t1,t2];simp
 refine aG (λ_=>?_) λ_=>?_
 ·refine Za (?_:wpS (FM prog w) A E s (kA ((arrOf b).extract (P.length+k) (P.length+X.length)) ((arrOf b).extract (P.length+X.length) (P.length+X.length+m))) _ _);rw[← Z,← Oj];refine Cd C (by exact N) M λres D3 kp u=>?_;exact Za (Wu (Za (We (Zl (fin D3 res kp u)))))
 ·refine Za (?_:wpS (FM prog w) A E s (kI ((arrOf b).extract (P.length+k) (P.length+X.length)) ((arrOf b).extract (P.length+X.length) (P.length+X.length+m))) _ _);rw[← Z,← Oj];refine Cv C (by exact N) M λres D3 kp u=>?_;exact Za (Wu (Za (We (Zl (fin D3 res kp u)))))
end TS
end
section
open PySem PyProof.Rows
namespace TS
variable{prog:PP}{w:SL}{A:Pi}{E:Yl}{s:FB}{κ:SortKind}{G:KF->Prop}{r:KF->KF->Bool}
def ie:Nat->List (List KF)->List (Nat×Nat)
 |_,[]=>[]
 |o,R :: Rs=>(o,R.length) :: ie (o+R.length) Rs
theorem gW:∀(a b:List (List KF))(o:Nat),ie o (a++b)=ie o a++ie (o+a.flatten.length) b
 |[],b,o=>by simp[ie]
 |R :: a,b,o=>by
  show (o,R.length) :: ie (o+R.length) (a++b)=(o,R.length) :: (ie (o+R.length) a++_);rw[gW a b];simp[XR]
theorem gK:∀(a:List (List KF))(o:Nat),(ie o a).length=a.length
 |[],o=>rfl
 |R :: a,o=>by show (ie _ a).length+1=_;rw[gK a];rfl
theorem lR{α β:Type}(f:α->β):∀(l:List α)(i:Nat),(l.eraseIdx i).map f=(l.map f).eraseIdx i
 |[],i=>rfl
 |x :: l,0=>rfl
 |x :: l,i+1=>by show f x :: (l.eraseIdx i).map f=f x :: (l.map f).eraseIdx i;rw[lR f l i]
structure RI(κ:SortKind)(r:KF->KF->Bool)(a₀:Array KF)(st:Pv)(runs:List (List KF))(rest:List KF):Prop where
 kind:kindOf st=κ
 fail:failedOf st=none
 arr:(arrOf st).toList=runs.flatten++rest
 pend:(Re st).toList.map (λp=>(p.1,p.2.1))=ie 0 runs
 ok:∀R∈runs,0<R.length/\R.Pairwise (le r)
 perm:(arrOf st).Perm a₀
def RI.good{e:Array KF}{d:Pv}{a:List (List KF)}{b:List KF}(h:RI κ r e d a b)(g:∀x∈e,G x):∀x∈arrOf d,G x:=λx f=>by
 have:x∈(arrOf d).toList:=by simpa using f
 exact g x (by simpa using(YK.mp h.perm).mem_iff.mp this)
def RI.IF{e:Array KF}{d:Pv}{a:List (List KF)}{b:List KF}(h:RI κ r e d a b):(Re d).size=a.length:=by
 have:=congrArg List.length h.pend;rw[Zv,gK]at this;simpa using this
theorem RI.at{i:Array KF}{g:Pv}{d post:List (List KF)}{X:List KF}{f:List KF}(h:RI κ r i g (d++X :: post) f):∃pw,(Re g)[d.length]?=O (d.flatten.length,X.length,pw):=by
 have e:((Re g).toList.map (λp=>(p.1,p.2.1)))[d.length]?=O (d.flatten.length,X.length):=by
  rw[h.pend,gW,Hg (by rw[gK];exact Zs _),gK,Nat.sub_self,Y7];rfl
 rw[ZR,Gm]at e;obtain⟨⟨a,b,c⟩,e1,e2⟩:=Zn.mp e;injection e2 with e3 e4
 dsimp only at e3 e4;exact⟨c,by rw[e1,e3,e4]⟩
theorem gG{α:Type}:∀{l:List α}{i:Nat},i+1<l.length->∃pre X Y post,l=pre++X :: Y :: post/\pre.length=i
 |[],i,h=>by simp at h
 |[x],i,h=>by simp at h
 |x :: y :: l,0,h=>⟨[],x,y,l,rfl,rfl⟩
 |x :: y :: l,i+1,h=>by
  obtain⟨pre,X,Y,post,e,a⟩:=gG (l:=y :: l) (i:=i) (by simp at h ⊢;omega);exact⟨x :: pre,X,Y,post,by rw[e];rfl,by rw[Zj,a]⟩
def RI.merge(C:Ep prog w A E s κ G r){l:Array KF}{f:Pv}{b:List (List KF)}{a:List KF}{i:Nat}{Q:Bool->Pv->Prop}(h:RI κ r l f b a)(g:∀x∈l,G x)(Z:i+1<b.length)(W:∀j n,RI κ r l j n a->n.length+1=b.length->n.flatten.length=b.flatten.length->Q J j):wpS (FM prog w) A E s (mergeAt' i) Q f:=by
 obtain⟨pre,X,Y,post,rfl,rfl⟩:=gG Z;obtain⟨pw,H⟩:=h.at;have h':RI κ r l f ((pre++[X])++Y :: post) a:=by
  have e:(pre++[X])++Y :: post=pre++X :: Y :: post:=by simp
  rw[e];exact h
 obtain⟨MH,F⟩:=h'.at;have p:=h.ok X (by simp);have o:=h.ok Y (by simp);have RM:(Re f)[pre.length+1]?=O (pre.flatten.length+X.length,Y.length,MH):=by
  simpa using F
 refine AZ C (P:=pre.flatten) (X:=X) (Y:=Y) (S:=post.flatten++a) h.kind (h.good g) h.fail (by rw[h.arr];simp) H RM p.2 o.2 p.1 o.1 λj M B U q N L I=>?_;have D:=B.length_eq;rw[Zu]at D;refine W j (pre++M :: post) ⟨N.trans h.kind,L,by rw[q];simp,?_,λR d=>?_,?_⟩ (by simp;exact XR _ _ _) (by simp;lia)
 ·rw[I];have e0:(((Re f).setIfInBounds pre.length (pre.flatten.length,X.length+Y.length,pw)).eraseIdxIfInBounds (pre.length+1)).toList=((Re f).toList.set pre.length (pre.flatten.length,X.length+Y.length,pw)).eraseIdx (pre.length+1):=by
   simp
  rw[e0,lR,List.map_set,h.pend];show ((ie 0 (pre++X :: Y :: post)).set pre.length (pre.flatten.length,X.length+Y.length)).eraseIdx (pre.length+1)=ie 0 (pre++M :: post);rw[gW,gW];have ol:=gK pre 0;have e1:∀(u v t:List (Nat×Nat))(x y z:Nat×Nat),u.length=pre.length->((u++x :: y :: t).set pre.length z).eraseIdx (pre.length+1)=u++z :: t:=λu v t x y z m=>by
   rw[List.set_append_right _ _ (by exact XF m),m,Nat.sub_self,List.eraseIdx_append_of_length_le (by lia),m];have:pre.length+1-pre.length=1:=by exact YD _ _
   rw[this];rfl
  show ((ie 0 pre++(0+pre.flatten.length,X.length) :: (0+pre.flatten.length+X.length,Y.length) :: ie (0+pre.flatten.length+X.length+Y.length) post).set _ _).eraseIdx _=ie 0 pre++(0+pre.flatten.length,M.length) :: ie (0+pre.flatten.length+M.length) post;rw[e1 _ [] _ _ _ _ ol,D,Y7,XR]
 ·rcases Zc.mp d with d | d
  ·exact h.ok R (by simp[d])
  ·rcases Zo.mp d with rfl | d
   ·exact⟨by lia,U⟩
   ·exact h.ok R (by simp[d])
 ·refine Array.Perm.trans ?_ h.perm;rw[YK,q,h.arr];have e:(pre++X :: Y :: post).flatten++a=pre.flatten++(X++Y)++(post.flatten++a):=by simp
  rw[e];exact(B.append_left _).append_right _
end TS
end
section
open PySem PyProof.Rows
namespace TS
variable{prog:PP}{w:SL}{A:Pi}{E:Yl}{s:FB}{κ:SortKind}{G:KF->Prop}{r:KF->KF->Bool}
def RI.loc{j:Array KF}{g f:Pv}{a:List (List KF)}{b:List KF}(h:RI κ r j g a b)(d:Lc a.flatten.length g f):RI κ r j f a ((arrOf f).toList.drop a.flatten.length):=by
 refine⟨d.kind.trans h.kind,d.fail.trans h.fail,?_,by rw[d.pend];exact h.pend,h.ok,d.perm.trans h.perm⟩;have e:(arrOf f).toList.take a.flatten.length=a.flatten:=by
  have e2:(arrOf g).toList.take a.flatten.length=a.flatten:=by rw[h.arr,List.take_left]
  refine Eq.trans ?_ e2;apply Vq;intro i;rw[List.getElem?_take,List.getElem?_take];split
  ·rename_i l;rw[Gm,Gm];exact d.pre i l
  ·rfl
 conv=>lhs;rw[← YV a.flatten.length (arrOf f).toList,e]
theorem RI.push{g:Array KF}{d:Pv}{b:List (List KF)}{a:List KF}{n e:Nat}(h:RI κ r g d b a)(l:b.flatten.length=e)(m:0<n)(j:n<=a.length)(i:(a.take n).Pairwise (le r)) :
  RI κ r g (setPending d ((Re d).push (e,n,0))) (b++[a.take n]) (a.drop n):=by
 refine⟨h.kind,h.fail,?_,?_,λR f=>?_,h.perm⟩
 ·show (arrOf d).toList=_;rw[h.arr];simp
 ·show ((Re d).push (e,n,0)).toList.map _=_;rw[Vp,Ym,h.pend,gW,Y7,l];show _++[(e,n)]=_++[(e,(a.take n).length)];rw[ZO,Ys j]
 ·rcases Zc.mp f with f | f
  ·exact h.ok R f
  ·rw[Zf.mp f];exact⟨by rw[ZO];lia,i⟩
theorem rJ{α β:Type}(f:α->β)(g:α->α)(a:∀x,f (g x)=f x):∀(l:List α)(i:Nat),(l.modify i g).map f=l.map f
 |[],i=>by simp
 |x :: l,0=>by simp[a]
 |x :: l,i+1=>by simp[rJ f g a l i]
def RI.mod{f:Array KF}{d:Pv}{a:List (List KF)}{b:List KF}(h:RI κ r f d a b)(i e:Nat):RI κ r f (setPending d ((Re d).modify i λx=>(x.1,x.2.1,e))) a b :=
 ⟨h.kind,h.fail,h.arr,by
  show ((Re d).modify i λx=>(x.1,x.2.1,e)).toList.map _=_;rw[Array.toList_modify,rJ (λp:Nat×Nat×Nat=>(p.1,p.2.1)) (λx=>(x.1,x.2.1,e)) (λx=>rfl),h.pend],h.ok,h.perm⟩
def Sg.pw{b:Array KF}{a n:Nat}(h:Sg r b a (a+n))(f:a+n<=b.size):((b.toList.drop a).take n).Pairwise (le r):=by
 rw[Y5];intro i j e d g;rw[ZO,ZG]at e d;rw[Xf,Xf,Xe,Xe];have:=h (a+i) (a+j) (by exact ZI _ _) (by lia) (by lia);rw[uz (by lia),uz (by lia)]at this;simpa using this
theorem RI.size{a₀:Array KF}{st:Pv}{a:List (List KF)}{b:List KF}(h:RI κ r a₀ st a b):a.flatten.length+b.length=a₀.size:=by
 have e:=congrArg List.length h.arr;rw[Zu,Yo,h.perm.size_eq]at e;exact e.symm
def yB{a:List (List KF)}(h:∀R∈a,0<R.length/\R.Pairwise (le r)):a.length<=a.flatten.length:=by
 induction a with
 |nil=>exact Zs _
 |cons R Rs b =>
  have h1:=(h R (Zx ..)).1;have e:=b λx d=>h x (Zw _ d);simp only[Zj,Zd,Zu];lia
def AJ{c:Prop}[Decidable c]{a b n:Nat}(h1:a+1<n)(d:b+1<n):(if c then a else b)+1<n:=by
 split
 ·exact h1
 ·exact d
def tN{α:Type}{a b d:Nat->Prop}{c:Nat->Prop}[∀n,Decidable (c n)]{x R:Nat->StateT Pv Sem α}{Q:α->Pv->Prop}{P:Nat->Pv->Prop}{e:Pv}(D:∀n D3,P n D3->wpS (FM prog w) A E s (R n) Q D3)(f:∀m,a m->b m->d m->¬c m->P m e)(h1:∀m,a m->b m->d m->c m->(∀n D3,P n D3->wpS (FM prog w) A E s (R n) Q D3)->wpS (FM prog w) A E s (x m) Q e):∀m,a m->b m->d m->wpS (FM prog w) A E s (if c m then x m else R m) Q e :=
 λm p q z=>aG (λy=>h1 m p q z y D) λy=>D m e (f m p q z y)
def m9(C:Ep prog w A E s κ G r){a₀:Array KF}{st:Pv}{Q:Unit->Pv->Prop}(hk:kindOf st=κ)(g:∀x∈a₀,G x)(ha:arrOf st=a₀)(hp:Re st=#[])(hf:failedOf st=none)(h:∀d,(arrOf d).Perm a₀->failedOf d=none->(arrOf d).toList.Pairwise (le r)->Q () d):wpS (FM prog w) A E s sortRuns' Q st:=by
 have R0:RI κ r a₀ st [] a₀.toList:=⟨hk,hf,by rw[ha];rfl,by rw[hp];rfl,λR q=>by simp at q,by rw[ha]⟩
 unfold sortRuns';change wpS (FM prog w) A E s (_>>=_) Q st;dsimp only;refine Za (We ?_);have TX:((sortPriv% PySem.Builtin.SortState.a) st).size=a₀.size:=by rw[← ha]
 rw[TX];refine Za (Y9 (Yc
  (I:=λx c d=>c.1=none/\∃runs rest,RI κ r a₀ d runs rest/\runs.flatten.length=c.2/\x<=c.2)
  (Q:=λc d=>c.1=none/\∃runs,RI κ r a₀ d runs []) ?step ?fin ?init) ?post)
 case init=>exact⟨rfl,_,_,R0,rfl,Zs _⟩
 case fin =>
  refine all2 λc1 lo=>?_;rintro d ⟨i,runs,rest,R,j,hx⟩;dsimp only at *;have:=R.size;have e:rest=[]:=Wz (by lia);subst e;exact⟨i,runs,R⟩
 case step =>
  intro x;refine all2 λc1 lo=>?_;rintro d _ hx ⟨i,runs,rest,R,j,U6⟩;dsimp only at *;have L:=R.size;refine aG (λe=>?_) λe=>?_
  ·have e:rest=[]:=Wz (by lia);subst e;exact Zl ⟨rfl,runs,R⟩
  have UB:(arrOf d).size=a₀.size:=R.perm.size_eq;refine Za (Bg C R.kind (R.good g) (by lia) (by rw[UB];lia) λm U p0 Z m2 S2=>?_);dsimp only;have N:RI κ r a₀ U runs ((arrOf U).toList.drop runs.flatten.length):=R.loc (by rw[j];exact p0);have OY:(arrOf U).size=a₀.size:=N.perm.size_eq;revert m;refine tN (P:=λnn o=>∃f,RI κ r a₀ o runs f/\f.length=a₀.size-lo/\0<nn/\nn<=f.length/\(f.take nn).Pairwise (le r)) ?D ?two ?one
  case one =>
   intro m Z m2 S2 e2 Dk;refine Za (gn ?_);refine Za (AI C N.kind (N.good g) Z (by omega) (by lia) S2 λo UP S3=>?_);refine aG (λe=>absurd e (by decide)) λ_=>?_;have QK:RI κ r a₀ o runs ((arrOf o).toList.drop runs.flatten.length):=N.loc (by rw[j];exact UP);have OX:(arrOf o).size=a₀.size:=QK.perm.size_eq;obtain⟨f,u⟩:∃l,l=(arrOf o).toList.drop runs.flatten.length:=⟨_,rfl⟩
   have H:RI κ r a₀ o runs f:=by rw[u];exact QK
   have Fz:=j;have Mj:f.length=a₀.size-lo:=by rw[u,ZG,Yo,OX,j]
   obtain⟨W,TZ⟩:∃n,n=min (a₀.size-lo) ((sortPriv% PySem.Builtin.minRun) a₀.size a₀.size 0):=⟨_,rfl⟩
   rw[← TZ]at S3 ⊢;have y:0<W:=by lia
   have B:W<=f.length:=by omega
   have F:(f.take W).Pairwise (le r):=by rw[u,j];exact S3.pw (by lia)
   exact Dk W o ⟨f,H,Mj,y,B,F⟩
  case two =>
   intro m Z m2 S2 e2;obtain⟨f,u⟩:∃l,l=(arrOf U).toList.drop runs.flatten.length:=⟨_,rfl⟩
   have H:RI κ r a₀ U runs f:=by rw[u];exact N
   have Fz:=j;have Mj:f.length=a₀.size-lo:=by rw[u,ZG,Yo,OY,j]
   have y:0<m:=by exact Vt Z
   have B:m<=f.length:=by lia
   have F:(f.take m).Pairwise (le r):=by rw[u,j];exact S2.pw (by lia)
   exact⟨f,H,Mj,y,B,F⟩
  case D =>
   rintro nn o ⟨f,H,Mj,y,B,F⟩;have Fz:=j;refine Za (We ?_);cases hb:(Re o).back? with
   |none =>
    dsimp only;refine Za (Wu ?_);refine Zl ⟨rfl,_,_,H.push Fz y B F,?_,by(try dsimp only);lia⟩;rw[Gk,Zu,WE,ZO]
    (try dsimp only)
    lia
   |some v =>
    obtain⟨s1,n1,UU⟩:=v;dsimp only;refine Za (Y9 (Yc
     (I:=λx c d=>c.1=none/\∃p,RI κ r a₀ d p f/\p.flatten.length=lo)
     (Q:=λc d=>c.1=none/\∃p,RI κ r a₀ d p f/\p.flatten.length=lo) ?stepM ?finM ?initM) ?postM)
    case initM=>exact⟨rfl,_,H,Fz⟩
    case finM=>exact λc d h=>h
    case stepM =>
     intro x;refine all2 λc1 c2=>?_;rintro d _ hx ⟨i,p,R,q⟩;refine Za (We ?_);split
     ·rename_i a b c hh;refine aG (λ_=>?_) λ_=>?_
      ·exact Zl ⟨rfl,p,R,q⟩
      ·have Mc:(Re d).size > 1:=by
        by_cases z:(Re d).size > 1
        ·exact z
        ·rw[Zm z]at hh;cases hh
       have Ik:=R.IF;refine Za (R.merge C g (show (Re d).size-2+1<p.length by omega) λRf Hl R4 l4 f4=>?_);refine aG (λe=>absurd e (by decide)) λ_=>?_;exact Zl ⟨rfl,Hl,R4,by rw[f4,q]⟩
     ·exact Zl ⟨rfl,p,R,q⟩
    case postM =>
     refine all2 λc1 c2=>?_;rintro d ⟨i,p,R,q⟩;dsimp only at *;subst i;dsimp only;refine Za (Wu ?_);refine Za (Wu ?_);refine Zl ⟨rfl,_,_,(R.mod _ _).push q y B F,?_,by(try dsimp only);lia⟩;rw[Gk,Zu,WE,ZO]
     (try dsimp only)
     lia
 case post =>
  refine all2 λc1 lo=>?_;rintro d ⟨i,runs,R⟩;dsimp only at *;subst i;dsimp only;have rl:=yB R.ok;have L:=R.size;simp only[YY,Nat.add_zero]at L;refine Za (Y9 (Yc
   (I:=λx c d=>c.1=none/\∃runs,RI κ r a₀ d runs []/\(runs.length<=1\/runs.length+x<=a₀.size))
   (Q:=λc d=>c.1=none/\∃runs,RI κ r a₀ d runs []/\runs.length<=1) ?step2 ?fin2 ?init2) ?post2)
  case init2=>exact⟨rfl,runs,R,.inr (by lia)⟩
  case fin2 =>
   refine all2 λc1 c2=>?_;rintro d ⟨i,runs,R,M⟩;exact⟨i,runs,R,by lia⟩
  case step2 =>
   intro x;refine all2 λc1 c2=>?_;rintro d _ hx ⟨i,runs,R,M⟩;have Ik:=R.IF;refine Za (We ?_);refine aG (λe=>?_) λe=>?_
   ·exact Zl ⟨rfl,runs,R,by rw[← Ik];exact e⟩
   ·have e':1<runs.length:=by rw[← Ik];exact WR e
    refine Za (R.merge C g ?_ λRf Hl R4 l4 f4=>?_)
    ·exact AJ (show (Re d).size-2-1+1<_ by omega) (show (Re d).size-2+1<_ by lia)
    ·refine aG (λe=>absurd e (by decide)) λ_=>?_;exact Zl ⟨rfl,Hl,R4,by lia⟩
  case post2 =>
   refine all2 λc1 c2=>?_;rintro d ⟨i,runs,R,M⟩;dsimp only at *;subst i;refine Zl (h d R.perm R.fail ?_);rw[R.arr,Ft]
   match runs,M,R.ok with
   |[],_,_=>exact List.Pairwise.nil
   |[X],_,ok =>
    rw[WE];exact(ok X (Zx ..)).2
   |X :: Yq0 :: t,M,_=>simp at M
end TS
end
section
open PySem PyProof.Rows
namespace TS
variable{prog:PP}{w:SL}{A:Pi}{E:Yl}{s:FB}{G:KF->Prop}{r:KF->KF->Bool}
def bS(h:SC)(a:GM)(b:Wm):Heap:=((h.update a (Obj.mapSeq λ_=>#[])).push (seqObj "tuple" b.toArray 0)).push (seqObj "list" #[] 0)
def sf{d:Wm}{a:Array KF}(e:a.Perm (pairsOf d)):(a.map (·.2)).toList.Perm d/\(a.map (·.2)).toList.map (λv=>(v,v))=a.toList:=by
 have b:=YK.mp e;rw[pairsOf_toList]at b;constructor
 ·rw[WH];refine(b.map _).trans ?_;rw[show (λx:KF=>x.2)=Prod.snd from rfl,X3 (Zs _)]
 ·rw[WH,Yy]
  conv=>rhs;rw[← Wb a.toList]
  apply YB;intro p f;have:=mem_zip_self (b.mem_iff.mp f);exact Prod.ext this.1.symm M
def ma{h:SC}{a:GM}{vs:Wm}{o:Obj}(b:a<h.objs.size)(g:(h.update a (Obj.mapSeq λ_=>#[])).get? a=O o):(bS h a vs).get? a=O o:=by
 have k1:a≠(h.update a (Obj.mapSeq λ_=>#[])).objs.size:=by rw[Y6];exact ZL b
 have k2:a≠((h.update a (Obj.mapSeq λ_=>#[])).push (seqObj "tuple" vs.toArray 0)).objs.size:=by rw[Xr,Y6];exact ZL (Xi b)
 exact(YG _ _ _ k2).trans ((YG _ _ _ k1).trans g)
def ui{a:GM}{vs:Wm}{n:Nat}{P:PySem.Fin->FB->Prop}{l:SortKind}(i:s.heap.get? a=O (seqObj "list" vs.toArray n))(C:Ep prog w A E { s with heap:=bS s.heap a vs } l G r)(B:∀v∈vs,G (v,v))(f:vs.length<=FS)(D:2<=vs.length->∀Q:SortKind->FB->Prop,Q l { s with heap:=bS s.heap a vs }->KB (FM prog w) A (keyKind' vs.toArray) Q E { s with heap:=bS s.heap a vs })(h:∀out:Wm,out.Perm vs->(out.map λv=>(v,v)).Pairwise (le r)->P (.done (.ret .none)) { s with heap:=sortedHeap s.heap a vs out.toArray }) :
  KB (FM prog w) A (Builtin.«list.sort» ⟨[.ref a],[]⟩) P E s:=by
 have I:vs.toArray.size=vs.length:=rfl;obtain⟨H,o⟩:∃k,(s.heap.update a (Obj.mapSeq λ_=>#[])).get? a=O (seqObj "list" #[] k):=⟨_,Xm i _⟩
 have at2:=ma (vs:=vs) (ZZ i) o;have done:∀b:Array KF,b.Perm (pairsOf vs)->b.toList.Pairwise (le r)->P (.done (.ret .none)) { s with heap:=sortedHeap s.heap a vs (b.map (·.2)) }:=λb d j=>by
  obtain⟨u,t⟩:=sf d;have:=h _ u (by rw[t];exact j)
  rwa [W2]at this
 have room:∀b:Array KF,b.Perm (pairsOf vs)->(b.map (·.2)).size<=FS+1:=λb d=>by
  rw[Array.size_map,d.size_eq,pairsOf_size];exact Nat.le_succ_of_le f
 rw[list_sort_plain];refine Zy (X1 i M (Zy (YX i M (Zy (XA o M (Zy (wpAny_newTuple (Zy (Wq (YJ ?_))))))))));refine(show KB (FM prog w) A _ P E { s with heap:=bS s.heap a vs } from ?_);dsimp only;by_cases two:2<=vs.length
 ·have no:¬(vs.toArray.size<2):=by lia
  rw[Zm no,Zm no];have good:∀x∈pairsOf vs,G x:=λx z=>by
   have m:x∈(pairsOf vs).toList:=by simpa using z
   rw[pairsOf_toList]at m;obtain⟨e1,e2⟩:=mem_zip_self m;have:=B x.1 e2;obtain⟨p,q⟩:=x;dsimp only at e1 this;rw[← e1];exact this
  refine Zy (D two _ (Zy (Yn (m9 C (a₀:=pairsOf vs) (st:=SortSt.mk' l (vs.toArray.zip vs.toArray) #[] 7 Y)
   (Q:=λ_ g=>(arrOf g).Perm (pairsOf vs)/\failedOf g=Y/\(arrOf g).toList.Pairwise (le r)) M good M M M λg a1 a2 a3=>⟨a1,a2,a3⟩) ?_ λ_ _ e=>e)))
  rintro⟨⟨⟩,g⟩ F ⟨rfl,d,j,y⟩;refine Zy (XA at2 M (Zy (YX at2 M ?_ (hsz2:=room _ d))));rw[j];simp only[bne_self_eq_false,FW,↓reduceIte];exact Zp (done _ d y)
 ·have no:vs.toArray.size<2:=by lia
  rw[Zr no,Zr no];refine Zy (Zp (Zy ?_));rw[StateT.run_pure];refine Zp (Zy (XA at2 M (Zy (YX at2 M ?_ (hsz2:=room _ (Array.Perm.refl _))))));simp only[bne_self_eq_false,FW,↓reduceIte];refine Zp (done (vs.toArray.zip vs.toArray) (Array.Perm.refl _) ?_)
  match vs,two with
  |[],_=>simp
  |[_],_=>simp
  |_ :: _ :: _,q=>simp at q
def nl{b n:Nat}(h:b<n)(k:Nat):b≠n+k:=ZL (ZD h (ZI _ _))
structure GW(prog:PP)(w:SL)(Q:Yl)(vs:Wm)(s1:FB) where
 G:KF->Prop
 r:KF->KF->Bool
 kd:SortKind
 hC:∀(A:Pi)(E:Yl)(h:SC),(∀b o,s1.heap.get? b=some o->h.get? b=some o)->Ep prog w A E { s1 with heap:=h } kd G r
 hG:∀v∈vs,G (v,v)
 hlen:vs.length<=FS
 IM:2<=vs.length->∀(A:Pi)(E:Yl)(h:SC),(∀b o,s1.heap.get? b=some o->h.get? b=some o)->∀Q:SortKind->FB->Prop,Q kd { s1 with heap:=h }->KB (FM prog w) A (keyKind' vs.toArray) Q E { s1 with heap:=h }
 h:∀(out:Wm)(h':SC)(e:Nat),out.Perm vs->(out.map λv=>(v,v)).Pairwise (le r)->(∀b o,s1.heap.get? b=some o->h'.get? b=some o)->h'.get? s1.heap.objs.size=some (seqObj "list" out.toArray e)->Q (.ref s1.heap.objs.size) { s1 with heap:=h' }
def kB{x:IR}{Q:Yl}(t:∀(j:Pi)(u:Yl),j.handled=A.handled->KB (FM prog w) j (collect x) (λd a=>Nonempty (GW prog w Q d a)) u s) :
  KB (FM prog w) A (call (.builtin "sorted") [x]) Q E s:=by
 refine Calls.call_function_entry kind_sorted plain_sorted entry_sorted (args_sorted1 _) (show KB _ _ (Builtin.«sorted» _) _ _ _ from ?_);unfold Builtin.«sorted»;refine Zy (m:=checkCount "sorted" 1 1 _) (Zp (Zy (Yn (t A.in1 (λ_ _=>False) M) ?_ λ_ _ e=>e.elim)));rintro d a ⟨⟨G,r,kd,hC,hG,hlen,IM,h⟩⟩;refine Zy (Wq ?_ (by exact hlen));have g:(a.heap.push (seqObj "list" d.toArray 0)).get? a.heap.objs.size=O (seqObj "list" d.toArray 0):=ZX _ M;have old:∀b o,a.heap.get? b=O o->(bS (a.heap.push (seqObj "list" d.toArray 0)) a.heap.objs.size d).get? b=O o:=λb o e=>by
  have f:=ZZ e;unfold bS;rw[YG _ _ _ (by rw[Xr,Y6,Xr];exact nl f 2),YG _ _ _ (by rw[Y6,Xr];exact nl f 1),Yu _ _ _ _ (ZL f),YG _ _ _ (ZL f)];exact e
 show KB _ _ _ _ _ { a with heap:=a.heap.push (seqObj "list" d.toArray 0) };refine Zy (YJ (XM slot_list_sort ⟨_,g,rfl⟩ entry_list_sort (ui g (hC _ _ _ old) hG hlen (λq=>IM q _ _ _ old) λout n l=>⟨_,rfl,?_⟩) (args_list_sort _)));obtain⟨e,p⟩:=sortedHeap_at (out:=out.toArray) g;exact Zp ⟨_,rfl,h out _ e n l (λb o i=>by
  have f:=ZZ i;show (sortedHeap (a.heap.push (seqObj "list" d.toArray 0)) a.heap.objs.size d out.toArray).get? b=O o;rw[sortedHeap_old (ZL f) (by rw[Xr];exact Xi f),YG _ _ _ (ZL f)];exact i) p⟩
def zZ{κ:KeyKind}(j:κ.OneLt):Ep prog w A E s oneType' (λp=>∃a,κ.keyOf p.1=some a) (λp q=>match κ.keyOf p.1,κ.keyOf q.1 with | some a,some b=>κ.blt a b | _,_=>false):=by
 refine⟨?_,?_,?_⟩
 ·rintro st x y Q i ⟨a,e⟩ ⟨b,d⟩ h;rw[lt'_eq];refine Za (We ?_);rw[i,keyLt'_oneType];refine Za (wpS_lift (Wp (j prog w A _ s x.1 y.1 a b e d ⟨rfl,?_⟩)));rw[e,d]at h;exact Zl h
 ·rintro x y ⟨a,e⟩ ⟨b,d⟩ h;rw[e,d]at h ⊢;exact KeyOrd.klt_asymm (O:=κ.toKeyOrd) h
 ·rintro x y z ⟨a,e⟩ ⟨b,d⟩ ⟨c,f⟩ h1 g;rw[e,d]at h1;rw[d,f]at g;rw[e,f];exact KeyOrd.kle_trans (O:=κ.toKeyOrd) h1 g
end TS
end
section
namespace p0
open PySem PySem.Spec PyProof.Rows TS
section
variable{X:Cx}
theorem oT:∀{b:List Str}{a:Wm},aQ (b.map V.str) a->(∀v∈a,∃x t,v=Value.str x t)/\a.map strOf=b
 |[],[],_=>⟨λv h=>by simp at h,rfl⟩
 |s :: b,u :: a,h=>by
  cases h with
  |cons r q =>
   obtain⟨h1,e⟩:=oT q;obtain⟨t,rfl⟩:=r;refine⟨λv d=>?_,?_⟩
   ·rcases Zo.mp d with rfl | d
    ·exact⟨s,t,rfl⟩
    ·exact h1 v d
   ·rw[Zt,e];rfl
theorem nG:∀{a:Wm},(∀v∈a,∃x t,v=Value.str x t)->aQ ((a.map strOf).map V.str) a
 |[],_=>.nil
 |u :: a,h=>by
  obtain⟨x,t,rfl⟩:=h u (Zx ..);exact .cons ⟨t,rfl⟩ (nG λv b=>h v (Zw _ b))
def qP{d:Yh}{Z:St}{H:Hp}{s j:FB}{Q:VK}{r:List Str}{g:Wm}(I:Inv X d Z H j)(i:∀v∈g,∃x t,v=Value.str x t)(N:g.map strOf=r)(f:g.length<=FS)(q:∀(l:GM)(p:List Str),H l=Y->p.Perm r->p.Pairwise (λa b=>¬b.cps.toList<a.cps.toList)->Q (.ref l) (upd H l (.lst (p.map V.str)))) :
  Nonempty (GW X.prog X.w (EP X d Z Q) g j):=by
 refine⟨⟨_,_,oneType',λA E h _=>zZ strKind_oneLt,λv n=>?_,f,λL A E h _ Q C=>?_,λout M e m z kp D=>?_⟩⟩
 ·obtain⟨x,t,rfl⟩:=i v n;exact⟨_,rfl⟩
 ·match g,L,i with
  |U :: R :: W,_,i =>
   rw[keyKind_strs (strsAre_map _ i)];exact Zp C
 ·have o:∀v∈out,∃x t,v=Value.str x t:=λv n=>i v (m.mem_iff.mp n);have B:((out.map strOf).map V.str).length<=sizeLine:=by rw[Zv,Zv,m.length_eq];exact f
  refine⟨.ref j.heap.objs.size,_,I.laid (t':=j.toks) kp (Zs _) (show aW X.prog X.w _ M _ (.lst ((out.map strOf).map V.str)) from⟨B,out,e,nG o,D⟩),rfl,q _ _ (I.xb.fresh (Zs _)) (by rw[← N];exact m.map _) ?_⟩;rw[XE]at z ⊢;refine Xy (λ{a b} G F P=>?_) z;obtain⟨x,t,rfl⟩:=o a G;obtain⟨y,u,rfl⟩:=o b F;have:decide (y.cps.toList<x.cps.toList)=S:=P;exact of_decide_eq_false this
def jE:dQ X (.builtin "sorted") (λi H Q=>∃p,∃f:List Str,i=[.ref p]/\DM X.K H p (f.map V.str) ∧
  ∀(l:GM)(g:List Str),H l=Y->g.Perm f->g.Pairwise (λa b=>¬b.cps.toList<a.cps.toList)->Q (.ref l) (upd H l (.lst (g.map V.str)))):=by
 intro d s Z H i z Q I n h;obtain⟨p,f,rfl,w,q⟩:=h;obtain⟨u,rfl,r⟩:=n.one;cases r;obtain⟨m,j,t,A⟩:=I.list w;obtain⟨v,x⟩:=oT j;have hlen:m.length<=sizeLine:=by have:=j.length;lia
 refine kB λC B _=>collect_list t.isList ?_ hlen;have y:Inv X d Z H { s with heap:=(s.heap.push (seqObj "list" #[] 0)).update s.heap.objs.size (Obj.mapSeq (·++m.toArray)) }:=I.kept (t':=s.toks) λb o e=>by
  rw[Yu _ _ _ _ (ZL (ZZ e))];exact Zg _ e
 exact qP (s:=s) y v x hlen q
def jc(P:X.calm=J):dQ X (.builtin "sorted") (λw H Q=>∃p,∃(d:List Str)(j:List V),w=[.ref p]/\d.length=j.length/\H p=O (.dK ((d.map Sum.inr).zip j)) ∧
  ∀(l:GM)(r:List Str),H l=Y->r.Perm d->r.Pairwise (λa b=>¬b.cps.toList<a.cps.toList)->Q (.ref l) (upd H l (.lst (r.map V.str)))):=by
 intro f s Z H w us Q I D h;obtain⟨p,d,j,rfl,M,G,q⟩:=h;obtain⟨u,rfl,F⟩:=D.one;cases F;obtain⟨z,R,m,rel,o⟩:=pd I.xb G;obtain⟨ep,o⟩:=o.dictAt;have NW:m.length=d.length:=by
  have:=rel.length;rw[Yz,Zv]at this;lia
 have NV:∀i:Nat,(m[i]?).map (λx=>x.1)=(d[i]?).map (Sum.inr:Str->Key):=λi=>by
  have h1:((m.map (·.1)))[i]?=(d.map (Sum.inr:Str->Key))[i]?:=by
   rw[← rel.keys];rw[WL (by rw[Zv];exact XF M)]
  rw[ZR,ZR]at h1;exact h1
 refine kB λA' E' U=>PySem.W.kdu_collect (PySem.W.kdl_dict R) (U.trans (I.ok.hd P)) o (by rw[Yz,Zv]at z;lia) λh' C acc kp B=>?_;have I1:Inv X f Z H { s with heap:=h',toks:=C }:=I.kept kp;have K4:acc.toList.length=d.length:=by rw[Yo,B.1,NW]
 have each:∀i v,acc.toList[i]?=O v->∃x t,v=Value.str x t/\d[i]?=O x:=λi v A=>by
  rw[Gm]at A;obtain⟨k,x,e1,e2⟩:=B.2 i v A;have g:=NV i;rw[e1]at g;cases n:d[i]? with
  |none=>rw[n]at g;cases g
  |some y =>
   rw[n]at g;have e5:k=Sum.inr y:=ZJ g;subst e5;obtain⟨t,rfl⟩:=Vo (show Value.isStrOf y v=J from e2);exact⟨y,t,rfl,n⟩
 refine qP (s:=s) I1 (λv L=>?_) ?_ (by rw[K4];rw[Yz,Zv]at z;lia) q
 ·obtain⟨i,N,e⟩:=GE L;obtain⟨x,t,e1,_⟩:=each i v (by rw[Zh N,e]);exact⟨x,t,e1⟩
 ·apply Vq;intro i;rw[ZR];cases e:acc.toList[i]? with
  |none =>
   have:acc.toList.length<=i:=Yw.mp e;rw[Yw.mpr (by lia)];rfl
  |some v =>
   obtain⟨x,t,rfl,e1⟩:=each i v e;rw[e1];rfl
end
end p0
end
section
namespace VS
def iC{n k:Nat}(h:k<n):Et n (k:Int)=O k:=by
 unfold Et;rw[Zr (by lia),Zr (by lia),Yf]
mutual
theorem kx:∀(n:Nat)(t:T),Ek n t=J->eqT t t=J
 |n,.non,_=>by simp
 |n,.bl _,_=>by simp
 |n,.int _,_=>by simp
 |n,.str _,_=>by simp
 |n+1,.tup l,h=>by
  simp only[Ek,ZE]at h;simp only[eqT];exact jh n l h
 |n+1,.lst l,h=>by
  simp only[Ek,ZE]at h;simp only[eqT];exact jh n l h
 |0,.tup _,h=>by simp at h
 |0,.lst _,h=>by simp at h
 |_,.scr _,h=>by simp at h
 |_,.dct _ _,h=>by simp at h
 |_,.obj _ _,h=>by simp at h
theorem jh:∀(n:Nat)(l:Vd),(∀t∈l,Ek n t=J)->il l l=J
 |_,[],_=>rfl
 |n,t :: r,h=>by
  simp only[il,FV];exact⟨kx n t (h t Zx),jh n r λu a=>h u (Zw _ a)⟩
end
def vE{m n:Md}{t:T}(h:Ek 60 t=J):oEq (m,t) (n,t)=O (.fr,.bl J):=by
 show (if Ek 60 t/\Ek 60 t then O (Md.fr,T.bl (eqT t t)) else Y)=_;rw[Zr ⟨h,h⟩,kx 60 t h]
def wk{m n:Md}{t:T}(h:Ek 60 t=J):HG (m,t) (n,t)=O (.fr,.bl S):=by
 show (if Ek 60 t/\Ek 60 t then O (Md.fr,T.bl (!eqT t t)) else Y)=_;rw[Zr ⟨h,h⟩,kx 60 t h];rfl
def ke{a:Ex}{U:Env}{m:Md}{l:Vd}(e:a U=O (m,.lst l)):fT a U=O (m,l):=by
 show (a U).bind Ao=_;rw[e];rfl
def i3{b:Tg}{d:Em}{a:Sx}{U:Env}{m:Md}{l:Vd}(e:d U=O (m,l))(h:Pq m=J):eW b d a U=forL b a l U:=by
 unfold eW;rw[e];exact Zr h
def aP{g:Fn}{as:D5}{U:Env}{xs:Vf}{t:T}(h:as U=O xs)(a:g (trees xs)=O (.fr,t)):aN g as U=O (.fr,t):=by
 simp only[aN,h,Zq,a]
def aA{i:Nat}{e:Ex}{U:Env}{m:Md}{t:T}(h:e U=O (m,t))(a:m ≠ .bo)(b:i<U.length):aK i e U=O (.nx (U.set i (O (.pu t)))):=by
 simp only[aK,h,Zq];cases m with
 |bo=>exact absurd M a
 |_=>simp[b]
def ft{a b:Sx}{U U':Env}(h:a U=O (.nx U')):au a b U=b U':=by simp only[au,h,Zq]
def vW{d e:Nat}{a:Sx}{b:Vd}{v:Val}(U:Env){U':Env}(f:b.length=d)(g:b.map (λt=>O (Cell.pu t))++List.replicate (e-d) Y=U)(h:a U=O (.rt v U')):fn d e a b=O v:=by
 unfold fn;rw[Zr f,g,h];rfl
end VS
end
section
namespace VS
open PySem PySem.Spec PyProof.Rows p0
def Cr{a b c:Tx}(h:a<b)(d:¬c<b):a<c:=by
 by_cases e:a<c
 ·exact e
 ·exact absurd (List.lt_of_le_of_lt (X9.mp e) h) d
theorem iu(x:Tx):∀l:List Tx,(kM x l).Perm (x :: l)
 |[]=>Xs _
 |y :: r=>by
  unfold kM;split
  ·exact((iu x r).cons y).trans (List.Perm.swap _ _ _)
  ·exact Xs _
theorem fI:∀l:List Tx,(cV l).Perm l
 |[]=>Xs _
 |x :: l=>(iu x _).trans ((fI l).cons x)
theorem o9(x:Tx):∀{l:List Tx},l.Pairwise (λa b=>¬b<a)->(kM x l).Pairwise (λa b=>¬b<a)
 |[],_=>by simp[kM]
 |y :: r,h=>by
  unfold kM;rw[ir];obtain⟨h1,f⟩:=Yd.mp h;split
  ·rename_i c;have e:y<x:=by simpa using c
   refine Yd.mpr ⟨λz d=>?_,o9 x f⟩;rcases Zo.mp ((iu x r).mem_iff.mp d) with rfl | d
   ·exact λz=>Wi _ (W5 e z)
   ·exact h1 z d
  ·rename_i c;have e:¬y<x:=by simpa using c
   refine Yd.mpr ⟨λz d=>?_,h⟩;rcases Zo.mp d with rfl | d
   ·exact e
   ·exact λw=>h1 z d (Cr w e)
theorem lH:∀l:List Tx,(cV l).Pairwise (λa b=>¬b<a)
 |[]=>List.Pairwise.nil
 |x :: l=>o9 x (lH l)
def lq{l d:List Tx}(h:d.Perm l)(e:d.Pairwise (λa b=>¬b<a)):d=cV l :=
 List.Perm.eq_of_pairwise (le:=λa b=>¬b<a) (λa b _ _ h1 f=>Vj (X9.mp h1) (X9.mp f)) e (lH l) (h.trans (fI l).symm)
def mV(s:Tx):(sx s).cps.toList=s:=rfl
def vV{f:List Tx}{d:List Str}(h:d.Perm (f.map sx))(i:d.Pairwise (λa b=>¬b.cps.toList<a.cps.toList)):d=(cV f).map sx:=by
 have e:d=(d.map λx=>x.cps.toList).map sx:=by
  rw[Yy]
  conv=>lhs;rw[← Wb d]
  apply YB;intro x g;obtain⟨s,_,rfl⟩:=Yr.mp (h.mem_iff.mp g);show sx s=sx (sx s).cps.toList;rw[mV]
 have e2:(d.map λx=>x.cps.toList)=cV f:=by
  refine lq ?_ ?_
  ·have:=h.map λx:Str=>x.cps.toList;rw[Yy]at this;have j:((λx:Str=>x.cps.toList) ∘ sx)=id:=by
    funext s;exact mV s
   rw[j,Wb]at this;exact this
  ·rw[XE];exact i
 rw[e,e2]
def ID(s:Tx):Bool:=decide (s.length<=fC)&&s.all (λc=>decide (c<1114112))
def uh{s:Tx}(h:ID s=J):ip s:=by
 unfold ID at h;simp at h;exact h
def jW:Vf->Ve
 |[(_,.lst l)]=>(strs? l).map λa=>(.fr,.lst ((cV a).map .str))
 |[(_,.dct 0 l)]=>(strs? (l.map (·.1))).bind λa=>if a.all ID then O (.fr,.lst ((cV a).map .str)) else Y
 |_=>Y
section
variable{G:Gx}{X:Cx}{e:Expr}{cs:D5}{p pos:Pos}
theorem mH{H:Hp}:∀{ss:List Tx},(∀s∈ss,ip s)->tx G H (ss.map λs=>V.str (sx s)) (ss.map T.str) (ss.map λ_=>[])
 |[],_=>.nil
 |s :: ss,h=>.cons (.str s (h s (Zx ..))) (mH λx a=>h x (Zw _ a))
theorem iA{α β:Type}:∀(l:List α),(l.map λ_=>([]:List β)).flatten=[]
 |[]=>rfl
 |_ :: l=>by simp
theorem qJ{H:Hp}:∀{d:List V}{l:Vd}{f:Yb}{b:List Tx},tx G H d l f->strs? l=O b->∀s∈b,ip s
 |_,_,_,_,.nil,e,s,a=>by cases e;simp at a
 |_,_,_,_,.cons (t:=t) r q,e,s,a=>by
  cases t with
  |str x =>
   simp only[strs?]at e;obtain⟨g,e1,e2⟩:=Zn.mp e;subst e2;rcases Zo.mp a with rfl | a
   ·exact r.str_inv.2
   ·exact qJ q e1 s a
  |_=>cases e
def zU(K:Xj):List V->Hp->VK->Prop:=λg H Q=>∃p,∃f:List Str,g=[.ref p]/\DM K H p (f.map V.str) ∧
  ∀(l:GM)(d:List Str),H l=Y->d.Perm f->d.Pairwise (λa b=>¬b.cps.toList<a.cps.toList)->Q (.ref l) (upd H l (.lst (d.map V.str)))
def AD:List V->Hp->VK->Prop:=λh H Q=>∃p,∃(d:List Str)(g:List V),h=[.ref p]/\d.length=g.length/\H p=O (.dK ((d.map Sum.inr).zip g)) ∧
  ∀(l:GM)(f:List Str),H l=Y->f.Perm d->f.Pairwise (λa b=>¬b.cps.toList<a.cps.toList)->Q (.ref l) (upd H l (.lst (f.map V.str)))
def nk{L:DJ}{U:VS.Env}{i H:Hp}{d:List Tx}{Q:VK}(k:∀v g F,aM H g->Rp G g v (.lst ((cV d).map T.str)) F->Fp L U i .fr F->Q v g)(n:aM i H)(j:∀s∈d,ip s) :
  ∀(l:GM)(f:List Str),H l=Y->f.Perm (d.map sx)->f.Pairwise (λa b=>¬b.cps.toList<a.cps.toList)->Q (.ref l) (upd H l (.lst (f.map V.str))):=λq f h u hw=>by
 rw[vV u hw];have m:aM H (upd H q (.lst (((cV d).map sx).map V.str))):=bL h;have o:=mH (G:=G) (H:=upd H q (.lst (((cV d).map sx).map V.str))) λs t=>j s ((fI d).mem_iff.mp t);have r:Rp G (upd H q (.lst (((cV d).map sx).map V.str))) (.ref q) (.lst ((cV d).map T.str)) (q :: ((cV d).map λ_=>[]).flatten):=.lst (by rw[aw,Yy];rfl) o;rw[iA]at r;exact k _ _ _ m r (Fp.new (n.free h) (by simp) Fp.nil)
theorem keys_str:∀{a:List Key}{ss:List Tx},strs? (a.map aL)=O ss->a=(ss.map sx).map Sum.inr
 |[],_,e=>by cases e;rfl
 |.inl i :: a,_,e=>by cases e
 |.inr x :: a,ss,e=>by
  simp only[Zt,aL,strs?]at e;obtain⟨b,e1,e2⟩:=Zn.mp e;subst e2;rw[keys_str e1];simp[sx]
def sJ:fW G (λj H Q=>zU G.K j H Q\/AD j H Q) jW:=by
 intro L U I H l n u m t Q A e k;unfold jW at e;split at e
 ·rename_i w x;obtain⟨d,e1,e2⟩:=Zn.mp e;cases e2;obtain⟨v,F,rfl,rfl,f⟩:=(show tx G H n [.lst x] u from A.rp).one;obtain⟨a,i,C,rfl,rfl,h,b⟩:=f.lst_inv;refine .inl ⟨a,d.map sx,rfl,?_,nk k A.same (qJ b e1)⟩;rw[Yy];have:=qq b e1;rw[show (V.str ∘ sx)=λs=>V.str (sx s) from rfl,← this];exact DM.of h
 ·rename_i w x;obtain⟨d,e1,e2⟩:=Zz.mp e;split at e2
  ·rename_i z;cases e2;obtain⟨v,F,rfl,rfl,f⟩:=(show tx G H n [.dct 0 x] u from A.rp).one;obtain⟨a,g,i,o,C,rfl,rfl,h,q,rfl,b⟩:=fP f;have D:g.length=o.length:=by rw[q,b.len.1]
   have B:((g.map aL).zip o).map (·.1)=g.map aL:=WL (by rw[Zv];exact XF D);rw[B]at e1;have r:=keys_str e1;refine .inr ⟨a,d.map sx,i,rfl,?_,by rw[← r];exact h,nk k A.same λs y=>uh (ZE.mp z s y)⟩;rw[← q,r,Zv,Zv,Zv]
  ·cases e2
 ·cases e
def i6:bootBuiltins ("sorted" : Str)=O (.builtin "sorted"):=by decide +kernel
def vO(a:X.mg "sorted" = Y)(f:Fc G X [e] cs)(b:Gl X "sorted" := by rfl)(g:X.K=G.K:=by rfl)(d:X.calm=J:=by rfl)(he:K0 e [] X:=by rfl):PV G X (.Call (.Name "sorted" p) [e] [] pos) (eN jW cs) :=
 iH (jE.or (jc d)) (g ▸ sJ) b a i6 f (he:=he) (hpl:=rfl)
end
end VS
end
section
namespace ST
open PySem PySem.Spec PyProof.Rows
variable{prog:PP}{w:SL}{A:Pi}{E:Yl}{s:FB}
def BB{Q:PySem.Fin->FB->Prop}{f:Yl}(g:A.handled=Y)(h:∀(d:SC)(x:GM),(∀b o,s.heap.get? b=O o->d.get? b=O o)->(∃o,d.get? x=O o/\o.cls=.type "StopIteration")->f (.ref x) { s with heap:=d }) :
  KB (FM prog w) A (newExc (.type "StopIteration") [] >>= λe=>raiseNew e) Q f s:=by
 simp only[newExc,newTuple];refine Zy (Zy (X7 (Zy (m:=firstArgMember _ _) (wpAny_of_eq (a:=Value.none) (by first | rfl | (simp only[firstArgMember];rfl)) (X7 ?_ (by size_fits)))) (by size_fits)));simp only[raiseNew];refine Zy (wpAny_handled ?_);rw[g];exact Zy (Zp (wpAny_throw (h _ _ (λb o e=>Zg _ (Zg _ e)) ⟨_,ZX _ M,rfl⟩)))
end ST
end
section
namespace VS
open PySem PySem.Spec PyProof.Rows p0
section
variable{G:Gx}
def jP{f:Yb}{i j:Nat}{F l:Wn}(d:f.flatten.Nodup)(b:f[i]?=O F)(e:f[j]?=O l)(n:i≠j){a:GM}(h:a∈F):a∉l:=by
 intro g
 induction f generalizing i j with
 |nil=>simp at b
 |cons G o m =>
  rw[Zd,ZA]at d;cases i with
  |zero =>
   simp at b;subst b;cases j with
   |zero=>exact n M
   |succ j=>exact d.2.2 a h a (dH (by simpa using e) g) M
  |succ i =>
   cases j with
   |zero =>
    simp at e;subst e;exact d.2.2 a g a (dH (by simpa using b) h) M
   |succ j=>exact m d.2.1 (by simpa using b) (by simpa using e) (by lia)
def dI{b:Yb}{j:Nat}{f:Wn}{a:GM}(h:a∈(b.set j f).flatten):a∈f\/∃i F,i≠j/\b[i]?=O F/\a∈F:=by
 obtain⟨i,F,h1,d⟩:=fB h;by_cases e:i=j
 ·subst e;rw[List.getElem?_set_self' ]at h1;cases q:b[i]? with
  |none=>rw[q]at h1;cases h1
  |some _=>rw[q]at h1;cases h1;exact .inl d
 ·rw[Xb (YE e)]at h1;exact .inr ⟨i,F,e,h1,d⟩
theorem fj:∀{p:Yb}{j:Nat}{f:Wn},p.flatten.Nodup->f.Nodup->(∀i F,i≠j->p[i]?=O F->∀a∈F,a∉f)->(p.set j f).flatten.Nodup
 |[],_,_,h,_,_=>by simpa using h
 |G :: r,0,f,h,o,d=>by
  rw[Zd,ZA]at h;rw[List.set_cons_zero,Zd,ZA];refine⟨o,h.2.1,λa g b l e=>?_⟩;subst e;obtain⟨i,F,h1,m⟩:=fB l;exact d (i+1) F (by lia) (by simpa using h1) a m g
 |G :: r,j+1,f,h,o,d=>by
  rw[Zd,ZA]at h;rw[List.set_cons_succ,Zd,ZA];refine⟨h.1,fj h.2.1 o λi F n q=>d (i+1) F (by lia) (by simpa using q),λa g b l e=>?_⟩;subst e;rcases dI l with z | ⟨i,F,n,h1,m⟩
  ·exact d 0 G (by lia) M a g z
  ·exact h.2.2 a g a (dH h1 m) M
theorem tx.each{H g:Hp}:∀{vs:List V}{e:Vd}{f:Yb},tx G H vs e f->(∀(i:Nat) v t F,vs[i]?=O v->e[i]?=O t->f[i]?=O F->Rp G H v t F->Rp G g v t F)->tx G g vs e f
 |_,_,_,.nil,_=>.nil
 |_,_,_,.cons r q,k=>.cons (k 0 _ _ _ M M M r) (tx.each q λi v t F a b c d=>k (i+1) v t F (by simpa using a) (by simpa using b) (by simpa using c) d)
theorem tx.setAt{H l:Hp}:∀{e:List V}{f:Vd}{m:Yb}{j:Nat}{u:V}{o:T}{p:Wn},tx G H e f m->e[j]?=O u->Rp G l u o p->(∀(i:Nat) v t F,i≠j->e[i]?=O v->f[i]?=O t->m[i]?=O F->Rp G H v t F->Rp G l v t F)->tx G l e (f.set j o) (m.set j p)
 |_,_,_,_,_,_,_,.nil,h,_,_=>by simp at h
 |_,_,_,0,_,_,_,.cons r q,h,g,k=>by
  simp at h;subst h;exact .cons g (tx.each q λi v t F a b c d=>k (i+1) v t F (by lia) (by simpa using a) (by simpa using b) (by simpa using c) d)
 |_,_,_,j+1,_,_,_,.cons r q,h,g,k=>.cons (k 0 _ _ _ (by lia) M M M r) (tx.setAt q (by simpa using h) g λi v t F n a b c d=>k (i+1) v t F (by lia) (by simpa using a) (by simpa using b) (by simpa using c) d)
def rh{H q:Hp}{a:GM}{o:HO}{s:List V}{C:Vd}{e:Yb}{j:Nat}{u:V}{B:T}{A l:Wn}(L:H a=O o)(D:tx G H s C e)(f:(a :: e.flatten).Nodup)(M:s[j]?=O u)(y:e[j]?=O A)(g:EV G H u A B q l):q a=O o/\tx G q s (C.set j B) (e.set j l)/\(a :: (e.set j l).flatten).Nodup/\(∀b∈a :: (e.set j l).flatten,b∈a :: e.flatten\/H b=Y)/\∀b o,b∉a :: e.flatten->H b=O o->q b=O o:=by
 rw[ZU]at f;have p:∀b∈A,b∈e.flatten:=λb d=>dH y d;have P:∀i F,i≠j->e[i]?=O F->∀b∈F,b∉l:=λi F n I b d Q=>by
  rcases g.sub b Q with z | z
  ·exact jP f.2 I y n d z
  ·exact DI.td (D.DY b (dH I d)) z
 refine⟨g.keep a o (λz=>f.1 (p a z)) L,D.setAt M g.rp (λi v t F n h1 m N r=>r.keep g.kept λb d w x=>g.keep b w (jP f.2 N y n d) x),?_,λb d=>?_,λb w d x=>g.keep b w (λz=>d (Zw _ (p b z))) x⟩
 ·rw[ZU];refine⟨λh=>?_,fj f.2 g.nd P⟩;rcases dI h with z | ⟨i,F,n,h1,m⟩
  ·rcases g.sub a z with z | z
   ·exact f.1 (p a z)
   ·rw[L]at z;cases z
  ·exact f.1 (dH h1 m)
 ·rcases Zo.mp d with rfl | d
  ·exact .inl Zx
  ·rcases dI d with z | ⟨i,F,n,h1,m⟩
   ·rcases g.sub b z with z | z
    ·exact .inl (Zw _ (p b z))
    ·exact .inr z
   ·exact .inl (Zw _ (dH h1 m))
theorem mE{α β:Type}:∀(d:List α)(bs:List β)(i:Nat)(a:α)(y:β),d[i]?=O a->(d.zip bs).set i (a,y)=d.zip (bs.set i y)
 |[],_,_,_,_,h=>by simp at h
 |a :: d,[],i,_,_,_=>by cases i<;>simp
 |a :: d,b :: bs,0,_,y,h=>by simp at h;subst h;rfl
 |a :: d,b :: bs,i+1,_,y,h=>by
  have:=mE d bs i _ y (by simpa using h);simp[this]
theorem oi{α β:Type}(p:α->Bool):∀{e:List α}{bs:List β}{i:Nat},e.length=bs.length->(e.zip bs).findIdx? (λq=>p q.1)=O i->∃a b,e[i]?=O a/\bs[i]?=O b/\p a=J/\(e.zip bs).find? (λq=>p q.1)=O (a,b)
 |[],[],_,_,h=>by simp at h
 |a :: e,b :: bs,i,f,h=>by
  rw[ZC,YZ]at h;by_cases d:p a=J
  ·rw[Zr d]at h;cases h;exact⟨a,b,rfl,rfl,d,by simp[d]⟩
  ·rw[Zm d]at h;obtain⟨j,g,rfl⟩:=Zn.mp h;obtain⟨r,o,h1,n,m,l⟩:=oi p (by simpa using f) g;exact⟨r,o,by simpa using h1,by simpa using n,m,by simp[d,l]⟩
def fM(k a:Key):eqT (aL a) (aL k)=J↔a=k:=by
 cases k with
 |inl i=>cases a<;>simp[aL]
 |inr x =>
  obtain⟨⟨x⟩⟩:=x;cases a with
  |inl j=>simp[aL]
  |inr y=>obtain⟨⟨y⟩⟩:=y;simp[aL]
theorem rE{k:Key}{u:V}:∀{ns:List Key}{d:Vd}{a:List V}{i:Nat},ns.length=d.length->ns.length=a.length->((ns.map aL).zip d).findIdx? (λq=>eqT q.1 (aL k))=O i->a[i]?=O u->cq (ns.zip a) k=O u
 |[],_,_,_,_,_,h,_=>by simp at h
 |n :: ns,t :: d,v :: a,i,h1,l,h,e=>by
  rw[Zt,ZC,YZ]at h;by_cases b:eqT (aL n) (aL k)=J
  ·rw[Zr b]at h;cases h;simp at e;subst e;exact bW ((fM k n).mp b)
  ·rw[Zm b]at h;obtain⟨j,g,rfl⟩:=Zn.mp h;have f:n≠k:=λz=>b ((fM k n).mpr z);have:cq ((n :: ns).zip (v :: a)) k=cq (ns.zip a) k:=by simp[cq,f]
   rw[this];exact rE (by simpa using h1) (by simpa using l) g (by simpa using e)
 |_ :: _,[],_,_,h,_,_,_=>by simp at h
 |_ :: _,_ :: _,[],_,_,h,_,_=>by simp at h
end
section
variable{G:Gx}
variable{X:Cx}{e:Expr}{es:List Expr}{i:Nat}{way:List LD}{pos pos' p1 apos xh:Pos}{c:Ex}{cs:D5}{b:Expr}{k:Nat}
def Bf(G:Gx):Prop:=∀c k a:Nat,(G.ct c).2 k=(G.ct c).2 a->k=a
end
section
variable{G:Gx}{X:Cx}{e o:Expr}{es:List Expr}{i:Nat}{way:List LD}{pos pos' p1 apos xh:Pos}{c:Ex}{cs:D5}{b:Expr}{k:Nat}{ce ck:Ex}
def Dx(k v:Val):T->Option (T×Unit)
 |.lst l=>match k.2 with
  |.int n=>(fit v).bind λt=>(Et l.length n).map λj=>(.lst (l.set j t),())
  |_=>Y
 |.dct 0 l=>if iP k.2/\DZ v.2/\l.length<fC then O (.dct 0 (dput l k.2 v.2),()) else Y
 |_=>Y
noncomputable def ql(i:Nat)(a:List LD)(k e:Ex)(U:VS.Env):Option Out:=(e U).bind λv=>match U[i]? with
 |some (some (.ow t))=>(keys a U).bind λf=>(k U).bind λd=>(pm (Dx d v) f t).map λz=>.nx (U.set i (O (.ow z.1)))
 |_=>Y
theorem tx.putAt{H:Hp}:∀{d:List V}{f:Vd}{g:Yb}(j:Nat){u:V}{x:T}{F:Wn},tx G H d f g->Rp G H u x F->tx G H (d.set j u) (f.set j x) (g.set j F)
 |_,_,_,_,_,_,_,.nil,_=>.nil
 |_,_,_,0,_,_,_,.cons r q,a=>.cons a q
 |_,_,_,j+1,_,_,_,.cons r q,a=>.cons r (tx.putAt j q a)
theorem qV{H:Hp}{kk:Key}{l:V}{t:T}(n:Rp G H l t []):∀{a:List Key}{h:List V}{ts:Vd}{Fs:Yb},a.length=h.length->tx G H h ts Fs →
  ∃d f g,(a.zip h).map (λm=>if m.1=kk then (m.1,l) else m)=a.zip d/\a.length=d.length/\((a.map aL).zip ts).map (λp=>if eqT p.1 (aL kk) then (p.1,t) else p)=(a.map aL).zip f/\tx G H d f g/\g.flatten.Sublist Fs.flatten
 |[],[],_,_,_,.nil=>⟨[],[],[],rfl,rfl,rfl,.nil,WZ _⟩
 |k :: a,v :: h,_,_,A,.cons (t:=y) (F:=F) (ts:=ts) (Fs:=Fs) r q=>by
  obtain⟨d,f,g,h1,x,w,u,s⟩:=qV n (by simpa using A) q;by_cases j:k=kk
  ·have e:eqT (aL k) (aL kk)=J:=(fM kk k).mpr j;refine⟨l :: d,t :: f,[] :: g,?_,by simp[x],?_,.cons n u,?_⟩
   ·rw[ZC,Zt,h1,ZC];simp[j]
   ·rw[Zt,ZC,Zt,w,ZC];simp[e]
   ·rw[Zd,Zd];exact s.trans (List.sublist_append_right _ _)
  ·have e:¬eqT (aL k) (aL kk)=J:=λz=>j ((fM kk k).mp z);refine⟨v :: d,y :: f,F :: g,?_,by simp[x],?_,.cons r u,?_⟩
   ·rw[ZC,Zt,h1,ZC];simp[j]
   ·rw[Zt,ZC,Zt,w,ZC];simp[e]
   ·rw[Zd,Zd];exact List.Sublist.append (WZ _) s
theorem oI{kk:Key}:∀{a:List Key}{d:List V}{f:Vd},a.length=d.length->a.length=f.length->((a.zip d).any λg=>decide (g.1=kk))=(((a.map aL).zip f).any λp=>eqT p.1 (aL kk))
 |[],_,_,_,_=>by simp
 |k :: a,v :: d,t :: f,h1,j=>by
  rw[Zt,ZC,ZC,Xz,Xz,oI (by simpa using h1) (by simpa using j)];have:decide (k=kk)=eqT (aL k) (aL kk):=by rw[Wv,decide_eq_true_eq];exact(fM kk k).symm
  rw[this]
 |_ :: _,[],_,h,_=>by simp at h
 |_ :: _,_ :: _,[],_,h=>by simp at h
def mQ{H:Hp}{kk:Key}{q:V}{t:T}(u:Rp G H q t []){a:List Key}{g:List V}{j:Vd}{r:Yb}(d:a.length=g.length)(l:tx G H g j r) :
  ∃(s:List Key)(f:List V)(m:Vd)(n:Yb),putK (a.zip g) kk q=s.zip f/\s.length=f.length/\dput ((a.map aL).zip j) (aL kk) t=(s.map aL).zip m/\tx G H f m n/\n.flatten.Sublist r.flatten:=by
 have an:=oI (kk:=kk) d (d.trans l.len.1);unfold putK dput;rw[an];by_cases h:(((a.map aL).zip j).any λp=>eqT p.1 (aL kk))=J
 ·rw[Zr h,Zr h];obtain⟨f,m,n,h1,y,x,w,v⟩:=qV (kk:=kk) u d l;exact⟨a,f,m,n,h1,y,x,w,v⟩
 ·rw[Zm h,Zm h];refine⟨a++[kk],g++[q],j++[t],r++[[]],?_,by simp[d],?_,l.append (.cons u .nil),by simp⟩
  ·rw[XQ d];rfl
  ·rw[Ym,XQ (by rw[Zv];exact d.trans l.len.1)];rfl
def CS:xi:=λo i v H Q=>zt o i v H Q\/∃a d,o=.ref a/\tL H a i v d/\Q d
def zr(p:X.A.units+1<cLine):A7 X CS:=by
 intro d s Z H o i v m n u Q I j l f h;rcases h with h | ⟨a,t,rfl,g,q⟩
 ·exact set_list d s Z H o i v m n u Q I j l f h
 ·cases j;exact tM p I g l f λw r=>⟨t,r,q⟩
end
def DW(K:Xj):Gx:=⟨K,λ_=>(0,λk=>⟨#[k]⟩),λ_=>Y⟩
end VS
end
section
namespace p0
open PySem PySem.Spec PyProof.Rows
section
variable{X:Cx}
def pU(A:X.calm=J):dQ X (.type "list") (λf H Q=>∃x:Str,f=[.str x]/\x.cps.size<=FS/\∀l,H l=Y->Q (.ref l) (upd H l (.lst (x.cps.toList.map λc=>V.str ⟨#[c]⟩)))):=by
 intro j s Z H f C Q I r h;obtain⟨x,rfl,m,q⟩:=h;obtain⟨u,rfl,t,rfl⟩:=vals1 r;refine call_list_str (I.ok.hd A) x t (λB D acc c kp g p=>?_) m;have z:aQ (x.cps.toList.map λc=>V.str ⟨#[c]⟩) acc.toList:=by
  have key:∀(b:W3)(a:Wm),b.length=a.length->(∀(i:Nat)(v:IR),a[i]?=O v->∃c u,b[i]?=O c/\v=.str ⟨#[c]⟩ u)->aQ (b.map λc=>V.str ⟨#[c]⟩) a:=by
   intro b
   induction b with
   |nil =>
    intro a e _;cases a with
    |nil=>exact .nil
    |cons v a=>simp at e
   |cons c b y =>
    intro a e o;cases a with
    |nil=>simp at e
    |cons v a =>
     obtain⟨d,u,e1,e2⟩:=o 0 v M;cases e1;exact .cons ⟨u,e2⟩ (y a (by simpa using e) λi w hw=>by simpa using o (i+1) w (by simpa using hw))
  refine key _ _ (by rw[Yo,Yo,p.1]) λi v n=>?_;rw[Gm]at n;obtain⟨d,u,e1,e2⟩:=p.2 i v n;exact⟨d,u,by rw[Gm];exact e1,e2⟩
 refine⟨.ref s.heap.objs.size,_,I.laid kp (Zs _) (show aW X.prog X.w _ B _ (.lst (x.cps.toList.map λc=>V.str ⟨#[c]⟩)) from⟨by rw[Zv,Yo];exact m,acc.toList,c,z,g⟩),rfl,q _ (I.xb.fresh (Zs _))⟩
end
end p0
namespace VS
open PySem PySem.Spec PyProof.Rows p0
section
variable{G:Gx}{X:Cx}{a b c e tg:Expr}{es:List Expr}{ca cb cc ce ck:Ex}{cs:D5}{pos p p1 p2 apos xh pos':Pos}{k k' kr:Nat}
def kn:Vf->Ve
 |[(m,.lst l)]=>Fh m l
 |[(m,.tup l)]=>Fh m l
 |[(_,.str s)]=>Fh .fr (s.map λc=>.str [c])
 |_=>Y
def uR:fW G (λg H Q=>zw G.K g H Q\/∃x:Str,g=[.str x]/\x.cps.size<=FS/\∀l,H l=Y->Q (.ref l) (upd H l (.lst (x.cps.toList.map λc=>V.str ⟨#[c]⟩)))) kn:=by
 intro L U j H l d f m t Q A e k;unfold kn at e;split at e
 ·exact .inl (rg L U j H _ d f m t Q A e k)
 ·exact .inl (rg L U j H _ d f m t Q A e k)
 ·rename_i C x;obtain⟨v,F,rfl,rfl,i⟩:=(show tx G H d [.str x] f from A.rp).one;have h:=i.str_inv.2;refine .inr ⟨sx x,by rw[i.str_inv.1],?_,λq u=>?_⟩
  ·have:=h.1;simp only[sx,Ze];exact this
  ·have B:(sx x).cps.toList.map (λc=>V.str ⟨#[c]⟩)=(x.map λc=>[c]).map λs=>V.str (sx s):=by
    simp[sx]
   have z:(x.map λc=>T.str [c])=(x.map λc=>[c]).map T.str:=by simp
   rw[B];rw[z]at e;have n:=mH (G:=G) (H:=H) (ss:=x.map λc=>[c]) λs r=>by
    obtain⟨c,w,rfl⟩:=Yr.mp r;exact⟨by show 1<=fC;decide,λy o=>by rw[Zf.mp o];exact h.2 c w⟩
   refine g8 A.same e n ?_ k q u;rw[iA];exact Fp.nil
 ·cases e
def yC(d:X.mg "list" = Y)(h:Fc G X [e] cs)(f:Gl X "list" := by rfl)(i:X.K=G.K:=by rfl)(g:X.calm=J:=by rfl)(he:K0 e [] X:=by rfl):PV G X (.Call (.Name "list" p) [e] [] pos) (eN kn cs) :=
 kY (lX.or (pU g)) (i ▸ uR) f d rM h (he:=he) (hpl:=rfl)
def qZ(K:Xj):Bf (DW K):=λc k k' h=>by
 have:(#[k]:Array Nat)=#[k']:=congrArg Str.cps h;simpa using this
def B4(i:Nat){x:Str}(J:Bf G)(hr:xt kr X.A)(hk:PV G X b ck)(he:PV G X e ce)(hN:X.N[i]?=O x)(hv:FX X.env.scope x)(hd:K2 x)(D4:K3 x)(ha:∀v,assign (.Subscript (.Name x p1) b pos') X.env v=(do
   let ov ← holding [v] (eval (.Name x p1) X.env)
   let iv ← holding [v,ov] (eval b X.env)
   standAt pos'
   holding [v,ov,iv] (setItem ov iv v)
   release [v,ov,iv] []))(hs:swapsWithSole [.Subscript (.Name x p1) b pos'] e pos.line X.env=pure S)(hw:swappedStores [.Subscript (.Name x p1) b pos'] e X.env=pure Y)(h1:(assignEach [.Subscript (.Name x p1) b pos'] X.env).map (·.2)=[assign (.Subscript (.Name x p1) b pos') X.env]):PSV G X (.Assign [.Subscript (.Name x p1) b pos'] e pos) (ql i [] ck ce) :=
 PS.weak (vK he (uy (fh hN hv hd D4) hk (zr (rR hr)) ha) hs hw h1) λD Z H hq=>by
  obtain⟨L,U,out,s,e,k⟩:=hq;unfold ql at e;obtain⟨⟨mv,y⟩,ev,e⟩:=Zz.mp e;split at e
  ·rename_i x ht;obtain⟨ks,ek,e⟩:=Zz.mp e;cases (show O ([]:List Ky)=O ks from ek);obtain⟨⟨mk,I⟩,Iw,e⟩:=Zz.mp e;obtain⟨⟨B,y'⟩,R,e6⟩:=Zn.mp e;cases e6;obtain⟨w,g1,g2⟩:=s.rp _ _ ht;obtain⟨F1,w2,w3,w5⟩:∃F1,Rp G H w x F1/\F1.Nodup/\∀o m,EV G H w F1 B o m->EV G H w (L i) B o m:=⟨L i,g2,s.nd i x ht,λ_ _ g=>g⟩
   clear g2;refine⟨L,U,mv,y,s,ev,λxv H1 Fv F8 rv fv=>⟨w,g1,L,U,mk,I,s.same F8,Iw,λkv q Fk HE rk fk=>?_⟩⟩;have M:aM H q:=F8.trans HE;have JW:Rp G q xv y Fv:=rv.same HE;have fin:∀o m,EV G H w F1 B o m->D.nx Z o:=λo m g=>by
    obtain⟨z1,z2⟩:=s.mut ht g1 (w5 o m g);exact k _ Z o z1 z2
   refine p0.fO λP_ k_=>?_;cases x with
   |lst l =>
    cases I with
    |int n =>
     obtain⟨tt,et,e7⟩:=Zz.mp (show ((fit (mv,y)).bind λt=>(Et l.length n).map λj=>(T.lst (l.set j t),()))=O (B,y') from R);obtain⟨j,ej,e8⟩:=Zn.mp e7;cases e8;have em:=qU et;cases em;obtain⟨a,C,Fs,rfl,rfl,Eg,P⟩:=w2.lst_inv;have W:q a=O (.lst C):=M a _ Eg;have nd:=ZU.mp w3;have na:a∉Fv:=λz=>by rw[fv.2 a z]at Eg;cases Eg
     have Q:DI (q a):=by rw[W];exact True.intro
     have off:∀f∈Fs.flatten,f∉Fv:=λf d hv=>DI.td (P.DY f d) (fv.2 f hv);refine k_ ?_;refine .inl ⟨a,C,n,j,rfl,rk.int_inv,W,by rw[← uv,P.len.1];exact ej,fin _ (a :: (Fs.set j Fv).flatten) ?_⟩;have keep:∀{u:V}{x:T}{F:Wn},Rp G q u x F->a∉F->Rp G (upd q a (.lst (C.set j xv))) u x F:=λr hn=>r.keep (Kept.upd (.inl Q)) λf d o' G4=>by rw[av (λz=>hn (by rw[← z];exact d))];exact G4
     refine EV.upd M Zx Q (.lst aw ((((P.same M).off Q nd.1)).putAt j (keep JW na))) ?_ ?_
     ·rw[ZU];refine⟨λh=>?_,fj nd.2 fv.1 λi' m _ hi f d=>off f (dH hi d)⟩;rcases dI h with z | ⟨i',m,_,h1,h2⟩
      ·exact na z
      ·exact nd.1 (dH h1 h2)
     ·intro f d;rcases Zo.mp d with rfl | d
      ·exact .inl Zx
      ·rcases dI d with z | ⟨i',m,_,h1,h2⟩
       ·exact .inr (fv.2 f z)
       ·exact .inl (Zw _ (dH h1 h2))
    |_=>cases R
   |dct kd l =>
    cases kd with
    |zero =>
     have hc:(iP I=true/\DZ y=true/\l.length<fC)/\B=.dct 0 (dput l I y):=by
      have Ms:(if iP I/\DZ y/\l.length<fC then O (T.dct 0 (dput l I y),()) else Y)=O (B,y'):=R;split at Ms
      ·rename_i hc;cases Ms;exact⟨hc,rfl⟩
      ·cases Ms
     obtain⟨⟨c1,c2,c3⟩,rfl⟩:=hc;have eF:=JW.DZ c2;subst eF;obtain⟨a,ns,C,ts,Fs,rfl,rfl,Eg,hl,rfl,P⟩:=fP w2;obtain⟨kk,rfl,JL⟩:=fq rk c1;subst JL;have W:q a=O (.dK (ns.zip C)):=M a _ Eg;have Q:DI (q a):=by rw[W];exact True.intro
     have nd:=ZU.mp w3;obtain⟨FT,Gh,GZ,GJ,q1,q2,q3,q4,q5⟩:=mQ (kk:=kk) JW hl (P.same M);have ln:(ns.zip C).length<sizeLine:=by
      have:((ns.map aL).zip ts).length<16777216:=c3;rw[Yz,Zv]at this;rw[Yz];have:=P.len.1;have:(FS:Nat)=16777216:=rfl;lia
     refine k_ ?_;refine .inr ⟨a,_,rfl,tL.k W ln,fin _ (a :: GJ.flatten) ?_⟩;rw[q1,q3];refine EV.upd M Zx Q (.dct aw q2 (q4.off Q λz=>nd.1 (q5.subset z))) ?_ ?_
     ·exact ZU.mpr ⟨λz=>nd.1 (q5.subset z),nd.2.sublist q5⟩
     ·intro f d;rcases Zo.mp d with rfl | d
      ·exact .inl Zx
      ·exact .inl (Zw _ (q5.subset d))
    |succ n=>cases R
   |_=>cases R
  ·cases e
end
end VS
end
section
open PySem PyProof.Rows
namespace TS
abbrev Ky:=Sum Int Str
def E9:Ky->Ky->Bool
 |.inl i,.inl j=>decide (i<j)
 |.inr x,.inr y=>decide (x.cps.toList<y.cps.toList)
 |_,_=>S
def eB:List Ky->List Ky->Bool
 |[],[]=>S
 |[],_ :: _=>J
 |_ :: _,[]=>S
 |a :: d,b :: bs=>if a=b then eB d bs else E9 a b
def kind(k:Ky):Bool:=k.isLeft
def xX{x y:Str}(h:x.cps.toList=y.cps.toList):x=y:=by
 cases x;cases y;simp only[Str.mk.injEq];exact Array.toList_inj.mp h
def yb(a:Ky):E9 a a=S:=by
 cases a with
 |inl i=>simp[E9]
 |inr x=>simp[E9,Wi]
def nJ{a b:Ky}(h:E9 a b=J):E9 b a=S:=by
 cases a<;>cases b<;>simp only[E9,decide_eq_true_eq,decide_eq_false_iff_not,FW]at h ⊢
 ·lia
 ·exact λq=>Wi _ (W5 h q)
def sU{a b c:Ky}(h:E9 a b=J)(d:E9 b c=J):E9 a c=J:=by
 cases a<;>cases b<;>cases c<;>simp only[E9,decide_eq_true_eq,FW]at h d ⊢
 ·lia
 ·exact W5 h d
def rL{a b:Ky}(k:kind a=kind b)(h:E9 a b=S)(d:E9 b a=S):a=b:=by
 cases a<;>cases b<;>simp only[E9,decide_eq_false_iff_not,kind,Sum.isLeft,Vx,FW]at h d k ⊢
 ·congr 1;lia
 ·congr 1;exact xX (Vj (X9.mp d) (X9.mp h))
theorem lx:∀{l m:List Ky},eB l m=J->eB m l=S
 |[],[],h=>by simp[eB]at h
 |[],_ :: _,_=>rfl
 |_ :: _,[],h=>by simp[eB]at h
 |a :: l,b :: m,h=>by
  unfold eB at h ⊢;by_cases e:a=b
  ·rw[Zr e]at h;rw[Zr e.symm];exact lx h
  ·rw[Zm e]at h;rw[Zm (YE e)];exact nJ h
theorem rN:∀{l m n:List Ky},l.map kind=m.map kind->m.map kind=n.map kind->eB m l=S->eB n m=S->eB n l=S
 |[],[],[],_,_,_,_=>rfl
 |[],[],_ :: _,_,h,_,_=>by simp at h
 |[],_ :: _,_,h,_,_,_=>by simp at h
 |_ :: _,[],_,h,_,_,_=>by simp at h
 |_ :: _,_ :: _,[],_,h,_,_=>by simp at h
 |a :: l,b :: m,c :: n,h1,g,f,d=>by
  simp only[Zt,YC]at h1 g;unfold eB at f d ⊢;by_cases e1:b=a
  ·subst e1;rw[Zr M]at f;by_cases e2:c=b
   ·rw[Zr e2]at d ⊢;exact rN h1.2 g.2 f d
   ·rw[Zm e2]at d ⊢;exact d
  ·rw[Zm e1]at f;have o:E9 a b=J:=by
    cases q:E9 a b with
    |true=>rfl
    |false=>exact absurd (rL h1.1 q f).symm e1
   by_cases e2:c=b
   ·subst e2;rw[Zm e1];exact f
   ·rw[Zm e2]at d;have j:E9 b c=J:=by
     cases q:E9 b c with
     |true=>rfl
     |false=>exact absurd (rL g.1 q d).symm e2
    have i:=sU o j;have p:c≠a:=λe=>by rw[e,yb]at i;cases i
    rw[Zm p];exact nJ i
variable{prog:PP}{w:SL}{A:Pi}{E:Yl}{s:FB}
def Ja:Ky->IR->Prop
 |.inl i,v=>∃t,v=.int i t
 |.inr x,v=>∃t,v=.str x t
inductive E8:List Ky->Wm->Prop where
 |nil:E8 [] []
 |cons {k:Ky} {v:IR} {ks:List Ky} {vs:Wm}:Ja k v->E8 ks vs->E8 (k :: ks) (v :: vs)
def Ja.fn{k a:Ky}{v:IR}(h:Ja k v)(b:Ja a v):k=a:=by
 cases k<;>cases a<;>obtain⟨t,rfl⟩:=h<;>obtain⟨d,e⟩:=b<;>cases e<;>rfl
theorem E8.fn:∀{d b:List Ky}{a:Wm},E8 d a->E8 b a->d=b
 |_,_,_,.nil,.nil=>rfl
 |_,_,_,.cons h q,.cons f e=>by rw[h.fn f,q.fn e]
def iy(h:SC)(v:IR)(a:List Ky):Prop:=∃b o items n,v=.ref b/\h.get? b=O o/\o.cls=.type "tuple" ∧ o.data=.seq items n/\E8 a items.toList
theorem iy.fn{h:SC}{v:IR}{f a:List Ky}(x:iy h v f)(y:iy h v a):f=a:=by
 obtain⟨b,o,items,n,rfl,g,_,d,k⟩:=x;obtain⟨q,m,r,p,e,i,_,j,l⟩:=y;cases e;rw[g]at i;cases i;rw[d]at j;cases j;exact k.fn l
def CT{k a:Ky}{v b:IR}{Q:Bool->FB->Prop}(d:kind k=kind a)(h:Ja k v)(f:Ja a b)(q:Q (decide (k=a)) s):KB (FM prog w) A (eqBool v b) Q E s:=by
 cases k<;>cases a<;>simp only[kind,Sum.isLeft,Vx,FW]at d<;>obtain⟨t,rfl⟩:=h<;>obtain⟨g,rfl⟩:=f
 ·exact wpAny_eqBool_int (by have e:∀i j:Int,(i==j)=decide (Sum.inl (β:=Str) i=.inl j):=λi j=>by by_cases z:i=j<;>simp[z]
                             rw[e];exact q)
 ·exact wpAny_eqBool_str (by simpa using q)
def CJ{k a:Ky}{v d:IR}{b:Bool}{Q:Bool->FB->Prop}(f:kind k=kind a)(h:Ja k v)(g:Ja a d)(q:Q (E9 k a) s):KB (FM prog w) A (oneLt' b v d) Q E s:=by
 cases k<;>cases a<;>simp only[kind,Sum.isLeft,Vx,FW]at f<;>obtain⟨t,rfl⟩:=h<;>obtain⟨e,rfl⟩:=g
 ·cases b with
  |true=>exact oneLt_int q
  |false =>
   rw[oneLt'_eq,Zm Zk];exact Zy (PyProof.Rows.lt_int (Y1 q):KB (FM prog w) A (SB .Lt (.int _ t) (.int _ e)) _ E s)
 ·cases b with
  |true=>exact oneLt_str q
  |false =>
   rw[oneLt'_eq,Zm Zk];exact Zy (PySem.P.lt_str (Y1 q):KB (FM prog w) A (SB .Lt (.str _ t) (.str _ e)) _ E s)
def sG(a b:Ky)(l m:List Ky):eB (a :: l) (b :: m)=if a=b then eB l m else E9 a b:=rfl
def Bs{f:Bool}{x y:IR}{j t:List Ky}{Q:Bool->FB->Prop}(U:iy s.heap x j)(R:iy s.heap y t)(I:j.map kind=t.map kind)(q:Q (eB j t) s):KB (FM prog w) A (keyLt' (tuples' f) x y) Q E s:=by
 obtain⟨b,o,items,n,rfl,g,_,d,k⟩:=U;obtain⟨b',o',N,n',rfl,Z,_,d',H⟩:=R;refine(show KB (FM prog w) A (Builtin.List.listItems (.ref b)>>=_) Q E s from ?_);refine Zy (X1 g d (Zy (X1 Z d' ?_)));have G:items.size=N.size:=by
  have e1:∀{j:List Ky}{l:Wm},E8 j l->j.length=l.length:=λh=>by induction h with | nil=>rfl | cons _ _ P=>simp[P]
  have h1:=e1 k;have X:=e1 H;have W:=congrArg List.length I;simp at h1 X W;lia
 refine Zy (Xn _ (λrest b F=>b=(Y,())/\F=s/\∃(B z:List Ky)(l C:Wm)(i:Nat),rest=(l.zip C).zipIdx i/\E8 B l/\E8 z C/\B.map kind=z.map kind/\eB j t=eB B z) _ ?turn ?fin _ _ ⟨rfl,rfl,j,t,_,_,0,rfl,k,H,I,rfl⟩)
 case turn =>
  rintro x rest b F ⟨rfl,rfl,B,z,l,C,i,e,k1,k2,r,p⟩;cases k1 with
  |nil=>simp at e
  |@cons a v PF QU M k1 =>
   cases k2 with
   |nil=>simp at e
   |@cons b u So QW L k2 =>
    simp only[ZC,WQ,YC]at e;obtain⟨rfl,rfl⟩:=e;simp only[Zt,YC]at r;refine Zy (CT r.1 M L ?_);rw[sG]at p;by_cases D:a=b
    ·rw[Zr D]at p;rw[ZT D,Zm (by simp)];exact Zp ⟨rfl,rfl,PF,So,QU,QW,i+1,rfl,k1,k2,r.2,p⟩
    ·rw[Zm D]at p;rw[ZP D,Zr (by simp)];refine Zy (m:=oneLt' _ v u) (CJ r.1 M L (Zp (Zp ?_)));rw[← p];exact q
 case fin =>
  rintro b F ⟨rfl,rfl,B,z,l,C,i,e,k1,k2,r,p⟩;have:eB j t=decide (items.size<N.size):=by
   rw[p,G];cases k1 with
   |nil =>
    cases k2 with
    |nil=>simp[eB]
    |cons _ _=>simp at r
   |cons _ _ =>
    cases k2 with
    |nil=>simp at r
    |cons _ _=>simp at e
  refine Zp ?_;rw[← this];exact q
theorem m8{α β:Type}{f:α->Sem β}{P:β->Prop}:∀{b:List α}{Q:List β->FB->Prop},(∀v∈b,∃x,P x/\∀(Q:β->FB->Prop),Q x s->KB (FM prog w) A (f v) Q E s)->(∀a:List β,a.length=b.length->(∀x∈a,P x)->Q a s)->KB (FM prog w) A (b.mapM f) Q E s
 |[],Q,_,q=>by
  rw[List.mapM_nil];exact Zp (q [] M (by simp))
 |v :: b,Q,h,q=>by
  rw[List.mapM_cons];obtain⟨x,px,g⟩:=h v Zx;refine Zy (g _ (Zy (m8 (λu i=>h u (Zw _ i)) λa l j=>Zp (q _ (by simp[l]) λy d=>?_))));rcases Zo.mp d with e | e
  ·rw[e];exact px
  ·exact j y e
def ue{u:Wm}{k0:Bool}{sh:List Bool}{Q:SortKind->FB->Prop}(h2:0<u.length)(hv:∀v∈u,∃D,iy s.heap v D/\D.map kind=k0 :: sh)(q:Q (tuples' J) s):KB (FM prog w) A (keyKind' u.toArray) Q E s:=by
 have fst:∀v∈u,∃x,(∀(Q:Wd->FB->Prop),Q (O x) s->KB (FM prog w) A (firstOfTuple' v) Q E s)/\(∀(Q:Yl),Q (.type (if k0 then "int" else "str")) s->KB (FM prog w) A (typeOf x) Q E s):=λv r=>by
  obtain⟨D,⟨b,o,items,n,rfl,g,c,d,k⟩,B⟩:=hv v r;cases F:items.toList with
  |nil =>
   rw[F]at k;cases k;simp at B
  |cons x j =>
   rw[F]at k;cases k with
   |@cons a _ PF _ L k1 =>
    simp only[Zt,YC]at B;have Z:items[0]?=O x:=by rw[← Gm,F];rfl
    refine⟨x,λQ q=>?_,λQ q=>?_⟩
    ·refine(show KB _ _ (typeOf (.ref b)>>=_) _ _ _ from Zy (wpAny_typeOf (T := "tuple") ⟨o,g,c⟩ ?_));rw[Zm (by decide)];refine Zy (X1 g d (Zp ?_));rw[Z];exact q
    ·cases a with
     |inl i =>
      obtain⟨t,rfl⟩:=L;have:k0=J:=B.1.symm;subst this;exact wpAny_typeOf (T := "int") M q
     |inr y =>
      obtain⟨t,rfl⟩:=L;have:k0=S:=B.1.symm;subst this;exact wpAny_typeOf (T := "str") M q
 obtain⟨m,N⟩:∃m:String,m=(if k0 then "int" else "str"):=⟨_,rfl⟩
 have Hc:(Value.type m != Value.type "tuple")=J:=by subst N;cases k0<;>decide
 rw[← N]at fst;have mp:∀{α β:Type}(f:α->Sem β)(l:List α)(Q:Array β->FB->Prop),KB (FM prog w) A (l.mapM f) (λj U=>Q j.toArray U) E s->KB (FM prog w) A (l.toArray.mapM f) Q E s:=λf l Q r=>by
  rw[List.mapM_toArray];exact Zy (Yn r (λ_ _ z=>Zp z) λ_ _ e=>e)
 rw[keyKind'_eq];refine Zy (mp _ _ _ (m8 (P:=λo=>∃x,o=O x/\∀(Q:Yl),Q (.type m) s->KB (FM prog w) A (typeOf x) Q E s) (λv r=>by
  obtain⟨x,h1,H⟩:=fst v r;exact⟨O x,⟨x,rfl,H⟩,h1⟩) λj hl G=>?_))
 rw[Zr (by
  rw[List.all_toArray,ZE];intro o p;obtain⟨x,rfl,_⟩:=G o p;rfl)]
 refine Zy (Wr (Zy ?_));rw[oneTypeOnly'_eq];have hf:(j.toArray.filterMap id)=(j.filterMap id).toArray:=by simp
 rw[hf];refine Zy (mp _ _ _ (m8 (P:=λty=>ty=Value.type m) (λv r=>by
  obtain⟨o,p,e⟩:=Wj.mp r;obtain⟨x,rfl,H⟩:=G o p;cases e;exact⟨_,rfl,H⟩) λC EL I=>?_))
 have Vb:(j.filterMap id).length=j.length:=by
  have:∀l:List (Wd),(∀o∈l,∃x,o=O x)->(l.filterMap id).length=l.length:=λl=>by
   induction l with
   |nil=>intro _;rfl
   |cons o l W =>
    intro h;obtain⟨x,rfl⟩:=h o Zx;simp[W λo p=>h o (Zw _ p)]
  exact this j λo p=>let ⟨x,e,_⟩:=G o p;⟨x,e⟩
 cases C with
 |nil=>simp at EL;lia
 |cons R C =>
  have e0:=I R Zx;subst e0;have e1:(Value.type m :: C).toArray[0]?=O (Value.type m):=rfl;rw[e1];dsimp only;rw[Zr (by
   rw[List.all_toArray,ZE];intro y X;rw[I y X];simp)]
  refine Zp (Zp ?_);simp only[Option.any_some,Hc];exact q
def GT(h:SC)(b:List Bool)(x:KF):Prop:=∃a,iy h x.1 a/\a.map kind=b
open Classical in
noncomputable def rT(h:SC)(x y:KF):Bool:=decide (∃b a,iy h x.1 b/\iy h y.1 a/\eB b a=J)
open Classical in
def jT{h:SC}{x y:KF}{b a:List Ky}(f:iy h x.1 b)(d:iy h y.1 a):rT h x y=eB b a:=by
 unfold rT;cases e:eB b a with
 |true=>exact ZT ⟨b,a,f,d,e⟩
 |false =>
  refine ZP λ⟨m,l,i,j,g⟩=>?_;rw[i.fn f,j.fn d,e]at g;cases g
def ye{n:List Bool}{f:Bool}{h:SC}(m:∀v d,iy h v d->iy s.heap v d):Ep prog w A E s (tuples' f) (GT h n) (rT h):=by
 refine⟨?_,?_,?_⟩
 ·rintro st x y Q p ⟨d,b,ex⟩ ⟨j,a,e⟩ q;rw[lt'_eq];refine Za (We ?_);rw[p];rw[jT b a]at q;exact Za (wpS_lift (Wp (Bs (m _ _ b) (m _ _ a) (ex.trans e.symm) ⟨rfl,Zl q⟩)))
 ·rintro x y ⟨d,b,_⟩ ⟨j,a,_⟩ q;rw[jT b a]at q;rw[jT a b];exact lx q
 ·rintro x y z ⟨d,b,ex⟩ ⟨j,a,e⟩ ⟨r,l,o⟩ i g;rw[jT a b]at i;rw[jT l a]at g;rw[jT l b];exact rN (ex.trans e.symm) (e.trans o.symm) i g
end TS
end
section
namespace ST
open PySem PySem.Spec PyProof.Rows
variable{prog:PP}{w:SL}{A:Pi}{E:Yl}{s:FB}
abbrev dO(a:Array DictEntry)(b:Nat):Obj:={ cls:=.type "dict",data:=.dict a b }
abbrev kO(d:GM)(i n a:Nat):Obj:={ cls:=.type "dict_keyiterator",data:=.fields #[.ref d,.int i 0,.int n 0,.int a 0] }
def ve{d:GM}{b:Array DictEntry}{e:Nat}{Q:Yl}(f:(d==sysModules)=S)(a:s.heap.get? d=O (dO b e))(q:Q (.ref s.heap.objs.size) { s with heap:=s.heap.push (kO d 0 b.size e) }) :
  KB (FM prog w) A (pyIter (.ref d)) Q E s:=by
 have ty:s.TypeIs (.ref d) "dict" := ⟨_,a,rfl⟩
 refine wpAny_pyIter_slot ty F.slot_dict_iter (XM F.slot_dict_iter ty F.entry_dict_iter (show KB _ _ (Builtin.«dict.__iter__» _) _ _ _ from ?_) (F.args_dict_iter_1 _));unfold Builtin.«dict.__iter__» Builtin.Dict.dictSlotNone Builtin.Dict.showsAll;refine Zy (Zy (wpAny_notOrdered_dict ty (show KB _ _ (pure (Value.ref d)) _ _ s from Zp (Zy (m:=Builtin.Dict.addrOf (.ref d)) (Zp ?_)))));rw[Zm (by rw[f];exact Zk)];exact Zy (Zp (Zy (wpAny_dictEntries a M (Zy (wpAny_dictEpoch a M (Zy (X7 (Zp ⟨_,rfl, "dict_keyiterator",_,⟨_,ZX _ M,rfl⟩,Xa.lookup,q⟩))))))))
def nL{I d:GM}{i m:Nat}{h:Array DictEntry}{Q:Wd->FB->Prop}(u:A.handled=Y)(l:s.heap.get? I=O (kO d i h.size m))(n:s.heap.get? d=O (dO h m))(h1:∀e,h[i]?=O e->∀a,Heap.SameBut I s.heap a->a.get? I=O (kO d (i+1) h.size m)->Q (O e.key) { s with heap:=a })(z:h[i]?=Y->∀a,(∀b o,b≠I->s.heap.get? b=O o->a.get? b=O o)->Q Y { s with heap:=a }):KB (FM prog w) A (pyNext (.ref I)) Q E s:=by
 have ty:s.TypeIs (.ref I) "dict_keyiterator" := ⟨_,l,rfl⟩
 unfold pyNext;refine Zy (Wp (wpAny_callSpecial?_slot (name:=Str.ofString "__next__") ty Xa (XM Xa ty F.entry_dict_keyiterator_next (Yn
  (Q:=λf j=>∃v,f=.done (.ret v)/\Q (O v) j) (E:=λe j=>∃x,e=.ref x/\(∃o,j.heap.get? x=O o/\o.cls=.type "StopIteration")/\Q Y j) ?_ (λf j ⟨v,e,q⟩=>⟨v,e,Zp q⟩) λe j ⟨x,e1,⟨o,g,c⟩,q⟩=>?_) (F.args_dict_keyiterator_next_1 _))))
 ·refine Zy (Zp (Zy (Zy (Zy (Wo ty (Zp (Zy (wpAny_fieldsOf l M ?_))))))));have own:Builtin.Dict_items.ownsTuple "dict_keyiterator" = S:=rfl;simp only[own,FW,↓reduceIte];refine(show KB _ _ (if (Value.ref d==Value.none)=J then _ else _) _ _ s from ?_);rw[Zm (λe:(Value.ref d==Value.none)=true=>Zk e)];refine Zy (Zp (Zy (wpAny_dictEntries n M ?_)));rw[Zm (by simp)];refine Zy (Zp (Zy (wpAny_dictEpoch n M ?_)));rw[Zm (by simp)];refine Zp ?_;simp only[show ¬((i:Int)<0) from by lia,↓reduceIte,Yf];cases p:h[i]? with
  |some e =>
   dsimp only;have r:(s.heap.update I (Obj.mapFields (·.setIfInBounds 1 (rawInt ((i:Int)+1))))).get? I=O (kO d (i+1) h.size m):=Vy _ l M;refine Zy (Zy (Wo ty (Zp (Zy (wpAny_isOneOf_keyiter ty ?_)))));refine(show KB _ _ (setField (.ref I) 1 (rawInt ((i:Int)+1))>>=_) _ _ s from Zy (wpAny_setField l M (by show 1<4;decide) (Zy (YJ ?_))));refine Zy (wpAny_isOneOf_keyiter (s:={ s with heap:=s.heap.update I (Obj.mapFields (·.setIfInBounds 1 (rawInt ((i:Int)+1)))) }) ⟨_,r,rfl⟩ ?_);refine(show KB _ _ (pure e.key) _ _ _ from Zp (Zp ⟨_,rfl,h1 e p _ (WY ..) r⟩))
  |none =>
   dsimp only;refine Zy (Zy (Wo ty (Zp ?_)));refine(show KB _ _ (setField (.ref I) 0 .none>>=_) _ _ s from Zy (wpAny_setField l M (by show 0<4;decide) (BB u λa x kp t=>⟨x,rfl,t,z p a λb o y e=>kp b o ?_⟩)));rw[Xd _ _ (YE y)];exact e
 ·subst e1;exact Zy (W1 (T := "StopIteration") (b:=J) ⟨o,g,c⟩ isSubtype_stop (Zp q))
end ST
end
section
namespace p0
open PySem PySem.Spec PyProof.Rows TS
section
variable{X:Cx}
theorem vM:∀{b:List Key}{a:Wm},aQ (b.map kV) a->E8 b a
 |[],[],_=>.nil
 |k :: b,v :: a,h=>by
  cases h with
  |cons r q =>
   refine .cons ?_ (vM q);cases k with
   |inl i=>exact r
   |inr x=>exact r
def xH{P:PP}{w:SL}{H:Hp}{h:SC}{a:GM}{b:List Key}(d:Ee P w H h)(e:H a=O (.tup (b.map kV))):iy h (.ref a) b:=by
 obtain⟨_,f,r,_,o,h1,i,n,g⟩:=(show aW P w H h a (.tup (b.map kV)) from d a _ e)
 exact⟨a,o,f.toArray,n,rfl,h1,i,g,vM r⟩
end
end p0
end
section
namespace VS
open PySem PySem.Spec PyProof.Rows p0 TS
section
variable{G:Gx}{X:Cx}{a b c e tg:Expr}{es:List Expr}{ca cb cc ce ck:Ex}{cs:D5}{pos p p1 p2 apos xh pos':Pos}{k k' kr:Nat}
def kT(k:List Key):T:=.tup (k.map aL)
theorem nz:∀(k k':List Key),il (k'.map aL) (k.map aL)=J↔k'=k
 |[],[]=>by simp[il]
 |[],_ :: _=>by simp[il]
 |_ :: _,[]=>by simp[il]
 |a :: k,b :: k'=>by
  simp only[Zt,il,FV,nz k k',fM,YC]
def As(k d:List Key):eqT (kT d) (kT k)=J↔d=k:=by
 unfold kT;simp only[eqT];exact nz k d
def yE(k d:List Key):eqT (kT d) (kT k)=decide (d=k):=by rw[Wv,decide_eq_true_eq];exact As k d
end
end VS
namespace VS
open PySem PySem.Spec PyProof.Rows p0
def nK{G:Gx}{X:Cx}{i:Int}{j:Nat}{a p:Pos}:PV G X (.UnaryOp .USub (.Constant (.int i) j p) a) (Q3 (-i)) :=
 PE.weak (CU AH t8) λZ H Q b=>by
  obtain⟨L,U,m,t,s,e,k⟩:=b;cases (show O (Md.fr,T.int (-i))=O (m,t) from e);exact⟨i,rfl,k _ H [] (aM.refl _) (.int _) Fp.nil⟩
end VS
end
section
namespace p0
open PySem PySem.Spec PyProof.Rows
section
variable{X:Cx}
def xY:V->List V->Hp->VK->Prop:=λx d H Q=>∃(a:GM)(b:List (Key×V))(k:Key)(y:V),x=.ref a/\d=[kV k,y]/\H a=O (.dK b)/\b.length<FS ∧
 (∀v,cq b k=O v->Q v H)/\(cq b k=Y->Q y (upd H a (.dK (putK b k y))))
def tW:LF X "dict.setdefault" xY:=by
 intro i s Z H x R v U Q I o p h;obtain⟨a,f,k,y,rfl,rfl,e,W,A,t⟩:=h;cases o;obtain⟨u,n,rfl,r,l⟩:=p.two;obtain⟨z,hd,g,rel,j⟩:=pd I.xb e;have B:g.length<=sizeLine:=by rw[← rel.length];exact z
 have b:=rel.val k;refine call_meetsIn Xl j.typeIs PySem.F.entry_dict_setdefault (Vn _ _ _) (kt_meets_setdefault (aX X.prog X.w) a (lD r) hd n) ⟨g,j,B,λv C=>?_,λL N m D=>?_⟩
 ·rw[C]at b;cases d:cq f k with
  |none=>rw[d]at b;cases b
  |some w =>
   rw[d]at b;exact⟨w,H,I.tok _,b,A w d⟩
 ·rw[L]at b;have d:cq f k=Y:=by
   cases d:cq f k with
   |none=>rfl
   |some w=>rw[d]at b;cases b
  have P:(putK f k y).length<=sizeLine:=by have:=fS f k y;lia
  have M:∃q,N.get? a=O q:=let ⟨q,_,_,G,_⟩:=m;⟨q,G⟩
  exact⟨y,_,hU I (by rw[e];exact True.intro) D M (qj P hd (rel.put k l) m),l,t d⟩
end
end p0
namespace VS
open PySem PySem.Spec PyProof.Rows p0
section
variable{G:Gx}{X:Cx}{a b c e o tg:Expr}{es:List Expr}{ca cb cc ce ck cv:Ex}{cs:D5}{pos p p1 p2 apos xh pos' G9 FO lp:Pos}{k k' kr i:Nat}
def cB(l:List (T×T))(k:T):List (T×T):=if (dE l k).isSome then l else l++[(k,.lst [])]
noncomputable def iZ(i:Nat)(k:Ex)(v:D5)(U:VS.Env):Option Out:=match U[i]? with
 |some (some (.ow (.dct 0 l)))=>(k U).bind λd=>if iP d.2/\l.length<fC then
   (v (U.set i (O (.ow (.dct 0 (cB l d.2)))))).bind λf=>(pm (λx=>bx x f) [.at d.2] (.dct 0 (cB l d.2))).map λz=>.nx (U.set i (O (.ow z.1))) else Y
 |_=>Y
def EV.none{H f:Hp}{v:V}{F:Wn}{t:T}(d:aM H f)(r:Rp G H v t F)(g:F.Nodup):EV G H v F t f F :=
 ⟨Kept.of d,λb o _ h=>d b o h,λb h z=>h (d.free z),r.same d,g,λa j=>.inl j⟩
def zG{H:Hp}{f:T->Option (T×Val)}{d:Key}{a:GM}{h:List (T×T)}{m:T}{F:Wn}{y:Val}{I:List (Key×V)}{w:V}(r:Rp G H (.ref a) (.dct 0 h) F)(D:F.Nodup)(e:pm f [.at (aL d)] (.dct 0 h)=O (m,y))(M:H a=O (.dK I))(hw:cq I d=O w) :
  ∃x v A,Rp G H w x v/\v.Nodup/\f x=O (A,y)/\∀t U,EV G H w v A t U->∃F',EV G H (.ref a) F m t F':=by
 have e:((h.findIdx? λp=>eqT p.1 (aL d)).bind λi=>(h[i]?).bind λp=>(pm f [] p.2).map λz=>(T.dct 0 (h.set i (p.1,z.1)),z.2))=O (m,y):=by
  cases d<;>exact e
 obtain⟨i,h1,e⟩:=Zz.mp e;obtain⟨p,N,e⟩:=Zz.mp e;obtain⟨⟨z,y'⟩,e1,e2⟩:=Zn.mp e;cases e2;obtain⟨a',ns,Z,l,Fs,ea,rfl,L,s,rfl,q⟩:=fP r;cases ea;rw[M]at L;cases L;have W:(ns.map aL).length=l.length:=by rw[Zv];exact s.trans q.len.1
 obtain⟨k0,j,Q,P,g3,g4⟩:=oi (λn=>eqT n (aL d)) W h1;have ep:p=(k0,j):=by
  have:((ns.map aL).zip l)[i]?=O (k0,j):=by rw[XU];exact⟨Q,P⟩
  rw[this]at N;exact(ZJ N).symm
 subst ep;obtain⟨u,Fi,C,B,u3⟩:=q.get i P;have R:cq (ns.zip Z) d=O u:=rE (by simpa using W) s h1 C;rw[hw]at R;cases R;refine⟨j,Fi,z,u3,((ZU.mp D).2).sublist (gh B),e1,λt U g=>?_⟩;obtain⟨s1,s2,s3,s4,s5⟩:=rh M q D C B g;refine⟨_,g.kept,s5,g.DY,?_,s3,s4⟩;rw[mE (ns.map aL) l i k0 z Q];exact .dct s1 s s2
def uT(J:Bf G)(i:Nat){x:Str}(hk:PV G X b ck)(hv:Fc G X [e] cs)(hK:X.K=G.K)(hN:X.N[i]?=O x)(Jv:FX X.env.scope x)(hd:K2 x)(D4:K3 x)(Oh:SZ (.Name x p1) "setdefault" X.env (eval (.Name x p1) X.env)=eval (.Name x p1) X.env)(N6:((backTo FO (KM [b,.List [] lp] X.env)).all (λx=>!x.1)&&(backToKw FO (P3 [] X.env)).all (λx=>x.1.isSome)
   && decide ([b,Expr.List [] lp].length+([]:List Keyword).length+(if ([]:List Keyword).isEmpty then 0 else 1)<30))=true)(Hd:(G9.endLine==FO.line)=true)(KI:KM [b,.List [] lp] X.env=(S,eval b X.env) :: KM [.List [] lp] X.env)(Jx:KM [.List [] lp] X.env=(S,eval (.List [] lp) X.env) :: KM [] X.env)(Mc:(backTo FO (KM [.List [] lp] X.env)).any (·.1)=S)(Hx:SZ (.Call (.Attribute (.Name x p1) "setdefault" G9) [b,.List [] lp] [] FO) "append" X.env (eval (.Call (.Attribute (.Name x p1) "setdefault" G9) [b,.List [] lp] [] FO) X.env)=eval (.Call (.Attribute (.Name x p1) "setdefault" G9) [b,.List [] lp] [] FO) X.env)(N5:((backTo xh (KM [e] X.env)).all (λx=>!x.1)&&(backToKw xh (P3 [] X.env)).all (λx=>x.1.isSome)
   && decide ([e].length+([]:List Keyword).length+(if ([]:List Keyword).isEmpty then 0 else 1)<30))=true)(EL:(apos.endLine==xh.line)=true)(FJ:K0 e [] X)(Ik:(backTo xh (KM [] X.env)).any (·.1)=S)(KG:swapsWith (.Call (.Attribute (.Call (.Attribute (.Name x p1) "setdefault" G9) [b,.List [] lp] [] FO) "append" apos) [e] [] xh) Y pos.line X.env=pure S) :
  PSV G X (.Expr (.Call (.Attribute (.Call (.Attribute (.Name x p1) "setdefault" G9) [b,.List [] lp] [] FO) "append" apos) [e] [] xh) pos) (iZ i ck cs) :=
 PS.weak (lT (rB WT WV WW g9
  (rB PySem.F.plainAttrs_dict Xl PySem.F.type_dict_setdefault tW (fh hN Jv hd D4) (dc hk (dc (md eQ) eQ Jx) KI) Oh N6 Hd KI Mc) hv Hx N5 EL FJ Ik) KG) λD Z H B=>by
  obtain⟨L,U,out,s,e,k⟩:=B;refine p0.fO λP_ A=>?_;unfold iZ at e;split at e
  ·rename_i l Q;obtain⟨⟨mk,tk⟩,Iw,e⟩:=Zz.mp e;split at e
   ·rename_i hc;obtain⟨c1,c2⟩:=hc;obtain⟨lv,ev,e⟩:=Zz.mp e;obtain⟨⟨t',y'⟩,e5,e6⟩:=Zn.mp e;cases e6;obtain⟨v,g1,g2⟩:=s.rp _ _ Q;have HH:=s.nd i _ Q;obtain⟨a,ns,f,m,Fs,rfl,W,ha,EW,el,t⟩:=fP g2;subst el;rw[W]at HH;refine A ?_;refine⟨.ref a,g1,by rw[hK];exact .inr (.inr (.inl ⟨rfl,.inl ⟨_,ha⟩⟩)),?_⟩;refine⟨L,U,mk,tk,s,Iw,λkv n Fk F8 rk fk=>⟨ZM _,λq B=>?_⟩⟩;refine p0.fO λP_ A=>?_;obtain⟨d,rfl,Ml⟩:=fq rk c1;dsimp only at Ml Iw e5 ev c1;subst Ml;refine A ?_;have fin:∀(r:Hp)(I:Wn)(Jq:List (Key×V))(w:V),EV G H (.ref a) (L i) (.dct 0 (cB ((ns.map aL).zip m) (aL d))) r I->r a=O (.dK Jq)->cq Jq d=O w →
      tyV X.K "list" w r/\Kj G cs Z r (λJd H4=>jO w Jd H4 (λ_ C=>D.nx Z C)):=λr I Jq w g h3 hw=>by
     refine p0.fO λP_ A=>?_;obtain⟨z1,z2⟩:=s.mut Q g1 g;have Jw:(U.set i (O (.ow (.dct 0 (cB ((ns.map aL).zip m) (aL d))))))[i]?=O (O (.ow (.dct 0 (cB ((ns.map aL).zip m) (aL d))))):=by
      have hi:i<U.length:=(ZY.mp Q).1;rw[Xp hi]
     obtain⟨x',F1,x3,w2,w3,w4,w5⟩:=zG g.rp g.nd e5 h3 hw;refine A ?_;refine⟨by rw[hK];exact gM w2 w4,ic L i I,_,lv,z1,ev,λJd H4 O9 q1 q2 q3=>?_⟩;refine jr (ic L i I) _ r H4 w x' x3 F1 lv Jd O9 y' _ w2 w3 ⟨q1,q2,q3⟩ w4 λu C F' g5=>?_;obtain⟨F2,g6⟩:=w5 C F' g5;have TQ:EV G r (.ref a) (ic L i I i) t' C F2:=by rw[fN];exact g6
     obtain⟨y1,y2⟩:=z1.mut Jw g1 TQ;rw[List.set_set]at y1 y2;exact k _ Z C y1 (z2.trans y2)
    have Gq:aM n (upd n q (.lst [])):=bL B;have P:aM H (upd n q (.lst [])):=F8.trans Gq;have FK:upd n q (.lst []) a=O (.dK (ns.zip f)):=P a _ ha;have ln:(ns.zip f).length<sizeLine:=by
     have:((ns.map aL).zip m).length<16777216:=c2;rw[Yz,Zv]at this;rw[Yz];have:=t.len.1;have:(FS:Nat)=16777216:=rfl;lia
    have dg:=jL (G:=G) (k:=d) EW t;refine⟨a,ns.zip f,d,.ref q,rfl,rfl,FK,ln,λw hw=>?_,λhn=>?_⟩
    ·refine fin _ (a :: Fs.flatten) (ns.zip f) w ?_ FK hw;have es:cB ((ns.map aL).zip m) (aL d)=(ns.map aL).zip m:=by
      unfold cB;rcases dg with⟨h1,R⟩ | ⟨_,_,t2,_,h1,_⟩
      ·rw[R]at hw;cases hw
      ·rw[h1];rfl
     rw[es,W];exact EV.none P (by rw[W]at g2;exact g2) HH
    ·have es:cB ((ns.map aL).zip m) (aL d)=((ns++[d]).map aL).zip (m++[.lst []]):=by
      unfold cB;rcases dg with⟨h1,R⟩ | ⟨_,_,t2,_,h1,R,_⟩
      ·rw[h1,Zm (by simp),Ym,XQ (by rw[Zv];exact EW.trans t.len.1)];rfl
      ·rw[R]at hn;cases hn
     have ep:putK (ns.zip f) d (.ref q)=(ns++[d]).zip (f++[.ref q]):=by
      unfold putK;rw[gI,hn,Zm (by simp),XQ EW];rfl
     have qa:q≠a:=λz=>by
      have:n a=O (.dK (ns.zip f)):=F8 a _ ha;rw[← z,B]at this;cases this
     have qH:H q=Y:=F8.free B;have m2:DI (upd n q (.lst []) a):=by rw[FK];exact True.intro
     have nd:=ZU.mp HH;have qF:q∉Fs.flatten:=λz=>DI.td (t.DY q z) qH;have Ov:upd (upd n q (.lst [])) a (.dK (putK (ns.zip f) d (.ref q))) q=O (.lst []):=by rw[av qa,aw]
     have rq:Rp G (upd (upd n q (.lst [])) a (.dK (putK (ns.zip f) d (.ref q)))) (.ref q) (.lst []) (q :: ([]:Yb).flatten):=.lst Ov .nil;refine fin _ (a :: (Fs++[[q]]).flatten) (putK (ns.zip f) d (.ref q)) (.ref q) ?_ aw (by rw[uw,Zr M]);rw[es,W];refine EV.upd P Zx m2 (.dct (by rw[aw,ep]) (by simp[EW]) (((t.same P).off m2 nd.1).append (.cons rq .nil))) ?_ ?_
     ·rw[Gk];refine ZU.mpr ⟨λz=>?_,ZA.mpr ⟨nd.2,by simp,λx hx y j z=>?_⟩⟩
      ·rcases Zc.mp z with z | z
       ·exact nd.1 z
       ·have h:a=q:=by simpa using z
        exact qa h.symm
      ·subst z;exact qF (by simpa[show x=q by simpa using j] using hx)
     ·intro y j;rcases Zo.mp j with rfl | j
      ·exact .inl Zx
      ·rw[Gk]at j;rcases Zc.mp j with j | j
       ·exact .inl (Zw _ j)
       ·rw[show y=q by simpa using j];exact .inr qH
   ·cases e
  ·cases e
end
end VS
end
section
namespace p0
open PySem PySem.Spec PyProof.Rows
def Ck{X:Cx}{b:Yh}{Z:St}{H:Hp}{s:FB}{p:GM}{f:List (ba×GM×V)}(I:Inv X b Z H s)(e:H p=O (DN p f)):s.TypeIs (.ref p) "dict" ∧ ∀a,Value.ref p=.ref a->∃d,s.heap.get? a=O d/\d.dict=Y:=by
 obtain⟨⟨_,_,_,_,o,_,_,g,ex,_⟩,_⟩:=(show aW X.prog X.w H s.heap p (DN p f) from I.xb p _ e)
 refine⟨⟨o,g,ex.1⟩,λa e2=>?_⟩;cases e2;exact⟨o,g,ex.2.1⟩
def IC(x:V)(H:Hp):Prop:=∃p a,x=.ref p/\H p=O (DN p a)
def Dj(r:V->List V->Hp->VK->Prop)(d:TE)(t:TA):TE:=λZ H Q=>d Z H λx a=>IC x a/\t Z a λb e=>r x b e Q
section
variable{X:Cx}{o e:Expr}{es:List Expr}{to:TE}{t:TA}{name:Str}{apos xh:Pos}{id:String}{r:V->List V->Hp->VK->Prop}
def A8(b:Slot "dict" name id)(B:typeOf (.builtin id)=pure (.type "method_descriptor"))(y:LF X id r)(w:PE X o to)(z:PA X (e :: es) t)(N:SZ o name X.env (eval o X.env)=eval o X.env)(L:((backTo xh (KM (e :: es) X.env)).all (λx=>!x.1)&&(backToKw xh (P3 [] X.env)).all (λx=>x.1.isSome)
   && decide ((e :: es).length+([]:List Keyword).length+(if ([]:List Keyword).isEmpty then 0 else 1)<30))=J)(P:(apos.endLine==xh.line)=J)(q:K0 e es X)(R:K1 xh es X) :
  PE X (.Call (.Attribute o name apos) (e :: es) [] xh) (Dj r to t):=by
 intro a s Z H Q I h;refine wpAny_Call_method_late N L P M (thn (w a s Z H _ I h) λv l ⟨x,G,f,r1,⟨p,U,ex,u⟩,n⟩=>?_);subst ex;obtain rfl:=(show v=Value.ref p from r1)
 obtain⟨h1,A⟩:=Ck f u;have d:=z xh a l Z G _ f n;refine⟨"dict",id,PySem.F.plainAttrs_dict,b,B,h1,A,?_⟩;rw[q]at d ⊢;exact Calls.callWith_builtin (by show (S||(backTo xh (KM es X.env)).any (·.1))=S;rw[R];rfl) (Calls.evalArgs_plain (thn d λi j ⟨g,D,C,r2,m⟩=>y a j Z D (.ref p) g _ i Q C M r2 m))
end
end p0
namespace VS
open PySem PySem.Spec PyProof.Rows p0
def Nc:T->Option Key
 |.int i=>O (.inl i)
 |.str x=>O (.inr (sx x))
 |_=>Y
def LY:T->Option (List Key)
 |.tup l=>l.mapM Nc
 |_=>Y
def wO:T->Option ba
 |.tup l=>l.mapM LY
 |_=>Y
def yQ{t:T}{i:Key}(h:Nc t=O i):t=aL i:=by cases t<;>simp[Nc]at h<;>subst h<;>rfl
theorem kj{α β:Type}{f:α->Option β}{g:β->α}(h:∀a b,f a=O b->a=g b):∀{l:List α}{m:List β},l.mapM f=O m->l=m.map g
 |[],m,e=>by simp at e;subst e;rfl
 |a :: l,m,e=>by
  simp only[List.mapM_cons,Option.pure_def,Option.bind_eq_bind]at e;obtain⟨b,d,e⟩:=Zz.mp e;obtain⟨bs,i,e⟩:=Zz.mp e;cases e;rw[Zt,← h a b d,← kj h i]
def yF{t:T}{k:List Key}(h:LY t=O k):t=.tup (k.map aL):=by
 cases t with
 |tup l=>exact congrArg T.tup (kj (λa b=>yQ) h)
 |_=>simp[LY]at h
def uY{t:T}{k:ba}(h:wO t=O k):t=DP k:=by
 cases t with
 |tup l=>exact congrArg T.tup (kj (λa b=>yF) h)
 |_=>simp[wO]at h
section
variable{G:Gx}{X:Cx}{a b c e o tg:Expr}{es:List Expr}{ca cb cc ce ck cv:Ex}{cs:D5}{pos p p1 p2 apos xh pos' G9 FO lp:Pos}{k k' kr i:Nat}
def Rp.Nk{H:Hp}{v:V}{k:Key}{F:Wn}(r:Rp G H v (aL k) F):v=kV k:=by
 obtain⟨q,rfl,e⟩:=fq r (by cases k<;>rfl);rw[(fM q k).mp (e ▸ (fM q q).mpr M)]
theorem tx.ints{H:Hp}:∀{k:List Key}{d:List V}{f:Yb},tx G H d (k.map aL) f->d=k.map kV
 |[],_,_,r=>by rw[YF]at r;cases r;rfl
 |i :: k,_,_,r=>by
  rw[Zt]at r;cases r with
  |cons h t=>rw[Zt,← tx.ints t,Rp.Nk h]
def Rp.F6{H:Hp}{v:V}{f:Vd}{F:Wn}(r:Rp G H v (.tup f) F):∃b d g,v=.ref b/\H b=O (.tup d)/\tx G H d f g:=by
 cases r with
 |tup h q=>exact⟨_,_,_,rfl,h,q⟩
def AR{H:Hp}{v:V}{k:ba}{F:Wn}(r:Rp G H v (DP k) F):∃b,v=.ref b/\Fx H k b:=by
 obtain⟨b,d,f,rfl,h,q⟩:=Rp.F6 r;have all:∀{k:ba}{d:List V}{f:Yb},tx G H d (k.map λx=>T.tup (x.map aL)) f->∃cs:Wn,d=cs.map V.ref/\Paired (λ(x:List Key) (c:GM)=>H c=O (.tup (x.map kV))) k cs:=by
  intro k
  induction k with
  |nil=>intro d f q;rw[YF]at q;cases q;exact⟨[],rfl,.nil⟩
  |cons x k l =>
   intro d f q;rw[Zt]at q;cases q with
   |cons h t =>
    obtain⟨c,m,n,rfl,g,j⟩:=Rp.F6 h;obtain⟨cs,e,pr⟩:=l t;rw[tx.ints j]at g;exact⟨c :: cs,by rw[e];rfl,.cons g pr⟩
 obtain⟨cs,e,pr⟩:=all q;exact⟨b,rfl,cs,by rw[h,e],pr⟩
def j5:∀(x y:ba),eqT (DP x) (DP y)=decide (x=y):=by
 intro x y;unfold DP;rw[eqT]
 induction x generalizing y with
 |nil=>cases y<;>simp[il]
 |cons i x d =>
  cases y with
  |nil=>simp[il]
  |cons j y =>
   rw[Zt,Zt,il,d y,show eqT (T.tup (i.map aL)) (T.tup (j.map aL))=decide (i=j) from yE j i];simp only[YC,Bool.decide_and]
abbrev D8(f:List (ba×GM))(d:List V):List (ba×GM×V):=(f.zip d).map λp=>(p.1.1,p.1.2,p.2)
theorem jU{H:Hp}{k:ba}:∀{d:List (ba×GM)}{f:List V}{ts:Vd}{Fs:Yb},d.length=f.length->tx G H f ts Fs →
  (((d.map λp=>DP p.1).zip ts).findIdx? (λq=>eqT q.1 (DP k))=Y/\FR (D8 d f) k=Y) ∨
  ∃(j:Nat)(v:V)(t:T)(F:Wn),((d.map λp=>DP p.1).zip ts).findIdx? (λq=>eqT q.1 (DP k))=O j/\(d.map λp=>DP p.1)[j]?=O (DP k)/\ts[j]?=O t/\FR (D8 d f) k=O v/\f[j]?=O v/\Fs[j]?=O F/\Rp G H v t F
 |[],[],_,_,_,.nil=>.inl ⟨rfl,rfl⟩
 |k' :: d,v :: f,_,_,n,.cons (t:=t) (F:=F) (ts:=ts) (Fs:=Fs) r q=>by
  by_cases g:k'.1=k
  ·refine .inr ⟨0,v,t,F,?_,by simp[g],rfl,by simp[FR,D8,g],rfl,rfl,r⟩;rw[Zt,ZC,YZ,Zr (by rw[j5];exact ZT g)]
  ·have e1:((((k' :: d).map λp=>DP p.1).zip (t :: ts)).findIdx? λq=>eqT q.1 (DP k))=((((d.map λp=>DP p.1).zip ts)).findIdx? λq=>eqT q.1 (DP k)).map (·+1):=by
    rw[Zt,ZC,YZ,Zm (by rw[j5];simp[g])]
   have e2:FR (D8 (k' :: d) (v :: f)) k=FR (D8 d f) k:=by simp[FR,D8,g]
   rcases jU (k:=k) (by simpa using n) q with⟨h1,h⟩ | ⟨j,l,m,z,h1,h,y,x,w,u,s⟩
   ·exact .inl ⟨by rw[e1,h1];rfl,by rw[e2];exact h⟩
   ·exact .inr ⟨j+1,l,m,z,by rw[e1,h1];rfl,by simpa using h,by simpa using y,by rw[e2];exact x,by simpa using w,by simpa using u,s⟩
def ou{H:Hp}{v:V}{l:List (T×T)}{F:Wn}(r:Rp G H v (.dct 2 l) F):∃(a:GM)(d:List (ba×GM))(f:List V)(g:Vd)(j:Yb),v=.ref a/\F=a :: j.flatten/\H a=O (DN a (D8 d f))/\d.length=f.length/\(∀p∈d,Fx H p.1 p.2)/\l=(d.map λp=>DP p.1).zip g/\tx G H f g j:=by
 cases r with
 |dctN h m n q=>exact⟨_,_,_,_,_,rfl,rfl,h,m,n,rfl,q⟩
def kc{H:Hp}{d:List (ba×GM)}{f:List V}(h:∀p∈d,Fx H p.1 p.2):∀p∈D8 d f,Fx H p.1 p.2.1:=λp j=>by
 obtain⟨q,g,rfl⟩:=Yr.mp j;exact h q.1 (WD (a:=q.1) (b:=q.2) g).1
def bG(l:List (T×T))(k:T):List (T×T):=if (l.findIdx? λp=>eqT p.1 k).isSome then l else l++[(k,.lst [])]
def oH(f:T->Option (T×Val))(l:List (T×T))(k:T):Option (List (T×T)):=(l.findIdx? λp=>eqT p.1 k).bind λj=>(l[j]?).bind λp=>(f p.2).map λz=>l.set j (p.1,z.1)
def gS(i:Nat)(k:Ex)(v:D5)(U:VS.Env):Option Out:=match U[i]? with
 |some (some (.ow (.dct 2 l)))=>(k U).bind λd=>if (wO d.2).isSome/\l.length<fC then
   (v (U.set i (O (.ow (.dct 2 (bG l d.2)))))).bind λf=>(oH (λx=>bx x f) (bG l d.2) d.2).map λz=>.nx (U.set i (O (.ow (.dct 2 z)))) else Y
 |_=>Y
def tj(i:Nat){x:Str}(hr:xt kr X.A)(hk:PV G X b ck)(hv:Fc G X [e] cs)(hK:X.K=G.K)(hN:X.N[i]?=O x)(Jv:FX X.env.scope x)(hd:K2 x)(D4:K3 x)(Oh:SZ (.Name x p1) "setdefault" X.env (eval (.Name x p1) X.env)=eval (.Name x p1) X.env)(N6:((backTo FO (KM [b,.List [] lp] X.env)).all (λx=>!x.1)&&(backToKw FO (P3 [] X.env)).all (λx=>x.1.isSome)
   && decide ([b,Expr.List [] lp].length+([]:List Keyword).length+(if ([]:List Keyword).isEmpty then 0 else 1)<30))=J)(Hd:(G9.endLine==FO.line)=J)(KI:KM [b,.List [] lp] X.env=(S,eval b X.env) :: KM [.List [] lp] X.env)(Jx:KM [.List [] lp] X.env=(S,eval (.List [] lp) X.env) :: KM [] X.env)(Mc:(backTo FO (KM [.List [] lp] X.env)).any (·.1)=S)(Hx:SZ (.Call (.Attribute (.Name x p1) "setdefault" G9) [b,.List [] lp] [] FO) "append" X.env (eval (.Call (.Attribute (.Name x p1) "setdefault" G9) [b,.List [] lp] [] FO) X.env)=eval (.Call (.Attribute (.Name x p1) "setdefault" G9) [b,.List [] lp] [] FO) X.env)(N5:((backTo xh (KM [e] X.env)).all (λx=>!x.1)&&(backToKw xh (P3 [] X.env)).all (λx=>x.1.isSome)
   && decide ([e].length+([]:List Keyword).length+(if ([]:List Keyword).isEmpty then 0 else 1)<30))=J)(EL:(apos.endLine==xh.line)=J)(FJ:K0 e [] X)(Ik:(backTo xh (KM [] X.env)).any (·.1)=S)(KG:swapsWith (.Call (.Attribute (.Call (.Attribute (.Name x p1) "setdefault" G9) [b,.List [] lp] [] FO) "append" apos) [e] [] xh) Y pos.line X.env=pure S) :
  PSV G X (.Expr (.Call (.Attribute (.Call (.Attribute (.Name x p1) "setdefault" G9) [b,.List [] lp] [] FO) "append" apos) [e] [] xh) pos) (gS i ck cs) :=
 PS.weak (lT (rB WT WV WW g9
  (A8 Xl PySem.F.type_dict_setdefault (qi (by have:=hr.un;lia)) (fh hN Jv hd D4) (dc hk (dc (md eQ) eQ Jx) KI) Oh N6 Hd KI Mc) hv Hx N5 EL FJ Ik) KG) λD Z H W=>by
  obtain⟨L,U,out,s,e,k⟩:=W;refine p0.fO λP_ k_=>?_;unfold gS at e;split at e
  ·rename_i l hl;obtain⟨⟨mk,tk⟩,Iw,e⟩:=Zz.mp e;split at e
   ·rename_i hc;obtain⟨c1,c2⟩:=hc;obtain⟨lv,ev,e⟩:=Zz.mp e;obtain⟨t',e5,e6⟩:=Zn.mp e;cases e6;obtain⟨d,Qu⟩:=XS.mp c1;dsimp only at Qu;have Ml:=uY Qu;subst Ml;obtain⟨v,g1,g2⟩:=s.rp _ _ hl;have HH:=s.nd i _ hl;obtain⟨a,ns,f,r,Fs,rfl,eΦ,ha,EW,GU,el,R⟩:=ou g2;subst el;rw[eΦ]at HH;refine k_ ?_;refine⟨.ref a,g1,⟨a,_,rfl,ha⟩,?_⟩;refine⟨L,U,mk,DP d,s,Iw,λkv n Fk F8 rk fk=>⟨ZM _,λq W=>?_⟩⟩;obtain⟨m,rfl,Tj⟩:=AR rk;dsimp only at Iw e5 ev c1;have fin:∀(I:Hp)(M:List (ba×GM))(Jc:List V)(Kh:Vd)(P:Yb)(w:V),bG ((ns.map λp=>DP p.1).zip r) (DP d)=(M.map λp=>DP p.1).zip Kh->EV G H (.ref a) (L i) (.dct 2 (bG ((ns.map λp=>DP p.1).zip r) (DP d))) I (a :: P.flatten) →
      I a=O (DN a (D8 M Jc))->M.length=Jc.length->(∀p∈M,Fx I p.1 p.2)->tx G I Jc Kh P->FR (D8 M Jc) d=O w →
      tyV X.K "list" w I/\Kj G cs Z I (λJd H4=>jO w Jd H4 (λ_ H5=>D.nx Z H5)):=λI M Jc Kh P w es g h3 Fz KO Kq hw=>by
     refine p0.fO λP_ k_=>?_;obtain⟨z1,z2⟩:=s.mut hl g1 g;have Jw:(U.set i (O (.ow (.dct 2 (bG ((ns.map λp=>DP p.1).zip r) (DP d))))))[i]?=O (O (.ow (.dct 2 (bG ((ns.map λp=>DP p.1).zip r) (DP d))))):=by
      have hi:i<U.length:=(ZY.mp hl).1;rw[Xp hi]
     rcases jU (G:=G) (k:=d) Fz Kq with⟨_,C⟩ | ⟨j,w',x',F1,h1,C,h4,h5,h6,h7,h8⟩
     ·rw[C]at hw;cases hw
     rw[h5]at hw;obtain rfl:=ZJ hw;rw[es]at e5;unfold oH at e5;rw[h1,Zq,show ((M.map λp=>DP p.1).zip Kh)[j]?=O (DP d,x') from by rw[XU];exact⟨C,h4⟩,Zq]at e5;obtain⟨⟨x3,y'⟩,w4,e7⟩:=Zn.mp e5;have Sm:F1.Nodup:=((ZU.mp g.nd).2).sublist (gh h7);refine k_ ?_;refine⟨by rw[hK];exact gM h8 w4,ic L i (a :: P.flatten),_,lv,z1,ev,λJd H4 O9 q1 q2 q3=>?_⟩;refine jr (ic L i (a :: P.flatten)) _ I H4 w' x' x3 F1 lv Jd O9 y' _ h8 Sm ⟨q1,q2,q3⟩ w4 λu H5 F' g5=>?_;obtain⟨s1,s2,s3,s4,s5⟩:=rh h3 Kq g.nd h6 h7 g5;have g6:EV G I (.ref a) (ic L i (a :: P.flatten) i) (.dct 2 t') H5 (a :: (P.set j F').flatten):=by
      rw[fN];refine⟨g5.kept,s5,g5.DY,?_,s3,s4⟩;rw[← e7,mE _ Kh j _ x3 C];exact .dctN s1 Fz (λp B=>(KO p B).mono g5.kept.tup) s2
     obtain⟨y1,y2⟩:=z1.mut Jw g1 g6;rw[List.set_set]at y1 y2;exact k _ Z H5 y1 (z2.trans y2)
    have Gq:aM n (upd n q (.lst [])):=bL W;have Q:aM H (upd n q (.lst [])):=F8.trans Gq;have FK:upd n q (.lst []) a=O (DN a (D8 ns f)):=Q a _ ha;have JF:∀p∈ns,Fx (upd n q (.lst [])) p.1 p.2:=λp B=>(GU p B).mono λb xs z=>Q b _ z;have KS:Fx (upd n q (.lst [])) d m:=Tj.mono λb xs z=>Gq b _ z;have ln:(D8 ns f).length<sizeLine:=by
     have:((ns.map λp=>DP p.1).zip r).length<16777216:=c2;rw[Yz,Zv]at this;rw[Zv,Yz];have:=R.len.1;have:(FS:Nat)=16777216:=rfl;lia
    have dg:=jU (G:=G) (k:=d) EW R;refine⟨a,m,D8 ns f,d,.ref q,rfl,rfl,FK,kc JF,KS,ln,λw hw=>?_,λhn=>?_⟩
    ·have es:bG ((ns.map λp=>DP p.1).zip r) (DP d)=(ns.map λp=>DP p.1).zip r:=by
      unfold bG;rcases dg with⟨h1,C⟩ | ⟨_,_,t2,_,h1,_⟩
      ·rw[C]at hw;cases hw
      ·rw[h1];rfl
     refine fin _ ns f r Fs w es ?_ FK EW JF (R.same Q) hw;rw[es,eΦ];exact EV.none Q (by rw[eΦ]at g2;exact g2) HH
    ·have es:bG ((ns.map λp=>DP p.1).zip r) (DP d)=((ns++[(d,m)]).map λp=>DP p.1).zip (r++[.lst []]):=by
      unfold bG;rcases dg with⟨h1,C⟩ | ⟨_,_,t2,_,h1,_,_,C,_⟩
      ·rw[h1,Zm (by simp),Ym,XQ (by rw[Zv];exact EW.trans R.len.1)];rfl
      ·rw[C]at hn;cases hn
     have ep:D8 ns f++[(d,m,.ref q)]=D8 (ns++[(d,m)]) (f++[.ref q]):=by
      unfold D8;rw[XQ EW,Ym];rfl
     have qa:q≠a:=λz=>by
      have:n a=O (DN a (D8 ns f)):=F8 a _ ha;rw[← z,W]at this;cases this
     have qH:H q=Y:=F8.free W;have m2:DI (upd n q (.lst []) a):=by rw[FK];exact True.intro
     have nd:=ZU.mp HH;have qF:q∉Fs.flatten:=λz=>DI.td (R.DY q z) qH;rw[ep];have Ov:upd (upd n q (.lst [])) a (DN a (D8 (ns++[(d,m)]) (f++[.ref q]))) q=O (.lst []):=by rw[av qa,aw]
     have rq:Rp G (upd (upd n q (.lst [])) a (DN a (D8 (ns++[(d,m)]) (f++[.ref q])))) (.ref q) (.lst []) (q :: ([]:Yb).flatten):=.lst Ov .nil;have kp:Kept (upd n q (.lst [])) (upd (upd n q (.lst [])) a (DN a (D8 (ns++[(d,m)]) (f++[.ref q])))):=Kept.upd (.inl m2);have ln2:(ns++[(d,m)]).length=(f++[V.ref q]).length:=by simp[EW]
     have KZ:∀p∈ns++[(d,m)],Fx (upd (upd n q (.lst [])) a (DN a (D8 (ns++[(d,m)]) (f++[.ref q])))) p.1 p.2:=λp B=>by
      rcases Zc.mp B with B | B
      ·exact(JF p B).mono kp.tup
      ·rw[Zf.mp B];exact KS.mono kp.tup
     have Kq:=((R.same Q).off (o:=DN a (D8 (ns++[(d,m)]) (f++[.ref q]))) m2 nd.1).append (.cons rq .nil);refine fin _ (ns++[(d,m)]) (f++[.ref q]) (r++[.lst []]) (Fs++[[q]]) (.ref q) es ?_ aw ln2 KZ Kq ?_
     ·rw[es,eΦ];refine EV.upd Q Zx m2 (.dctN aw ln2 KZ Kq) ?_ ?_
      ·rw[Gk];refine ZU.mpr ⟨λz=>?_,ZA.mpr ⟨nd.2,by simp,λx hx y t z=>?_⟩⟩
       ·rcases Zc.mp z with z | z
        ·exact nd.1 z
        ·have h:a=q:=by simpa using z
         exact qa h.symm
       ·subst z;exact qF (by simpa[show x=q by simpa using t] using hx)
      ·intro y t;rcases Zo.mp t with rfl | t
       ·exact .inl Zx
       ·rw[Gk]at t;rcases Zc.mp t with t | t
        ·exact .inl (Zw _ t)
        ·rw[show y=q by simpa using t];exact .inr qH
     ·rw[← ep];unfold FR at hn ⊢;rw[List.find?_append,Option.map_eq_none_iff.mp hn];simp
   ·cases e
  ·cases e
end
end VS
end
section
namespace p0
open PySem PySem.Spec PyProof.Rows
section
variable{X:Cx}{tg:Expr}{pos:Pos}
def Bh:TE:=λ_ H Q=>∀p,H p=Y->Q (.ref p) (upd H p (DN p []))
def uX:PE X (.Dict [] [] pos) Bh:=λb s Z H Q I h =>
 wpAny_Dict_empty ⟨.ref s.heap.objs.size,_,I.laid (a:=s.heap.objs.size) (o:=DN s.heap.objs.size []) (t':=s.toks) (λ_ _ q=>Zg _ q) (Zs _)
  (vU (xs:=[]) (ZM _) (beq_eq_false_iff_ne.mpr (YE (ZL I.big))) .nil (Heap.DictOfH.new s.heap)),rfl,h _ (I.xb.fresh (Zs _))⟩
def mN{a:Yh}{Z:St}{H:Hp}{s:FB}{d:GM}{b:List (ba×GM×V)}{o:Obj}(I:Inv X a Z H s)(e:H d=O (DN d b))(g:s.heap.get? d=O o):Inv X a Z (upd H d (.frz o (DN d b))) s :=
 hU (t':=s.toks) I (by rw[e];exact True.intro) ⟨rfl,λ_ _=>rfl⟩ ⟨o,g⟩ ⟨g,I.xb d _ e⟩
def QJ(d:GM)(o:Obj)(a:List (ba×GM×V)):It :=
 ⟨λi H=>H d=O (.frz o (DN d a))/\i<a.length,λi H x b=>b=H/\∃p,a[i]?=O p/\x=.ref p.2.1,λi H=>H d=O (.frz o (DN d a))/\a.length<=i⟩
def KN.get{l:List (ba×GM×V)}{m:List (ba×GM×IR)}(r:KN l m){i:Nat}{q:ba×GM×IR}(h:m[i]?=O q):∃p,l[i]?=O p/\p.1=q.1/\p.2.1=q.2.1:=by
 induction r generalizing i with
 |nil=>simp at h
 |@cons b f g e a t d =>
  cases i with
  |zero=>simp at h;subst h;exact⟨b,rfl,a.1,a.2.1⟩
  |succ i=>simpa using d (by simpa using h)
def KN.keys{l:List (ba×GM×V)}{m:List (ba×GM×IR)}(r:KN l m):l.map (·.1)=m.map (·.1):=by
 induction r with
 |nil=>rfl
 |cons b _ a=>rw[Zt,Zt,b.1,a]
def Ax{P:PP}{w:SL}{K:Xj}(d l:GM){U:List (ba×GM×V)}{t:Array DictEntry}{x:Nat}{R:List (ba×GM×IR)}(j:KN U R)(B:t.toList=R.map (C1 w)) :
  Turn P w K tg (QJ d (ST.dO t x) U) [l] l (λi h=>h.get? l=O (ST.kO d i t.size x)) where
 mem:=by simp
 obj:=λi h st b a=>by
  rw[Zf.mp a];exact⟨_,st,λv z=>by cases z⟩
 keep:=λi h r st k=>k l (by simp) _ st
 item:=by
  intro X D hw G C i f s Z H E I u st n;subst D hw G;obtain⟨Q,f1,f2,N,M,L⟩:=u l (by simp);refine ST.nL (I.ok.hd C) st (show s.heap.get? d=O (ST.dO t x) from(I.xb d _ n.1).1) (λe m r sb g=>?_) λA=>?_
  ·have I1:Inv X f Z H { s with heap:=r }:=I.turned (t':=s.toks) (λb o a e=>(sb.2 b a).trans e) Q f1 N M L;rw[← Gm,B,ZR]at m;obtain⟨q,y,rfl⟩:=Zn.mp m;obtain⟨p,W,_,a⟩:=j.get y;exact⟨_,rfl,oR (s:={ s with heap:=r }) g rfl rfl rfl ⟨.ref p.2.1,H,I1,by rw[a];rfl,⟨rfl,p,W,rfl⟩,g,λb a=>(u b a).1⟩⟩
  ·exfalso;rw[← Gm,B,Yw,Zv,← j.length]at A;exact absurd n.2 (by exact Vm A)
 done:=by
  intro X D hw G C i f s Z H E I u st n;subst D hw G;obtain⟨Q,f1,f2,N,M,L⟩:=u l (by simp);refine ST.nL (I.ok.hd C) st (show s.heap.get? d=O (ST.dO t x) from(I.xb d _ n.1).1) (λe m r sb g=>?_) λA r kp=>⟨rfl,I.turned (t':=s.toks) (λb o a e=>kp b o a e) Q f1 N M L⟩
  exfalso;rw[← Gm,B,ZR]at m;obtain⟨q,y,rfl⟩:=Zn.mp m;have:=(ZY.mp y).1;have h2:=n.2;rw[j.length]at h2;lia
 self:=λ_ _ _ _ _ st hQ=>wpAny_pyIter_slot ⟨_,st,rfl⟩ F.slot_dict_keyiterator_iter (XM F.slot_dict_keyiterator_iter ⟨_,st,rfl⟩ F.entry_dict_keyiterator_iter (show KB _ _ (ret (.ref l)) _ _ _ from Zp ⟨_,rfl, "dict_keyiterator",_,⟨_,st,rfl⟩,Xa.lookup,hQ⟩) (F.args_dict_keyiterator_iter_1 _))
def SI(e:TE):TI:=λZ H R=>e Z H λx b=>∃d a,x=.ref d/\b d=O (DN d a)/\∀o,a.length<=FS->(a.map (·.1)).Nodup->R (QJ d o a) (upd b d (.frz o (DN d a)))
def vy{o:Obj}{f:Array DictEntry}{g:Nat}(h:o.ExactDict)(e:o.data=.dict f g):o=ST.dO f g:=by
 obtain⟨c,d,j,i⟩:=o;obtain⟨h1,b,a⟩:=h;simp only at h1 b a e;subst h1 b a e;rfl
def CZ{l:Expr}{j:TE}(r:PE X l j):PI X tg l (SI j):=by
 intro f s Z H R I h;refine thn (r f s Z H _ I h) λv a ⟨x,C,i,r1,m⟩=>?_;obtain⟨d,n,ex,e,q⟩:=m;subst ex;cases r1;obtain⟨⟨z,y,D,rel,o,F,G,g,ex,hd,t,p⟩,_⟩:=(show aW X.prog X.w C a.heap d (DN d n) from i.xb d _ e)
 have A:=vy ex hd;subst A;refine ST.ve y g ?_;refine⟨a.heap.objs.size,[a.heap.objs.size],_,_,_,rfl,(mN i e g).kept (t':=a.toks) λb o e=>Zg _ e,Ax d _ rel t,ZX _ M,λb u=>?_,q _ z (by rw[rel.keys];exact p)⟩;have B:b=a.heap.objs.size:=by simpa using u
 subst B;exact(mN i e g).Fm (Zs _) ((mN i e g).xb.fresh (Zs _))
def Di:R2:=λx y H Q=>∃d o a k b v,x=.ref d/\y=.ref b/\H d=O (.frz o (DN d a))/\(∀p∈a,Fx H p.1 p.2.1)/\Fx H k b/\FR a k=O v/\Q v H
def Dg(hu:X.A.units+2<cLine):Hh X Di:=by
 intro value slice f s Z H x y v u Q I R P h hs;obtain⟨d,o,B,k,b,w,rfl,rfl,e,G5,hk,hw,q⟩:=h;cases R;obtain rfl:=(show u=Value.ref b from P)
 obtain⟨g,ok⟩:=(show aW X.prog X.w H s.heap d (.frz o (DN d B)) from I.xb d _ e)
 obtain⟨⟨z,y,j,rel,U,es,ep,h1,h2,h3,h4,h5⟩,_⟩:=(show aW X.prog X.w H s.heap d (DN d B) from ok)
 have all:∀{l:List (ba×GM×V)}{m:List (ba×GM×IR)},KN l m->(∀p∈l,Fx H p.1 p.2.1)->∀x∈m,NK.FY (aX X.prog X.w) s.heap x.1 x.2.1:=by
  intro l m q
  induction q with
  |nil=>intro _ x a;exact nomatch a
  |@cons p q ps qs D t W =>
   intro G x a;rcases Zo.mp a with e | a
   ·subst e;rw[← D.1,← D.2.1];exact(G p Zx).is I.xb
   ·exact W (λp n=>G p (Zw _ n)) x a
 have M:s.heap.DictOfH (NK.nest (aX X.prog X.w)) d j:=⟨U,es,ep,h1,h2,h3,h4,λx a=>all rel G5 x a,h5⟩
 have L:=M.typeIs;have i:=rel.at k;rw[hw]at i;obtain⟨pv,n,rp⟩:∃pv,atKey j k=O pv/\RelV w pv.2:=by
  cases C:atKey j k with
  |none=>rw[C]at i;exact False.elim i
  |some pv=>rw[C]at i;exact⟨pv,rfl,i⟩
 unfold subscriptTail;refine Zy ?_;rw[getitemInPython_of_ne L.not_modules];refine Zy (XB L PySem.F.slot_dict_getitem.lookup ?_);have fin:KB (FM X.prog X.w) X.A (subscripted slice S (.ref d) (.ref b)) (λr N=>KB (FM X.prog X.w) X.A (letTemporaryGo value (.ref d) r >>= λ_=>pure r) (EP X f Z Q) X.xe N) X.xe s:=by
  rw[hs];exact wpAny_operating (wpAny_getItem_heap (knd:=NK.nest (aX X.prog X.w)) (by show X.A.units+1+1<cLine;omega) (hk.is I.xb) M n (Zy (wpAny_letTemporaryGo (Zp ⟨w,H,I.tok _,rp,q⟩))))
 first
  |exact Zp (Zy fin)
  |exact Zy (Zp (Zy fin))
  |exact Zy fin
def zS{a:List (ba×GM×V)}:∀{i:Nat}{p:ba×GM×V},(a.map (·.1)).Nodup->a[i]?=O p->FR a p.1=O p.2.2:=by
 induction a with
 |nil=>intro i p _ h;simp at h
 |cons x l f =>
  intro i p b h;rw[Zt,ZU]at b;cases i with
  |zero=>simp at h;subst h;simp[FR]
  |succ i =>
   have d:l[i]?=O p:=by simpa using h
   have ne:x.1≠p.1:=λe=>b.1 (by rw[e];exact Yr.mpr ⟨p,YO d,rfl⟩);have:=f b.2 d;unfold FR at this ⊢;rw[Yx,ZP ne];exact this
end
end p0
namespace VS
open PySem PySem.Spec PyProof.Rows p0
section
variable{G:Gx}{X:Cx}{pos p p1 p2 p3 p4 Km:Pos}{kr i:Nat}{sc:Scope}
def yx:PV G X (.Dict [] [] pos) (oq 2 []):=PE.weak uX λZ H Q a=>by
 obtain⟨L,U,m,t,s,e,k⟩:=a;cases (show O (Md.fr,T.dct 2 [])=O (m,t) from e);intro q a;have:Rp G (upd H q (DN q [])) (.ref q) (.dct 2 ((([]:List (ba×GM)).map λp=>DP p.1).zip [])) (q :: ([]:Yb).flatten):=.dctN (vs:=[]) aw M (λp d=>by simp at d) .nil;exact k _ _ [q] (bL a) this ⟨by simp,λb f=>by rw[Zf.mp f];exact a⟩
def j8(i:Nat)(U:VS.Env):Option Out:=match U[i]? with
 |some (some (.ow (.dct 2 l)))=>O (.rt (.fr,.lst (l.map (·.2))) (U.set i Y))
 |_=>Y
def sT(i:Nat)(N:List Str){x y:Str}(hr:xt kr X.A)(Ej:X.calm=J)(hN:X.N[i]?=O x)(hv:FX X.env.scope x)(hd:K2 x)(D4:K3 x)(R:∀cl C s H fp,PG (cH X N sc cl C s H fp) (.Name y p3) (uS 0)/\PE (cH X N sc cl C s H fp) (.Name x p1) (yc (i+1))/\PE (cH X N sc cl C s H fp) (.Name y p2) (yc 0)/\(cH X N sc cl C s H fp).A.units=X.A.units)(Tp:jI (.Name y p2))(EK:iw X.env sc=J)(Gc:iO sc (N.drop 1) X.N=J)(Hy:1<=N.length)(hs:∀z,UF (.Name x p4) X.env z=pure z) :
  PSV G X (.Return (O (.ListComp (.Subscript (.Name x p1) (.Name y p2) p) [⟨.Name y p3,.Name x p4,[],0⟩] sc pos)) Km) (j8 i) :=
 PS.weak (p9 (ng (k:=1) Ej (CZ (fh hN hv hd D4)) EK Gc Hy (λcl C s H fp=>⟨(R cl C s H fp).1,oW,wK (Dg (by have:=hr.un;rw[(R cl C s H fp).2.2.2];lia)) (R cl C s H fp).2.1 (R cl C s H fp).2.2.1 Tp⟩) hs)) λD Z H u=>by
  obtain⟨L,U,out,s,e,k⟩:=u;refine p0.fO λP_ k_=>?_;unfold j8 at e;split at e
  ·rename_i l B;cases e;obtain⟨v,g1,g2⟩:=s.rp _ _ B;have HH:=s.nd i _ B;obtain⟨a,ns,d,ts,Fs,rfl,P,ha,EW,GU,el,W⟩:=ou g2;subst el;rw[P]at HH;have nd:=ZU.mp HH;refine k_ ?_;refine⟨.ref a,g1,a,D8 ns d,rfl,ha,λo hz NM g F=>?_⟩;have mu:DI (H a):=by rw[ha];exact True.intro
   have aD:g≠a:=λz=>by rw[z,aw]at F;cases F
   have Q:H g=Y:=by rw[av aD]at F;exact F
   have kp:∀I,Kept H (upd (upd H a (.frz o (DN a (D8 ns d)))) g (.lst I)):=λI=>(Kept.upd (.inl mu)).trans (Kept.upd (.inr F));refine⟨λj m Z' H'=>m+j=(D8 ns d).length/\(∃c,Z'=c :: Z)/\H'=upd (upd H a (.frz o (DN a (D8 ns d)))) g (.lst (((D8 ns d).take j).map (·.2.2))),⟨(D8 ns d).length,rfl,⟨Y,rfl⟩,rfl⟩,?_⟩;rintro j m Z' H' ⟨hm,⟨c,rfl⟩,rfl⟩;have N1:∀I,upd (upd H a (.frz o (DN a (D8 ns d)))) g (.lst I) a=O (.frz o (DN a (D8 ns d))):=λI=>by rw[av (YE aD),aw]
   by_cases hj:j<(D8 ns d).length
   ·refine .inr ⟨⟨N1 _,hj⟩,?_⟩;rintro x' H2 ⟨rfl,q,u,rfl⟩;refine⟨.ref a,?_,.ref q.2.1,?_,a,o,D8 ns d,q.1,q.2.1,q.2.2,rfl,rfl,N1 _,λr hr=>(kc GU r hr).mono (kp _).tup,(kc GU q (YO u)).mono (kp _).tup,zS NM u,?_⟩
    ·show (Z:p0.St)[i]?=_;exact g1
    ·rfl
    ·refine⟨_,aw,?_,m-1,by omega,by lia,⟨_,rfl⟩,?_⟩
     ·rw[Zv,ZO];lia
     ·rw[yk,List.take_add_one,u,Ym];rfl
   ·have ej:(D8 ns d).take j=D8 ns d:=GG (by exact Xv hj);refine .inl ⟨⟨N1 _,by exact Xv hj⟩,?_⟩;rw[ej];have ev:(D8 ns d).map (·.2.2)=d:=by
     unfold D8;rw[Yy];exact X3 (XF EW.symm)
    have et:((ns.map λp=>DP p.1).zip ts).map (·.2)=ts:=X3 (by rw[Zv,EW,W.len.1];exact Zs _);rw[ev];have nF:∀b∈Fs.flatten,b≠a/\b≠g:=λb w=>⟨λz=>nd.1 (z ▸ w),λz=>DI.td (W.DY b w) (z ▸ Q)⟩
    have Da:∀b,H b≠Y->b≠g:=λb h z=>h (z ▸ Q);have ai:bT L U a:=⟨i,_,B,by rw[P];exact Zx⟩
    have sub:∀b,bT L (U.set i Y) b->bT L U b/\b≠a:=λb ⟨j,t,h1,f⟩=>⟨⟨j,t,(bU h1).2,f⟩,λz=>by
     subst z;exact s.sep i j _ _ B (bU h1).2 (bU h1).1.symm b (by rw[P];exact Zx) f⟩
    have Jg:∀b,di L (U.set i Y) b->di L U b/\b≠a:=λb ⟨j,t,h1,f⟩=>⟨⟨j,t,(bU h1).2,f⟩,λz=>by
     subst z;exact s.sep i j _ _ B (bU h1).2 (bU h1).1.symm b (by rw[P];exact Zx) f⟩
    have T9:∀b,bT L U b->H b≠Y:=λb u=>by
     obtain⟨j,t,h1,f⟩:=u;obtain⟨v',_,r'⟩:=s.rp _ _ h1;exact DI.td (r'.DY b f)
    have T8:∀b,di L U b->H b≠Y:=λb u=>by
     obtain⟨j,t,h1,f⟩:=u;obtain⟨v',_,r'⟩:=s.rp _ _ h1;exact DI.td (r'.DY b f)
    rw[et]at k;refine k (.ref g) _ (g :: Fs.flatten) L Z (SR.off (SR.off (s.drop i) (.inl mu) (λz=>(Jg a z).2 M) λz=>(sub a z).2 M) (.inr F) (λz=>T8 _ (Jg _ z).1 Q) λz=>T9 _ (sub _ z).1 Q) ⟨λb ob h n=>⟨?_,λz=>n (sub b z).1⟩,λb h=>?_,λb z=>.inl (sub b z).1,λb z=>.inl (Jg b z).1,kp _⟩ (.lst aw (W.keep (kp _) λb w ob h=>?_)) ⟨ZU.mpr ⟨λz=>(nF g z).2 M,nd.2⟩,λb w=>?_⟩
    ·have h1:b≠a:=λz=>n (z ▸ ai);have f:b≠g:=Da b (by rw[h];simp);rw[av f,av h1];exact h
    ·rw[av (Da b h)];by_cases z:b=a
     ·rw[z,aw];simp
     ·rw[av z];exact h
    ·rw[av (nF b w).2,av (nF b w).1];exact h
    ·rcases Zo.mp w with rfl | w
     ·exact .inl Q
     ·exact .inr ⟨i,_,B,by rw[P];exact Zw _ w⟩
  ·cases e
end
section
variable{G:Gx}{X:Cx}{pos:Pos}
def yN{x:Str}{t:Tx}{j:Nat}{q n:Pos}(h:x=sx t)(w:ip t):PV G X (.Dict [O (.Constant (.str x) j q)] [.List [] n] pos) (oq 0 [(eC (.str t),gR aC)]) :=
 PE.weak (xT (wC vi (md eQ) yG) M M (by simp) (by show 1<=15;decide)) λZ H Q u=>by
  obtain⟨L,U,m,r,s,e,k⟩:=u;subst h;cases (show O (Md.fr,T.dct 0 [(.str t,.lst [])])=O (m,r) from e);intro p g;refine⟨ZM _,λb d=>?_⟩;have f:b≠p:=λz=>by rw[z,aw]at d;cases d
  have i:H b=Y:=by rw[av f]at d;exact d
  refine⟨by rw[av (YE f),aw],[(Sum.inr (sx t),.ref b)],rfl,(by show 1<=15;decide),?_⟩;have v:aL (Sum.inr (sx t))=.str t:=rfl;have l:aM H (upd (upd (upd H p (.dK [])) b (.lst [])) p (.dK (i5 [] [(Sum.inr (sx t),.ref b)]))):=λc o a=>by
   rw[av (aR a g),av (aR a i),av (aR a g)];exact a
  have:Rp G (upd (upd (upd H p (.dK [])) b (.lst [])) p (.dK [(Sum.inr (sx t),.ref b)])) (.ref p) (.dct 0 ((([Sum.inr (sx t)]:List Key).map aL).zip [.lst []])) (p :: ([[b]]:Yb).flatten) :=
   .dct (ks:=[Sum.inr (sx t)]) (vs:=[V.ref b]) aw M (.cons (F:=b :: ([]:Yb).flatten) (.lst (by rw[av f,aw]) .nil) .nil)
  simp only[Zt,YF,v,ZC,List.zip_nil_right]at this;exact k _ _ _ l this ⟨by simp[YE f],λc a=>by
   rcases Zo.mp a with rfl | a
   ·exact g
   ·simp at a;rw[a];exact i⟩
end
end VS
end
section
open PySem PyProof.Rows
namespace TS
variable{prog:PP}{w:SL}{A:Pi}{E:Yl}{s:FB}{G:KF->Prop}{r:KF->KF->Bool}
def dq(h:SC)(a:GM)(b:Wm):Addr:=((h.update a (Obj.mapSeq λ_=>#[])).push (seqObj "tuple" b.toArray 0)).objs.size
def i0(h:SC)(a:GM)(b:Wm):dq h a b=h.objs.size+1:=by unfold dq;rw[Xr,Y6]
structure KeyPre(prog:PP)(w:SL)(A:Pi)(E:Yl)(P:PySem.Fin->FB->Prop)(f:IR)(a K:GM)(oa:Option Obj)(vs:Wm)(J:Wm->FB->Prop)(g:Wm->Wm:=id):Prop where
 keys:∀ks s',J ks s'->∃e,s'.heap.get? K=some (seqObj "list" ks.toArray e)
 self:∀ks s',J ks s'->s'.heap.get? a=oa
 step:∀ks x s',vs[ks.length]?=some x->J ks s'->KB (FM prog w) A (call f [x]) (λk s2=>(∃e,s2.heap.get? K=some (seqObj "list" ks.toArray e))/\J (ks++[k]) { s2 with heap:=s2.heap.update K (Obj.mapSeq λxs=>xs.push k) }) (λ_ _=>False) s'
 fin:∀ks s',J ks s'->ks.length=vs.length->∃kd G r,Ep prog w A E s' kd G r/\(∀p∈ks.zip vs,G p)/\(2<=vs.length->∀Q:SortKind->FB->Prop,Q kd s'->KB (FM prog w) A (keyKind' ks.toArray) Q E s') ∧
  ∀out:List KF,out.Perm (ks.zip vs)->out.Pairwise (le r)->P (.done (.ret .none)) { s' with heap:=(s'.heap.update K (Obj.mapSeq λ_=>#[])).update a (Obj.mapSeq λ_=>(g (out.map (·.2))).toArray) }
def tX{a:GM}{f:IR}{vs:Wm}{n:Nat}{P:PySem.Fin->FB->Prop}{J:Wm->FB->Prop}(t:(f != Value.none)=true)(m:s.heap.get? a=O (seqObj "list" vs.toArray n))(i:vs.length<=FS)(X:J [] { s with heap:=bS s.heap a vs })(p:KeyPre prog w A E P f a (dq s.heap a vs) ((bS s.heap a vs).get? a) vs J) :
  KB (FM prog w) A (Builtin.«list.sort» ⟨[.ref a],[(("key" : Str),f)]⟩) P E s:=by
 obtain⟨o,R⟩:∃k,(s.heap.update a (Obj.mapSeq λ_=>#[])).get? a=O (seqObj "list" #[] k):=⟨_,Xm m _⟩
 have at2:=ma (vs:=vs) (ZZ m) R;have ne:a≠dq s.heap a vs:=by rw[i0];exact ZL (Xi (ZZ m))
 unfold Builtin.«list.sort»;refine(show KB (FM prog w) A (Builtin.List.listItems (.ref a)>>=_) P E s from ?_);refine Zy (X1 m M (Zy (YX m M (Zy (XA R M (Zy (wpAny_newTuple (Zy (Wq (YJ ?_))))))))));refine(show KB (FM prog w) A (if (f != Value.none)=true then _ else _) P E { s with heap:=bS s.heap a vs } from ?_);rw[Zr t];refine Zy (Wr (Zy ?_));rw[← XJ];refine Xn _ (λrest _ d=>∃b,J b d/\rest=vs.drop b.length/\b.length<=vs.length) _ ?turn ?fin _ _ ⟨[],X,by simp,by simp⟩
 case turn =>
  rintro x rest r d ⟨b,l,e,B⟩;have F:b.length<vs.length:=by
   have:=congrArg List.length e;rw[Zj,ZG]at this;omega
  have e2:x :: rest=vs[b.length] :: vs.drop (b.length+1):=by rw[e];exact YI F
  injection e2 with ex er
  have y:vs[b.length]?=O x:=by rw[Zh F,ex]
  refine Zy (Wp (Yn (p.step b x d y l) (λk v ⟨⟨e2,Z⟩,W⟩=>?_) λ_ _ z=>z.elim));have sz:b.toArray.size<=sizeLine:=by rw[Ze];exact ZV B i
  exact(show KB (FM prog w) A (Builtin.List.listUpdate (.ref (dq s.heap a vs)) (λU=>U.push k)>>=_) _ _ _ from Zy (YX Z M (Zp ⟨b++[k],W,by rw[er];simp,by simp;exact Wc F⟩) (hsz:=sz) (hsz2:=by rw[Array.size_push];exact Y2 sz)))
 case fin =>
  rintro r d ⟨b,l,e,B⟩;have EW:b.length=vs.length:=by
   have:=congrArg List.length e;rw[YY,ZG]at this;lia
  obtain⟨eK,C⟩:=p.keys b d l;have L:=p.self b d l;rw[at2]at L;obtain⟨kd,G,r,hC,hG,IM,hP⟩:=p.fin b d l EW;have fin:∀g:Pv,(arrOf g).Perm (b.zip vs).toArray->failedOf g=Y->(arrOf g).toList.Pairwise (le r)->P (.done (.ret .none)) { d with heap:=(d.heap.update (dq s.heap a vs) (Obj.mapSeq λ_=>#[])).update a (Obj.mapSeq λ_=>(arrOf g).map (·.2)) }:=λg h _ j=>by
   have:=hP (arrOf g).toList (by simpa using YK.mp h) j
   rwa [id,← WH,W2]at this
  have u:(d.heap.update (dq s.heap a vs) (Obj.mapSeq λ_=>#[])).get? a=O (seqObj "list" #[] o):=by rw[Xd _ _ (YE ne)];exact L
  refine(show KB (FM prog w) A (if (f != Value.none)=true then _ else _) P E d from ?_);rw[Zr t];refine(show KB (FM prog w) A (Builtin.List.listItems (.ref (dq s.heap a vs))>>=_) P E d from Zy (X1 C M ?_));have room:∀g:Pv,(arrOf g).Perm (b.zip vs).toArray->((arrOf g).map (·.2)).size<=FS+1:=λg h=>by
   rw[Array.size_map,h.size_eq,Ze,Yz];lia
  have N:b.toArray.size<=sizeLine:=by rw[Ze];exact ZV B i
  have D:b.toArray.zip vs.toArray=(b.zip vs).toArray:=by simp
  by_cases two:2<=vs.length
  ·have no:¬(vs.toArray.size<2):=by rw[Ze];exact Vm two
   refine(show KB (FM prog w) A (if vs.toArray.size<2 then _ else _) P E d from ?_);rw[Zm no];refine Zy (IM two _ ?_);refine(show KB (FM prog w) A (StateT.run (if vs.toArray.size<2 then pure () else sortRuns') (SortSt.mk' kd (b.toArray.zip vs.toArray) #[] 7 Y)>>=_) P E d from ?_);rw[Zm no];refine Zy (Yn (m9 hC (a₀:=(b.zip vs).toArray) (st:=SortSt.mk' kd (b.toArray.zip vs.toArray) #[] 7 Y)
    (Q:=λ_ g=>(arrOf g).Perm (b.zip vs).toArray/\failedOf g=Y/\(arrOf g).toList.Pairwise (le r)) M (λx y=>hG x (by simpa using y)) D M M λg a1 a2 a3=>⟨a1,a2,a3⟩) ?_ λ_ _ e=>e)
   rintro⟨⟨⟩,g⟩ v ⟨rfl,h,I,j⟩;refine(show KB (FM prog w) A (if (f != Value.none)=true then _ else _) P E v from ?_);rw[Zr t];refine(show KB (FM prog w) A (Builtin.List.listUpdate (.ref (dq s.heap a vs)) (λ_=>#[])>>=_) P E v from Zy (YX C M (Zy (wpAny_letGo (Zy (XA u M (Zy (YX u M ?_ (hsz2:=room g h))))))) (hsz:=N)));have H:=I;unfold failedOf at H;rw[H];simp only[bne_self_eq_false,FW,↓reduceIte];exact Zp (fin g h I j)
  ·have yes:vs.toArray.size<2:=by rw[Ze];exact WR two
   have h:(arrOf (SortSt.mk' general' (b.toArray.zip vs.toArray) #[] 7 Y)).Perm (b.zip vs).toArray:=by
    show (b.toArray.zip vs.toArray).Perm _;rw[D]
   have j:(arrOf (SortSt.mk' general' (b.toArray.zip vs.toArray) #[] 7 Y)).toList.Pairwise (le r):=by
    show (b.toArray.zip vs.toArray).toList.Pairwise (le r);rw[D]
    match vs,b,two with
    |[],_,_=>simp
    |[_],[],_=>simp
    |[_],_ :: _,_=>simp
    |_ :: _ :: _,_,q=>simp at q
   refine(show KB (FM prog w) A (if vs.toArray.size<2 then _ else _) P E d from ?_);rw[Zr yes];refine Zy (Zp ?_);refine(show KB (FM prog w) A (StateT.run (if vs.toArray.size<2 then pure () else sortRuns') (SortSt.mk' general' (b.toArray.zip vs.toArray) #[] 7 Y)>>=_) P E d from ?_);rw[Zr yes,StateT.run_pure];refine Zy (Zp ?_);refine(show KB (FM prog w) A (if (f != Value.none)=true then _ else _) P E d from ?_);rw[Zr t];refine(show KB (FM prog w) A (Builtin.List.listUpdate (.ref (dq s.heap a vs)) (λ_=>#[])>>=_) P E d from Zy (YX C M (Zy (wpAny_letGo (Zy (XA u M (Zy (YX u M ?_ (hsz2:=room _ h))))))) (hsz:=N)));have b0:(o != o)=S:=bne_self_eq_false _;refine(show KB (FM prog w) A (if (o != o)=true then _ else ret Value.none) P E _ from ?_);rw[Zm (by rw[b0];simp)];exact Zp (fin _ h M j)
end TS
end
section
open PySem PyProof.Rows
namespace TS
variable{prog:PP}{w:SL}{A:Pi}{E:Yl}{s:FB}
def mJ(a f:IR):argsOk "sorted" ⟨[a],[(("key" : Str),f)]⟩:=by unfold argsOk;kernel_rfl
def pY(a f:IR):argsOk "list.sort" ⟨[a],[(("key" : Str),f)]⟩:=by unfold argsOk;kernel_rfl
def eV(h:SC)(a:Wm):Heap:=bS (h.push (seqObj "list" a.toArray 0)) h.objs.size a
def jy{h:SC}{d:Wm}{b:GM}{o:Obj}(e:h.get? b=O o):(eV h d).get? b=O o:=by
 have a:=ZZ e;unfold eV bS;rw[YG _ _ _ (by rw[Xr,Y6,Xr];exact nl a 2),YG _ _ _ (by rw[Y6,Xr];exact nl a 1),Yu _ _ _ _ (ZL a),YG _ _ _ (ZL a)];exact e
def i4(h:SC)(vs:Wm):∃e,(eV h vs).get? h.objs.size=O (seqObj "list" #[] e):=by
 have a:(h.push (seqObj "list" vs.toArray 0)).get? h.objs.size=O (seqObj "list" vs.toArray 0):=ZX _ M;obtain⟨k,b⟩:∃k,((h.push (seqObj "list" vs.toArray 0)).update h.objs.size (Obj.mapSeq λ_=>#[])).get? h.objs.size=O (seqObj "list" #[] k):=⟨_,Xm a _⟩
 exact⟨k,ma (vs:=vs) (ZZ a) b⟩
def iK(h:SC)(a:Wm):(eV h a).get? (h.objs.size+2)=O (seqObj "list" #[] 0):=by
 unfold eV bS;have e:(((h.push (seqObj "list" a.toArray 0)).update h.objs.size (Obj.mapSeq λ_=>#[])).push (seqObj "tuple" a.toArray 0)).objs.size=h.objs.size+2:=by rw[Xr,Y6,Xr]
 rw[← e];exact ZX _ M
def ph{x f:IR}{Q:Yl}(l:(f != Value.none)=true)(o:∀(i:Pi)(p:Yl),i.handled=A.handled->KB (FM prog w) i (collect x) (λb a=>b.length<=FS/\∃J,J [] { a with heap:=eV a.heap b } ∧
   KeyPre prog w A.in1.in1 E (λfin d=>fin=.done (.ret .none)/\Q (.ref a.heap.objs.size) d) f a.heap.objs.size (a.heap.objs.size+2) ((eV a.heap b).get? a.heap.objs.size) b J) p s) :
  KB (FM prog w) A (call (.builtin "sorted") [x] [(("key" : Str),f)]) Q E s:=by
 refine call_function_entry_kw kind_sorted plain_sorted entry_sorted (mJ _ _) (show KB _ _ (Builtin.«sorted» _) _ _ _ from ?_);unfold Builtin.«sorted»;refine Zy (m:=checkCount "sorted" 1 1 _) (Zp (Zy (Yn (o A.in1 (λ_ _=>False) M) ?_ λ_ _ e=>e.elim)));rintro b a ⟨hlen,J,j,kp⟩;refine Zy (Wq ?_ (by exact hlen));have g:(a.heap.push (seqObj "list" b.toArray 0)).get? a.heap.objs.size=O (seqObj "list" b.toArray 0):=ZX _ M;have n:dq (a.heap.push (seqObj "list" b.toArray 0)) a.heap.objs.size b=a.heap.objs.size+2:=by rw[i0,Xr]
 refine(show KB _ _ _ _ _ { a with heap:=a.heap.push (seqObj "list" b.toArray 0) } from ?_);have main:=tX (J:=J) (s:={ a with heap:=a.heap.push (seqObj "list" b.toArray 0) }) l g hlen j (P:=λfin d=>fin=.done (.ret .none)/\Q (.ref a.heap.objs.size) d) (by rw[n];exact kp);exact Zy (YJ (wpAny_call_entry_kw slot_list_sort ⟨_,g,rfl⟩ entry_list_sort (Yn main (λfin d h=>⟨_,h.1,Zp ⟨_,rfl,h.2⟩⟩) λ_ _ e=>e) (pY _ _)))
end TS
end
section
namespace p0
open PySem PySem.Spec PyProof.Rows TS
section
variable{X:Cx}{pins:Yh}{Z:St}{H:Hp}{s:FB}{h':SC}
def Inv.adopt{a:GM}{o:HO}{t':Nat}(I:Inv X pins Z H s)(f:gc X pins H a)(k:∀b u,b≠a->s.heap.get? b=O u->h'.get? b=O u)(C:∃u,h'.get? a=O u)(h:aW X.prog X.w (upd H a o) h' a o) :
  Inv X pins Z (upd H a o) { s with heap:=h',toks:=t' }:=by
 obtain⟨y,f1,f2,x,t,p⟩:=f;have ne:∀b u,H b=O u->b≠a:=λb u e z=>by rw[z,y]at e;cases e
 refine I.step (g':=s.gens) (d':=s.drawn) (ch:=[a]) (λb g=>?_) (λb o _ _ d e _=>k b o (λz=>d (by simp[z])) e) (λb o _ _ d e _=>⟨o.slots,k b o (λz=>d (by simp[z])) e⟩) (λb _ d _ n=>?_)
  (λb o d e=>⟨o,k b o (λz=>d (by simp[z])) e⟩) (λb i e=>?_) (λb o u e=>?_) (λb _ e=>?_) (λm l=>?_) (λb u e=>?_) I.bare
 ·rw[Zf.mp g];exact⟨x,f1,t,p⟩
 ·rw[av (λz=>d (by simp[z]))];exact n
 ·rw[av (ne b _ e)];exact e
 ·rw[av (ne b _ e)];exact e
 ·rw[av (ne b _ e)];exact e
 ·obtain⟨o,A,B,j,r⟩:=l;exact⟨o,A,B,k _ o (YE f1) j,r⟩
 ·by_cases g:b=a
  ·subst g;rw[aw]at e;cases e;exact h
  ·rw[av g]at e;refine(I.xb b u e).F7 (λc v d q=>k c v ?_ q) (λc q=>by rw[av (ne c _ q)];exact q) (λc i q=>by rw[av (ne c _ q)];exact q) λc _ _ q=>by rw[av (ne c _ q)];exact q
   rcases d with z | z
   ·rw[z];exact g
   ·exact ne c _ z
def Bi{k:Nat}{f:GM}{p:On}{l:List Str}{n:Sp}{A':Pi}{E:XK}{Q:VK}{a:Wm}{vs:List V}(F:FnOk X.prog X.w X.K X.mg X.base FC k f p l n)(C:xt k A')(M:A'.frames=X.A.frames)(G:Binds X.K p l [])(I:Inv X pins Z H s)(r:aQ vs a)(h:n vs H Q E):KB (FM X.prog X.w) A' (call (.ref f) a) (λu j=>∃v d,Inv X pins Z d j/\RelV v u/\Q v d/\∀b o,gc X pins H b->s.heap.get? b=O o->j.heap.get? b=O o/\gc X pins d b) (λ_ _=>False) s:=by
 have D:a.length=l.length:=by rw[← r.length];exact F.len _ _ _ _ h
 have L:HC X.prog X.w X.K X.mg X.base A' X.stack s H:=⟨M.trans I.Fo.frames,I.Fo.mod,I.Fo.tb,I.Fo.bs,I.Fo.HP,I.Fo.EU,I.Fo.JH,I.Fo.xb,I.Fo.bare⟩
 have x:=G s a I.FU (by rw[Ft];exact D);rw[Ft]at x;refine wpAny_call (WX (F.run A' X.stack s H ⟨a,[]⟩ a vs Q E C L x r h) λr j g=>?_);cases r with
 |error e=>exact g.elim
 |ok fl =>
  cases fl with
  |ret u =>
   obtain⟨v,d,os,bare,un,xb,r,q⟩:=g;obtain⟨y,P,N,r2,rfl,rfl,B⟩:=I.after (Q:=λm t=>m=v/\t=d/\Q m t) ⟨v,d,os,bare,un,xb,r,rfl,rfl,q⟩;refine⟨y,P,N,r2,B,λb o i e=>?_⟩;have nf:b∉EE X.stack:=λz=>(Zo.mp (I.Ez b z)).elim i.2.1 i.2.2.1;exact⟨un.keep b o e i.1 nf (by simp),un.free b o e i.1 (by simp),i.2⟩
  |next=>exact False.elim g
  |brk=>exact False.elim g
  |cont=>exact False.elim g
def kL(x:Str):List Key:=[.inl (x.cps.toList.length:Int),.inr x]
def Je:IR->Str
 |.str x _=>x
 |_=>⟨#[]⟩
noncomputable def JK(X:Cx)(a:Yh)(Z:St)(H:Hp)(j:List Str)(f l:Nat)(h:Wm)(g:FB):Prop:=∃d,Inv X a Z d g/\aM H d/\gc X a d f/\gc X a d (f+2)/\(∃e,g.heap.get? (f+2)=O (seqObj "list" h.toArray e))/\g.heap.get? f=O (seqObj "list" #[] l) ∧
  ∀(i:Nat)(u:IR),h[i]?=O u->∃(b:GM)(x:Str),u=Value.ref b/\j[i]?=O x/\d b=O (.tup ((kL x).map kV))
def jF{k:Nat}{f p:GM}{fd:On}{ps:List Str}{sp:Sp}{E:XK}{Q:VK}{ss:List Str}{ws:List V}(C:X.calm=J)(F:FnOk X.prog X.w X.K X.mg X.base FC k f fd ps sp)(hr:xt (k+2) X.A)(hb:Binds X.K fd ps [])(I:Inv X pins Z H s)(hl:ss.length=ws.length)(hq:H p=O (.dK ((ss.map Sum.inr).zip ws)))(HL:∀x∈ss,∀d,aM H d->∀Q1:VK,(∀b r,aM d r->r b=O (.tup ((kL x).map kV))->Q1 (.ref b) r)->sp [.str x] d Q1 E)(q:∀(l:GM)(d:Hp)(ys:List Str),aM H d->d l=Y->ys.Perm ss->ys.Pairwise (λa b=>eB (kL b) (kL a)=S)->Q (.ref l) (upd d l (.lst (ys.map V.str)))) :
  KB (FM X.prog X.w) X.A (call (.builtin "sorted") [.ref p] [(("key" : Str),.ref f)]) (EP X pins Z Q) X.xe s:=by
 obtain⟨n,hS,jj,rel,dd⟩:=pd I.xb hq;obtain⟨ep,dd⟩:=dd.dictAt;rw[Yz,Zv]at n;have NW:jj.length=ss.length:=by
  have:=rel.length;rw[Yz,Zv]at this;lia
 have NV:∀i:Nat,(jj[i]?).map (λx=>x.1)=(ss[i]?).map (Sum.inr:Str->Key):=λi=>by
  have h1:((jj.map (·.1)))[i]?=(ss.map (Sum.inr:Str->Key))[i]?:=by
   rw[← rel.keys,WL (by rw[Zv];exact XF hl)]
  rw[ZR,ZR]at h1;exact h1
 refine ph M λA' E' hA=>PySem.W.kdu_collect (PySem.W.kdl_dict hS) (hA.trans (I.ok.hd C)) dd (by lia) λh1 tk acc kp Eb=>?_;have P:Inv X pins Z H { s with heap:=h1,toks:=tk }:=I.kept kp;have K4:acc.toList.length=ss.length:=by rw[Yo,Eb.1,NW]
 have each:∀i v,acc.toList[i]?=O v->∃x t,v=Value.str x t/\ss[i]?=O x:=λi v hv=>by
  rw[Gm]at hv;obtain⟨k,x,e1,e2⟩:=Eb.2 i v hv;have j:=NV i;rw[e1]at j;cases L:ss[i]? with
  |none=>rw[L]at j;cases j
  |some y =>
   rw[L]at j;have e5:k=Sum.inr y:=ZJ j;subst e5;obtain⟨t,rfl⟩:=Vo (show Value.isStrOf y v=J from e2);exact⟨y,t,rfl,L⟩
 have SO:acc.toList.map Je=ss:=by
  apply Vq;intro i;rw[ZR];cases e:acc.toList[i]? with
  |some v =>
   obtain⟨x,t,rfl,e2⟩:=each i v e;rw[e2];rfl
  |none =>
   rw[Yw]at e;rw[WA (by lia)];rfl
 generalize SN:acc.toList=vs at *;obtain⟨e0,K8⟩:=i4 h1 vs;have LK:h1.objs.size≠h1.objs.size+2:=by lia
 refine⟨by lia,JK X pins Z H ss h1.objs.size e0,?_,?_⟩
 ·exact⟨H,P.kept (t':=tk) λb o e=>jy e,aM.refl _,P.Fm (Zs _) (P.xb.fresh (Zs _)),P.Fm (ZI _ 2) (P.xb.fresh (ZI _ 2)),⟨0,iK h1 vs⟩,K8,λi u e=>by simp at e⟩
 ·refine⟨λg m ⟨d,_,_,_,_,e,_⟩=>e,λg m ⟨d,_,_,_,_,_,e,_⟩=>e.trans K8.symm,?_,?_⟩
  ·rintro g x m hx ⟨d,I2,R,fL,D,⟨eK,hK⟩,hL,G5⟩;obtain⟨y,t,rfl,hy⟩:=each _ _ hx;refine Yn (Bi (A':=X.A.in1.in1) F (xt.in1 (xt.in1 hr)) M hb I2 (vs:=[.str y]) (.cons ⟨t,rfl⟩ .nil) (HL y (YO hy) d R (λv r=>∃b,v=.ref b/\aM d r/\r b=O (.tup ((kL y).map kV))) λb r U h2=>⟨b,rfl,U,h2⟩)) ?_ λ_ _ e=>e;rintro u U ⟨v,r,I3,ru,⟨b,rfl,Gq,Hx⟩,DH⟩;obtain rfl:=(show u=Value.ref b from ru)
   obtain⟨kK,N⟩:=DH _ _ D hK;obtain⟨Nt,Oy⟩:=DH _ _ fL hL;have Oq:∃e,(U.heap.update (h1.objs.size+2) (Obj.mapSeq λxs=>xs.push (Value.ref b))).get? (h1.objs.size+2)=O (seqObj "list" (g++[Value.ref b]).toArray e):=by
    have:=Xm kK λxs=>xs.push (Value.ref b);rw[this,show g.toArray.push (Value.ref b)=(g++[Value.ref b]).toArray by simp];exact⟨_,rfl⟩
   refine⟨⟨eK,kK⟩,r,I3.turned (it:=h1.objs.size+2) (t':=U.toks) (λc o C e=>by rw[Yu _ _ _ _ C];exact e) N.1 N.2.1 N.2.2.2.1 N.2.2.2.2.1 N.2.2.2.2.2,R.trans Gq,Oy,N,Oq,?_,λi u B=>?_⟩
   ·rw[Yu _ _ _ _ LK];exact Nt
   ·by_cases G:i<g.length
    ·rw[Yv G]at B;obtain⟨c,x,e1,e2,j⟩:=G5 i u B;exact⟨c,x,e1,e2,Gq _ _ j⟩
    ·rw[Hg (by exact Xv G)]at B;have NY:i=g.length:=by
      by_cases z:i-g.length=0
      ·lia
      ·rw[WA (by simp;lia)]at B;cases B
     subst NY;simp at B;exact⟨b,y,B.symm,hy,Hx⟩
  ·rintro g m ⟨d,I2,R,fL,D,⟨eK,hK⟩,hL,G5⟩ EW;have kz:∀z∈g.zip vs,∃b x t,z=(Value.ref b,Value.str x t)/\d b=O (.tup ((kL x).map kV)):=λz n=>by
    obtain⟨i,G,e⟩:=GE n;have e':(g.zip vs)[i]?=O z:=by rw[Zh G,e]
    obtain⟨z1,z2⟩:=z;rw[XU]at e';obtain⟨b,x,rfl,e2,j⟩:=G5 i z1 e'.1;obtain⟨x2,t,rfl,L⟩:=each i z2 e'.2;rw[e2]at L;cases L;exact⟨b,x,t,rfl,j⟩
   have LL:∀{b:GM}{x:Str},d b=O (.tup ((kL x).map kV))->iy m.heap (.ref b) (kL x):=λe=>xH I2.xb e;refine⟨tuples' J,GT m.heap [J,S],rT m.heap,ye λv g t=>t,λz n=>?_,λtwo Q1 q1=>?_,λout o1 o2=>⟨rfl,?_⟩⟩
   ·obtain⟨b,x,t,rfl,e⟩:=kz z n;exact⟨_,LL e,rfl⟩
   ·refine ue (k0:=J) (sh:=[S]) (by lia) (λv hv=>?_) q1;obtain⟨i,G,e⟩:=GE hv;obtain⟨b,x,rfl,_,j⟩:=G5 i v (by rw[Zh G,e]);exact⟨_,LL j,rfl⟩
   ·have I3:=I2.turned (it:=h1.objs.size+2) (t':=m.toks) (h':=m.heap.update (h1.objs.size+2) (Obj.mapSeq λ_=>#[])) (λc o C e=>by rw[Yu _ _ _ _ C];exact e) D.1 D.2.1 D.2.2.2.1 D.2.2.2.2.1 D.2.2.2.2.2;have Oo:(m.heap.update (h1.objs.size+2) (Obj.mapSeq λ_=>#[])).get? h1.objs.size=O (seqObj "list" #[] e0):=by rw[Yu _ _ _ _ LK];exact hL
    have K7:=Xm Oo λ_=>(out.map λz=>z.2).toArray;have ho:∀z∈out,∃b x t,z=(Value.ref b,Value.str x t)/\d b=O (.tup ((kL x).map kV)):=λz n=>kz z (o1.mem_iff.mp n);have Jk:out.length=ss.length:=by
     rw[o1.length_eq,Yz];lia
    have vals:∀{out:List KF},(∀z∈out,∃b x t,z=(Value.ref b,Value.str x t)/\d b=O (.tup ((kL x).map kV)))->aQ ((out.map λz=>Je z.2).map V.str) (out.map (·.2)):=by
     intro out
     induction out with
     |nil=>intro _;exact .nil
     |cons z out ih =>
      intro h;obtain⟨b,x,t,rfl,_⟩:=h z Zx;exact .cons ⟨t,rfl⟩ (ih λz n=>h z (Zw _ n))
    refine⟨.ref h1.objs.size,_,I3.adopt (o:=.lst ((out.map λz=>Je z.2).map V.str)) (t':=m.toks) fL (λc o C e=>by rw[Yu _ _ _ _ C];exact e) ⟨_,K7⟩ (show aW X.prog X.w _ _ _ (.lst _) from⟨by rw[Zv,Zv,Jk];lia,(out.map λz:KF=>z.2),_,vals ho,K7⟩),rfl,q _ d _ R fL.1 ?_ ?_⟩
    ·have:=o1.map λz=>Je z.2;have e2:(g.zip vs).map (λz=>Je z.2)=ss:=by
      rw[← SO];have:(g.zip vs).map (λz=>Je z.2)=((g.zip vs).map Prod.snd).map Je:=by rw[Yy];rfl
      rw[this,X3 (by lia)]
     rw[e2]at this;exact this
    ·rw[XE];refine Xy (λ{a b} ha hb h=>?_) o2;obtain⟨c,x,t,rfl,e⟩:=ho a ha;obtain⟨c2,x2,t2,rfl,e2⟩:=ho b hb;unfold le at h;rw[jT (LL e2) (LL e)]at h;exact h
end
end p0
end
section
namespace VS
open PySem PySem.Spec PyProof.Rows p0 TS
def lL(a b:Tx):Prop:=a.length<b.length\/a.length=b.length/\a<b
def Nf(a b:Tx):Bool:=decide (a.length<b.length)||(decide (a.length=b.length)&&EB a b)
def rC(a b:Tx):Nf a b=J↔lL a b:=by
 unfold Nf lL;rw[ir];simp
def tZ(a:Tx):¬lL a a:=λh=>by
 rcases h with h | ⟨_,h⟩
 ·exact Yg _ h
 ·exact Wi _ h
def ni{a b c:Tx}(h:lL a b)(d:lL b c):lL a c:=by
 rcases h with h | ⟨e,h⟩<;>rcases d with d | ⟨f,d⟩
 ·exact .inl (by exact Nat.lt_trans h d)
 ·exact .inl (by lia)
 ·exact .inl (by lia)
 ·exact .inr ⟨by exact Eq.trans e f,W5 h d⟩
def wD(a b:Tx):lL a b\/a=b\/lL b a:=by
 rcases Nat.lt_trichotomy a.length b.length with h | h | h
 ·exact .inl (.inl h)
 ·by_cases h1:a<b
  ·exact .inl (.inr ⟨h,h1⟩)
  ·by_cases d:b<a
   ·exact .inr (.inr (.inr ⟨h.symm,d⟩))
   ·exact .inr (.inl (Vj (X9.mp d) (X9.mp h1)))
 ·exact .inr (.inr (.inl h))
def pK(x:Tx):List Tx->List Tx
 |[]=>[x]
 |y :: r=>if Nf y x then y :: pK x r else x :: y :: r
def b9(l:List Tx):List Tx:=l.foldr pK []
theorem ja(x:Tx):∀l:List Tx,(pK x l).Perm (x :: l)
 |[]=>Xs _
 |y :: r=>by
  unfold pK;split
  ·exact((ja x r).cons y).trans (List.Perm.swap _ _ _)
  ·exact Xs _
theorem dj:∀l:List Tx,(b9 l).Perm l
 |[]=>Xs _
 |x :: l=>(ja x _).trans ((dj l).cons x)
theorem qr(x:Tx):∀{l:List Tx},l.Pairwise (λa b=>¬lL b a)->(pK x l).Pairwise (λa b=>¬lL b a)
 |[],_=>by simp[pK]
 |y :: r,h=>by
  unfold pK;obtain⟨h1,g⟩:=Yd.mp h;split
  ·rename_i c;have f:=(rC y x).mp c;refine Yd.mpr ⟨λz d=>?_,qr x g⟩;rcases Zo.mp ((ja x r).mem_iff.mp d) with rfl | d
   ·exact λw=>tZ _ (ni f w)
   ·exact h1 z d
  ·rename_i c;have f:¬lL y x:=λz=>c ((rC y x).mpr z);refine Yd.mpr ⟨λz d=>?_,h⟩;rcases Zo.mp d with rfl | d
   ·exact f
   ·intro w;rcases wD y x with e | e | e
    ·exact f e
    ·subst e;exact h1 z d w
    ·exact h1 z d (ni w e)
theorem iG:∀l:List Tx,(b9 l).Pairwise (λa b=>¬lL b a)
 |[]=>List.Pairwise.nil
 |x :: l=>qr x (iG l)
def qk{l d:List Tx}(h:d.Perm l)(e:d.Pairwise (λa b=>¬lL b a)):d=b9 l :=
 List.Perm.eq_of_pairwise (le:=λa b=>¬lL b a) (λa b _ _ h1 f=>(wD a b).elim (λz=>absurd z f) λz=>z.elim id λz=>absurd z h1) e (iG l) (h.trans (dj l).symm)
def xR(a b:Str):eB (kL a) (kL b)=J↔lL a.cps.toList b.cps.toList:=by
 unfold kL lL;rw[eB];by_cases h:((a.cps.toList.length:Int))=(b.cps.toList.length:Int)
 ·rw[Zr (by rw[h]),eB];have f:a.cps.toList.length=b.cps.toList.length:=by lia
  by_cases e:a=b
  ·subst e;simp[eB,Wi]
  ·rw[Zm (by simpa using e),E9];simp[f]
 ·rw[Zm (λz=>h (by injection z)),E9,decide_eq_true_eq];constructor
  ·intro d;exact .inl (by omega)
  ·rintro (d | ⟨d,_⟩)
   ·omega
   ·lia
def jo:Vf->Ve
 |[(_,.dct 0 l)]=>(strs? (l.map (·.1))).bind λa=>if a.all ID then O (.fr,.lst ((b9 a).map .str)) else Y
 |_=>Y
section
variable{G:Gx}{X:Cx}{e:Expr}{cs:D5}{p p2 kp pos:Pos}{k:Nat}{f:GM}{fd:On}{ps:List Str}{cg:Fn}{x:Str}
def t7{g:List Tx}{d:List Str}(h:d.Perm (g.map sx))(j:d.Pairwise (λa b=>eB (kL b) (kL a)=S)):d=(b9 g).map sx:=by
 have e:d=(d.map λx=>x.cps.toList).map sx:=by
  rw[Yy]
  conv=>lhs;rw[← Wb d]
  apply YB;intro x i;obtain⟨s,_,rfl⟩:=Yr.mp (h.mem_iff.mp i);show sx s=sx (sx s).cps.toList;rw[mV]
 have e2:(d.map λx=>x.cps.toList)=b9 g:=by
  refine qk ?_ ?_
  ·have:=h.map λx:Str=>x.cps.toList;rw[Yy]at this;have l:((λx:Str=>x.cps.toList) ∘ sx)=id:=by
    funext s;exact mV s
   rw[l,Wb]at this;exact this
  ·rw[XE];exact j.imp λ{a b} h z=>by
    rw[(xR b a).mpr z]at h;cases h
 rw[e,e2]
def wV(F:FnOk X.prog X.w X.K X.mg X.base FC k f fd ps (G0 G cg))(Oc:∀t:Tx,ip t->cg [.str t]=O (.fr,.tup [.int t.length,.str t]))(hr:xt (k+2) X.A)(NZ:Gl X x)(S8:X.mg x=O (.ref f))(hb:Binds X.K fd ps [])(hm:X.mg "sorted" = Y)(ha:Fc G X [e] cs)(hg:Gl X "sorted")(hc:X.calm=J)(N9:K2 x)(he:backTo pos (KM [e] X.env)=(S,eval e X.env) :: backTo pos (KM [] X.env))(P:(backTo pos (KM [e] X.env)).any (·.1)=S) :
  PV G X (.Call (.Name "sorted" p) [e] [⟨O "key",.Name x p2,kp⟩] pos) (eN jo cs):=by
 intro b s Z H Q I h;refine p0.fO λP_ N=>?_;obtain⟨L,U,m,t,sr,d,kk⟩:=h;unfold eN at d;obtain⟨l,el,d⟩:=Zz.mp d;refine N ?_;refine X0 (gE I hg hm i6 ?_ (by decide) M);refine PyProof.Rows.callWith_kw (thn (ha pos b s Z H (λo j=>∃n,Args G L U H j l o n) I ⟨L,U,l,sr,el,λo j n C q2 q3=>⟨n,C,q2,q3⟩⟩) λus s1 ⟨o,j,I1,r1,n,A⟩=>?_) he P M M;refine thn ((mB (nm:=O "key") (kpos:=kp) (ze (v:=.ref f) (pos:=p2) NZ S8 M N9) vF) pos b s1 Z j (λq W=>q=[.ref f]/\W=j) I1 ⟨rfl,rfl⟩) λws s2 ⟨q,W,I2,rz,ez,eH⟩=>?_;subst ez eH;obtain⟨u,rfl,B⟩:=rz.one;obtain rfl:=(show u=Value.ref f from B)
 refine(show KB (FM X.prog X.w) X.A (call (.builtin "sorted") us [(("key" : Str),Value.ref f)]) (EP X b Z Q) X.xe s2 from ?_);refine p0.fO λP_ N=>?_;unfold jo at d;split at d
 ·rename_i mx y hh;obtain⟨ss,e1,e2⟩:=Zz.mp d;split at e2
  ·rename_i Tz;cases e2;obtain⟨v,F',rfl,rfl,rx⟩:=(show tx G W o [.dct 0 y] n from A.rp).one;obtain⟨a,D,ys,ts,Gs,rfl,rfl,Tr,hl,rfl,ra⟩:=fP rx;obtain⟨u,rfl,B⟩:=r1.one;obtain rfl:=(show u=Value.ref a from B)
   have EL:D.length=ts.length:=by rw[hl,ra.len.1]
   have e3:((D.map aL).zip ts).map (·.1)=D.map aL:=WL (by rw[Zv];exact XF EL);rw[e3]at e1;have e4:=keys_str e1;have tok:∀s∈ss,ip s:=λs g=>uh (ZE.mp Tz s g);refine N ?_;refine jF (ss:=ss.map sx) (ws:=ys) (E:=E0) hc F hr hb I2 (by rw[← hl,e4];simp) (by rw[← e4];exact Tr) (λx hx R z Q1 C=>?_) λl R q z Fz pz pw=>?_
   ·obtain⟨s,g,rfl⟩:=Yr.mp hx;refine⟨[.str s],[[]],.fr,_,.cons (.str s (tok s g)) .nil,Oc s (tok s g),λv H4 F4 Rg r4 _=>?_⟩;cases r4 with
    |tup h4 i =>
     cases i with
     |cons c1 i =>
      cases i with
      |cons c2 i =>
       cases i;cases c1;cases c2;refine C _ _ Rg ?_;rw[h4];simp[kL,kV,sx]
   ·rw[t7 pz pw];have r0:tx G (upd R l (.lst (((b9 ss).map sx).map V.str))) ((b9 ss).map λs=>V.str (sx s)) ((b9 ss).map T.str) ((b9 ss).map λ_=>[]):=mH λs g=>tok s ((dj ss).mem_iff.mp g);have r:Rp G (upd R l (.lst (((b9 ss).map sx).map V.str))) (.ref l) (.lst ((b9 ss).map T.str)) (l :: ((b9 ss).map λ_=>[]).flatten):=.lst (by rw[aw,Yy];rfl) r0;rw[iA]at r;exact kk _ _ _ ((A.same.trans z).trans (bL Fz)) r (Fp.new ((A.same.trans z).free Fz) (by simp) Fp.nil)
  ·cases e2
 ·cases d
end
end VS
end
section
namespace p0
open PySem PySem.Spec PyProof.Rows
section
variable{X:Cx}
def xM:List V->Hp->VK->Prop:=λa H Q=>∃j:Int,a=[.int j]/\0<=j/\j<=16777216/\∀(b l:GM),H b=Y->H l=Y->b≠l->Q (.ref l) (upd (upd H b (.rng 0 j)) l (.lst ((List.range j.toNat).map λi:Nat=>V.int (i:Int))))
def tR{a:Expr}{A:TA}{p N pos W:Pos}(B:∀Z H Q U,(∀d y,Q d y->U d y)->A Z H Q->A Z H U)(hc:X.calm=J)(C:Gl X "range")(hm:X.mg "range" = Y)(D:Gl X "list")(NQ:X.mg "list" = Y)(Oe:bootBuiltins ("list" : Str)=O (.type "list"))(ha:PA X [a] A)(hs:KM [a] X.env=[(S,eval a X.env)])(FJ:KM [.Call (.Name "range" p) [a] [] pos] X.env=[(S,eval (.Call (.Name "range" p) [a] [] pos) X.env)]):PE X (.Call (.Name "list" N) [.Call (.Name "range" p) [a] [] pos] [] W) (λZ H Q=>A Z H λd y=>xM d y Q):=by
 intro f s Z H Q I h;have inner:PE X (.Call (.Name "range" p) [a] [] pos) (λZ H Q=>A Z H λd y=>∃j:Int,d=[.int j]/\∀b,y b=Y->Q (.ref b) (upd y b (.rng 0 j))):=by
  intro f s Z H Q I h;refine Call_ (gE I C hm boot_range (Y0 (thn (ha pos f s Z H _ I h) λus L ⟨d,y,I1,r1,q1⟩=>?_) hs M));obtain⟨j,e,q⟩:=q1;subst e;obtain⟨u,rfl,t,rfl⟩:=vals1 r1;exact call_range_1 ⟨.ref L.heap.objs.size,_,I1.laid (a:=L.heap.objs.size) (o:=.rng 0 j) (λ_ _ q=>Zg _ q) (Zs _) ⟨_,_,_,ZX _ M⟩,rfl,q _ (I1.xb.fresh (Zs _))⟩
 have outer:=lQ (X:=X) (x:=("list" : Str)) (T := "list") (p:=N) (pos:=W) (es:=[]) (e:=.Call (.Name "range" p) [a] [] pos) (r:=λG H Q=>∃(b:GM)(j:Int),G=[.ref b]/\H b=O (.rng 0 j)/\0<=j/\j<=16777216/\∀l,H l=Y->Q (.ref l) (upd H l (.lst ((List.range j.toNat).map λi:Nat=>V.int (i:Int)))))
  (by
   intro f s Z H G us Q I rx h;obtain⟨b,j,rfl,F,R,h1,q⟩:=h;obtain⟨u,rfl,ru⟩:=rx.one;obtain rfl:=(show u=Value.ref b from ru)
   obtain⟨t,u,v,g⟩:=(show aW X.prog X.w H s.heap b (.rng 0 j) from I.xb b _ F)
   refine call_list_range (n:=j.toNat) (I.ok.hd hc) g (small_one (by lia) (by lia) (by lia) (by lia)) (by rw[rangeSize_one];split<;>lia) (by lia) λh' tk acc c kp g2 Eb=>?_;have hv:aQ ((List.range j.toNat).map λi:Nat=>V.int (i:Int)) acc.toList:=by
    have key:∀(n:Nat)(k:Nat)(d:Wm),d.length=n->(∀(i:Nat)(v:IR),d[i]?=O v->∃t,v=.int ((k+i:Nat):Int) t)->aQ ((List.range' k n).map λi:Nat=>V.int (i:Int)) d:=by
     intro n
     induction n with
     |zero=>intro k d m _;rw[XI.mp m];exact .nil
     |succ n ih =>
      intro k d m C;cases d with
      |nil=>simp at m
      |cons v d =>
       obtain⟨t,rfl⟩:=C 0 v M;refine .cons ⟨t,rfl⟩ (ih (k+1) d (by simpa using m) λi w hw=>?_);obtain⟨t2,e⟩:=C (i+1) w (by simpa using hw);exact⟨t2,by rw[e];congr 2;lia⟩
    rw[List.range_eq_range'];refine key _ _ _ (by rw[Yo,Eb.1]) λi v P=>?_;rw[Gm]at P;obtain⟨t,e⟩:=Eb.2 i v P;exact⟨t,by rw[e];congr 1;lia⟩
   exact⟨.ref s.heap.objs.size,_,I.laid kp (Zs _) (show aW X.prog X.w _ h' _ (.lst _) from⟨by rw[Zv,ZH];show _<=16777216;lia,acc.toList,c,hv,g2⟩),rfl,q _ (I.xb.fresh (Zs _))⟩)
  D NQ Oe (dc inner eQ FJ) (by decide) M FJ M
 refine outer f s Z H Q I ?_;refine B Z H _ _ (λd y q=>?_) h;obtain⟨j,e,R,h1,q⟩:=q;refine⟨j,e,λb F=>(show _ from ?_)⟩;refine⟨b,j,rfl,aw,R,h1,λl m=>?_⟩;have bl:b≠l:=λz=>by rw[← z,aw]at m;cases m
 exact q b l F (by rw[av (YE bl)]at m;exact m) bl
end
end p0
namespace VS
open PySem PySem.Spec PyProof.Rows p0
def nh:Vf->Ve
 |[(_,.int j)]=>if 0<=j/\j<=16777216 then O (.fr,.lst ((List.range j.toNat).map λi:Nat=>T.int (i:Int))) else Y
 |_=>Y
section
variable{G:Gx}{X:Cx}{e:Expr}{cs:D5}{p p2 pos Ic:Pos}
theorem kh{H:Hp}:∀(l:W3),tx G H (l.map λi:Nat=>V.int (i:Int)) (l.map λi:Nat=>T.int (i:Int)) (l.map λ_=>[])
 |[]=>.nil
 |i :: l=>.cons (.int _) (kh l)
def u9(M:X.mg "list" = Y)(A:X.mg "range" = Y)(I:Fc G X [e] cs)(h:Gl X "list")(B:Gl X "range")(C:X.calm=J)(z:KM [e] X.env=[(S,eval e X.env)])(N:KM [.Call (.Name "range" p) [e] [] pos] X.env=[(S,eval (.Call (.Name "range" p) [e] [] pos) X.env)]):PV G X (.Call (.Name "list" p2) [.Call (.Name "range" p) [e] [] pos] [] Ic) (eN nh cs) :=
 PE.weak (tR (λZ H Q R m ⟨L,U,l,s,o,k⟩=>⟨L,U,l,s,o,λg f u a b c=>m _ _ (k g f u a b c)⟩) C B A h M rM I z N) λZ H Q d=>by
  obtain⟨L,U,m,t,s,e,k⟩:=d;unfold eN at e;obtain⟨l,o,e⟩:=Zz.mp e;refine⟨L,U,l,s,o,λg f u w r1 f1=>?_⟩;unfold nh at e;split at e
  ·rename_i P j;split at e
   ·rename_i x;cases e;obtain⟨v,F,rfl,rfl,y⟩:=(show tx G f g [.int j] u from r1).one;cases y;refine⟨j,rfl,x.1,x.2,λb q D d n=>?_⟩;have r:Rp G (upd (upd f b (.rng 0 j)) q (.lst ((List.range j.toNat).map λi:Nat=>V.int (i:Int)))) (.ref q) (.lst ((List.range j.toNat).map λi:Nat=>T.int (i:Int))) (q :: ((List.range j.toNat).map λ_=>[]).flatten):=.lst aw (kh _);rw[iA]at r;refine k _ _ _ ((w.trans (bL D)).trans (bL (by rw[av (YE n)];exact d))) r (Fp.new (w.free d) (by simp) Fp.nil)
   ·cases e
  ·cases e
end
section
variable{G:Gx}{X:Cx}{e b:Expr}{cs:D5}{cb:Ex}{pos p p1 p2 kp apos xh:Pos}{k k' kr:Nat}{x:Str}{ps:List Str}{g:Fn}
def si{d:Fn}(F:FnAt X.prog X.w X.K X.mg X.base k x ps G d)(j:k+2<=k')(s:∀t:Tx,ip t->d [.str t]=O (.fr,.tup [.int t.length,.str t]))(h:xt k' X.A)(i:X.mg "sorted" = Y)(o:Fc G X [e] cs)(u:Gl X x)(l:Gl X "sorted")(n:X.calm=J)(v:K2 x)(m:backTo pos (KM [e] X.env)=(S,eval e X.env) :: backTo pos (KM [] X.env))(a:(backTo pos (KM [e] X.env)).any (·.1)=S) :
  PV G X (.Call (.Name "sorted" p) [e] [⟨O "key",.Name x p2,kp⟩] pos) (eN jo cs):=by
 obtain⟨f,fd,h1,r,y,q⟩:=F.ex;exact wV h1 s (h.mono j) u r q i o l n v m a
def j1{a b c:Expr}{i f d:Ex}(s:PV G X a i)(o:PV G X b f)(n:PV G X c d)(l:lastMarks [.LtE,.Lt] [b,c]=S):Gn G X (.Compare a [.LtE,.Lt] [b,c] pos) (gH oLe oLt i f d) :=
 PT.weak (vZ u5 qd s o n l) λZ H Q h=>pb h (λU m r e=>by
  unfold gH at e;obtain⟨x,A,e⟩:=Zz.mp e;obtain⟨y,w,e⟩:=Zz.mp e;obtain⟨⟨t,z⟩,u,e⟩:=Zz.mp e;cases z with
  |bl q =>
   cases q with
   |false=>cases e;exact⟨_,rfl⟩
   |true =>
    obtain⟨j,v,e⟩:=Zz.mp (show (d U).bind (λz=>oLt y z)=O (m,r) from e);exact iY y j m r e
  |_=>cases e) λQ h=>v9 zj vL h
end
section
variable{G:Gx}{X:Cx}{a b e:Expr}{ca ck ce:Ex}{pos pos' p1:Pos}{kr:Nat}
def yf{j pos'}(g:PV G X a ca):Gn G X (.Compare a [.IsNot] [.Constant .none j pos'] pos) (nW ca) :=
 PT.weak (zW (xu g)) λZ H Q h=>BE h (λU m r e=>by
  unfold nW at e;obtain⟨x,_,e⟩:=Zz.mp e;cases e;exact⟨_,rfl⟩) λQ f=>by
   obtain⟨L,U,m,r,s,e,q⟩:=f;unfold nW at e;obtain⟨⟨n,x⟩,i,e⟩:=Zz.mp e;cases e;refine⟨L,U,n,x,s,i,λv d F e1 r1 f1=>?_⟩;show Q (.bl (!decide (v=.non))) d;rw[ym r1];exact q _ d _ e1 (.bl _) Fp.nil
def pf(i:Nat)(k e:Ex)(U:VS.Env):Option Out:=(e U).bind λv=>match U[i]? with
 |some (some (.ow (.dct 0 l)))=>(k U).bind λd=>if iP d.2/\DZ v.2/\l.length<fC then O (.nx (U.set i (O (.ow (.dct 0 (dput l d.2 v.2)))))) else Y
 |_=>Y
def AN(i:Nat){x:Str}(hr:xt kr X.A)(hk:PV G X b ck)(he:PV G X e ce)(hN:X.N[i]?=O x)(hv:FX X.env.scope x)(hd:K2 x)(D4:K3 x)(ha:∀v,assign (.Subscript (.Name x p1) b pos') X.env v=(do
   let h ← holding [v] (eval (.Name x p1) X.env)
   let o ← holding [v,h] (eval b X.env)
   standAt pos'
   holding [v,h,o] (setItem h o v)
   release [v,h,o] []))(hs:swapsWithSole [.Subscript (.Name x p1) b pos'] e pos.line X.env=pure S)(hw:swappedStores [.Subscript (.Name x p1) b pos'] e X.env=pure Y)(h1:(assignEach [.Subscript (.Name x p1) b pos'] X.env).map (·.2)=[assign (.Subscript (.Name x p1) b pos') X.env]):PSV G X (.Assign [.Subscript (.Name x p1) b pos'] e pos) (pf i ck ce) :=
 PS.weak (vK he (uy (fh hN hv hd D4) hk (zr (rR hr)) ha) hs hw h1) λD Z H hq=>by
  obtain⟨L,U,out,s,e,k⟩:=hq;unfold pf at e;obtain⟨⟨mv,m⟩,ev,e⟩:=Zz.mp e;split at e
  ·rename_i l p;obtain⟨⟨mk,tk⟩,Iw,e⟩:=Zz.mp e;split at e
   ·rename_i hc;obtain⟨c1,c2,c3⟩:=hc;cases e;obtain⟨w,B,W⟩:=s.rp _ _ p;have r:=s.nd i _ p;refine⟨L,U,mv,m,s,ev,λxv H1 Fv P rv fv=>⟨w,B,L,U,mk,tk,s.same P,Iw,λkv d Fk M rk fk=>?_⟩⟩;have n:aM H d:=P.trans M;have F:Rp G d xv m Fv:=rv.same M;have eF:=F.DZ c2;subst eF;obtain⟨a,ns,j,t,Fs,rfl,C,Eg,hl,rfl,u⟩:=fP W;rw[C]at r;obtain⟨kk,rfl,JL⟩:=fq rk c1;subst JL;have I:d a=O (.dK (ns.zip j)):=n a _ Eg;have y:DI (d a):=by rw[I];exact True.intro
    have nd:=ZU.mp r;obtain⟨FT,Gh,GZ,GJ,q1,q2,q3,q4,f⟩:=mQ (kk:=kk) F hl (u.same n);have ln:(ns.zip j).length<sizeLine:=by
     have:((ns.map aL).zip t).length<16777216:=c3;rw[Yz,Zv]at this;rw[Yz];have:=u.len.1;have:(FS:Nat)=16777216:=rfl;lia
    refine .inr ⟨a,_,rfl,tL.k I ln,?_⟩;have g:EV G H (.ref a) (L i) (.dct 0 (dput ((ns.map aL).zip t) (aL kk) m)) (upd d a (.dK (putK (ns.zip j) kk xv))) (a :: GJ.flatten):=by
     rw[C,q1,q3];refine EV.upd n Zx y (.dct aw q2 (q4.off y λz=>nd.1 (f.subset z))) ?_ ?_
     ·exact ZU.mpr ⟨λz=>nd.1 (f.subset z),nd.2.sublist f⟩
     ·intro bb q;rcases Zo.mp q with rfl | q
      ·exact .inl Zx
      ·exact .inl (Zw _ (f.subset q))
    obtain⟨R,Q⟩:=s.mut p B g;exact k _ Z _ R Q
   ·cases e
  ·cases e
end
end VS
end
section
namespace VS
open PySem PySem.Spec PyProof.Rows p0
def LO:T->Bool
 |.non=>J
 |.bl _=>J
 |.int _=>J
 |.str _=>J
 |_=>S
def xK{G:Gx}{H a:Hp}{v:V}{t:T}{F:Wn}(h:LO t=J)(r:Rp G H v t F):F=[]/\Rp G a v t []:=by
 cases r with
 |non=>exact⟨rfl,.non⟩
 |bl b=>exact⟨rfl,.bl b⟩
 |int i=>exact⟨rfl,.int i⟩
 |str s ok=>exact⟨rfl,.str s ok⟩
 |_=>cases h
section
variable{G:Gx}{X:Cx}{a b c:Expr}{ca cb cc:Ex}{pos:Pos}
def yj:Val->Val->Ve
 | (_,.int i),(_,.int j)=>if 0<=j/\j<=1000000/\i.natAbs<18446744073709551616 then O (.fr,.int (i ^ j.toNat)) else Y
 |_,_=>Y
def Aa:fG G (rI Cp λi j=>.int (i ^ j.toNat)) yj:=by
 intro L U l H x y u w o n m t Q d e k;obtain⟨g,x⟩:=x;obtain⟨f,y⟩:=y;obtain⟨same,r1,r2,f1,f2,nd⟩:=d;unfold yj at e;split at e
 ·rename_i e1 e2;cases e1;cases e2;split at e
  ·rename_i h;cases e;exact⟨_,_,r1.int_inv,r2.int_inv,h,bz k (.int _)⟩
  ·cases e
 ·cases e
end
end VS
end
section
namespace p0
open PySem PySem.Spec PyProof.Rows
def pick{α:Type}(l:List α)(a:W3):List α:=a.filterMap (l[·]?)
def gf{α:Type}(l:List α)(b d a:Option Int):List α:=pick l (sliceRange (sliceBounds b d a l.length).1 (sliceBounds b d a l.length).2.1 (sliceBounds b d a l.length).2.2)
def vB{α:Type}(l:List α)(a:W3){x:α}(h:x∈pick l a):x∈l:=by
 obtain⟨i,_,e⟩:=Wj.mp h;exact YO e
def wj{α β:Type}(f:α->β)(l:List α)(a:W3):pick (l.map f) a=(pick l a).map f:=by
 unfold pick;rw[List.map_filterMap];congr 1;funext i;rw[ZR]
def nV{α β:Type}(f:α->β)(l:List α)(b d a:Option Int):gf (l.map f) b d a=(gf l b d a).map f:=by
 unfold gf;rw[Zv,wj]
def n8{α:Type}(l:List α)(b d a:Option Int):(gf l b d a).length<=l.length:=by
 have h:=slicePick_size_le (l.map λ_=>Value.none).toArray b d a;have e:(slicePick (l.map λ_=>Value.none).toArray b d a).size=(gf (l.map λ_=>Value.none) b d a).length:=by
  unfold slicePick gf pick;simp only[Ze,List.getElem?_toArray]
 rw[e,nV,Zv,Ze,Zv]at h;exact h
def su{b:List V}{d:Wm}(r:aQ b d)(a:W3):aQ (pick b a) (pick d a):=by
 induction a with
 |nil=>exact .nil
 |cons i a e =>
  unfold pick at e ⊢;rw[YA,YA];cases f:b[i]? with
  |none =>
   have:d[i]?=Y:=by
    rw[Yw]at f ⊢;rw[← r.length];exact f
   rw[this];exact e
  |some x =>
   obtain⟨u,h,g⟩:=r.get f;rw[h];exact .cons g e
section
variable{X:Cx}{e st:Expr}{lo hi:Option Expr}{te:TE}{tl th ts:TO}{pos p2:Pos}
noncomputable def BN(X:Cx)(r:V->Option Int->Option Int->Option Int->Hp->VK->Prop):Prop :=
 ∀(a:Yh)(s:FB)(Z:St)(H:Hp)(x:V)(v f b d:IR)(lo hi st:Option Int)(g:GM)(Q:VK),Inv X a Z H s->RelV x v->s.heap.IsSliceOf g f b d->IsPart f lo->IsPart b hi->IsPart d st->r x lo hi st H Q →
  ∃T id,typeLookup (.type T) "__getitem__" = pure (O (.builtin id))/\s.TypeIs v T/\KB (FM X.prog X.w) X.A (getItem v (.ref g)) (EP X a Z Q) X.xe s
def Dl(r:V->Option Int->Option Int->Option Int->Hp->VK->Prop)(f:TE)(b d a:TO):TE:=λZ H Q=>f Z H λx j=>b Z j λl i=>d Z i λu h=>a Z h λc g=>r x l u c g Q
def tF{r:V->Option Int->Option Int->Option Int->Hp->VK->Prop}(L:BN X r)(P:PE X e te)(M:PO X lo tl)(D:PO X hi th)(G:PO X (O st) ts):PE X (.Subscript e (.Slice lo hi (O st) p2) pos) (Dl r te tl th ts):=by
 intro a s Z H Q I h;refine Subscript_ (thn (P a s Z H _ I h) λv o ⟨x,H1,I1,r1,z⟩=>?_);refine wpAny_Slice (thn (M a o Z H1 _ I1 z) λi n ⟨l,H2,I2,C,y⟩=>thn (D a n Z H2 _ I2 y) λf m ⟨u,H3,I3,pu,t⟩=>thn (G a m Z H3 _ I3 t) λg d ⟨c,j,W,B,p⟩=>?_);have U:Inv X a Z j { d with heap:=d.heap.push { cls:=.type "slice",data:=.fields #[i,f,g] } }:=W.kept (t':=d.toks) λb ob q=>Zg _ q;obtain⟨T,id,R,F,N⟩:=L a { d with heap:=d.heap.push { cls:=.type "slice",data:=.fields #[i,f,g] } } Z j x v i f g l u c d.heap.objs.size Q U r1 (Heap.IsSliceOf.new ..) C pu B p;show KB (FM X.prog X.w) X.A (subscriptTail e (.Slice lo hi (O st) p2) v (.ref d.heap.objs.size)) (EP X a Z Q) X.xe { d with heap:=d.heap.push { cls:=.type "slice",data:=.fields #[i,f,g] } };exact tail_any (ops:=[v,.ref d.heap.objs.size]) F R N (by with_unfolding_all rfl)
def B0(K:Xj):V->Option Int->Option Int->Option Int->Hp->VK->Prop:=λx lo hi st H Q=>∃a b,x=.ref a/\DM K H a b/\st≠O 0/\∀p,H p=Y->Q (.ref p) (upd H p (.lst (gf b lo hi st)))
def wq:BN X (B0 X.K):=by
 intro f s Z H x v z w y lo hi st A Q I j t m pu l h;obtain⟨a,d,rfl,p,u,q⟩:=h;cases j;obtain⟨g,r,i,n⟩:=I.list p;have hlen:=r.length;refine⟨"list",_,slot_list_getitem.lookup,i.isList.typeIs,?_⟩;refine wpAny_getItem_list_slice i.isList t m pu l u ?_ (by rw[Ze]<;>lia);have e:slicePick g.toArray lo hi st=(gf g lo hi st).toArray:=by
  unfold slicePick gf pick;simp only[Ze,List.getElem?_toArray]
 rw[e];refine⟨.ref s.heap.objs.size,_,I.laid (t':=s.toks) (o:=.lst (gf d lo hi st)) (λb B q=>Zg _ q) (Zs _) ?_,rfl,q _ (I.xb.fresh (Zs _))⟩;refine⟨ZV (n8 d lo hi st) n,_,0,?_,ZX _ M⟩;unfold gf;rw[← hlen];exact su r _
end
end p0
namespace VS
open PySem PySem.Spec PyProof.Rows p0
section
variable{G:Gx}{X:Cx}{a:Expr}{ca:Ex}{pos:Pos}
def Kn(x:Val)(l h c:Option Int):Ve:=match x with
 | (_,.lst b)=>if b.all LO/\c≠O 0 then O (.fr,.lst (gf b l h c)) else Y
 |_=>Y
def rZ(a:Ex)(d e b:Option Ex)(U:VS.Env):Ve:=(a U).bind λx=>(jw d U).bind λl=>(jw e U).bind λh=>(jw b U).bind λc=>Kn x l h c
def xS{H m:Hp}{f:List V}{b:Vd}{n:Yb}(r:tx G H f b n)(l:b.all LO=J)(d:W3):tx G m (pick f d) (pick b d) (List.replicate (pick b d).length []):=by
 induction d with
 |nil=>exact .nil
 |cons i d g =>
  unfold pick at g ⊢;rw[YA,YA];cases e:b[i]? with
  |none =>
   have:f[i]?=Y:=by
    rw[Yw]at e ⊢;rw[r.len.1];exact e
   rw[this];exact g
  |some t =>
   obtain⟨v,F,j,_,h⟩:=r.get i e;rw[j];exact .cons (xK (ZE.mp l t (YO e)) h).2 g
def vo{u:Expr}{y B:Option Expr}{N P M:Option Ex}{p2:Pos}(ha:PV G X a ca)(hl:JQ G X y N)(hh:JQ G X B P)(HK:JQ G X (O u) M)(hK:X.K=G.K:=by rfl):PV G X (.Subscript a (.Slice y B (O u) p2) pos) (rZ ca N P M) :=
 PE.weak (tF wq ha hl hh HK) λZ H Q hq=>by
  obtain⟨L,U,m,t,s,e,k⟩:=hq;unfold rZ at e;obtain⟨⟨mx,x⟩,ea,o⟩:=Zz.mp e;obtain⟨l,g,n⟩:=Zz.mp o;obtain⟨h,eh,j⟩:=Zz.mp n;obtain⟨c,ec,d⟩:=Zz.mp j;clear e o n j;refine⟨L,U,mx,x,s,ea,λv H1 F e1 r1 f1=>⟨L,U,l,s.same e1,g,λH2 e2=>⟨L,U,h,(s.same e1).same e2,eh,λH3 i=>⟨L,U,c,((s.same e1).same e2).same i,ec,λH4 I=>?_⟩⟩⟩⟩;have R:aM H H4:=((e1.trans e2).trans i).trans I;have W:=((r1.same e2).same i).same I;unfold Kn at d;split at d
  ·rename_i m' f q;cases q;split at d
   ·rename_i C;cases d;obtain⟨a',r,Fs,rfl,rfl,Eg,w⟩:=W.lst_inv;refine⟨a',r,rfl,by rw[hK];exact DM.of Eg,C.2,λp A=>?_⟩;have fl:(List.replicate (gf f l h c).length ([]:Wn)).flatten=[]:=by simp
    refine k (.ref p) _ (p :: (List.replicate (gf f l h c).length ([]:Wn)).flatten) (R.trans (bL A)) (.lst aw ?_) ⟨?_,λb D=>?_⟩
    ·have g:r.length=f.length:=w.len.1;unfold gf;rw[g];exact xS w C.1 _
    ·rw[fl];exact ZU.mpr ⟨(λz=>nomatch z),List.nodup_nil⟩
    ·rw[fl]at D;rw[Zf.mp D];exact R.free A
   ·cases d
  ·cases d
end
end VS
end
section
namespace p0
def CN{α:Type}{n:Nat}{b:List α}(d:b.length=n+1):∃a t,b=a :: t/\t.length=n:=by
 obtain⟨a,t,e⟩:=List.exists_cons_of_length_eq_add_one d;subst e;exact⟨a,t,rfl,Nat.succ.inj d⟩
def mh{α:Type}{b:List α}(d:b.length=1):∃a,b=[a]:=List.length_eq_one_iff.mp d
def pD{α:Type}{d:List α}(f:d.length=2):∃a b,d=[a,b]:=by
 obtain⟨a,t,rfl,e⟩:=CN f;obtain⟨b,rfl⟩:=mh e;exact⟨a,b,rfl⟩
def C0{α:Type}{d:List α}(f:d.length=3):∃a b c,d=[a,b,c]:=by
 obtain⟨a,t,rfl,e⟩:=CN f;obtain⟨b,c,rfl⟩:=pD e;exact⟨a,b,c,rfl⟩
end p0
end
section
namespace VS
open PySem PySem.Spec PyProof.Rows p0
inductive Res where | ok (v:Val) | ex (x:Str)
inductive O5 where | ok (o:Out) | ex (x:Str) (U:VS.Env)
abbrev VF:=VS.Env->Option Res
abbrev VD:=VS.Env->Option O5
end VS
end
section
namespace VS
open PySem PySem.Spec PyProof.Rows p0
abbrev B7:=List (Nat×T)
abbrev Mt:=B7->Vd->Option (B7×T)
end VS
end
section
namespace VS
open PySem PySem.Spec PyProof.Rows p0
open Classical in
noncomputable def less(H:Hp)(F:Wn):Hp:=λb=>if b∈F then Y else H b
end VS
end
section
namespace VS
open PySem PySem.Spec PyProof.Rows p0
inductive Ia where | io (i:Nat) (un:Bool) | ex (c:Ex)
abbrev Xt:=VS.Env->Option (Bool×VS.Env)
end VS
end
section
namespace VS
open PySem PySem.Spec PyProof.Rows p0
def x2(f:Val->Val->Ve)(a b:Xx):Xx:=λU=>(a U).bind λz=>(b z.2).bind λw=>(f (.fr,z.1.2) (.fr,w.1.2)).bind λv=>if DZ z.1.2=J/\DZ w.1.2=J/\DZ v.2=J then O ((.fr,v.2),w.2) else Y
inductive Ix where | io (i:Nat) (un:Bool) | px (x:Xx)
end VS
end
section
namespace p0
open PySem PySem.Spec PyProof.Rows
def tU{b a:Pos}{c v:IR}(l:Wm)(h:TriplesOk l)(e:codeAmong a (l++[rawInt b.line,rawInt b.col,c])=O v):codeAmong a l=O v\/v=c:=by
 fun_induction TriplesOk l
 ·simp only[YS,rawInt,codeAmong]at e;split at e
  ·cases e;exact .inr M
  ·cases e
 ·rename_i f;simp only[WI,codeAmong]at e ⊢;split at e
  ·rename_i d;rw[Zr d];exact .inl e
  ·rename_i d;rw[Zm d];exact f h e
 ·exact h.elim
def Bm(d:X2)(a:SC):Prop:=∃bm b,d "__builtins__" = O (.ref bm)/\bm≠builtinsNs/\a.get? bm=O b/\b.cls=.type "module" ∧ b.dict=O builtinsNs/\b.data=.plain
noncomputable abbrev AM(q:Str)(a:Arguments)(d:Expr)(b:Scope)(g:List (Str×GM))(e:IR)(c:GM)(f:IR):Obj:=PySem.W.kla_obj "<lambda>" q a d b g e c f
section
variable{X:Cx}{pins:Yh}{Z:St}{H:Hp}{s:FB}
def Inv.known{o:Obj}{a:SC}{t':Nat}(I:Inv X pins Z H { s with heap:=a,toks:=t' })(d:o.isFreed=false):Inv X pins Z (upd H a.objs.size (.frz o (.own a.objs.size))) { s with heap:=a.push o,toks:=t' } :=
 have e:(a.push o).get? a.objs.size=O o:=ZX _ d
 I.laid (t':=t') (λb u e=>Zg _ e) (Zs _) ⟨e,o,e⟩
def vk{A:Pi}{E:Yl}{Q:Yl}{a:Arguments}{l:Expr}{i:Scope}{x:Pos}{c P:GM}{q:Str}{Iy:List (Str×GM)}(I:Inv X pins Z H s)(hq:X.env.qual ++ "<lambda>" = q)(Im:defaultsOf a X.env=([],[]))(Ip:closureFor i X.env=pure Iy)(hc:X.env.code=.ref c)(C:PySem.W.CodeHd X.base c P)(ht:Tb X.base P q)(B:Bm X.mg X.base)(h:∀f g ct j y p t H' s',Inv X pins Z H' s'->aM H H'->H' f=O (.frz (AM q a l i Iy ((X.mg "__name__").getD .none) g ct) (.own f))->H' g=O (.frz j (.own y))->j.data=.fields p->p[1]?=O (.str q t)->Q (.ref f) s') :
  KB (FM X.prog X.w) A (eval (.Lambda a l i x) X.env) Q E s:=by
 have D:=I.tb P q ht;obtain⟨ps,e,tr,cs⟩:=I.xb P _ D;have hg:s.heap.Ns mainGlobals X.mg:=I.mod.glob.keeps I.bk;have C':=C.keeps I.bk;obtain⟨bm,ob,b1,b2,U,b4,b5,b6⟩:=B;obtain⟨og,_,_,eg,dg,_⟩:=I.mod.glob;have Tu:mainGlobals≠P:=λz=>by have:=(I.bs _ _ eg).2;rw[z,D]at this;cases this
 have hB:s.heap.BuiltinsAt X.mg P:=⟨bm,ob,b1,b2,(λz=>by rw[z,eg]at U;cases U;rw[dg]at b6;cases b6),(λz=>by have:=(I.bs _ _ U).2;rw[z,D]at this;cases this),I.bk _ _ U,b4,b5,b6⟩
 refine PySem.W.kla_eval Im ?_;rw[hq];cases hf:codeAmong x ps.toList with
 |some v =>
  obtain⟨g,j,y,p,t,rfl,r2,r3,r4⟩:=cs x v hf;refine PySem.W.kla_makeFunctionHit (mg:=X.mg) Ip I.ok.glob hg hc C' e tr hf hB λct N F hk hsz=>?_;have J:Inv X pins Z H { s with heap:=N,toks:=F }:=I.kept (t':=F) hk;have R:H N.objs.size=Y:=J.xb.fresh (Zs _);exact h _ g ct j y p t _ _ (Inv.known J M) (λb o q=>by rw[av (aR q R)];exact q) aw (by rw[av (aR r2 R)];exact r2) r3 r4
 |none =>
  refine PySem.W.kla_makeFunction (mg:=X.mg) Ip I.ok.glob hg hc C' e tr hf Tu hB λg ct N F G L Gd Jy PN=>?_;obtain⟨c2,j,p,t,e2,KL,hd,hv⟩:=Jy;cases e2;have R:H g=Y:=I.xb.fresh L;have ne:∀b u,s.heap.get? b=O u->b≠g:=λb u q=>ZL (ZD (ZZ q) L);have nP:∀b,H b=Y->b≠P:=λb n z=>by rw[z,D]at n;cases n
  have up:∀b o,H b=O o->upd H g (.frz j (.own g)) b=O o:=λb o q=>by rw[av (aR q R)];exact q
  suffices J:Inv X pins Z (upd H g (.frz j (.own g))) { s with heap:=N,toks:=F } by
   have J0:upd H g (.frz j (.own g)) N.objs.size=Y:=J.xb.fresh (Zs _);exact h _ g ct j g p t _ _ (Inv.known J M) (λb o q=>by rw[av (aR (up b o q) J0)];exact up b o q) aw (by rw[av (aR aw J0)];exact aw) hd hv
  refine I.step (g':=s.gens) (d':=s.drawn) (t':=F) (ch:=[]) (λb z=>nomatch z) (λb o _ _ _ q n=>G b o (nP b n) q) (λb o _ _ _ q n=>⟨o.slots,G b o (nP b n) q⟩) (λb o _ q n=>by rw[av (ne b o q)];exact n) (λb o _ q=>?_)
   (λb xs q=>up b _ q) (λb o u q=>up b _ q) (λb n q=>up b _ q) (λm hm=>?_) (λb o q=>?_) I.bare
  ·by_cases B:b=P
   ·exact⟨_,by rw[B];exact PN⟩
   ·exact⟨o,G b o B q⟩
  ·obtain⟨o,es,ep,ho,r⟩:=hm;exact⟨o,es,ep,G _ o (nP _ I.free) ho,r⟩
  ·by_cases B:b=g
   ·subst B;rw[aw]at q;cases q;exact⟨KL,j,KL⟩
   ·rw[av B]at q;by_cases Hx:b=P
    ·subst Hx;rw[D]at q;cases q;refine⟨_,PN,?_,λpos' v r=>?_⟩
     ·rw[Yp];exact TriplesOk_snoc _ _ _ _ tr
     ·rw[Yp]at r;rcases tU _ tr r with r | r
      ·obtain⟨c3,o3,y3,Jc,t3,r1,r2,r3⟩:=cs pos' v r;exact⟨c3,o3,y3,Jc,t3,r1,up _ _ r2,r3⟩
      ·exact⟨g,j,g,p,t,r,aw,hd,hv⟩
    ·refine(I.xb b o q).F7 (λd v hd r=>G d v ?_ r) (λd r=>up d _ r) (λd xs r=>up d _ r) λd o y r=>up d _ r;rcases hd with z | z
     ·rw[z];exact Hx
     ·intro z';rw[z',D]at z;cases z
end
noncomputable def uK(X:Cx)(N:List Str)(q:Str)(a:Scope)(f c:GM)(b:List (Str×GM))(A:Pi)(s:FB)(H:Hp):Cx :=
 { X with A:=A.deeper (PySem.W.envX q a s.heap.objs.size f (.ref c) b),N:=N,s₀:=s,H₀:=H,env:=PySem.W.envX q a s.heap.objs.size f (.ref c) b,outer:=X.stack,stack:=PySem.W.envX q a s.heap.objs.size f (.ref c) b :: X.stack,ex:=[],fn:=λ_=>false,calm:=true,pn:=[],xe:=λ_ _=>False }
section
variable{X:Cx}{pins:Yh}{Z:St}{H:Hp}{s:FB}{N:List Str}{sc:Scope}{cl:List (Str×GM)}{q x:Str}{f c:GM}{A:Pi}{v:V}{u:IR}
def Inv.lam{h1:SC}{tk:Nat}{m:X2}(I:Inv X pins Z H s)(t:iw X.env sc=J)(Gc:iO sc N X.N=J)(Q:sc.names.lookup x=O .local)(j:∀x c,cl.lookup x=O c->X.env.cells.lookup x=O c)(D:∀y∈sc.names,y.2=.free->∃c,cl.lookup y.1=O c)(KW:A.frames=X.A.frames)(hh:A.handled=Y)(L:RelV v u)(IL:h1.Ns s.heap.objs.size m)(U:m x=O u)(a:∀b o,s.heap.get? b=O o->h1.get? b=O o) :
  Inv (uK X (x :: N) q sc f c cl A s H) [] (O v :: Z) H { s with heap:=h1,toks:=tk }:=by
 unfold iw at t;rw[FV,ZE]at t;obtain⟨W,F⟩:=t;have Ei:sc.kind=.function:=by simpa using W
 obtain⟨hlen,GU⟩:=mF Gc;have frees:∀y,sc.names.lookup y=O .cell\/sc.names.lookup y=O .free->sc.names.lookup y=O .free:=λy h=>h.elim (λz=>by have:=F _ (bX z);cases this) id;refine⟨⟨I.mod,Ei,rfl,rfl,Zs _,λx y c e1 e2=>I.ok.inj x y c (j x c e1) (j y c e2),λy P=>D _ (bX (frees y P)) M,λx c e=>(nomatch e),λ_=>hh,Around.frames_deeper (KW.trans I.ok.frames),.inr ⟨rfl,rfl⟩,λb g=>(nomatch g),
  I.tb,I.bs,ZV I.ok.HP I.sz,λb o e g=>(nomatch g),λb g GS=>(nomatch g),I.stack,I.FD⟩,rfl,I.bare,Un.kept a,⟨m,IL,λi y w e1 e2 n=>?_⟩,λy c e=>?_,I.xb.fresh (Zs _),λy c e=>I.Ec y c (j y c e),λp R=>(nomatch R),I.xb.kept a,?_⟩
 ·cases i with
  |zero =>
   have ex:x=y:=ZJ (show (x :: N)[0]?=O y from e1);have ev:v=w:=by simpa using e2
   subst ex ev;exact⟨u,L,.inl ⟨Q,U⟩⟩
  |succ i =>
   have e1:N[i]?=O y:=by simpa using(show (x :: N)[i+1]?=O y from e1)
   have e2:Z[i]?=O (O w):=by simpa using e2
   have n:FX sc y:=n;rcases GU i y e1 with⟨hX,d⟩ | d | d
   ·have C:X.env.kindOf y=O .cell\/X.env.kindOf y=O .free:=by simpa using F _ (bX d)
    obtain⟨mX,S5,NU⟩:=I.loc;obtain⟨G,r,l⟩:=NU _ y w hX e2 (C.elim (λz=>.inr (.inl z)) λz=>.inr (.inr z));obtain⟨c,B⟩:=D _ (bX d) M;refine⟨G,r,.inr ⟨.inr d,c,B,?_⟩⟩;rcases l with⟨z,_⟩ | ⟨_,c',E4,GA⟩
    ·rcases C with q | q<;>(rw[z]at q;cases q)
    ·have:=j y c B;rw[E4]at this;cases this;exact GA.keeps a
   ·rcases n with z | z | z<;>(rw[d]at z;cases z)
   ·rcases n with z | z | z<;>(rw[d]at z;cases z)
 ·obtain⟨v,z⟩:=I.cell y c (j y c e);exact⟨v,z.keeps a⟩
 ·show (O v :: Z).length=(x :: N).length;rw[Zj,Zj,I.len,hlen]
def za{Q:VK}{t:TE}{a:Arguments}{d:Expr}{F L:IR}{B:Obj}{y:GM}{p:Array IR}{D:Tok}(I:Inv X pins Z H s)(hp:H f=O (.frz (AM q a d sc cl F c L) (.own f)))(D4:H c=O (.frz B (.own y)))(SY:B.data=.fields p)(hv:p[1]?=O (.str q D))(U:iw X.env sc=true)(Gc:iO sc N X.N=true)(G:sc.names.lookup x=O .local)(FA:∀x c,cl.lookup x=O c->X.env.cells.lookup x=O c)(Hv:∀y∈sc.names,y.2=.free->∃c,cl.lookup y.1=O c)(hb:bindArgs (PySem.W.kla_fn "<lambda>" q a d sc cl F (.ref c) L) ⟨[u],[]⟩=pure [(x,u)])(Oa:sc.isCoroutine=S)(JD:sc.isGenerator=S)(KW:A.frames=X.A.frames)(hh:A.handled=Y)(hd:A.depth<recursionLimit)(ru:RelV v u)(E5:PE (uK X (x :: N) q sc f c cl A s H) d t)(h:t (O v :: Z) H Q) :
  KB (FM X.prog X.w) A (call (.ref f) [u]) (λr i=>∃w g,Inv X pins Z g i/\RelV w r/\Q w g/\∀b o,gc X pins H b->s.heap.get? b=O o->i.heap.get? b=O o/\gc X pins g b) (λ_ _=>False) s:=by
 have NF:=I.xb f _ hp;have n:=U;unfold iw at n;rw[FV,ZE]at n;have Ei:sc.kind=.function:=by simpa using n.1
 have EN:∀y∈sc.names,y.2 ≠ .cell:=λy hy e=>by have:=n.2 y hy;rw[e]at this;cases this
 have Jy:s.heap.CodeRec (.ref c) q:=⟨c,B,p,D,rfl,(I.xb c _ D4).1,SY,hv⟩
 refine wpAny_call (WX (R:=λr i=>match r with | .ok (.ret u)=>CE X.stack X.prog X.w H s Q u i | _=>False) (PySem.W.kla_callFunE hd NF.1 rfl Oa JD rfl Jy ?_) λr i j=>?_)
 ·rw[hb];refine Zp (wpAny_newFunctionEnv EN (λz hz=>by rw[Zf.mp hz];exact G) (λh₁ IL M=>⟨I.nolimit.fresh _ M,?_⟩) Ei);have KR:∀b o,s.heap.get? b=O o->h₁.get? b=O o:=λb o e=>M.extBut b o (ZL (ZZ e)) (Zg _ e);have J:=I.lam (N:=N) (q:=q) (x:=x) (f:=f) (c:=c) (A:=A) (tk:=s.toks+([(x,u)]:List (Str×IR)).length) U Gc G FA Hv KW hh ru IL (by show List.lookup x [(x,u)]=O u;simp) KR;refine PySem.W.kla_codeExpr (Yn (E5 [] _ _ H Q J h) (λr i hr=>?_) λ_ _ z=>z.elim);obtain⟨w,g,m,G1,qw⟩:=hr;exact⟨w,g,m.os,m.bare,m.base,m.xb,G1,qw⟩
 ·cases r with
  |error e=>exact j.elim
  |ok fl =>
   cases fl with
   |ret u =>
    obtain⟨v,g,os,bare,un,xb,r,q⟩:=j;obtain⟨v2,H2,I2,r2,rfl,rfl,q2⟩:=I.after (Q:=λC P=>C=v/\P=g/\Q C P) ⟨v,g,os,bare,un,xb,r,rfl,rfl,q⟩;refine⟨v2,H2,I2,r2,q2,λb o l e=>?_⟩;have nf:b∉EE X.stack:=λz=>(Zo.mp (I.Ez b z)).elim l.2.1 l.2.2.1;exact⟨un.keep b o e l.1 nf (by simp),un.free b o e l.1 (by simp),l.2⟩
   |next=>exact False.elim j
   |brk=>exact False.elim j
   |cont=>exact False.elim j
end
end p0
end
section
open PySem PyProof.Rows
namespace TS
variable{prog:PP}{w:SL}{A:Pi}{E:Yl}{s:FB}{G:KF->Prop}{r:KF->KF->Bool}
def sj{a:GM}{f:IR}{vs:Wm}{n:Nat}{P:PySem.Fin->FB->Prop}{J:Wm->FB->Prop}(t:(f != Value.none)=true)(m:s.heap.get? a=O (seqObj "list" vs.toArray n))(i:vs.length<=FS)(X:J [] { s with heap:=bS s.heap a vs })(p:KeyPre prog w A E P f a (dq s.heap a vs) ((bS s.heap a vs).get? a) vs J List.reverse) :
  KB (FM prog w) A (Builtin.«list.sort» ⟨[.ref a],[(("key" : Str),f),(("reverse" : Str),.bool true)]⟩) P E s:=by
 obtain⟨o,R⟩:∃k,(s.heap.update a (Obj.mapSeq λ_=>#[])).get? a=O (seqObj "list" #[] k):=⟨_,Xm m _⟩
 have at2:=ma (vs:=vs) (ZZ m) R;have ne:a≠dq s.heap a vs:=by rw[i0];exact ZL (Xi (ZZ m))
 unfold Builtin.«list.sort»;refine(show KB (FM prog w) A (Builtin.List.listItems (.ref a)>>=_) P E s from ?_);refine Zy (X1 m M (Zy (YX m M (Zy (XA R M (Zy (wpAny_newTuple (Zy (Wq (YJ ?_))))))))));refine(show KB (FM prog w) A (if (f != Value.none)=true then _ else _) P E { s with heap:=bS s.heap a vs } from ?_);rw[Zr t];refine Zy (Wr (Zy ?_));rw[← XJ];refine Xn _ (λrest _ g=>∃b,J b g/\rest=vs.drop b.length/\b.length<=vs.length) _ ?turn ?fin _ _ ⟨[],X,by simp,by simp⟩
 case turn =>
  rintro x rest r g ⟨b,l,e,B⟩;have F:b.length<vs.length:=by
   have:=congrArg List.length e;rw[Zj,ZG]at this;omega
  have e2:x :: rest=vs[b.length] :: vs.drop (b.length+1):=by rw[e];exact YI F
  injection e2 with ex er
  have y:vs[b.length]?=O x:=by rw[Zh F,ex]
  refine Zy (Wp (Yn (p.step b x g y l) (λk v ⟨⟨e2,Z⟩,W⟩=>?_) λ_ _ z=>z.elim));have sz:b.toArray.size<=sizeLine:=by rw[Ze];exact ZV B i
  exact(show KB (FM prog w) A (Builtin.List.listUpdate (.ref (dq s.heap a vs)) (λU=>U.push k)>>=_) _ _ _ from Zy (YX Z M (Zp ⟨b++[k],W,by rw[er];simp,by simp;exact Wc F⟩) (hsz:=sz) (hsz2:=by rw[Array.size_push];exact Y2 sz)))
 case fin =>
  rintro r g ⟨b,l,e,B⟩;have EW:b.length=vs.length:=by
   have:=congrArg List.length e;rw[YY,ZG]at this;lia
  obtain⟨eK,C⟩:=p.keys b g l;have L:=p.self b g l;rw[at2]at L;obtain⟨kd,G,r,hC,hG,IM,hP⟩:=p.fin b g l EW;have fin:∀d:Pv,(arrOf d).Perm (b.zip vs).reverse.toArray->failedOf d=Y->(arrOf d).toList.Pairwise (le r)->P (.done (.ret .none)) { g with heap:=(g.heap.update (dq s.heap a vs) (Obj.mapSeq λ_=>#[])).update a (Obj.mapSeq λ_=>((arrOf d).map (·.2)).reverse) }:=λd h _ j=>by
   have:=hP (arrOf d).toList ((show (arrOf d).toList.Perm (b.zip vs).reverse by simpa using YK.mp h).trans (List.reverse_perm _)) j
   rwa [← WH,← Wx,W2]at this
  have u:(g.heap.update (dq s.heap a vs) (Obj.mapSeq λ_=>#[])).get? a=O (seqObj "list" #[] o):=by rw[Xd _ _ (YE ne)];exact L
  refine(show KB (FM prog w) A (if (f != Value.none)=true then _ else _) P E g from ?_);rw[Zr t];refine(show KB (FM prog w) A (Builtin.List.listItems (.ref (dq s.heap a vs))>>=_) P E g from Zy (X1 C M ?_));have room:∀d:Pv,(arrOf d).Perm (b.zip vs).reverse.toArray->((arrOf d).map (·.2)).reverse.size<=FS+1:=λd h=>by
   rw[Array.size_reverse,Array.size_map,h.size_eq,Ze,List.length_reverse,Yz];lia
  have N:b.toArray.size<=sizeLine:=by rw[Ze];exact ZV B i
  have D:(b.toArray.zip vs.toArray).reverse=(b.zip vs).reverse.toArray:=by simp
  by_cases two:2<=vs.length
  ·have no:¬(vs.toArray.size<2):=by rw[Ze];exact Vm two
   refine(show KB (FM prog w) A (if vs.toArray.size<2 then _ else _) P E g from ?_);rw[Zm no];refine Zy (IM two _ ?_);refine(show KB (FM prog w) A (StateT.run (if vs.toArray.size<2 then pure () else sortRuns') (SortSt.mk' kd (b.toArray.zip vs.toArray).reverse #[] 7 Y)>>=_) P E g from ?_);rw[Zm no];refine Zy (Yn (m9 hC (a₀:=(b.zip vs).reverse.toArray) (st:=SortSt.mk' kd (b.toArray.zip vs.toArray).reverse #[] 7 Y)
    (Q:=λ_ d=>(arrOf d).Perm (b.zip vs).reverse.toArray/\failedOf d=Y/\(arrOf d).toList.Pairwise (le r)) M (λx y=>hG x (by simpa using y)) D M M λd a1 a2 a3=>⟨a1,a2,a3⟩) ?_ λ_ _ e=>e)
   rintro⟨⟨⟩,d⟩ v ⟨rfl,h,I,j⟩;refine(show KB (FM prog w) A (if (f != Value.none)=true then _ else _) P E v from ?_);rw[Zr t];refine(show KB (FM prog w) A (Builtin.List.listUpdate (.ref (dq s.heap a vs)) (λ_=>#[])>>=_) P E v from Zy (YX C M (Zy (wpAny_letGo (Zy (XA u M (Zy (YX u M ?_ (hsz2:=room d h))))))) (hsz:=N)));have H:=I;unfold failedOf at H;rw[H];simp only[bne_self_eq_false,FW,↓reduceIte];exact Zp (fin d h I j)
  ·have yes:vs.toArray.size<2:=by rw[Ze];exact WR two
   have h:(arrOf (SortSt.mk' general' (b.toArray.zip vs.toArray).reverse #[] 7 Y)).Perm (b.zip vs).reverse.toArray:=by
    show (b.toArray.zip vs.toArray).reverse.Perm _;rw[D]
   have j:(arrOf (SortSt.mk' general' (b.toArray.zip vs.toArray).reverse #[] 7 Y)).toList.Pairwise (le r):=by
    show (b.toArray.zip vs.toArray).reverse.toList.Pairwise (le r);rw[D]
    match vs,b,two with
    |[],_,_=>simp
    |[_],[],_=>simp
    |[_],_ :: _,_=>simp
    |_ :: _ :: _,_,q=>simp at q
   refine(show KB (FM prog w) A (if vs.toArray.size<2 then _ else _) P E g from ?_);rw[Zr yes];refine Zy (Zp ?_);refine(show KB (FM prog w) A (StateT.run (if vs.toArray.size<2 then pure () else sortRuns') (SortSt.mk' general' (b.toArray.zip vs.toArray).reverse #[] 7 Y)>>=_) P E g from ?_);rw[Zr yes,StateT.run_pure];refine Zy (Zp ?_);refine(show KB (FM prog w) A (if (f != Value.none)=true then _ else _) P E g from ?_);rw[Zr t];refine(show KB (FM prog w) A (Builtin.List.listUpdate (.ref (dq s.heap a vs)) (λ_=>#[])>>=_) P E g from Zy (YX C M (Zy (wpAny_letGo (Zy (XA u M (Zy (YX u M ?_ (hsz2:=room _ h))))))) (hsz:=N)));have b0:(o != o)=S:=bne_self_eq_false _;refine(show KB (FM prog w) A (if (o != o)=true then _ else ret Value.none) P E _ from ?_);rw[Zm (by rw[b0];simp)];exact Zp (fin _ h M j)
end TS
end
section
open PySem PyProof.Rows
namespace TS
variable{prog:PP}{w:SL}{A:Pi}{E:Yl}{s:FB}
def lU:IR->Int
 |.int i _=>i
 |_=>0
def zh:Ep prog w A E s oneType' (λp=>∃i t,p.1=Value.int i t) (λp q=>decide (lU p.1<lU q.1)):=by
 refine⟨?_,?_,?_⟩
 ·rintro st ⟨x,f⟩ ⟨y,e⟩ Q a ⟨i,t,ex⟩ ⟨j,u,d⟩ h;cases (show x=_ from ex);cases (show y=_ from d);rw[lt'_eq];refine Za (We ?_);rw[a,keyLt'_oneType];exact Za (wpS_lift (Wp (oneLt_int ⟨rfl,Zl h⟩)))
 ·rintro x y _ _ h;have:=of_decide_eq_true h;exact ZP (by lia)
 ·rintro x y z _ _ _ h1 b;have:=of_decide_eq_false h1;have:=of_decide_eq_false b;exact ZP (by lia)
theorem ints_in:∀{l:Wm},(∀u∈l,∃i t,u=Value.int i t)->IntsAre l (l.map lU)
 |[],_=>.nil
 |u :: l,h=>by
  obtain⟨i,t,rfl⟩:=h u Zx;exact .cons _ _ (ints_in λv a=>h v (Zw _ a))
def pW{R:Wm->FB->Prop}{r:GM}{j:Int}{t u v:Tok}(H:A.handled=Y)(G:IsRange s.heap r 0 j 1 t u v)(P:0<=j)(h1:j<=16777216)(h:∀(d:SC)(g:Nat)(acc:Array IR),(∀b o,s.heap.get? b=O o->d.get? b=O o)->ItemsOf (λi v=>∃t,v=.int (0+i*1) t) acc j.toNat->R acc.toList { s with heap:=d,toks:=g }) :
  KB (FM prog w) A (collect (.ref r)) R E s:=by
 unfold collect;refine Zy (wpAny_runValue (codeAny_builtin entry_proto_collect' ?_));rw[Around.under_plainId PySem.F.plain_proto_collect _];show KB _ A.in1 (newList [] >>= λl=>again (.builtin "list.__iadd__" ⟨[l,.ref r],[]⟩)) _ _ s;refine Zy (X7 ?_);refine Zp ⟨plainId_quiet PySem.F.plain_list_iadd _,codeAny_builtin entry_list_iadd' ?_⟩;rw[Around.under_plainId PySem.F.plain_list_iadd _];have L:(s.heap.push { cls:=.type "list",data:=.seq ([]:Wm).toArray }).get? s.heap.objs.size=O { cls:=.type "list",data:=.seq #[] }:=ZX _ M;show KB _ A.in1 (Builtin.List.listExtendWith (.ref s.heap.objs.size) (.ref r) (.ref s.heap.objs.size)) _ _ _;have key:=wpAny_extend_range (prog:=prog) (w:=w) (A:=A) (s:={ s with heap:=s.heap.push { cls:=.type "list",data:=.seq ([]:Wm).toArray } })
  (R:=λ(q:Result) (D:FB)=>∃(d:SC)(g:Nat)(m:Array IR)(z:Nat),q=.ok (.ret (.ref s.heap.objs.size))/\D={ s with heap:=d,toks:=g } ∧
   (∀b o,s.heap.get? b=O o->d.get? b=O o)/\d.get? s.heap.objs.size=O { cls:=.type "list",dict:=Y,data:=.seq m z,slots:=#[] }/\ItemsOf (λi v=>∃t,v=.int (0+i*1) t) m j.toNat)
  (r:=r) (a:=0) (b:=j) (c:=1) (n:=j.toNat) H (Zg _ G) (small_one (by lia) (by lia) (by lia) (by lia)) (by rw[rangeSize_one];split<;>lia) (by lia) s.heap.objs.size (.ref s.heap.objs.size) 0 L
  (λd g m z p B C=>⟨d,g,m,z,rfl,rfl,λb o e=>p b o (ZL (ZZ e)) (Zg _ e),B,C⟩)
 refine Yn key (λfin D x=>?_) λe D x=>?_
 ·cases fin with
  |done f =>
   obtain⟨d,g,m,z,e,rfl,p,B,C⟩:=x;cases e;show KB _ A (load s.heap.objs.size>>=_) _ _ _;exact Zy (wpAny_load B (Zp (h d g m p C)))
  |again c₁ =>
   refine⟨x.1,WX x.2 λq N y=>?_⟩;obtain⟨d,g,m,z,rfl,rfl,p,B,C⟩:=y;show KB _ A (load s.heap.objs.size>>=_) _ _ _;exact Zy (wpAny_load B (Zp (h d g m p C)))
 ·obtain⟨_,_,_,_,I,_⟩:=x;cases I
def mq(a f:IR):argsOk "sorted" ⟨[a],[(("key" : Str),f),(("reverse" : Str),.bool J)]⟩:=by unfold argsOk;kernel_rfl
def pI(a f:IR):argsOk "list.sort" ⟨[a],[(("key" : Str),f),(("reverse" : Str),.bool J)]⟩:=by unfold argsOk;kernel_rfl
def nr{x f:IR}{Q:Yl}(l:(f != Value.none)=true)(o:∀(i:Pi)(p:Yl),i.handled=A.handled->KB (FM prog w) i (collect x) (λb a=>b.length<=FS/\∃J,J [] { a with heap:=eV a.heap b } ∧
   KeyPre prog w A.in1.in1 E (λfin d=>fin=.done (.ret .none)/\Q (.ref a.heap.objs.size) d) f a.heap.objs.size (a.heap.objs.size+2) ((eV a.heap b).get? a.heap.objs.size) b J List.reverse) p s) :
  KB (FM prog w) A (call (.builtin "sorted") [x] [(("key" : Str),f),(("reverse" : Str),.bool true)]) Q E s:=by
 refine call_function_entry_kw kind_sorted plain_sorted entry_sorted (mq _ _) (show KB _ _ (Builtin.«sorted» _) _ _ _ from ?_);unfold Builtin.«sorted»;refine Zy (m:=checkCount "sorted" 1 1 _) (Zp (Zy (Yn (o A.in1 (λ_ _=>False) M) ?_ λ_ _ e=>e.elim)));rintro b a ⟨hlen,J,j,kp⟩;refine Zy (Wq ?_ (by exact hlen));have g:(a.heap.push (seqObj "list" b.toArray 0)).get? a.heap.objs.size=O (seqObj "list" b.toArray 0):=ZX _ M;have n:dq (a.heap.push (seqObj "list" b.toArray 0)) a.heap.objs.size b=a.heap.objs.size+2:=by rw[i0,Xr]
 refine(show KB _ _ _ _ _ { a with heap:=a.heap.push (seqObj "list" b.toArray 0) } from ?_);have main:=sj (J:=J) (s:={ a with heap:=a.heap.push (seqObj "list" b.toArray 0) }) l g hlen j (P:=λfin d=>fin=.done (.ret .none)/\Q (.ref a.heap.objs.size) d) (by rw[n];exact kp);exact Zy (YJ (wpAny_call_entry_kw slot_list_sort ⟨_,g,rfl⟩ entry_list_sort (Yn main (λfin d h=>⟨_,h.1,Zp ⟨_,rfl,h.2⟩⟩) λ_ _ e=>e) (pI _ _)))
end TS
namespace p0
open PySem PySem.Spec PyProof.Rows TS
section
variable{X:Cx}{pins:Yh}{Z:St}{H:Hp}{s:FB}
def JR(X:Cx)(a:Yh)(Z:St)(H:Hp)(g:Nat->Int)(b j:Nat)(h:Wm)(f:FB):Prop:=∃d,Inv X a Z d f/\aM H d/\gc X a d b/\gc X a d (b+2)/\(∃e,f.heap.get? (b+2)=O (seqObj "list" h.toArray e))/\f.heap.get? b=O (seqObj "list" #[] j) ∧
  ∀(i:Nat)(u:IR),h[i]?=O u->∃t,u=Value.int (g i) t
def kX{f p:GM}{j:Int}{key:Nat->Int}{Q:VK}(C:X.calm=J)(I:Inv X pins Z H s)(hp:H p=O (.rng 0 j))(h0:0<=j)(h1:j<=16777216)(run:∀(i:Nat)(u:IR)(n:FB)(m:Hp),i<j.toNat->RelV (.int i) u->Inv X pins Z m n->aM H m->KB (FM X.prog X.w) X.A.in1.in1 (call (.ref f) [u]) (λr P=>∃w U,Inv X pins Z U P/\RelV w r/\(w=.int (key i)/\aM m U)/\∀b o,gc X pins m b->n.heap.get? b=O o->P.heap.get? b=O o/\gc X pins U b) (λ_ _=>False) n)(q:∀(l:GM)(m:Hp)(ys:W3),aM H m->m l=Y->ys.Perm (List.range j.toNat)->ys.Pairwise (λa b=>key b<=key a)->Q (.ref l) (upd m l (.lst (ys.map λi:Nat=>V.int (i:Int))))) :
  KB (FM X.prog X.w) X.A (call (.builtin "sorted") [.ref p] [(("key" : Str),.ref f),(("reverse" : Str),.bool J)]) (EP X pins Z Q) X.xe s:=by
 obtain⟨t,u,v,g⟩:=(show aW X.prog X.w H s.heap p (.rng 0 j) from I.xb p _ hp)
 refine nr M λA' E' hA=>pW (hA.trans (I.ok.hd C)) g h0 h1 λh1 tk acc kp Eb=>?_;have R:Inv X pins Z H { s with heap:=h1,toks:=tk }:=I.kept kp;have K4:acc.toList.length=j.toNat:=by rw[Yo,Eb.1]
 have each:∀(i:Nat)(v:IR),acc.toList[i]?=O v->∃t,v=Value.int (i:Int) t:=λi v hv=>by
  rw[Gm]at hv;obtain⟨t,e⟩:=Eb.2 i v hv;exact⟨t,by rw[e];congr 1;lia⟩
 generalize SN:acc.toList=F at *;obtain⟨e0,K8⟩:=i4 h1 F;have LK:h1.objs.size≠h1.objs.size+2:=by lia
 refine⟨by show _<=16777216;lia,JR X pins Z H key h1.objs.size e0,?_,?_⟩
 ·exact⟨H,R.kept (t':=tk) λb o e=>jy e,aM.refl _,R.Fm (Zs _) (R.xb.fresh (Zs _)),R.Fm (ZI _ 2) (R.xb.fresh (ZI _ 2)),⟨0,iK h1 F⟩,K8,λi u e=>by simp at e⟩
 ·refine⟨λd n ⟨m,_,_,_,_,e,_⟩=>e,λd n ⟨m,_,_,_,_,_,e,_⟩=>e.trans K8.symm,?_,?_⟩
  ·rintro d x n hx ⟨m,I2,sm,fL,D,⟨eK,hK⟩,hL,G5⟩;obtain⟨t,rfl⟩:=each _ _ hx;have Tq:d.length<j.toNat:=by rw[← K4];exact(ZY.mp hx).1
   refine Yn (run d.length _ n m Tq ⟨t,rfl⟩ I2 sm) ?_ λ_ _ e=>e;rintro u P ⟨w,U,I3,ru,⟨rfl,Gq⟩,DH⟩;obtain⟨G,rfl⟩:=ru;obtain⟨kK,N⟩:=DH _ _ D hK;obtain⟨Nt,Oy⟩:=DH _ _ fL hL;have Oq:∃e,(P.heap.update (h1.objs.size+2) (Obj.mapSeq λxs=>xs.push (Value.int (key d.length) G))).get? (h1.objs.size+2)=O (seqObj "list" (d++[Value.int (key d.length) G]).toArray e):=by
    have:=Xm kK λxs=>xs.push (Value.int (key d.length) G);rw[this,show d.toArray.push (Value.int (key d.length) G)=(d++[Value.int (key d.length) G]).toArray by simp];exact⟨_,rfl⟩
   refine⟨⟨eK,kK⟩,U,I3.turned (it:=h1.objs.size+2) (t':=P.toks) (λc o C e=>by rw[Yu _ _ _ _ C];exact e) N.1 N.2.1 N.2.2.2.1 N.2.2.2.2.1 N.2.2.2.2.2,sm.trans Gq,Oy,N,Oq,?_,λi u y=>?_⟩
   ·rw[Yu _ _ _ _ LK];exact Nt
   ·by_cases L:i<d.length
    ·rw[Yv L]at y;exact G5 i u y
    ·rw[Hg (by exact Xv L)]at y;have NY:i=d.length:=by
      by_cases z:i-d.length=0
      ·lia
      ·rw[WA (by simp;lia)]at y;cases y
     subst NY;simp at y;exact⟨G,y.symm⟩
  ·rintro d n ⟨m,I2,sm,fL,D,⟨eK,hK⟩,hL,G5⟩ W;have kz:∀z∈d.zip F,∃(i:Nat)(t t':Tok),z=(Value.int (key i) t,Value.int (i:Int) t'):=λz B=>by
    obtain⟨i,L,e⟩:=GE B;have e':(d.zip F)[i]?=O z:=by rw[Zh L,e]
    obtain⟨z1,z2⟩:=z;rw[XU]at e';obtain⟨t,rfl⟩:=G5 i z1 e'.1;obtain⟨t',rfl⟩:=each i z2 e'.2;exact⟨i,t,t',rfl⟩
   refine⟨oneType',_,_,zh,λz B=>?_,λtwo Q1 q1=>?_,λout o1 o2=>⟨rfl,?_⟩⟩
   ·obtain⟨i,t,t',rfl⟩:=kz z B;exact⟨_,_,rfl⟩
   ·have hI:IntsAre d (d.map lU):=ints_in λu y=>by
     obtain⟨i,L,e⟩:=GE y;obtain⟨t,e2⟩:=G5 i u (by rw[Zh L,e]);exact⟨_,t,e2⟩
    match d,W,hI with
    |v₁ :: v₂ :: Gh,_,hI =>
     rw[keyKind_ints hI];exact Zp q1
    |[],W,_=>rw[← W]at two;exact absurd two (by decide)
    |[_],W,_=>rw[← W]at two;exact absurd two (by simp)
   ·have I3:=I2.turned (it:=h1.objs.size+2) (t':=n.toks) (h':=n.heap.update (h1.objs.size+2) (Obj.mapSeq λ_=>#[])) (λc o C e=>by rw[Yu _ _ _ _ C];exact e) D.1 D.2.1 D.2.2.2.1 D.2.2.2.2.1 D.2.2.2.2.2;have Oo:(n.heap.update (h1.objs.size+2) (Obj.mapSeq λ_=>#[])).get? h1.objs.size=O (seqObj "list" #[] e0):=by rw[Yu _ _ _ _ LK];exact hL
    have K7:=Xm Oo λ_=>(out.map (·.2)).reverse.toArray;have ho:∀z∈out.reverse,∃(i:Nat)(t t':Tok),z=(Value.int (key i) t,Value.int (i:Int) t'):=λz B=>kz z (o1.mem_iff.mp (YQ.mp B));have Jk:out.reverse.length=j.toNat:=by
     rw[List.length_reverse,o1.length_eq,Yz];lia
    have vals:∀{out:List KF},(∀z∈out,∃(i:Nat)(t t':Tok),z=(Value.int (key i) t,Value.int (i:Int) t'))->aQ ((out.map λz=>(lU z.2).toNat).map λi:Nat=>V.int (i:Int)) (out.map (·.2)):=by
     intro out
     induction out with
     |nil=>intro _;exact .nil
     |cons z out ih =>
      intro h;obtain⟨i,t,t',rfl⟩:=h z Zx;exact .cons ⟨t',rfl⟩ (ih λz B=>h z (Zw _ B))
    refine⟨.ref h1.objs.size,_,I3.adopt (o:=.lst ((out.reverse.map λz=>(lU z.2).toNat).map λi:Nat=>V.int (i:Int))) (t':=n.toks) fL (λc o C e=>by rw[Yu _ _ _ _ C];exact e) ⟨_,K7⟩ (show aW X.prog X.w _ _ _ (.lst _) from⟨by rw[Zv,Zv,Jk];show _<=16777216;lia,out.reverse.map (·.2),_,vals ho,by rw[List.map_reverse];exact K7⟩),rfl,q _ m _ sm fL.1 ?_ ?_⟩
    ·have:=((List.reverse_perm out).trans o1).map λz=>(lU z.2).toNat;refine this.trans (List.Perm.of_eq ?_);have e:(d.zip F).map (λz=>(lU z.2).toNat)=((d.zip F).map Prod.snd).map λv=>(lU v).toNat:=by rw[Yy];rfl
     rw[e,X3 (by lia)];refine List.ext_getElem (by rw[Zv,ZH,K4]) λi h1 h2=>?_;rw[List.getElem_map,Wh];obtain⟨t,e⟩:=each i _ (Zh (by simpa using h1));rw[e];exact Yf i
    ·rw[XE,List.pairwise_reverse];refine Xy (λ{a b} ha hb h=>?_) o2;obtain⟨i,t,t',rfl⟩:=ho a (YQ.mpr ha);obtain⟨k,t2,t3,rfl⟩:=ho b (YQ.mpr hb);have:=of_decide_eq_false (show decide (key k<key i)=S from h);show key ((i:Int).toNat)<=key ((k:Int).toNat);rw[Yf,Yf];lia
end
end p0
end
section
namespace p0
open PySem PySem.Spec PyProof.Rows
abbrev Df(X:Cx)(b:Scope)(a:List (Str×GM)):Prop:=(∀x c,a.lookup x=O c->X.env.cells.lookup x=O c)/\∀y∈b.names,y.2=.free->∃c,a.lookup y.1=O c
structure Gg(X:Cx)(q:Str)(params:Arguments)(body:Expr)(sc:Scope)(H:Hp)(f:GM):Prop where
 ex:∃cl c ct oc y vs t,Df X sc cl/\H f=some (.frz (AM q params body sc cl ((X.mg "__name__").getD .none) c ct) (.own f))/\H c=some (.frz oc (.own y))/\oc.data=.fields vs/\vs[1]?=some (.str q t)
section
variable{X:Cx}{params:Arguments}{body:Expr}{sc:Scope}{pos:Pos}{q:Str}{c P:GM}
def Gg.same{H a:Hp}{f:GM}(l:Gg X q params body sc H f)(e:aM H a):Gg X q params body sc a f:=by
 obtain⟨cl,c,ct,d,y,b,t,h1,i,h,g⟩:=l.ex;exact⟨cl,c,ct,d,y,b,t,h1,e _ _ i,e _ _ h,g⟩
def Aj(n:X.env.qual ++ "<lambda>" = q)(A:defaultsOf params X.env=([],[]))(G:iw X.env sc=J)(p:X.env.code=.ref c)(C:PySem.W.codeHdIn X.K c P=J)(m:Tb X.base P q)(r:Bm X.mg X.base) :
  PE X (.Lambda params body sc pos) (λZ H Q=>∀f a,aM H a->Gg X q params body sc a f->Q (.ref f) a):=by
 intro d s Z H Q I h;have b:=G;unfold iw at b;rw[FV,ZE]at b;obtain⟨cl,z,F,D⟩:=qX (sc:=sc) (env:=X.env) λy l e=>I.ok.has y.1 (by
  have:=b.2 y l;rw[e]at this;simpa using this)
 refine vk I n A z p (PySem.W.codeHd_of_K I.mod.L5 C) m r λf x ct j y g t a L B i o w v u=>?_;exact⟨.ref f,a,B,rfl,h f a i ⟨cl,x,ct,j,y,g,t,⟨F,D⟩,o,w,v,u⟩⟩
end
end p0
namespace VS
open PySem PySem.Spec PyProof.Rows p0
def j6(a:Ex)(U:VS.Env)(i:Nat):Option Int:=(a (O (.pu (.int i)) :: U)).bind λv=>int? v.2
def tK(f e:Ex)(U:VS.Env):Option (Vd->Prop):=(f U).bind λx=>(int? x.2).bind λj=>if (0<=j/\j<=16777216)/\(List.range j.toNat).all (λi=>(j6 e U i).isSome)=J then
 O λl=>∃d:W3,l=d.map (λi:Nat=>T.int (i:Int))/\d.Perm (List.range j.toNat)/\d.Pairwise (λa b=>(j6 e U b).getD 0<=(j6 e U a).getD 0) else Y
open Classical in
noncomputable def lP(g:Tg)(S:VS.Env->Option (Vd->Prop))(b:Sx):Sx:=λU=>(S U).bind λP=>if h:∃o,∀l,P l->forL g b l U=O o then O h.choose else Y
def Pb(G:Gx)(S:VS.Env->Option (Vd->Prop)):TI:=λZ H R=>∃L U P,SR G L U Z H/\S U=O P/\∀l,P l->∀J b C,aM H b->GH G J l C b->(∀a∈C,H a=Y)->R J b
def Bz(G:Gx)(X:Cx)(b a:Expr)(S:VS.Env->Option (Vd->Prop)):Prop:=PI X b a (Pb G S)
section
variable{G:Gx}{X:Cx}{tg:Expr}{pos p p2 kp DH Nj lp:Pos}
def yz{S:VS.Env->Option (Vd->Prop)}{g:Tg}{cb:Sx}{D:Ends}{Z:p0.St}{H:Hp}(d:tS G (lP g S cb) D Z H):AQ (Pb G S) (tG G g) (tS G cb) D Z H:=by
 obtain⟨L,U,o,s,e,k⟩:=d;obtain⟨P,j,e1⟩:=Zz.mp e;split at e1
 ·rename_i h;cases e1;refine⟨L,U,P,s,j,λl f J q C b ok fr=>?_⟩;have:=wx (G:=G) (ci:=λ_=>O (.fr,l)) (g:=g) (cb:=cb) (D:=D) (Z:=Z) (H:=H) ⟨L,U,_,s,h.choose_spec l f,k⟩;obtain⟨w,v,m,u,t,n,r⟩:=this;cases n;exact r J q C b ok λa i=>.inl (fr a i)
 ·cases e1
def AO{a:Expr}{b:List Stmt}{S:VS.Env->Option (Vd->Prop)}{g:Tg}{d:Sx}(h:PassesOwn (FM X.prog X.w) X.A X.env X.xe)(l:X.calm=J)(i:Bz G X tg a S)(j:JS G X tg g)(m:jm G X b d)(e:∀x,UF a X.env x=pure x):PSV G X (.For tg a b [] pos) (lP g S d):=PS.weak (uq h l i j m e) λD Z H f=>yz f
def SR.under{L:DJ}{U:VS.Env}{Z:p0.St}{H:Hp}(s:SR G L U Z H)(i:Int):SR G (λn=>match n with | 0=>[] | n+1=>L n) (some (.pu (.int i)) :: U) (some (.int i) :: Z) H:=by
 refine⟨by rw[Zj,Zj,s.len],λn c h=>?_,λn t h=>?_,λn m t c h d ne a b=>?_⟩
 ·cases n with
  |zero=>cases h;exact⟨_,rfl,.int i⟩
  |succ n=>exact s.rp n c h
 ·cases n with
  |zero=>cases h
  |succ n=>exact s.nd n t h
 ·cases n with
  |zero=>cases h
  |succ n =>
   cases m with
   |zero=>exact λz=>nomatch z
   |succ m=>exact s.sep n m t c h d (λe=>ne (by rw[e])) a b
def xI{a B er:Expr}{ca ck:Ex}{k0 k':Nat}{d:Arguments}{D:Scope}{q y:Str}{c P:GM}{N:List Str}(hr:xt k' X.A)(hk:k0+3<=k')(hm:X.mg "sorted" = Y)(S9:X.mg "range" = Y)(ha:PV G X a ca)(he:PV G X er (eC (.bl J)))(NT:∀(f c:GM)(cl:List (Str×GM))(A:Pi)(s:FB)(H:Hp),xt k0 (A.deeper (PySem.W.envX q D s.heap.objs.size f (.ref c) cl))->PV G (uK X (y :: N) q D f c cl A s H) B ck)(C:PySem.W.codeHdIn X.K c P=J)(ht:Tb X.base P q)(Oi:Bm X.mg X.base)(hg:Gl X "sorted")(Tt:Gl X "range")(hc:X.calm=J)(hs:K0 a [] X)(Gb:KM [a] X.env=[(S,eval a X.env)])(FJ:KM [.Call (.Name "range" p2) [a] [] lp] X.env=(S,eval (.Call (.Name "range" p2) [a] [] lp) X.env) :: KM [] X.env)(hq:X.env.qual ++ "<lambda>" = q)(Im:defaultsOf d X.env=([],[]))(EK:iw X.env D=J)(Gc:iO D N X.N=J)(D4:X.env.code=.ref c)(hx:D.names.lookup y=O .local)(Oa:D.isCoroutine=S)(JD:D.isGenerator=S)(Hw:∀(cl:List (Str×GM))(pm ct u:IR)(c:GM),bindArgs (PySem.W.kla_fn "<lambda>" q d B D cl pm (.ref c) ct) ⟨[u],[]⟩=pure [(y,u)])(N8:backTo pos (KM [.Call (.Name "range" p2) [a] [] lp] X.env)=(S,eval (.Call (.Name "range" p2) [a] [] lp) X.env) :: backTo pos (KM [] X.env))(hpl:(backTo pos (KM [.Call (.Name "range" p2) [a] [] lp] X.env)).any (·.1)=S) :
  Bz G X tg (.Call (.Name "sorted" p) [.Call (.Name "range" p2) [a] [] lp] [⟨O "key",.Lambda d B D kp,DH⟩,⟨O "reverse",er,Nj⟩] pos) (tK ca ck):=by
 have inner:PE X (.Call (.Name "range" p2) [a] [] lp) (λZ H Q=>tE G ca Z H λv g=>∃j:Int,v=.int j/\∀b,g b=Y->Q (.ref b) (upd g b (.rng 0 j))):=by
  intro n s Z H Q I h;refine Call_ (gE I Tt S9 boot_range (Y0 (thn ((dc ha eQ hs) lp n s Z H (λvs g=>∃j:Int,vs=[.int j]/\∀b,g b=Y->Q (.ref b) (upd g b (.rng 0 j))) I ?_) λus s1 ⟨vs,g,I1,r1,q1⟩=>?_) Gb M))
  ·obtain⟨L,U,m,r,s1,s2,s3⟩:=h;exact⟨L,U,m,r,s1,s2,λv H' F e1 e2 e3=>by
    obtain⟨j,e,z⟩:=s3 v H' F e1 e2 e3;exact⟨j,by rw[e],z⟩⟩
  ·obtain⟨j,e,q⟩:=q1;subst e;obtain⟨u,rfl,t,rfl⟩:=vals1 r1;exact call_range_1 ⟨.ref s1.heap.objs.size,_,I1.laid (a:=s1.heap.objs.size) (o:=.rng 0 j) (λ_ _ q=>Zg _ q) (Zs _) ⟨_,_,_,ZX _ M⟩,rfl,q _ (I1.xb.fresh (Zs _))⟩
 have pe:PE X (.Call (.Name "sorted" p) [.Call (.Name "range" p2) [a] [] lp] [⟨O "key",.Lambda d B D kp,DH⟩,⟨O "reverse",er,Nj⟩] pos) (λZ H Q=>∃L U P,SR G L U Z H/\tK ca ck U=O P/\∀(l:GM)(g:Hp)(ys:W3),aM H g->g l=Y->P (ys.map λi:Nat=>T.int (i:Int))->Q (.ref l) (upd g l (.lst (ys.map λi:Nat=>V.int (i:Int))))):=by
  rintro n s Z H Q I ⟨L,U,P,sr,eS,k⟩;obtain⟨⟨mx,x⟩,ea,e1⟩:=Zz.mp eS;obtain⟨j,ej,e2⟩:=Zz.mp e1;split at e2
  ·rename_i hj;cases e2;refine X0 (gE I hg hm i6 ?_ (by decide) M);refine PyProof.Rows.callWith_kw (thn ((dc inner eQ FJ) pos n s Z H (λvs g=>∃b,vs=[.ref b]/\aM H g/\g b=O (.rng 0 j)) I ⟨L,U,mx,x,sr,ea,λv H' F e1 e2 e3=>⟨j,?_,λb hb=>⟨b,rfl,λc o z=>by rw[av (aR (e1 c o z) hb)];exact e1 c o z,aw⟩⟩⟩) λus s1 ⟨vs,g,I1,r1,b,ev,F8,hb⟩=>?_) N8 hpl M M
   ·cases e2 with
    |int i=>cases ej;rfl
    |_=>cases ej
   ·subst ev;obtain⟨u,rfl,ru⟩:=r1.one;obtain rfl:=(show u=Value.ref b from ru)
    refine thn ((mB (nm:=O "key") (kpos:=DH) (Aj (pos:=kp) hq Im EK D4 C ht Oi) (mB (nm:=O "reverse") (kpos:=Nj) he vF)) pos n s1 Z g (λzs H2=>∃f,zs=[.ref f,.bl J]/\aM g H2/\Gg X q d B D H2 f) I1 (λf H' sm la=>⟨L,U,.fr,.bl J,(sr.same F8).same sm,rfl,λv VE F Pe r _=>⟨f,by rw[r.E6],sm.trans Pe,la.same Pe⟩⟩)) λws s2 ⟨zs,H2,I2,rz,f,ez,Gq,la⟩=>?_;subst ez;cases rz with
    |cons z1 z2 =>
     cases z2 with
     |cons z2 z3 =>
      cases z3;cases z1;cases z2;refine(show KB (FM X.prog X.w) X.A (call (.builtin "sorted") [.ref b] [(("key" : Str),Value.ref f),(("reverse" : Str),.bool J)]) (EP X n Z Q) X.xe s2 from ?_);refine kX (key:=λi=>(j6 ck U i).getD 0) hc I2 (Gq _ _ hb) hj.1.1 hj.1.2 (λi u s' H3 hi ru I3 HE=>?_) λl H3 ys HE hl hp hw=>k l H3 ys ((F8.trans Gq).trans HE) hl ⟨ys,rfl,hp,hw⟩;obtain⟨cl,c',ct,oc,y',vs,t,Ip,hf,E4,h3,h4⟩:=(la.same HE).ex;have Th:=ZE.mp hj.2 i (ZF.mpr hi);obtain⟨kv,P0⟩:=XS.mp Th;obtain⟨⟨mk,tk⟩,ek,Qt⟩:=Zz.mp P0;have r2:xt (k0+1) X.A.in1.in1:=xt.in1 (xt.in1 (hr.mono hk));refine za (A:=X.A.in1.in1) (N:=N) (x:=y) (t:=tE G ck) (Q:=λw H'=>w=.int ((j6 ck U i).getD 0)/\aM H3 H') I3 hf E4 h3 h4 EK Gc hx Ip.1 Ip.2 (Hw _ _ _ _ _) Oa JD M r2.hd r2.depth ru (NT f c' cl _ s' H3 (r2.deeper _)) ⟨_,_,mk,tk,((sr.same F8).same (Gq.trans HE)).under i,ek,λw H' F sm r _=>⟨?_,sm⟩⟩;cases r with
      |int i=>cases Qt;rw[P0];rfl
      |_=>cases Qt
  ·cases e2
 refine PI.weak (xN pe) λZ H R hq=>?_;obtain⟨L,U,P,s,eP,k⟩:=hq;refine⟨L,U,P,s,eP,λl g ys sm hl hP=>⟨l,rfl,⟨_,DM.of aw⟩,?_⟩⟩;have Gq:aM g (upd g l (.lst (ys.map λi:Nat=>V.int (i:Int)))):=λb o z=>by rw[av (aR z hl)];exact z
 refine k _ hP _ _ _ (sm.trans Gq) (rS X.K aw (kh ys)) λa ha=>?_;rw[show (ys.map λ_=>([]:Wn)).flatten=[] from List.flatten_eq_nil_iff.mpr λl hl=>by obtain⟨_,_,rfl⟩:=Yr.mp hl;rfl]at ha;cases Zf.mp ha;exact sm.free hl
end
end VS
end
section
namespace VS
open PySem PySem.Spec PyProof.Rows p0
def xp:Fn:=λa=>match a with
 |[.scr ns]=>if ns.length<=63 then O (.fr,.bl J) else Y
 |_=>Y
section
variable{P:PP}{w:SL}{K:Xj}{mg:X2}{base:SC}{G:Gx}
def w6{k:Nat}{f:GM}{b:On}{y:Str}{g:Fn}(j:G.K=K)(F:FnOk P w K mg base FC k f b [y] (G0 G g))(i:∀ns:Vw,ns.length<=63->g [.scr ns]=O (.fr,.bl J)) :
  FnOk P w K mg base FC k f b [y] (G0 (DW K) xp):=F.imp λn H Q E h=>by
 obtain⟨o,p,m,r,h1,a,q⟩:=h;unfold xp at a;split at a
 ·rename_i ns;split at a
  ·rename_i e;cases a;cases h1 with
   |cons r1 r2 =>
    cases r2;cases r1 with
    |scr d=>exact⟨[.scr ns],[[]],.fr,.bl J,.cons (.scr (by rw[j];exact d)) .nil,i ns e,λv l F e1 r f1=>q v l F e1 (by cases r;exact .bl _) f1⟩
  ·cases a
 ·cases a
end
end VS
end
section
namespace p0
open PySem PySem.Spec PyProof.Rows
abbrev Lz:=List (GM×GM×Str)
def pT(a:Lz)(b:GM):Option Str:=(a.find? λp=>p.2.1==b).map (·.2.2)
def iN{a:Lz}{b:GM}{q:Str}(h:pT a b=O q):∃c,(c,b,q)∈a:=by
 obtain⟨⟨c,P,d⟩,e,rfl⟩:=Zn.mp h;have:=List.find?_some e;cases (eq_of_beq this);exact⟨c,List.mem_of_find?_eq_some e⟩
def r9{P:PP}{w:SL}{K:Xj}{i N:X2}{k:Nat}{fa a:GM}{fd:On}{x:Str}{sp:Sp}{f:FB}{j:Wm}{B:Vw}{g:Lz}(KX:K.In f.heap)(IL:f.heap.Ns mainGlobals i)(R:f.heap.Ns builtinsNs N)(TF:∀x:Str,x ≠ "__name__" → N x=bootBuiltins x)(NR:f.heap.NoLimit)(hg:f.gens=#[])(t:f.heap.get? a=O { cls:=.type "list",data:=.seq j.toArray })(hi:IntsAre j B)(hl:B.length<=FS)(hr:xt k callerA)(TC:Bm i f.heap)(D:∀p∈g,PySem.W.CodeHd f.heap p.1 p.2.1/\f.heap.get? p.2.1=O (PySem.W.tabObj #[]))(hf:∀p∈g,pT g p.2.1=O p.2.2)(hN:PySem.W.noTabs K=J)(F:∀base:SC,K.In base->base.Ns mainGlobals i->Bm i base->(∀p∈g,Tb base p.2.1 p.2.2)->FnOk P w K i base FC k fa fd [x] sp)(Hw:∀(s:FB)(u:IR),BindsTo s fd ⟨[u],[]⟩ [(x,u)])(HL:∀H:Hp,VS.iV K H a B->sp [.ref a] H (λv _=>v=.bl J) λ_ _ _=>False) :
  codeAny (FM P w) callerA (.call (.ref fa) ⟨[.ref a],[]⟩) (λr A=>r=.ok (.ret (.bool J))/\OldK f.heap A.heap/\A.os=f.os/\AllBare A.gens) f:=by
 have rv:=lC hi;have Ni:=hi.length;obtain⟨H,U⟩:∃H:Hp,H=λb=>if b=a/\K.lookup a=Y then O (.frz { cls:=.type "list",data:=.seq j.toArray } (.lst (B.map V.int))) else (pT g b).map HO.tbl:=⟨_,rfl⟩
 have SS:∀{b q},pT g b=O q->b≠a:=λe z=>by
  obtain⟨c,l⟩:=iN e;have:=(D _ l).2;rw[z,t]at this;cases this
 have X:∀b,H b=Y\/(b=a/\K.lookup a=Y/\H b=O (.frz { cls:=.type "list",data:=.seq j.toArray } (.lst (B.map V.int))))\/∃q,pT g b=O q/\H b=O (.tbl q):=λb=>by
  rw[U];dsimp only;split
  ·rename_i z;exact .inr (.inl ⟨z.1,z.2,rfl⟩)
  ·cases e:pT g b with
   |none=>exact .inl M
   |some q=>exact .inr (.inr ⟨q,rfl,rfl⟩)
 have hP:∀p∈g,H p.2.1=O (.tbl p.2.2):=λp G=>by
  have e:=hf p G;rw[U];dsimp only;rw[Zm λz=>SS e z.1,e];rfl
 have xb:Ee P w H f.heap:=λb u e=>by
  rcases X b with z | ⟨rfl,_,z⟩ | ⟨q,e2,z⟩
  ·rw[z]at e;cases e
  ·rw[z]at e;cases e;exact⟨t,by rw[Zv];exact hl,j,_,rv,t⟩
  ·rw[z]at e;cases e;obtain⟨c,l⟩:=iN e2;exact⟨#[],(D _ l).2,trivial,λpos v e=>nomatch e⟩
 have none_of:∀{b:GM}{o:Obj},f.heap.get? b=O o->(b=a->K.lookup a≠Y)->o≠PySem.W.tabObj #[]->H b=Y:=λ{b o} e n d=>by
  rcases X b with z | ⟨z1,z2,_⟩ | ⟨q,e2,_⟩
  ·exact z
  ·exact absurd z2 (n z1)
  ·obtain⟨c,l⟩:=iN e2;have:=(D _ l).2;rw[show (c,b,q).2.1=b from rfl,e]at this;cases this;exact absurd M d
 have FP:∀{b:GM}{o:Obj},f.heap.get? b=O o->(b=a->K.lookup a≠Y)->o≠PySem.W.tabObj #[]->(kG f.heap H).get? b=O o:=λe n d=>uW e (none_of e n d);have L:∀{b:GM}{m:X2},f.heap.Ns b m->(kG f.heap H).Ns b m:=λ{b m} ⟨o,es,ep,e,d,r⟩=>⟨o,es,ep,FP e (λz=>by
  rw[z,t]at e;cases e;cases d) (λz=>by rw[z]at d;cases d),d,r⟩
 have Qi:K.In (kG f.heap H):=λb o e=>FP (KX b o e) (λz=>by rw[← z,e];exact λy=>nomatch y) λz=>by
  have C:=ZE.mp hN (b,o) (PySem.W.mem_of_lookupK e);subst z;exact absurd (show S=J from C) Zk
 have hM:Mod K i (kG f.heap H):=⟨Qi,L IL,⟨N,L R,TF⟩,let ⟨mc,h1,C⟩:=NR;⟨mc,L h1,C⟩⟩
 have TL:Bm i (kG f.heap H):=by
  obtain⟨bm,ob,b1,b2,Z,b4,b5,I⟩:=TC;exact⟨bm,ob,b1,b2,FP Z (λz=>by rw[z,t]at Z;cases Z;cases I) (λz=>by rw[z]at I;cases I),b4,b5,I⟩
 have e0:HC P w K i (kG f.heap H) callerA [] f H:=⟨rfl,hM,λb q e=>(rQ.mp e).1,λb o e=>xf e,XF (sL _ _),trivial,λb R=>absurd (show b∈([]:Wn) from R) (by simp),xb,.of_eq hg⟩
 have NC:VS.iV K H a B:=by
  cases Q:K.lookup a with
  |some o =>
   have e:=KX a o Q;rw[t]at e;cases e;exact .inr ⟨_,j.toArray,_,Q,rfl,rfl,rfl,by rw[Ze,Ni];exact hl,by simpa using rv⟩
  |none=>exact .inl ⟨{ cls:=.type "list",data:=.seq j.toArray },by rw[U];exact Zr ⟨rfl,Q⟩⟩
 refine WX ((F _ Qi (L IL) TL λp G=>rQ.mpr ⟨hP p G,ZZ (D p G).2⟩).run callerA [] f H ⟨[.ref a],[]⟩ [.ref a] [.ref a] _ _ hr e0 (Hw f (.ref a)) (.cons M .nil) (HL H NC)) λr A h=>?_;cases r with
 |error e=>exact h.elim
 |ok fl =>
  cases fl with
  |next=>exact False.elim h
  |brk=>exact False.elim h
  |cont=>exact False.elim h
  |ret u =>
   obtain⟨v,H',os,bare,un,KJ,r',q⟩:=h;have q':v=.bl J:=q;subst q';obtain rfl:u=Value.bool J:=r';have main:∀b o,f.heap.get? b=O o->asItWas f.heap A.heap b o/\∃o',A.heap.get? b=O o':=λb o e=>by
    rcases X b with z | ⟨rfl,_,z⟩ | ⟨q,e2,z⟩
    ·have:=un.keep b o e z (by intro z;exact absurd (show b∈([]:Wn) from z) (by simp)) (by simp);exact⟨.inl this,o,this⟩
    ·obtain⟨e1,_⟩:=KJ b _ (un.FL b _ _ z);rw[t]at e;cases e;exact⟨.inl e1,_,e1⟩
    ·obtain⟨c,l⟩:=iN e2;obtain⟨h1,C⟩:=D _ l;obtain⟨ps,e1,_⟩:=KJ b _ (un.Fg b _ z);have La:f.heap.get? b=O (PySem.W.tabObj #[]):=C;rw[La]at e;cases e;exact⟨.inr (.inl ⟨(h1.tab C).isCodeTable,rfl,#[],ps,rfl,by rw[Array.empty_append];exact e1⟩),_,e1⟩
   exact⟨rfl,⟨λb o e=>(main b o e).1,λb o e=>(main b o e).2⟩,os,bare⟩
end p0
namespace VS
open PySem PySem.Spec PyProof.Rows p0
def wg{l:PySem.W.OpenLaw}{q:PP}{i:List Str}{X:(X2)->SC->Prop}{d:DefRec}{K:Params->Xj}{A:Wn}{e:∀P,A=(K P).map (·.1)}{y:Wn}{x:Str}{k:Nat}{tb:Lz}(C:l.most=O 63)(Im:d.params.defaults=[])(B:xt k callerA)(Z:∀p∈tb,p.2.1∈y)(I:∀p∈tb,pT tb p.2.1=O p.2.2)(N:∀P,PySem.W.noTabs (K P)=J)(R:∀P,∀p∈tb,PySem.W.codeHdIn (K P) p.1 p.2.1=J)(F:∀(w:SL)(mg:X2)(j:GM)(h:SC),(K w.params).In h->h.Ns mainGlobals mg->mg d.name=O (.ref j) →
   ∃fd:On,(∀(s:FB)(u:IR),BindsTo s fd ⟨[u],[]⟩ [(x,u)])/\∀base:SC,(K w.params).In base->base.Ns mainGlobals mg->Bm mg base->(∀p∈tb,Tb base p.2.1 p.2.2)->FnOk l.prog w (K w.params) mg base FC k j fd [x] (G0 (DW (K w.params)) xp)) :
  PySem.W.WalkO q i X (PySem.W.kmHook K A e y).says l.row.toRowW d [] (λf t=>PySem.call f t):=by
 refine QO.nE C Im λw s₀ s₁ mg mb j o pm cd doc a t ns G Y ho hd D4 m Jz hints hlen D=>?_;have n:=PySem.W.km_in_of Y;have U:=PySem.W.km_tabs_of Y;obtain⟨fd,L,Q⟩:=F w mg j _ n G.T.g m;exact r9 n G.T.g G.T.b G.T.builtins G.T.nolimit D Jz hints (ZV hlen (by decide)) B G.T.bmain (λp z=>⟨PySem.W.codeHd_of_K n (R _ p z),U _ (Z p z)⟩) I (N _) Q L λH M=>⟨[.scr ns],[[]],.fr,.bl J,.cons (.scr M) .nil,Zr hlen,λv H' F _ r _=>r.E6⟩
end VS
namespace p0
open PySem PySem.Spec PyProof.Rows
def EH.RP{P:PP}{w:SL}{K:Xj}{m:X2}{b:SC}{x a:Str}{e:Stmt}{f:GM}{g:On}{N j:List Str}{k:Nat}{i:Sp}(F:EH K x a e f g)(S:xa N j (aq e))(l:∀d H Q E,i d H Q E->d.length=j.length)(u:∀(A:Pi)(outer:List Env)(s:FB)(H:Hp)(d:List V)(Q:VK)(E:XK),xt k (A.deeper (envOfC a (aq e) s.heap.objs.size f g.code))->i d H Q E →
   ∃t,Fu (kQ FC P w K m b N a (aq e) f g.code A outer s H E).Ig (aS e) t/\t { nx:=λ_ r=>Q .non r,rt:=Q } (start N d) H):FnOk P w K m b FC (k+1) f g j i:=by
 obtain⟨z,y,kV,doc,pm,an,C,ct,B,rfl,n,v⟩:=F.ex;refine zz n v S l λA outer s H d Q E o p=>?_;obtain⟨t,h,q⟩:=u A outer s H d Q E o p;exact⟨t,h.Ig,q⟩
end p0
namespace VS
open PySem PySem.Spec PyProof.Rows p0
section
variable{G:Gx}{P:PP}{w:SL}{K:Xj}{mg:X2}{base:SC}
def Bc{x:Str}{a:Stmt}{f c0:GM}{e:On}{N b:List Str}{k g i:Nat}{c:Sx}(F:EH K x x a f e)(o:mg x=O (.ref f))(t:e.code=.ref c0)(S:xa N b (aq a))(m:b.length=g)(n:N.length=i)(q:∀(kV doc pm:IR)(an:Option GM)(r ct:IR)(d:Wm),d.length=b.length->bindArgs (PySem.W.fnOf x x (aY a) (aS a) (aq a) .none kV doc pm an r ct) ⟨d,[]⟩=pure (b.zip d))(p:∀(A:Pi)(outer:List PySem.Env)(s:FB)(H:Hp)(E:XK),xt k (A.deeper (envOfC x (aq a) s.heap.objs.size f (.ref c0)))->jm G (kQ FC P w K mg base N x (aq a) f (.ref c0) A outer s H E).Ig (aS a) c) :
  FnAt P w K mg base (k+1) x b G (fn g i c):=by
 refine⟨f,e,F.RP S (λl H Q E h=>vC m h) λA outer s H l Q E j h=>?_,o,F.kp,F.binds q⟩;rw[t]at j ⊢;exact⟨_,p A outer s H E j,vH n h⟩
end
end VS
end
section
namespace T26
open VS
noncomputable section
def bq:Fn:=fn 3 3
  (eE (eN pR (af (dJ 1 (br 0) (fT (ae 0)) (O (e2 oLt (e2 aJ (ae 0) (Q3 0)) (ae 3))) (e2 aJ (ae 2) (e2 aJ (ae 0) (Q3 1)))) aC)))
noncomputable def bF:Sx :=
  (ql 1 [] (ae 2) (e2 bD (Q3 1) (eN pR (af (dJ 1 (br 0) (fT (e2 aJ (e2 aJ (ae 0) (ae 2)) (Q3 3))) Y (e2 aJ (ae 2) (e2 aJ (ae 0) (Q3 1)))) aC))))
noncomputable def bJ:Fn:=fn 1 3
  (au (jf 1 (dJ 1 (br 0) (fT (ae 0)) Y (Q3 1)))
  (au (lP (br 2) (tK (eN dS (af (ae 0) aC)) (e2 aJ (e2 aJ (ae 1) (ae 0)) (Q3 1))) bF)
  (jv 1)))
def dD:Fn:=fn 3 3
  (eE (e2 aJ (dJ 1 (br 0) (fT (ae 0)) (O (e2 oLe (aN bq (af (ae 1) (af (ae 2) (af (e2 aJ (ae 0) (Q3 0)) aC)))) (ae 3))) (ae 0)) (Q3 (-1))))
def eY:Sx :=
  (au (aK 5 (e2 ik (ae 5) (Q3 1)))
  (au (aK 6 (aN dD (af (ae 4) (af (ae 2) (af (ae 5) aC)))))
  (au (aK 5 (e2 ik (ae 5) (aN bq (af (ae 4) (af (ae 2) (af (e2 aJ (ae 6) (Q3 0)) aC))))))
  (au (aK 3 (e2 bD (ae 3) (e2 aJ (ae 6) (Q3 0))))
  (aK 4 (e2 aJ (e2 aJ (ae 0) (e2 aJ (ae 6) (Q3 1))) (Q3 3)))))))
noncomputable def dw:Fn:=fn 2 7
  (au (aK 2 (aN bJ (af (ae 0) aC)))
  (au (FF (om (gH oLe oLt (Q3 0) (ae 1) (e2 ik (e2 aJ (ae 2) (Q3 0)) (Q3 1)))) (eE (eC .non)) h9)
  (au (aK 3 (eC (.str [])))
  (au (aK 4 (e2 aJ (e2 aJ (ae 0) (Q3 0)) (Q3 3)))
  (au (aK 5 (e2 bD (ae 1) (Q3 1)))
  (au (p8 (e2 Gi (ae 5) (Q3 0)) eY)
  (jv 3)))))))
def dZ:Fn:=fn 2 2
  (au (FF (e2 oLt (ae 1) (eN dS (af (ae 0) aC))) (eE (e2 aJ (ae 0) (ae 1))) h9)
  (eE (Q3 0)))
noncomputable def ao:Fn:=fn 2 4
  (au (aK 2 (Q3 7))
  (au (FF (e2 Gi (eN dS (af (ae 0) aC)) (Q3 0)) (aK 2 (e2 aJ (ae 0) (e2 oMod (ae 1) (eN dS (af (ae 0) aC))))) h9)
  (au (aK 3 (e2 oMod (e2 eG (e2 bD (e2 bD (e2 oMod (ae 2) (Q3 2147483629)) (e2 eG (Q3 40503) (ae 1))) (Q3 1)) (Q3 48271)) (Q3 2147483647)))
  (au (aK 3 (e2 oMod (e2 eG (ae 3) (ae 3)) (Q3 2147483629)))
  (au (aK 3 (e2 oMod (e2 eG (e2 bD (ae 3) (ae 1)) (Q3 69621)) (Q3 2147483587)))
  (eE (e2 fi (e2 oMod (e2 eG (ae 3) (ae 3)) (Q3 2147483563)) (Q3 3))))))))
noncomputable def bE:Fn:=fn 1 3
  (au (aK 1 (e2 oMod (ae 0) (Q3 26)))
  (au (aK 2 (e2 aJ (gR (af (Q3 1) (af (Q3 3) (af (Q3 5) (af (Q3 7) (af (Q3 9) aC)))))) (e2 oMod (e2 fi (ae 0) (Q3 26)) (Q3 5))))
  (eE (dJ 1 (br 0) (cR (Q3 26)) Y (e2 aJ (eC (.str [97,98,99,100,101,102,103,104,105,106,107,108,109,110,111,112,113,114,115,116,117,118,119,120,121,122])) (e2 oMod (e2 bD (ae 2) (e2 eG (ae 3) (ae 0))) (Q3 26)))))))
def dh:Sx :=
  (au (aK 8 (e2 bD (ae 8) (e2 aJ (ae 1) (e2 oMod (ae 0) (ae 2)))))
  (aK 0 (e2 fi (ae 0) (ae 2))))
noncomputable def b7:Sx :=
  (au (aK 7 (eN pq (af (ae 4) (af (e2 oMod (ae 0) (Q3 25)) aC))))
  (au (aK 0 (e2 fi (ae 0) (Q3 25)))
  (au (aK 4 (e2 ik (ae 4) (ae 7)))
  (au (aK 8 (eC (.str [])))
  (au (eW (br 9) (cR (ae 7)) dh)
  (sX (mD 5 [] bx (af (ae 8) aC))))))))
noncomputable def cw:Fn:=fn 1 10
  (au (aK 1 (aN bE (af (ae 0) aC)))
  (au (aK 2 (e2 aJ (gR (af (Q3 1) (af (Q3 2) (af (Q3 3) (af (Q3 4) (af (Q3 2) (af (Q3 3) (af (Q3 4) (af (Q3 26) aC))))))))) (e2 oMod (e2 fi (ae 0) (Q3 130)) (Q3 8))))
  (au (aK 3 (e2 oMod (e2 fi (ae 0) (Q3 1040)) (Q3 5)))
  (au (aK 0 (e2 fi (ae 0) (Q3 5200)))
  (au (aK 4 (Q3 24))
  (au (jf 5 (gR aC))
  (au (eW (br 6) (cR (ae 3)) b7)
  (jv 5))))))))
noncomputable def bY:Sx :=
  (au (aK 11 (aN ao (af (ae 0) (af (e2 bD (e2 bD (e2 eG (Q3 20) (ae 6)) (Q3 6)) (ae 10)) aC))))
  (FF (mT (e2 II (eN dS (af (ae 9) aC)) (ae 8)) (e2 Gi (e2 oMod (ae 11) (Q3 4)) (Q3 0))) (aK 9 (e2 bD (ae 9) (e2 aJ (ae 9) (e2 ik (eN dS (af (ae 9) aC)) (ae 8))))) (aK 9 (e2 bD (ae 9) (e2 aJ (ae 2) (e2 oMod (e2 fi (ae 11) (Q3 4)) (ae 3)))))))
noncomputable def b8:Sx :=
  (au (aK 7 (eN pq (af (ae 4) (af (e2 oMod (aN ao (af (ae 0) (af (e2 bD (e2 eG (Q3 20) (ae 6)) (Q3 4)) aC))) (e2 bD (ae 1) (Q3 1))) aC))))
  (au (aK 4 (e2 ik (ae 4) (ae 7)))
  (au (aK 8 (e2 bD (Q3 1) (e2 oMod (aN ao (af (ae 0) (af (e2 bD (e2 eG (Q3 20) (ae 6)) (Q3 5)) aC))) (Q3 5))))
  (au (aK 9 (eC (.str [])))
  (au (eW (br 10) (cR (ae 7)) bY)
  (au (sX (mD 5 [] bx (af (ae 9) aC)))
  (FF (mT (e2 Gi (ae 7) (Q3 2)) (mT (e2 oEq (e2 oMod (aN ao (af (ae 0) (af (e2 bD (e2 eG (Q3 20) (ae 6)) (Q3 5)) aC))) (Q3 3)) (Q3 0)) (e2 II (ae 4) (Q3 2)))) (au (sX (mD 5 [] bx (af (Gj (ae 9) (O (Q3 1)) (O (Q3 3))) aC)))
  (aK 4 (e2 ik (ae 4) (Q3 2)))) h9)))))))
noncomputable def cp:Fn:=fn 2 12
  (au (aK 2 (aN bE (af (aN ao (af (ae 0) (af (Q3 1) aC))) aC)))
  (au (aK 3 (e2 aJ (gR (af (Q3 1) (af (Q3 2) (af (Q3 3) (af (Q3 4) (af (Q3 2) (af (Q3 3) (af (Q3 9) (af (Q3 26) aC))))))))) (e2 oMod (aN ao (af (ae 0) (af (Q3 2) aC))) (Q3 8))))
  (au (aK 4 (ae 1))
  (au (jf 5 (gR aC))
  (au (eW (br 6) (cR (e2 oMod (aN ao (af (ae 0) (af (Q3 3) aC))) (Q3 6))) b8)
  (au (xF 5)
  (eE (Gj (ae 5) Y (O (Q3 8))))))))))
noncomputable def dm:Fn:=fn 1 4
  (au (aK 1 (aN bE (af (aN ao (af (ae 0) (af (Q3 1) aC))) aC)))
  (au (aK 2 (e2 nH (e2 aJ (ae 1) (Q3 0)) (e2 bD (Q3 100) (e2 oMod (aN ao (af (ae 0) (af (Q3 2) aC))) (Q3 21)))))
  (au (FF (e2 oEq (e2 oMod (aN ao (af (ae 0) (af (Q3 3) aC))) (Q3 2)) (Q3 0)) (au (aK 3 (e2 oMod (aN ao (af (ae 0) (af (Q3 4) aC))) (eN dS (af (ae 2) aC))))
  (aK 2 (e2 bD (e2 bD (Gj (ae 2) Y (O (ae 3))) (e2 aJ (ae 1) (Q3 1))) (Gj (ae 2) (O (e2 bD (ae 3) (Q3 1))) Y)))) h9)
  (eE (gR (af (ae 2) aC))))))
noncomputable def d4:Fn:=fn 2 2
  (au (FF (e2 oEq (e2 oMod (aN dZ (af (ae 0) (af (Q3 0) aC))) (Q3 2)) (Q3 0)) (eE (aN cw (af (e2 fi (aN dZ (af (ae 0) (af (Q3 0) aC))) (Q3 2)) aC))) h9)
  (au (FF (mT (e2 Gi (ae 1) (Q3 30)) (e2 oEq (e2 oMod (aN ao (af (ae 0) (af (Q3 5) aC))) (Q3 16)) (Q3 0))) (eE (aN dm (af (ae 0) aC))) h9)
  (eE (aN cp (af (ae 0) (af (e2 aJ (gR (af (Q3 24) (af (Q3 24) (af (Q3 24) (af (ae 1) aC))))) (e2 oMod (aN ao (af (ae 0) (af (Q3 0) aC))) (Q3 4))) aC))))))
noncomputable def cY:Sx :=
  (iZ 1 (Gj (ae 3) (O (ae 5)) (O (ae 4))) (af (pF (af (ae 2) (af (ae 4) aC))) aC))
noncomputable def de:Sx :=
  (eW (br 5) (cR (e2 bD (ae 4) (Q3 1))) cY)
noncomputable def cn:Sx :=
  (eW (br 4) (cR (e2 bD (eN dS (af (ae 3) aC)) (Q3 1))) de)
noncomputable def cQ:Fn:=fn 1 6
  (au (jf 1 (oq 0 [((eC (.str [])),(gR aC))]))
  (au (eW (mY [(br 2),(br 3)]) (oF (ae 0)) cn)
  (jv 1)))
def d8:Fn:=fn 1 1
  (eE (pF (af (eN dS (af (ae 0) aC)) (af (ae 0) aC))))
def cZ:Sx :=
  (gS 1 (eN gq (af (e2 IH (ae 0) (ae 2)) aC)) (af (ae 2) aC))
def cJ:Fn:=fn 1 3
  (au (jf 1 (oq 2 []))
  (au (eW (br 2) (fT (eN jo (af (ae 0) aC))) cZ)
  (j8 1)))
def cM:Sx :=
  (pf 1 (ae 4) (ae 2))
def dX:Sx :=
  (eW (br 4) (fT (ae 3)) cM)
def bO:Fn:=fn 1 5
  (au (jf 1 (oq 0 []))
  (au (eW (mY [(br 2),(br 3)]) (oF (ae 0)) dX)
  (jv 1)))
noncomputable def gL:Sx :=
  (FF (e2 kR (e2 bD (e2 aJ (ae 3) (Q3 0)) (ae 5)) (ae 1)) (sX (mD 4 [] bx (af (pF (af (ae 5) (af (e2 IH (ae 1) (e2 bD (e2 aJ (ae 3) (Q3 0)) (ae 5))) aC))) aC))) h9)
noncomputable def dB:Sx :=
  (au (jf 4 (gR aC))
  (au (eW (br 5) (fT (eC (.str [97,98,99,100,101,102,103,104,105,106,107,108,109,110,111,112,113,114,115,116,117,118,119,120,121,122]))) gL)
  (au (xF 4)
  (au (aK 6 (eC .non))
  (au (FF (e2 HG (e2 aJ (ae 3) (Q3 0)) (eC (.str []))) (aK 6 (e2 IH (ae 1) (Gj (e2 aJ (ae 3) (Q3 0)) (O (Q3 1)) Y))) h9)
  (sX (mD 2 [] bx (af (pF (af (eN dS (af (e2 aJ (ae 3) (Q3 0)) aC)) (af (eN dS (af (e2 aJ (ae 3) (Q3 (-1))) aC)) (af (ae 6) (af (eN gq (af (ae 4) aC)) aC))))) aC))))))))
noncomputable def dz:Fn:=fn 2 7
  (au (jf 2 (gR aC))
  (au (eW (br 3) (fT (ae 0)) dB)
  (jv 2)))
noncomputable def iW:Sx :=
  (au (aK 10 (aN dw (af (ae 5) (af (ae 9) aC))))
  (FF (Lf (om (Lg .str (ae 10))) (e2 HG (ae 10) (e2 aJ (ae 6) (ae 9)))) (eE (eC (.bl S))) h9))
noncomputable def iD:Sx :=
  (FF (nW (aN dw (af (ae 5) (af (ae 9) aC)))) (eE (eC (.bl S))) h9)
noncomputable def nO:Fn:=fn 1 12
  (au (aK 1 (aN d4 (af (ae 0) (af (Q3 60) aC))))
  (au (aK 2 (aN cQ (af (ae 1) aC)))
  (au (aK 3 (aN cJ (af (ae 2) aC)))
  (au (aK 4 (aN dz (af (ae 3) (af (aN bO (af (ae 3) aC)) aC))))
  (au (aK 5 (eN kn (af (ae 4) aC)))
  (au (aK 6 (Gj (eN jW (af (ae 2) aC)) (O (Q3 1)) Y))
  (au (aK 7 (eN nh (af (eN dS (af (ae 6) aC)) aC)))
  (au (aK 8 (e2 bD (Q3 1) (e2 fi (eN dS (af (ae 6) aC)) (Q3 40))))
  (au (FF (e2 Gi (ae 8) (Q3 1)) (aK 7 (e2 bD (rZ (ae 7) (O (e2 oMod (aN ao (af (ae 0) (af (Q3 300) aC))) (ae 8))) Y (O (ae 8))) (Gj (ae 7) (O (Q3 (-1))) Y))) h9)
  (au (eW (br 9) (fT (ae 7)) iW)
  (au (aK 11 (e2 eG (aN ao (af (ae 0) (af (Q3 301) aC))) (e2 yj (Q3 10) (Q3 49))))
  (au (eW (br 9) (fT (gR (af (Q3 (-1)) (af (eN dS (af (ae 6) aC)) (af (e2 bD (e2 bD (eN dS (af (ae 6) aC)) (Q3 1)) (ae 11)) (af (e2 ik (Q3 (-2)) (ae 11)) aC)))))) iD)
  (eE (e2 oEq (ae 5) (ae 4)))))))))))))))
end
end T26
end
section
namespace T26
open VS
def kC(t:Tx)(h:ip t):d8 [.str t]=O (.fr,.tup [.int t.length,.str t]):=by
 have h1:=h.1;simp[d8,fn,dS,BF,oV];rw[Zr (by decide)];rfl
def e2v{f:Val->Val->Ve}{a b:Ex}{U:Env}{x y z:Val}(h1:a U=O x)(e:b U=O y)(d:f x y=O z):e2 f a b U=O z:=by
 show (a U).bind _=_;rw[h1,Zq,e];exact d
def xv{a:Ex}{r:D5}{U:Env}{x:Val}{xs:Vf}(h1:a U=O x)(b:r U=O xs):af a r U=O (x :: xs):=by
 show (a U).bind _=_;rw[h1,Zq,b];rfl
def jY{c:Ex}{a b:Sx}{U:Env}{m:Md}(h:c U=O (m,.bl J)):FF c a b U=a U:=by
 show (c U).bind _=_;rw[h];rfl
def jG{c:Ex}{a b:Sx}{U:Env}{m:Md}(h:c U=O (m,.bl S)):FF c a b U=b U:=by
 show (c U).bind _=_;rw[h];rfl
def nA{f:Vf->Ve}{a:D5}{U:Env}{xs:Vf}{v:Val}(h:a U=O xs)(b:f xs=O v):eN f a U=O v:=by
 show (a U).bind f=_;rw[h,Zq,b]
def jg{e:Ex}{U:Env}{t:T}(h:e U=O (.fr,t)):eE e U=O (.rt (.fr,t) U):=by
 show (e U).bind _=_;rw[h];rfl
def nc{a b:Sx}{U d:Env}{v:Val}(h:a U=O (.rt v d)):au a b U=O (.rt v d):=by
 show (a U).bind _=_;rw[h];rfl
def zm{n:Nat}{i:Int}(a:0<=i)(h1:i<n):Et n i=O i.toNat:=by rw[Et,Zr a,Zr h1]
def qM{m n:Md}(l:Vw)(i:Int)(a:0<=i)(h1:i<l.length):aJ (m,.scr l) (n,.int i)=O (.fr,.int (l.getD i.toNat 0)):=by
 have b:i.toNat<l.length:=by lia
 show (Et l.length i).bind _=_;rw[zm a h1,Zq,ZQ,Zh b];rfl
def zL(d:Vw):∃c,dZ [.scr d,.int 0]=O (.fr,.int c):=by
 cases d with
 |cons a r =>
  have e:(0:Int)<((a :: r).length:Int):=by rw[Zj];lia
  exact⟨_,vW [O (.pu (.scr (a :: r))),O (.pu (.int 0))] M M (nc ((jY (m:=.fr) (e2v (x:=(.fr,.int 0)) M (nA (xv M M) M) (congrArg (λb=>O (Md.fr,T.bl b)) (ZT e)))).trans (jg (e2v (x:=(.fr,.scr (a :: r))) M M (qM _ 0 (by decide) e)))))⟩
 |nil=>exact⟨0,rfl⟩
def cC(d:Vw)(k:Int)(A:0<=k)(h1:k<1000):∃n,ao [.scr d,.int k]=O (.fr,.int n)/\0<=n/\n<2147483648:=by
 obtain⟨c,o⟩:∃c,(FF (e2 Gi (eN dS (af (ae 0) aC)) (Q3 0)) (aK 2 (e2 aJ (ae 0) (e2 oMod (ae 1) (eN dS (af (ae 0) aC))))) h9) [O (.pu (.scr d)),O (.pu (.int k)),O (.pu (.int 7)),Y]=O (.nx [O (.pu (.scr d)),O (.pu (.int k)),O (.pu (.int c)),Y]):=by
  cases d with
  |nil=>exact⟨7,rfl⟩
  |cons a r =>
   have e:(0:Int)<((a :: r).length:Int):=by rw[Zj];lia
   exact⟨_,(jY (m:=.fr) (e2v (nA (xv M M) M) M (congrArg (λb=>O (Md.fr,T.bl b)) (ZT e)))).trans (aA (m:=.fr) (e2v (x:=(.fr,.scr (a :: r))) M (e2v (x:=(.fr,.int k)) M (nA (xv M M) M) (aV e)) (qM _ _ (Fb k (Int.ne_of_gt e)) (ZN k e))) (by decide) (by decide:2<4))⟩
 have a0:=Fb c (b:=2147483629) (by decide);have a1:=ZN c (b:=2147483629) (by decide);generalize y:c%2147483629=x1 at a0 a1;have u:=Fb ((x1+40503*k+1)*48271) (b:=2147483647) (by decide);have s:=ZN ((x1+40503*k+1)*48271) (b:=2147483647) (by decide);generalize z:(x1+40503*k+1)*48271%2147483647=x2 at u s;have c0:=Fb (x2*x2) (b:=2147483629) (by decide);have c1:=ZN (x2*x2) (b:=2147483629) (by decide);generalize v:x2*x2%2147483629=x3 at c0 c1;have q:=Fb ((x3+k)*69621) (b:=2147483587) (by decide);have p:=ZN ((x3+k)*69621) (b:=2147483587) (by decide);generalize w:(x3+k)*69621%2147483587=x4 at q p;have B:=Fb (x4*x4) (b:=2147483563) (by decide);have e1:=ZN (x4*x4) (b:=2147483563) (by decide);refine⟨x4*x4%2147483563/3,?_,by lia,by lia⟩;have j:∀m n,eG (m,.int (x1+40503*k+1)) (n,.int 48271)=O (.fr,.int ((x1+40503*k+1)*48271)):=λm n=>jd (by lia);have i:∀m n,eG (m,.int x2) (n,.int x2)=O (.fr,.int (x2*x2)):=λm n=>jd (by lia);have h:∀m n,eG (m,.int (x3+k)) (n,.int 69621)=O (.fr,.int ((x3+k)*69621)):=λm n=>jd (by lia);have g:∀m n,eG (m,.int x4) (n,.int x4)=O (.fr,.int (x4*x4)):=λm n=>jd (by lia);have l:∀m n,eG (m,.int 40503) (n,.int k)=O (.fr,.int (40503*k)):=λm n=>jd (by decide);unfold ao;refine vW [O (.pu (.scr d)),O (.pu (.int k)),Y,Y] (U':=[O (.pu (.scr d)),O (.pu (.int k)),O (.pu (.int c)),O (.pu (.int x4))]) M M ?_;rw[ft (U':=[O (.pu (.scr d)),O (.pu (.int k)),O (.pu (.int 7)),Y]) M,ft o];rw[ft (aA (m:=.fr) (t:=.int x2) (e2v (e2v (e2v (e2v (e2v M M ((aV (by decide)).trans (by rw[y]))) (e2v M M (l _ _)) M) M M) M (j _ _)) M ((aV (by decide)).trans (by rw[z]))) (by decide) (by decide:3<4))];refine(show au _ _ [O (.pu (.scr d)),O (.pu (.int k)),O (.pu (.int c)),O (.pu (.int x2))]=_ from ?_);rw[ft (aA (m:=.fr) (t:=.int x3) (e2v (e2v M M (i _ _)) M ((aV (by decide)).trans (by rw[v]))) (by decide) (by decide:3<4))];refine(show au _ _ [O (.pu (.scr d)),O (.pu (.int k)),O (.pu (.int c)),O (.pu (.int x3))]=_ from ?_);rw[ft (aA (m:=.fr) (t:=.int x4) (e2v (e2v (e2v M M M) M (h _ _)) M ((aV (by decide)).trans (by rw[w]))) (by decide) (by decide:3<4))];refine(show eE _ [O (.pu (.scr d)),O (.pu (.int k)),O (.pu (.int c)),O (.pu (.int x4))]=_ from ?_);refine jg ?_;have r:=e2v (f:=fi) (U:=[O (.pu (.scr d)),O (.pu (.int k)),O (.pu (.int c)),O (.pu (.int x4))]) (e2v (f:=oMod) (a:=e2 eG (ae 3) (ae 3)) (b:=Q3 2147483563) (e2v M M (g _ _)) M (aV (by decide))) (show Q3 3 _=O (.fr,.int 3) from rfl) (eA (by decide));exact r
abbrev Iz:Tx:=[97,98,99,100,101,102,103,104,105,106,107,108,109,110,111,112,113,114,115,116,117,118,119,120,121,122]
def v7{m n:Md}(t:Tx)(i:Int)(a:0<=i)(h1:i<t.length):aJ (m,.str t) (n,.int i)=O (.fr,.str [t.getD i.toNat 0]):=by
 have b:i.toNat<t.length:=by lia
 show (Et t.length i).bind _=_;rw[zm a h1,Zq,ZQ,Zh b];rfl
def AC(i:Nat)(h:i<26):97<=Iz.getD i 0/\Iz.getD i 0<=122:=by
 have:∀i,i<26->97<=Iz.getD i 0/\Iz.getD i 0<=122:=by decide
 exact this i h
def m7(c:Int):∃a:W3,bE [.int c]=O (.fr,.lst (a.map λx=>T.str [x]))/\a.length=26/\∀x∈a,97<=x/\x<=122:=by
 have a0:=Fb (c/26) (b:=5) (by decide);have a1:=ZN (c/26) (b:=5) (by decide);have li:=jX (m:=.fr) (n:=.fr) T.int [1,3,5,7,9] (c/26%5) 0 a0 (by simpa using a1) M;simp only[Zt,YF]at li;obtain⟨st,o,q,p⟩:∃st:Int,List.getD [1,3,5,7,9] (c/26%5).toNat 0=st/\0<=st/\st<10:=by
  have e:∀i,i<5->0<=(List.getD [1,3,5,7,9] i 0:Int)/\(List.getD [1,3,5,7,9] i 0:Int)<10:=by decide
  have h:=e (c/26%5).toNat (by lia);exact⟨_,rfl,h.1,h.2⟩
 rw[o]at li;have k0:=Fb c (b:=26) (by decide);have k1:=ZN c (b:=26) (by decide);generalize l:c%26=s at k0 k1;have comp:=jq (k:=1) (tg:=br 0) (it:=cR (Q3 26)) (elt:=e2 aJ (eC (.str Iz)) (e2 oMod (e2 bD (ae 2) (e2 eG (ae 3) (ae 0))) (Q3 26)))
  (U:=[O (.pu (.int c)),O (.pu (.int s)),O (.pu (.int st))]) (m:=.fr) (λ(j:Nat)=>T.int (j:Int)) (λj:Nat=>T.str [Iz.getD ((s+st*(j:Int))%26).toNat 0]) (List.range 26)
  (by rw[kJ (m:=.fr) (j:=26) M (by lia),oB];rfl) M (by decide) (λj r=>⟨[O (.pu (.int j)),O (.pu (.int c)),O (.pu (.int s)),O (.pu (.int st))],rfl,by
   have d:=Fb (s+st*(j:Int)) (b:=26) (by decide);have e1:=ZN (s+st*(j:Int)) (b:=26) (by decide);have ix:=v7 (m:=.fr) (n:=.fr) Iz ((s+st*(j:Int))%26) d (by exact e1);have f:∀m n,eG (m,.int st) (n,.int (j:Int))=O (.fr,.int (st*(j:Int))):=λm n=>jd (by lia);exact e2v (x:=(.fr,.str Iz)) M (e2v (x:=(.fr,.int (s+st*(j:Int)))) (e2v (x:=(.fr,.int s)) M (e2v (x:=(.fr,.int st)) M M (f _ _)) M) M (aV (by decide))) ix⟩)
 refine⟨(List.range 26).map λj:Nat=>Iz.getD ((s+st*(j:Int))%26).toNat 0,?_,by simp,λx g=>?_⟩
 ·unfold bE;refine vW [O (.pu (.int c)),Y,Y] (U':=[O (.pu (.int c)),O (.pu (.int s)),O (.pu (.int st))]) M M ?_;rw[ft (U':=[O (.pu (.int c)),O (.pu (.int s)),Y]) (aA (m:=.fr) (e2v (x:=(.fr,.int c)) M M ((aV (by decide)).trans (by rw[l]))) (by decide) (by decide:1<3)),
   ft (U':=[O (.pu (.int c)),O (.pu (.int s)),O (.pu (.int st))]) (aA (m:=.fr) (e2v M (e2v (e2v (x:=(.fr,.int c)) M M (eA (by decide))) M (aV (by decide))) li) (by decide) (by decide:2<3))]
  refine(jg comp).trans ?_;rw[Yy];rfl
 ·obtain⟨j,_,rfl⟩:=Yr.mp g;have d:=Fb (s+st*(j:Int)) (b:=26) (by decide);have e1:=ZN (s+st*(j:Int)) (b:=26) (by decide);exact AC _ (by lia)
def Az(t:W3):Prop:=∀x∈t,97<=x/\x<=122
def Az.app{s t:W3}(a:Az s)(b:Az t):Az (s++t):=λx d=>(Zc.mp d).elim (a x) (b x)
abbrev EY(a:W3):T:=.lst (a.map λx=>T.str [x])
def lY{m n:Md}(a:W3)(i:Int)(b:0<=i)(h1:i<a.length):aJ (m,EY a) (n,.int i)=O (.fr,.str [a.getD i.toNat 0]):=jX (λx=>T.str [x]) a i 0 b h1 M
def iT{a:W3}(h:Az a){i:Nat}(b:i<a.length):Az [a.getD i 0]:=λx d=>by
 rw[Zf.mp d,ZQ,Zh b];exact h _ (XW b)
abbrev ED(c:Int)(i:W3)(h b a:Int)(j:Vd)(g f e d:Vg):Env:=[O (.pu (.int c)),O (.pu (EY i)),O (.pu (.int h)),O (.pu (.int b)),O (.pu (.int a)),O (.ow (.lst j)),g,f,e,d]
def ak{a b:Sx}{U U1:Env}(h:a U=O (.nx U1)):au a b U=b U1:=by simp[au,h]
def Dw(h:W3)(y:Az h)(a g f d:Int)(q:0<a)(h1:a<=h.length)(A:a<1000)(l:Vd)(k6:Vg)(j:W3):∀(c:Int)(t:Tx)(z:Vg),t.length+j.length<=1000->Az t →
  ∃p i n,forL (br 9) dh (j.map λ(k:Nat)=>T.int (k:Int)) (ED c h a g f l k6 (O (.pu (.int d))) (O (.pu (.str t))) z)=O (.nx (ED p h a g f l k6 (O (.pu (.int d))) (O (.pu (.str i))) n))/\i.length=t.length+j.length/\Az i:=by
 induction j with
 |nil=>exact λc t z _ o=>⟨c,t,z,rfl,rfl,o⟩
 |cons k j r =>
  intro c t z s o;have u:=Fb c (b:=a) (by lia);have e1:=ZN c (b:=a) q;rw[Zj]at s;have ad:bD (.fr,.str t) (.fr,.str [h.getD (c%a).toNat 0])=O (.fr,.str (t++[h.getD (c%a).toNat 0])):=gP (show t.length+1<=16777216 by lia);obtain⟨p,i,n,e,w,v⟩:=r (c/a) (t++[h.getD (c%a).toNat 0]) (O (.pu (.int k))) (by rw[Zu,ZW];lia) (o.app (iT y (by lia)));refine⟨p,i,n,?_,by rw[w,Zu,ZW,Zj];lia,v⟩;rw[Zt,bR (U1:=ED c h a g f l k6 (O (.pu (.int d))) (O (.pu (.str t))) (O (.pu (.int k)))) (U2:=ED (c/a) h a g f l k6 (O (.pu (.int d))) (O (.pu (.str (t++[h.getD (c%a).toNat 0])))) (O (.pu (.int k)))) M (by
   unfold dh;rw[ak (U1:=ED c h a g f l k6 (O (.pu (.int d))) (O (.pu (.str (t++[h.getD (c%a).toNat 0])))) (O (.pu (.int k)))) (aA (m:=.fr) (e2v (x:=(.fr,.str t)) M (e2v (x:=(.pu,EY h)) M (e2v M M (aV q)) (lY h _ u (by lia))) ad) (by decide) (by decide:8<10))];exact aA (m:=.fr) (e2v M M (eA (show 0<a/\a<1073741824 by lia))) (by decide) (by decide:0<10)),e]
structure Bk(most:Nat)(bk:List Tx):Prop where
 n:bk.flatten.length<=most
 az:∀t∈bk,Az t
def Bk.snoc{m b:Nat}{d:List Tx}{t:Tx}(B:Bk m d)(h:m+t.length<=b)(e:Az t):Bk b (d++[t]):=by
 refine⟨?_,λs a=>?_⟩
 ·have:=B.n;rw[Gk,Zu,show [t].flatten=t by simp];lia
 ·rcases Zc.mp a with a | a
  ·exact B.az s a
  ·rw[Zf.mp a];exact e
def lM{a:Ex}{U:Env}{m:Md}{n:Nat}(e:a U=O (m,.int (n:Int)))(h:n<100000):cR a U=O (.fr,(List.range n).map λ(k:Nat)=>T.int (k:Int)):=by
 rw[kJ e (by lia),oB];rfl
def gN{b:Tg}{d:Em}{a:Sx}{U:Env}{l:Vd}(h:d U=O (.fr,l)):eW b d a U=forL b a l U:=by
 simp[eW,h]
def j9{i:Nat}{U:Env}{l:Vd}{t:T}{e:Ex}(h:U[i]?=O (O (.ow (.lst l))))(b:e U=O (.fr,t))(a:l.length<16777216):(sX (mD i [] bx (af e aC))) U=O (.nx (U.set i (O (.ow (.lst (l++[t])))))):=by
 simp[h,b,fE a,VS.keys,VS.wF]
def sN(g:W3)(G:Az g)(f d:Int)(z:0<f)(h1:f<=g.length)(y:f<1000)(k:Nat)(c:Int)(a:Nat)(e:List Tx)(s o j:Vg)(w:a<=24)(B:Bk (24-a) e)(H:e.length<1000) :
  ∃(c1:Int)(sz:Nat)(i:Tx)(p:Vg),sz<=a/\Bk (24-(a-sz)) (e++[i])/\b7 (ED c g f d a (e.map T.str) (O (.pu (.int k))) s o j)=O (.nx (ED c1 g f d ((a-sz:Nat):Int) ((e++[i]).map T.str) (O (.pu (.int k))) (O (.pu (.int sz))) (O (.pu (.str i))) p)):=by
 have I:=Fb c (b:=25) (by decide);have e1:=ZN c (b:=25) (by decide);obtain⟨sz,q,C,L⟩:∃sz:Nat,(if c%25<(a:Int) then c%25 else (a:Int))=(sz:Int)/\sz<=a/\sz<=24:=by
  by_cases h:c%25<(a:Int)
  ·exact⟨(c%25).toNat,by rw[Zr h];lia,by lia,by lia⟩
  ·exact⟨a,by rw[Zm h],Zs _,w⟩
 have r:((a:Int)-(sz:Int))=((a-sz:Nat):Int):=by lia
 generalize v:(a-sz:Nat)=r1 at r;obtain⟨c1,i,p,A,F,D⟩:=Dw g G f d (r1:Int) (sz:Int) z h1 y (e.map T.str) (O (.pu (.int k))) (List.range sz) (c/25) [] j (by rw[ZH,YY];lia) (λx u=>nomatch u);rw[ZH,YY,Y7]at F;refine⟨c1,sz,i,p,C,B.snoc (by lia) D,?_⟩;rw[v];unfold b7;rw[ak (U1:=ED c g f d a (e.map T.str) (O (.pu (.int k))) (O (.pu (.int sz))) o j) (aA (m:=.fr) (t:=.int sz) (by rw[← q];rfl) (by decide) (by decide:7<10))];rw[ak (U1:=ED (c/25) g f d a (e.map T.str) (O (.pu (.int k))) (O (.pu (.int sz))) o j) M];rw[ak (U1:=ED (c/25) g f d r1 (e.map T.str) (O (.pu (.int k))) (O (.pu (.int sz))) o j) (aA (m:=.fr) (t:=.int r1) (by rw[← r];rfl) (by decide) (by decide:4<10))];rw[ak (U1:=ED (c/25) g f d r1 (e.map T.str) (O (.pu (.int k))) (O (.pu (.int sz))) (O (.pu (.str []))) j) M];rw[ak (U1:=ED c1 g f d r1 (e.map T.str) (O (.pu (.int k))) (O (.pu (.int sz))) (O (.pu (.str i))) p) (by rw[gN (lM (m:=.fr) (n:=sz) M (by lia))];exact A)];rw[j9 (l:=e.map T.str) (t:=.str i) M M (by rw[Zv];lia),Ym];rfl
def De(h:W3)(D:Az h)(b a:Int)(z:0<b)(h1:b<=h.length)(y:b<1000)(i:W3):∀(c:Int)(room:Nat)(bk:List Tx)(l g f d:Vg),room<=24->Bk (24-room) bk->bk.length+i.length<=1000 →
  ∃p m j s q r t,forL (br 6) b7 (i.map λ(k:Nat)=>T.int (k:Int)) (ED c h b a room (bk.map T.str) l g f d)=O (.nx (ED p h b a m (j.map T.str) s q r t))/\Bk 24 j/\j.length=bk.length+i.length:=by
 induction i with
 |nil=>exact λc room bk l g f d o B _=>⟨c,room,bk,l,g,f,d,rfl,⟨ZV B.n (YN _ _),B.az⟩,rfl⟩
 |cons k i w =>
  intro c room bk l g f d o B x;rw[Zj]at x;obtain⟨c1,sz,u,v,H,F,A⟩:=sN h D b a z h1 y k c room bk g f d o B (by lia);obtain⟨p,m,j,s,q,r,t,e,G,C⟩:=w c1 (room-sz) (bk++[u]) (O (.pu (.int k))) (O (.pu (.int sz))) (O (.pu (.str u))) v (ZV (YN _ _) o) F (by rw[Zu,ZW];lia);refine⟨p,m,j,s,q,r,t,?_,G,by rw[C,Zu,ZW,Zj];lia⟩;rw[Zt,bR M A,e]
def eI{d e:Nat}{b:Sx}{a:Vd}{v:Val}{U:Env}(f:a.length=d)(h:b (a.map (λt=>O (.pu t))++List.replicate (e-d) Y)=O (.rt v U)):fn d e b a=O v:=by
 unfold fn;rw[Zr f];subst f;rw[h];rfl
def wM(c:Int):∃bk:List Tx,cw [.int c]=O (.fr,.lst (bk.map T.str))/\Bk 24 bk/\bk.length<=4:=by
 obtain⟨d,p,F,A⟩:=m7 c;have a0:=Fb (c/130) (b:=8) (by decide);have a1:=ZN (c/130) (b:=8) (by decide);have li:aJ (.fr,.lst [.int 1,.int 2,.int 3,.int 4,.int 2,.int 3,.int 4,.int 26]) (.fr,.int (c/130%8))=_:=jX T.int [1,2,3,4,2,3,4,26] (c/130%8) 0 a0 a1 M;obtain⟨so,r,f,C⟩:∃so:Int,List.getD [1,2,3,4,2,3,4,26] (c/130%8).toNat 0=so/\0<so/\so<=26:=by
  have l:∀i,i<8->0<(List.getD [1,2,3,4,2,3,4,26] i 0:Int)/\(List.getD [1,2,3,4,2,3,4,26] i 0:Int)<=26:=by decide
  have h:=l (c/130%8).toNat (by lia);exact⟨_,rfl,h.1,h.2⟩
 rw[r]at li;have H:=Fb (c/1040) (b:=5) (by decide);have G:=ZN (c/1040) (b:=5) (by decide);obtain⟨a,w,D⟩:∃a:Nat,c/1040%5=(a:Int)/\a<=4:=⟨(c/1040%5).toNat,by lia,by lia⟩
 obtain⟨q,g,z,x,s,u,y,e,B,v⟩:=De d A so a f (by lia) (by lia) (List.range a) (c/5200) 24 [] Y Y Y Y (Zs _) ⟨ZM _,λt o=>nomatch o⟩ (by rw[ZH,YY];lia);rw[ZH,YY,Y7]at v;refine⟨z,?_,B,by lia⟩;unfold cw;refine eI M (U:=[O (.pu (.int q)),O (.pu (EY d)),O (.pu (.int so)),O (.pu (.int a)),O (.pu (.int g)),Y,x,s,u,y]) ?_;refine(show au _ _ [O (.pu (.int c)),Y,Y,Y,Y,Y,Y,Y,Y,Y]=_ from ?_);rw[ak (U1:=[O (.pu (.int c)),O (.pu (EY d)),Y,Y,Y,Y,Y,Y,Y,Y]) (aA (aP (xs:=[(.fr,.int c)]) M p) (by decide) (by decide:1<10))];rw[ak (U1:=[O (.pu (.int c)),O (.pu (EY d)),O (.pu (.int so)),Y,Y,Y,Y,Y,Y,Y]) (aA (m:=.fr) (e2v M (e2v (e2v M M (eA (j:=130) (by decide))) M (aV (j:=8) (by decide))) li) (by decide) (by decide:2<10))];rw[ak (U1:=[O (.pu (.int c)),O (.pu (EY d)),O (.pu (.int so)),O (.pu (.int a)),Y,Y,Y,Y,Y,Y]) (aA (m:=.fr) (e2v (e2v M M (eA (j:=1040) (by decide))) M (by rw[← w];exact aV (j:=5) (by decide))) (by decide) (by decide:3<10))];rw[ak (U1:=[O (.pu (.int (c/5200))),O (.pu (EY d)),O (.pu (.int so)),O (.pu (.int a)),Y,Y,Y,Y,Y,Y]) M];rw[ak (U1:=[O (.pu (.int (c/5200))),O (.pu (EY d)),O (.pu (.int so)),O (.pu (.int a)),O (.pu (.int ((24:Nat):Int))),Y,Y,Y,Y,Y]) M];rw[ak (U1:=ED (c/5200) d so a ((24:Nat):Int) (([]:List Tx).map T.str) Y Y Y Y) M];rw[ak (show eW _ _ _ _=_ from by
  rw[gN (lM (m:=.fr) (n:=a) M (by lia))];exact e)]
 rfl
abbrev EM(i:Vw)(h:W3)(b g a:Int)(j:Vd)(k:Nat)(f e d m l:Vg):Env:=[O (.pu (.scr i)),O (.pu (.int b)),O (.pu (EY h)),O (.pu (.int g)),O (.pu (.int a)),O (.ow (.lst j)),O (.pu (.int k)),f,e,d,m,l]
abbrev cI(i:Int):Vg:=O (.pu (.int i))
abbrev cS(t:Tx):Vg:=O (.pu (.str t))
def iR{a b:Ex}{U:Env}{x y:Bool}(h1:a U=O (.fr,.bl x))(d:b U=O (.fr,.bl y)):mT a b U=O (.fr,.bl (x&&y)):=by
 unfold mT;rw[h1,Zq];cases x with
 |true=>exact d
 |false=>rfl
def sC(o:Vw)(l:W3)(z:Az l)(g i f d:Int)(r:0<i)(h1:i<=l.length)(q:Vd)(k a:Nat)(D:k<6)(G:1<=a)(H:a<=5)(j:Nat)(F:j<200)(t:Tx)(s:Az t)(v:t.length<=1000)(A:Vg) :
  ∃x n,Az [x]/\bY (EM o l g i f q k (cI d) (cI a) (cS t) (cI j) A)=O (.nx (EM o l g i f q k (cI d) (cI a) (cS (t++[x])) (cI j) (cI n))):=by
 obtain⟨n,u,C,B⟩:=cC o (20*(k:Int)+6+(j:Int)) (by lia) (by lia);have ad:∀x:Nat,bD (.fr,.str t) (.fr,.str [x])=O (.fr,.str (t++[x])):=λx=>gP (ZV (Nat.add_le_add_right v 1) (by decide));have c1:e2 II (eN dS (af (ae 9) aC)) (ae 8) (EM o l g i f q k (cI d) (cI a) (cS t) (cI j) (cI n))=O (.fr,.bl (decide ((a:Int)<=(t.length:Int)))):=rfl;have c2:e2 Gi (e2 oMod (ae 11) (Q3 4)) (Q3 0) (EM o l g i f q k (cI d) (cI a) (cS t) (cI j) (cI n))=O (.fr,.bl (decide (0<n%4))):=e2v (e2v M M (aV (by decide))) M M;have st:∀{e:Ex}{x:Nat},e (EM o l g i f q k (cI d) (cI a) (cS t) (cI j) (cI n))=O (.fr,.str [x])->aK 9 (e2 bD (ae 9) e) (EM o l g i f q k (cI d) (cI a) (cS t) (cI j) (cI n))=O (.nx (EM o l g i f q k (cI d) (cI a) (cS (t++[x])) (cI j) (cI n))):=λ{e x} h =>
  aA (m:=.fr) (e2v (x:=(.fr,.str t)) M h (ad x)) (by decide) (by decide:9<12)
 unfold bY;rw[ak (U1:=EM o l g i f q k (cI d) (cI a) (cS t) (cI j) (cI n)) (aA (aP (xs:=[(.fr,.scr o),(.fr,.int (20*(k:Int)+6+(j:Int)))]) M u) (by decide) (by decide:11<12))];by_cases p:(a:Int)<=(t.length:Int)/\0<n%4
 ·refine⟨t.getD ((t.length:Int)-(a:Int)).toNat 0,n,iT s (by lia),?_⟩;rw[jY (m:=.fr) (by rw[iR c1 c2,ZT p.1,ZT p.2];rfl)];exact st (e2v (x:=(.fr,.str t)) (y:=(.fr,.int ((t.length:Int)-(a:Int)))) M M (v7 t _ (by lia) (by lia)))
 ·have w:=Fb (n/4) (b:=i) (by lia);have e1:=ZN (n/4) (b:=i) r;refine⟨l.getD (n/4%i).toNat 0,n,iT z (by lia),?_⟩;rw[jG (m:=.fr) (by
   rw[iR c1 c2,← Bool.decide_and,ZP p])]
  exact st (e2v (x:=(.pu,EY l)) M (e2v (e2v M M (eA (by decide))) M (aV r)) (lY l _ w (by lia)))
def Dt(u:Vw)(p:W3)(Q:Az p)(h o g f:Int)(F:0<o)(h1:o<=p.length)(v:Vd)(k d:Nat)(B:k<6)(D:1<=d)(N:d<=5)(l:W3):∀(t:Tx)(s q:Vg),(∀j∈l,j<200)->t.length+l.length<=1000->Az t →
  ∃m P I,forL (br 10) bY (l.map λ(j:Nat)=>T.int (j:Int)) (EM u p h o g v k (cI f) (cI d) (cS t) s q)=O (.nx (EM u p h o g v k (cI f) (cI d) (cS m) P I))/\m.length=t.length+l.length/\Az m:=by
 induction l with
 |nil=>exact λt s q _ _ r=>⟨t,s,q,rfl,rfl,r⟩
 |cons j l y =>
  intro t s q w A r;rw[Zj]at A;obtain⟨x,n,z,G⟩:=sC u p Q h o g f F h1 v k d B D N j (w j Zx) t r (by lia) q;obtain⟨m,a,b,e,L,H⟩:=y (t++[x]) (cI j) (cI n) (λi C=>w i (Zw _ C)) (by rw[Zu,ZW];lia) (r.app z);refine⟨m,a,b,?_,by rw[L,Zu,ZW,Zj];lia,H⟩;rw[Zt,bR M G,e]
def qu(t:Tx)(i a:Nat)(h:i<=t.length):cut t (O (i:Int)) (O ((i:Int)+(a:Int)))=(t.drop i).take a:=by
 have h1:¬((i:Int)<0):=by lia
 have b:¬((i:Int)+(a:Int)<0):=by lia
 simp only[cut,clip,Zm h1,Zm b,Yf];rw[show ((i:Int)+(a:Int)).toNat=i+a by lia,Ys h];by_cases q:i+a<=t.length
 ·rw[Ys q,show i+a-i=a by exact YD _ _]
 ·rw[WS (by exact XX q),GG (l:=t.drop i) (by simp),GG (l:=t.drop i) (by simp;lia)]
def tJ(o:Vw)(s:W3)(G3:Az s)(d p:Int)(Mf:0<=d)(J1:d<=120)(h0:0<p)(h1:p<=s.length)(k:Nat)(hk:k<6)(e:Nat)(hr:(e:Int)<=d)(i:List Tx)(B:Bk (d.toNat-e) i)(hl:i.length<=100)(I G D C w:Vg) :
  ∃(R:Nat)(Q:List Tx)(y7 y8 y9 A v:Vg),R<=e/\Bk (d.toNat-R) Q/\Q.length<=i.length+2/\b8 (EM o s d p e (i.map T.str) k I G D C w)=O (.nx (EM o s d p R (Q.map T.str) k y7 y8 y9 A v)):=by
 obtain⟨F,NO,UZ,UY⟩:=cC o (20*(k:Int)+4) (by lia) (by lia);obtain⟨H,NN,UX,UW⟩:=cC o (20*(k:Int)+5) (by lia) (by lia);have e0:=Fb F (b:=d+1) (by lia);have e1:=ZN F (b:=d+1) (by lia);have f0:=Fb H (b:=5) (by decide);have f1:=ZN H (b:=5) (by decide);obtain⟨sz,N,NA⟩:∃sz:Nat,(if F%(d+1)<(e:Int) then F%(d+1) else (e:Int))=(sz:Int)/\sz<=e:=by
  by_cases h:F%(d+1)<(e:Int)
  ·exact⟨(F%(d+1)).toNat,by rw[Zr h];lia,by lia⟩
  ·exact⟨e,by rw[Zm h],Zs _⟩
 have X:((e:Int)-(sz:Int))=((e-sz:Nat):Int):=by lia
 generalize ht:(e-sz:Nat)=r1 at X;obtain⟨u,Og,c0,c1⟩:∃u:Nat,1+H%5=(u:Int)/\1<=u/\u<=5:=⟨(1+H%5).toNat,by lia,by lia,by lia⟩
 obtain⟨f,A,v,ee,Hd,Z⟩:=Dt o s G3 d p (r1:Int) (sz:Int) h0 h1 (i.map T.str) k u hk c0 c1 (List.range sz) [] C w (λj hj=>by have:=ZF.mp hj;lia) (by rw[ZH,YY];lia) (λx L=>nomatch L);rw[ZH,YY,Y7]at Hd;have B1:Bk (d.toNat-r1) (i++[f]):=B.snoc (by lia) Z;have W:∀(r:Int)(b:Vd)(I G D C w:Vg),aN ao (af (ae 0) (af (e2 bD (e2 eG (Q3 20) (ae 6)) (Q3 5)) aC)) (EM o s d p r b k I G D C w)=O (.fr,.int H):=λr b _ _ _ _ _=>aP (xs:=[(.fr,.scr o),(.fr,.int (20*(k:Int)+5))]) M NN;have m4:aN ao (af (ae 0) (af (e2 bD (e2 eG (Q3 20) (ae 6)) (Q3 4)) aC)) (EM o s d p e (i.map T.str) k I G D C w)=O (.fr,.int F):=aP (xs:=[(.fr,.scr o),(.fr,.int (20*(k:Int)+4))]) M NO;have mp:∀(b:List Tx)(t:Tx),(b++[t]).map T.str=b.map T.str++[T.str t]:=λb t=>by rw[Ym];rfl
 unfold b8;rw[ak (U1:=EM o s d p e (i.map T.str) k (cI sz) G D C w) (aA (m:=.fr) (t:=.int sz) (by
  have a:=xv (a:=ae 4) (x:=(.fr,.int e)) (U:=EM o s d p e (i.map T.str) k I G D C w) M (xv (e2v (z:=(.fr,.int (F%(d+1)))) m4 (b:=e2 bD (ae 1) (Q3 1)) (y:=(.fr,.int (d+1))) M (aV (by lia))) (xs:=[]) (r:=aC) M);show (af _ _ _).bind _=_;rw[a,← N];rfl) (by decide) (by decide:7<12))]
 rw[ak (U1:=EM o s d p r1 (i.map T.str) k (cI sz) G D C w) (aA (m:=.fr) (t:=.int r1) (by rw[← X];rfl) (by decide) (by decide:4<12))];rw[ak (U1:=EM o s d p r1 (i.map T.str) k (cI sz) (cI u) D C w) (aA (m:=.fr) (t:=.int u) (e2v (x:=(.fr,.int 1)) M (e2v (W r1 _ _ _ _ _ _) M (aV (j:=5) (by decide))) (by rw[← Og];rfl)) (by decide) (by decide:8<12))];rw[ak (U1:=EM o s d p r1 (i.map T.str) k (cI sz) (cI u) (cS []) C w) M];rw[ak (U1:=EM o s d p r1 (i.map T.str) k (cI sz) (cI u) (cS f) A v) (by rw[gN (lM (m:=.fr) (n:=sz) M (by lia))];exact ee)];rw[ak (U1:=EM o s d p r1 ((i++[f]).map T.str) k (cI sz) (cI u) (cS f) A v) (by rw[mp,j9 (l:=i.map T.str) (t:=.str f) M M (by rw[Zv];lia)];rfl)];have g1:e2 Gi (ae 7) (Q3 2) (EM o s d p r1 ((i++[f]).map T.str) k (cI sz) (cI u) (cS f) A v)=O (.fr,.bl (decide ((2:Int)<(sz:Int)))):=rfl;have g2:e2 oEq (e2 oMod (aN ao (af (ae 0) (af (e2 bD (e2 eG (Q3 20) (ae 6)) (Q3 5)) aC))) (Q3 3)) (Q3 0) (EM o s d p r1 ((i++[f]).map T.str) k (cI sz) (cI u) (cS f) A v)=O (.fr,.bl (H%3==0)):=e2v (e2v (W _ _ _ _ _ _ _) M (aV (by decide))) M M;have g3:e2 II (ae 4) (Q3 2) (EM o s d p r1 ((i++[f]).map T.str) k (cI sz) (cI u) (cS f) A v)=O (.fr,.bl (decide ((2:Int)<=(r1:Int)))):=rfl;have g:=iR g1 (iR g2 g3);cases P:(decide ((2:Int)<(sz:Int))&&((H%3==0)&&decide ((2:Int)<=(r1:Int)))) with
 |true =>
  rw[P]at g;have q:=Wy.mp P;have q3:=of_decide_eq_true (Wy.mp q.2).2;have q1:=of_decide_eq_true q.1;have cu:cut f (O 1) (O 3)=(f.drop 1).take 2:=qu f 1 2 (by lia);have Uz:Az ((f.drop 1).take 2):=λx L=>Z x (Ye (Yk L));have l2:((f.drop 1).take 2).length<=2:=by rw[ZO];exact Nat.min_le_left _ _
  have Hz:((r1:Int)-2)=((r1-2:Nat):Int):=by lia
  refine⟨r1-2,i++[f]++[(f.drop 1).take 2],cI sz,cI u,cS f,A,v,by lia,B1.snoc (by lia) Uz,by rw[Zu,Zu,ZW,ZW];exact Zs _,?_⟩;rw[jY (m:=.fr) g];rw[ak (U1:=EM o s d p r1 ((i++[f]++[(f.drop 1).take 2]).map T.str) k (cI sz) (cI u) (cS f) A v) (by
   rw[mp (i++[f]),j9 (l:=(i++[f]).map T.str) (t:=.str ((f.drop 1).take 2)) M (by rw[← cu];rfl) (by rw[Zv,Zu,ZW];lia)];rfl)]
  rw[← Hz];rfl
 |false =>
  rw[P]at g;refine⟨r1,i++[f],cI sz,cI u,cS f,A,v,by lia,B1,by rw[Zu,ZW];exact Nat.le_succ _,?_⟩;rw[jG (m:=.fr) g];rfl
def DA(s:Vw)(j:W3)(X:Az j)(a h:Int)(Q:0<=a)(W:a<=120)(I:0<h)(h1:h<=j.length)(b:W3):∀(room:Nat)(bk:List Tx)(o g f d m l:Vg),(∀k∈b,k<6)->(room:Int)<=a->Bk (a.toNat-room) bk->bk.length+2*b.length<=100 →
  ∃(Z:Int)(u:List Tx)(y r q p v t:Vg),Bk a.toNat u/\u.length<=bk.length+2*b.length/\forL (br 6) b8 (b.map λ(k:Nat)=>T.int (k:Int)) [O (.pu (.scr s)),O (.pu (.int a)),O (.pu (EY j)),O (.pu (.int h)),O (.pu (.int (room:Int))),O (.ow (.lst (bk.map T.str))),o,g,f,d,m,l] =
   O (.nx [O (.pu (.scr s)),O (.pu (.int a)),O (.pu (EY j)),O (.pu (.int h)),O (.pu (.int Z)),O (.ow (.lst (u.map T.str))),y,r,q,p,v,t]):=by
 induction b with
 |nil=>exact λroom bk o g f d m l _ w B _=>⟨room,bk,o,g,f,d,m,l,⟨ZV B.n (YN _ _),B.az⟩,Zs _,rfl⟩
 |cons k b F =>
  intro room bk o g f d m l x w B G;rw[Zj]at G;obtain⟨r1,P,r,q,p,v,t,U8,B1,Hd,L⟩:=tJ s j X a h Q W I h1 k (x k Zx) room w bk B (by lia) g f d m l;obtain⟨r2,N,D,C,A,z,U,R,B2,EL,e⟩:=F r1 P (cI k) r q p v t (λi H=>x i (Zw _ H)) (by lia) B1 (by lia);refine⟨r2,N,D,C,A,z,U,R,B2,by rw[Zj];lia,?_⟩;rw[Zt,bR M L,e]
def C7{α:Type}(l:List α):cut l Y (O 8)=l.take 8:=by
 simp only[cut,clip];by_cases h:8<=l.length
 ·simp[Ys h]
 ·simp[WS (ZK (WR h))];rw[GG (by exact XX h)]
theorem Bk.take{m:Nat}{a:List Tx}(B:Bk m a)(n:Nat):Bk m (a.take n):=by
 refine⟨?_,λt b=>B.az t (Yk b)⟩;have h:a.flatten=(a.take n).flatten++(a.drop n).flatten:=by rw[← Gk,YV]
 have:=B.n;rw[h,Zu]at this;lia
def uL(l:List Tx):eT (l.map T.str)=J:=by
 induction l with
 |nil=>rfl
 |cons a l b=>simpa[eT,DZ] using b
def wb(d:Vw)(a:Int)(P:0<=a)(W:a<=120):∃bk:List Tx,cp [.scr d,.int a]=O (.fr,.lst (bk.map T.str))/\Bk a.toNat bk/\bk.length<=8:=by
 obtain⟨x,L,_,_⟩:=cC d 1 (by decide) (by decide);obtain⟨o,X,_,_⟩:=cC d 2 (by decide) (by decide);obtain⟨p,Q,_,_⟩:=cC d 3 (by decide) (by decide);obtain⟨l,H,hl,Z⟩:=m7 x;have a0:=Fb o (b:=8) (by decide);have a1:=ZN o (b:=8) (by decide);have li:aJ (.fr,.lst [.int 1,.int 2,.int 3,.int 4,.int 2,.int 3,.int 9,.int 26]) (.fr,.int (o%8))=_:=jX T.int [1,2,3,4,2,3,9,26] (o%8) 0 a0 a1 M;obtain⟨so,N,C,s1⟩:∃so:Int,List.getD [1,2,3,4,2,3,9,26] (o%8).toNat 0=so/\0<so/\so<=26:=by
  have D:∀i,i<8->0<(List.getD [1,2,3,4,2,3,9,26] i 0:Int)/\(List.getD [1,2,3,4,2,3,9,26] i 0:Int)<=26:=by decide
  have h:=D (o%8).toNat (by lia);exact⟨_,rfl,h.1,h.2⟩
 rw[N]at li;have b0:=Fb p (b:=6) (by decide);have b1:=ZN p (b:=6) (by decide);obtain⟨q,R,F⟩:∃q:Nat,p%6=(q:Int)/\q<6:=⟨(p%6).toNat,by lia,by lia⟩
 obtain⟨f,rfl⟩:∃f:Nat,a=(f:Int):=⟨a.toNat,by lia⟩
 obtain⟨r2,g,w,v,u,s,A,z,B2,EL,e⟩:=DA d l Z f so P W C (by lia) (List.range q) f [] Y Y Y Y Y Y (λk I=>Nat.lt_trans (ZF.mp I) F) (Int.le_refl _) ⟨ZM _,λt G=>nomatch G⟩ (by rw[ZH,YY];lia);have y:∀(i n:Int)(r:Env),ao [.scr d,.int i]=O (.fr,.int n)->aN ao (af (ae 0) (af (Q3 i) aC)) (O (.pu (.scr d)) :: r)=O (.fr,.int n):=λi n r h=>aP (xs:=[(.fr,.scr d),(.fr,.int i)]) M h;have mk:Fh .pu ((g.take 8).map T.str)=O (.fr,.lst ((g.take 8).map T.str)):=by
  unfold Fh;rw[Zr (show ((g.take 8).map T.str).length<=fC by rw[Zv,ZO];exact ZV (Nat.min_le_left _ _) (by decide)),Zr (uL _)]
 refine⟨g.take 8,?_,B2.take 8,by rw[ZO];exact Nat.min_le_left _ _⟩;unfold cp;refine eI M (U:=[O (.pu (.scr d)),O (.pu (.int f)),O (.pu (EY l)),O (.pu (.int so)),O (.pu (.int r2)),O (.pu (.lst (g.map T.str))),w,v,u,s,A,z]) ?_;refine(show au _ _ [O (.pu (.scr d)),O (.pu (.int f)),Y,Y,Y,Y,Y,Y,Y,Y,Y,Y]=_ from ?_);rw[ak (U1:=[O (.pu (.scr d)),O (.pu (.int f)),O (.pu (EY l)),Y,Y,Y,Y,Y,Y,Y,Y,Y]) (aA (aP (xs:=[(.fr,.int x)]) (xv (y 1 x _ L) M) H) (by decide) (by decide:2<12))];rw[ak (U1:=[O (.pu (.scr d)),O (.pu (.int f)),O (.pu (EY l)),O (.pu (.int so)),Y,Y,Y,Y,Y,Y,Y,Y]) (aA (m:=.fr) (e2v M (e2v (y 2 o _ X) M (aV (j:=8) (by decide))) li) (by decide) (by decide:3<12))];rw[ak (U1:=[O (.pu (.scr d)),O (.pu (.int f)),O (.pu (EY l)),O (.pu (.int so)),O (.pu (.int (f:Int))),Y,Y,Y,Y,Y,Y,Y]) M];rw[ak (U1:=[O (.pu (.scr d)),O (.pu (.int f)),O (.pu (EY l)),O (.pu (.int so)),O (.pu (.int (f:Int))),O (.ow (.lst (([]:List Tx).map T.str))),Y,Y,Y,Y,Y,Y]) M];rw[ak (show eW _ _ _ _=_ from by
  rw[gN (lM (m:=.fr) (n:=q) (e2v (y 3 p _ Q) M (by rw[← R];exact aV (by decide))) (by lia))];exact e)]
 rw[ak (U1:=[O (.pu (.scr d)),O (.pu (.int f)),O (.pu (EY l)),O (.pu (.int so)),O (.pu (.int r2)),O (.pu (.lst (g.map T.str))),w,v,u,s,A,z]) M];have B:Gj (ae 5) Y (O (Q3 8)) [O (.pu (.scr d)),O (.pu (.int f)),O (.pu (EY l)),O (.pu (.int so)),O (.pu (.int r2)),O (.pu (.lst (g.map T.str))),w,v,u,s,A,z]=O (.fr,.lst ((g.take 8).map T.str)):=by
  show Fh .pu (cut (g.map T.str) Y (O 8))=_;rw[C7,← List.map_take,mk]
 simp only[eE,B,Zq]
def Ae{α:Type}(l:List α)(n:Nat)(h:n<=l.length):cut l Y (O (n:Int))=l.take n:=by
 have h1:¬((n:Int)<0):=by lia
 simp only[cut,clip,Zm h1,Yf,Ys h];simp
def ur{α:Type}(l:List α)(n:Nat)(h:n<=l.length):cut l (O (n:Int)) Y=l.drop n:=by
 have h1:¬((n:Int)<0):=by lia
 simp only[cut,clip,Zm h1,Yf,Ys h];rw[GG (by simp)]
def uc(n x:Nat):(List.replicate n [x]).flatten=List.replicate n x:=by
 induction n with
 |zero=>rfl
 |succ n a=>rw[Wt,Zd,a];rfl
abbrev EG(e:Vw)(d:W3)(b a:Vg):Env:=[O (.pu (.scr e)),O (.pu (EY d)),b,a]
def wR(a:Vw):∃bk:List Tx,dm [.scr a]=O (.fr,.lst (bk.map T.str))/\Bk 120 bk/\bk.length<=8:=by
 obtain⟨B,Z,_,_⟩:=cC a 1 (by decide) (by decide);obtain⟨g,J0,_,_⟩:=cC a 2 (by decide) (by decide);obtain⟨A,KO,_,_⟩:=cC a 3 (by decide) (by decide);obtain⟨f,NO,_,_⟩:=cC a 4 (by decide) (by decide);obtain⟨d,C,v,P⟩:=m7 B;have a0:=Fb g (b:=21) (by decide);have a1:=ZN g (b:=21) (by decide);obtain⟨e,W,l0,l1⟩:∃e:Nat,100+g%21=(e:Int)/\100<=e/\e<=120:=⟨(100+g%21).toNat,by lia,by lia,by lia⟩
 have L:=lY (m:=.pu) (n:=.fr) d 0 (by decide) (by rw[v];decide);have N:=lY (m:=.pu) (n:=.fr) d 1 (by decide) (by rw[v];decide);have z0:Az [d.getD (0:Int).toNat 0]:=iT P (by rw[v];decide);have F:Az [d.getD (1:Int).toNat 0]:=iT P (by rw[v];decide);generalize d.getD (0:Int).toNat 0=x at L z0;generalize d.getD (1:Int).toNat 0=y at N F;have rp:nH (.fr,.str [x]) (.fr,.int (e:Int))=O (.fr,.str (List.replicate e x)):=by
  refine(Zr ⟨?_,?_,?_⟩).trans (by rw[Yf,uc])
  ·show 1*(e:Int).toNat<=16777216;rw[Yf,Nat.one_mul];exact ZV l1 (by decide)
  ·show -4611686018427387904<=(e:Int);lia
  ·show (e:Int)<4611686018427387904;lia
 have w:(List.replicate e x).length=e:=Y4;have o:Az (List.replicate e x):=λc l=>by
  rw[(List.mem_replicate.mp l).2];exact z0 x Zx
 generalize List.replicate e x=t at rp w o;have I:∀p:Tx,p.length<=120->Az p->Bk 120 [p]:=λp h1 X=>⟨by rw[Zd,List.flatten_nil,Ft];exact h1,λs C=>by rw[Zf.mp C];exact X⟩
 have u:∀(i n:Int)(r:Env),ao [.scr a,.int i]=O (.fr,.int n)->aN ao (af (ae 0) (af (Q3 i) aC)) (O (.pu (.scr a)) :: r)=O (.fr,.int n):=λi n r h=>aP (xs:=[(.fr,.scr a),(.fr,.int i)]) M h;have D3:(aK 1 (aN bE (af (aN ao (af (ae 0) (af (Q3 1) aC))) aC))) [O (.pu (.scr a)),Y,Y,Y]=O (.nx (EG a d Y Y)) :=
  aA (aP (xs:=[(.fr,.int B)]) (xv (u 1 B _ Z) M) C) (by decide) (by decide:1<4)
 have Q:(aK 2 (e2 nH (e2 aJ (ae 1) (Q3 0)) (e2 bD (Q3 100) (e2 oMod (aN ao (af (ae 0) (af (Q3 2) aC))) (Q3 21))))) (EG a d Y Y)=O (.nx (EG a d (O (.pu (.str t))) Y)) :=
  aA (m:=.fr) (e2v (e2v (x:=(.pu,EY d)) M M L) (e2v (x:=(.fr,.int 100)) M (e2v (u 2 g _ J0) M (aV (j:=21) (by decide))) (z:=(.fr,.int e)) (by rw[← W];rfl)) rp) (by decide) (by decide:2<4)
 have cd:e2 oEq (e2 oMod (aN ao (af (ae 0) (af (Q3 3) aC))) (Q3 2)) (Q3 0) (EG a d (O (.pu (.str t))) Y)=O (.fr,.bl (A%2==0)):=e2v (e2v (u 3 A _ KO) M (aV (by decide))) M M;cases H:(A%2==0) with
 |true =>
  rw[H]at cd;have G:(0:Int)<(t.length:Int):=by lia
  have b0:=Fb f (b:=(t.length:Int)) (by lia);have b1:=ZN f (b:=(t.length:Int)) G;obtain⟨q,R,D⟩:∃q:Nat,f%(t.length:Int)=(q:Int)/\q<t.length:=⟨(f%(t.length:Int)).toNat,by lia,by lia⟩
  have c1:=Ae t q (ZK D);have c2:=ur t (q+1) (Wc D);have l3:(t.take q++[y]++t.drop (q+1)).length=t.length:=by
   rw[Zu,Zu,ZO,ZG,ZW,Ys (ZK D)];lia
  have len:(t.take q++[y]++t.drop (q+1)).length<=120:=by rw[l3,w];exact l1
  have az:Az (t.take q++[y]++t.drop (q+1)):=(Az.app (Az.app (λc l=>o c (Yk l)) F) (λc l=>o c (Ye l)))
  refine⟨[t.take q++[y]++t.drop (q+1)],?_,I _ len az,(by decide:1<=8)⟩;have big:e2 bD (e2 bD (Gj (ae 2) Y (O (ae 3))) (e2 aJ (ae 1) (Q3 1))) (Gj (ae 2) (O (e2 bD (ae 3) (Q3 1))) Y) (EG a d (O (.pu (.str t))) (O (.pu (.int q))))=O (.fr,.str (t.take q++[y]++t.drop (q+1))) :=
   e2v (e2v (x:=(.fr,.str (t.take q))) (by rw[← c1];rfl) (e2v (x:=(.pu,EY d)) M M N) (gP (ZV (ZV (ZI _ (t.drop (q+1)).length) (by rw[← Zu,← Zu];exact len)) (by decide)))) (y:=(.fr,.str (t.drop (q+1)))) (by rw[← c2];rfl) (gP (ZV (by rw[← Zu];exact len) (by decide)))
  unfold dm;refine eI M (U:=EG a d (O (.pu (.str (t.take q++[y]++t.drop (q+1))))) (O (.pu (.int q)))) ?_;refine(show au _ _ [O (.pu (.scr a)),Y,Y,Y]=_ from ?_);rw[ak D3,ak Q];rw[ak (U1:=EG a d (O (.pu (.str (t.take q++[y]++t.drop (q+1))))) (O (.pu (.int q)))) (by
   rw[jY (m:=.fr) cd];rw[ak (U1:=EG a d (O (.pu (.str t))) (O (.pu (.int q)))) (aA (m:=.fr) (t:=.int q) (e2v (u 4 f _ NO) (y:=(.fr,.int t.length)) M (by rw[← R];exact aV G)) (by decide) (by decide:3<4))];exact aA big (by decide) (by decide:2<4))]
  rfl
 |false =>
  rw[H]at cd;refine⟨[t],?_,I t (by rw[w];exact l1) o,(by decide:1<=8)⟩;unfold dm;refine eI M (U:=EG a d (O (.pu (.str t))) Y) ?_;refine(show au _ _ [O (.pu (.scr a)),Y,Y,Y]=_ from ?_);rw[ak D3,ak Q];rw[ak (U1:=EG a d (O (.pu (.str t))) Y) (by
   rw[jG (m:=.fr) cd];rfl)]
  rfl
def Bk.up{m n:Nat}{a:List Tx}(B:Bk m a)(h:m<=n):Bk n a:=⟨ZV B.n h,B.az⟩
def Qs{m n:Md}(i:Int):oEq (m,.int i) (n,.int 0)=O (.fr,.bl (decide (i=0))):=by
 show (if _ then O (Md.fr,T.bl (eqT (.int i) (.int 0))) else Y)=_;rw[Zr ⟨rfl,rfl⟩];rfl
def Ay(d:Vw):∃bk:List Tx,d4 [.scr d,.int 60]=O (.fr,.lst (bk.map T.str))/\Bk 120 bk/\bk.length<=8:=by
 obtain⟨c,t⟩:=zL d;obtain⟨l,w,_,_⟩:=cC d 5 (by decide) (by decide);obtain⟨e,v,_,_⟩:=cC d 0 (by decide) (by decide);have ca:aN dZ (af (ae 0) (af (Q3 0) aC)) [O (.pu (.scr d)),O (.pu (.int 60))]=O (.fr,.int c):=aP (xs:=[(.fr,.scr d),(.fr,.int 0)]) M t;have c1:=e2v (f:=oEq) (b:=Q3 0) (e2v (f:=oMod) (b:=Q3 2) ca M (aV (by decide))) M (Qs (c%2));unfold d4;by_cases p:c%2=0
 ·rw[ZT p]at c1;obtain⟨bk,j,B,g⟩:=wM (c/2);exact⟨bk,eI M (nc ((jY c1).trans (jg (aP (xs:=[(.fr,.int (c/2))]) (xv (e2v ca M (eA (by decide))) M) j)))),B.up (by decide),ZV g (by decide)⟩
 rw[ZP p]at c1;have c2:=iR (a:=e2 Gi (ae 1) (Q3 30)) (x:=J) M (e2v (f:=oEq) (b:=Q3 0) (e2v (f:=oMod) (b:=Q3 16) (aP (as:=af (ae 0) (af (Q3 5) aC)) (U:=[O (.pu (.scr d)),O (.pu (.int 60))]) (xs:=[(.fr,.scr d),(.fr,.int 5)]) M w) M (aV (by decide))) M (Qs (l%16)));rw[W7]at c2;by_cases r:l%16=0
 ·rw[ZT r]at c2;obtain⟨bk,j,B,g⟩:=wR d;exact⟨bk,eI M ((ak (jG c1)).trans (nc ((jY c2).trans (jg (aP (xs:=[(.fr,.scr d)]) M j))))),B,g⟩
 rw[ZP r]at c2;have a0:=Fb e (b:=4) (by decide);have a1:=ZN e (b:=4) (by decide);have li:=λm n=>jX (m:=m) (n:=n) T.int [24,24,24,60] (e%4) 0 a0 a1 M;obtain⟨mo,u,s,q⟩:∃mo:Int,List.getD [24,24,24,60] (e%4).toNat 0=mo/\0<=mo/\mo<=120:=by
  have o:∀i,i<4->0<=(List.getD [24,24,24,60] i 0:Int)/\(List.getD [24,24,24,60] i 0:Int)<=120:=by decide
  have h:=o (e%4).toNat (by lia);exact⟨_,rfl,h.1,h.2⟩
 rw[u]at li;obtain⟨bk,j,B,g⟩:=wb d mo s q;exact⟨bk,eI M ((ak (jG c1)).trans ((ak (jG c2)).trans (jg (aP (xs:=[(.fr,.scr d),(.fr,.int mo)]) (xv M (xv (e2v M (e2v (aP (xs:=[(.fr,.scr d),(.fr,.int 0)]) M v) M (aV (by decide))) (li _ _)) M)) j)))),B.up (by lia),g⟩
abbrev Pl:=Nat×Nat
def tP(p:Pl):T:=.tup [.int p.1,.int p.2]
abbrev Fd:=List (Tx×List Pl)
def dT(d:Fd):List (T×T):=d.map λp=>(T.str p.1,T.lst (p.2.map tP))
def cL:Fd->Tx->Pl->Fd
 |[],w,p=>[(w,[p])]
 | (x,l) :: d,w,p=>if x=w then (x,l++[p]) :: d else (x,l) :: cL d w p
def pH(f:T->Option (T×Val))(w:Tx)(a:List (T×T)):Option (List (T×T)):=(a.findIdx? λq=>eqT q.1 (.str w)).bind λi=>(a[i]?).bind λq=>(f q.2).map λz=>a.set i (q.1,z.1)
def se{f:T->Option (T×Val)}{w:Tx}{a:T×T}{b:List (T×T)}(h:eqT a.1 (.str w)=S):pH f w (a :: b)=(pH f w b).map (a :: ·):=by
 unfold pH;rw[YZ,Zm (by rw[h];simp)];cases e:b.findIdx? λq=>eqT q.1 (.str w) with
 |none=>rfl
 |some i =>
  simp only[Yt,Zq,WK];cases e2:b[i]? with
  |none=>rfl
  |some q =>
   simp only[Zq];cases f q.2 with
   |none=>rfl
   |some z=>rfl
def nN{f:T->Option (T×Val)}{w:Tx}{a:T×T}{b:List (T×T)}(h:eqT a.1 (.str w)=J):pH f w (a :: b)=(f a.2).map λz=>(a.1,z.1) :: b:=by
 unfold pH;rw[YZ,Zr h];rfl
def nj{k:T}{a:T×T}{b:List (T×T)}(h:eqT a.1 k=S):cB (a :: b) k=a :: cB b k:=by
 unfold cB dE;rw[Yx,h];dsimp only;by_cases q:(Option.map (λx=>x.2) (b.find? λp=>eqT p.1 k)).isSome=J
 ·rw[Zr q,Zr q]
 ·rw[Zm q,Zm q];rfl
def pL{k:T}{a:T×T}{b:List (T×T)}(h:eqT a.1 k=J):cB (a :: b) k=a :: b:=by
 unfold cB dE;rw[Yx,h];rfl
def mQ(d:Fd)(w:Tx)(p:Pl)(b:∀q∈d,q.2.length<16777216):pH (λx=>bx x [(.fr,tP p)]) w (cB (dT d) (.str w))=O (dT (cL d w p)):=by
 induction d with
 |nil =>
  have:cB (dT []) (.str w)=[(.str w,.lst [])]:=rfl;rw[this,nN (by simp),fE (by decide)];rfl
 |cons a d f =>
  obtain⟨x,l⟩:=a;by_cases e:x=w
  ·subst e;have h:eqT (T.str x) (.str x)=J:=by simp
   rw[show dT ((x,l) :: d)=(T.str x,T.lst (l.map tP)) :: dT d from rfl,pL h,nN h,fE (by rw[Zv];exact b (x,l) Zx)];simp[cL,dT]
  ·have h:eqT (T.str x) (.str w)=S:=by simpa using e
   rw[show dT ((x,l) :: d)=(T.str x,T.lst (l.map tP)) :: dT d from rfl,nj h,se h,f λq g=>b q (Zw _ g)];simp[cL,dT,e]
def sA{i:Nat}{f:Ex}{b:Ex}{U:Env}{d:Fd}{w:Tx}{p:Pl}{m:Md}(h:U[i]?=O (O (.ow (.dct 0 (dT d)))))(o:f U=O (m,.str w))(g:∀c,b (U.set i c)=O (.fr,tP p))(n:∀q∈d,q.2.length<16777216)(r:d.length<16777216) :
  iZ i f (af b aC) U=O (.nx (U.set i (O (.ow (.dct 0 (dT (cL d w p))))))):=by
 unfold iZ;simp only[h];rw[o,Zq,Zr ⟨rfl,by rw[dT,Zv];exact r⟩];have e:af b aC (U.set i (O (.ow (.dct 0 (cB (dT d) (.str w))))))=O [(.fr,tP p)]:=by simp[g]
 rw[e,Zq];have a:=mQ d w p n;unfold pH at a;obtain⟨j,h1,a⟩:=Zz.mp a;obtain⟨q,t,a⟩:=Zz.mp a;obtain⟨z,s,a⟩:=Zn.mp a;have l:pm (λx=>bx x [(.fr,tP p)]) [.at (.str w)] (.dct 0 (cB (dT d) (.str w)))=O (.dct 0 (dT (cL d w p)),z.2):=by
  show (if iP (.str w) then _ else Y)=_;rw[Zr (show iP (.str w)=J from rfl),h1,Zq,t,Zq];show (bx q.2 [(.fr,tP p)]).map _=_;rw[show bx q.2 [(.fr,tP p)]=O z from s,Yt,a]
 rw[l];rfl
def Sz(N:Nat)(d:Fd):Prop:=d.length<=N/\∀q∈d,q.2.length<=N
def vm(d:Fd)(w:Tx)(p:Pl):(cL d w p).length<=d.length+1:=by
 induction d with
 |nil=>simp[cL]
 |cons a d b =>
  obtain⟨x,l⟩:=a;unfold cL;split
  ·simp
  ·simp only[Zj];exact Y2 b
def uk(d:Fd)(w:Tx)(p:Pl)(N:Nat)(h:∀q∈d,q.2.length<=N):∀q∈cL d w p,q.2.length<=N+1:=by
 induction d with
 |nil=>intro q b;simp[cL]at b;rw[b];simp
 |cons a d e =>
  obtain⟨x,l⟩:=a;have h1:=h (x,l) Zx;have e:=e λq b=>h q (Zw _ b);unfold cL;split
  ·intro q b;rcases Zo.mp b with rfl | b
   ·simp only[Zu,ZW];simp only at h1;exact Y2 h1
   ·have:=h q (Zw _ b);exact Xq this
  ·intro q b;rcases Zo.mp b with rfl | b
   ·simp only at h1 ⊢;exact Xq h1
   ·exact e q b
def Sz.add{N:Nat}{d:Fd}(h:Sz N d)(w:Tx)(p:Pl):Sz (N+1) (cL d w p):=⟨by have:=vm d w p;have:=h.1;lia,uk d w p N h.2⟩
def adds(n:Nat)(t:Tx)(e:Nat)(a:W3)(d:Fd):Fd:=a.foldl (λd s=>cL d ((t.drop s).take (e-s)) (n,e)) d
def RL(b:T)(n:Nat)(t:Tx)(e:Nat)(u:e<=t.length)(a:W3):∀(d:Fd)(N:Nat)(z:Vg),(∀s∈a,s<=e)->Sz N d->N+a.length<16777216 →
  ∃f,forL (br 5) cY (a.map λ(s:Nat)=>T.int (s:Int)) [O (.pu b),O (.ow (.dct 0 (dT d))),O (.pu (.int n)),O (.pu (.str t)),O (.pu (.int e)),z] =
   O (.nx [O (.pu b),O (.ow (.dct 0 (dT (adds n t e a d)))),O (.pu (.int n)),O (.pu (.str t)),O (.pu (.int e)),f])/\Sz (N+a.length) (adds n t e a d):=by
 induction a with
 |nil=>exact λd N z _ h _=>⟨z,by simp[forL,adds],by simpa[adds] using h⟩
 |cons s a j =>
  intro d N z g h hN;rw[Zj]at hN;have y:s<=e:=g s Zx;have x:cut t (O (s:Int)) (O (e:Int))=(t.drop s).take (e-s):=by
   have:=qu t s (e-s) (by exact ZV y u)
   rwa [show ((s:Int)+((e-s:Nat):Int))=(e:Int) by lia]at this
  obtain⟨f,v,l⟩:=j (cL d ((t.drop s).take (e-s)) (n,e)) (N+1) (O (.pu (.int s))) (λi r=>g i (Zw _ r)) (h.add _ _) (by lia);refine⟨f,?_,by rw[Zj];rw[show N+(a.length+1)=N+1+a.length by lia];exact l⟩;have bo:cY [O (.pu b),O (.ow (.dct 0 (dT d))),O (.pu (.int n)),O (.pu (.str t)),O (.pu (.int e)),O (.pu (.int s))] =
    O (.nx [O (.pu b),O (.ow (.dct 0 (dT (cL d ((t.drop s).take (e-s)) (n,e))))),O (.pu (.int n)),O (.pu (.str t)),O (.pu (.int e)),O (.pu (.int s))]):=by
   unfold cY;rw[sA (d:=d) (w:=(t.drop s).take (e-s)) (p:=(n,e)) (m:=.fr) M (by simp[x]) (λc=>by simp[o7,tP,up,DZ,eT]) (λq o=>by have:=h.2 q o;lia) (by have:=h.1;lia)];simp
  rw[Zt,bR M bo,v];rfl
def gC(n:Nat)(t:Tx)(a:W3)(d:Fd):Fd:=a.foldl (λd e=>adds n t e (List.range (e+1)) d) d
def RK(f:T)(n:Nat)(t:Tx)(C:t.length<=120)(a:W3):∀(d:Fd)(N:Nat)(g b:Vg),(∀e∈a,e<=t.length)->Sz N d->N+121*a.length<16777216 →
  ∃B A,forL (br 4) de (a.map λ(e:Nat)=>T.int (e:Int)) [O (.pu f),O (.ow (.dct 0 (dT d))),O (.pu (.int n)),O (.pu (.str t)),g,b] =
   O (.nx [O (.pu f),O (.ow (.dct 0 (dT (gC n t a d)))),O (.pu (.int n)),O (.pu (.str t)),B,A])/\Sz (N+121*a.length) (gC n t a d):=by
 induction a with
 |nil=>exact λd N g b _ h _=>⟨g,b,by simp[forL,gC],by simpa[gC] using h⟩
 |cons e a r =>
  intro d N g b j h hN;rw[Zj]at hN;have x:e<=t.length:=j e Zx;obtain⟨l,e1,h1⟩:=RL f n t e x (List.range (e+1)) d N b (λs j=>by have:=ZF.mp j;exact YW this) h (by rw[ZH];lia);rw[ZH]at h1;have y:Sz (N+121) (adds n t e (List.range (e+1)) d):=⟨by have:=h1.1;lia,λq v=>by have:=h1.2 q v;lia⟩
  obtain⟨p,o,z,u⟩:=r (adds n t e (List.range (e+1)) d) (N+121) (O (.pu (.int e))) l (λi w=>j i (Zw _ w)) y (by lia);refine⟨p,o,?_,by rw[Zj,show N+121*(a.length+1)=N+121+121*a.length by lia];exact u⟩;have bo:de [O (.pu f),O (.ow (.dct 0 (dT d))),O (.pu (.int n)),O (.pu (.str t)),O (.pu (.int e)),b] =
    O (.nx [O (.pu f),O (.ow (.dct 0 (dT (adds n t e (List.range (e+1)) d)))),O (.pu (.int n)),O (.pu (.str t)),O (.pu (.int e)),l]):=by
   unfold de;rw[gN (lM (m:=.fr) (n:=e+1) M (by lia))];exact e1
  rw[Zt,bR M bo,z];rfl
def RJ(b:T)(n:Nat)(t:Tx)(l:t.length<=120)(d:Fd)(N:Nat)(j i:Vg)(h:Sz N d)(r:N+14641<16777216):∃g f,cn [O (.pu b),O (.ow (.dct 0 (dT d))),O (.pu (.int n)),O (.pu (.str t)),j,i] =
   O (.nx [O (.pu b),O (.ow (.dct 0 (dT (gC n t (List.range (t.length+1)) d)))),O (.pu (.int n)),O (.pu (.str t)),g,f])/\Sz (N+14641) (gC n t (List.range (t.length+1)) d):=by
 obtain⟨g,f,e,a⟩:=RK b n t l (List.range (t.length+1)) d N j i (λe p=>by have:=ZF.mp p;exact YW this) h (by rw[ZH];lia);rw[ZH]at a;refine⟨g,f,?_,⟨by have:=a.1;lia,λq o=>by have:=a.2 q o;lia⟩⟩;unfold cn;rw[gN (lM (m:=.fr) (n:=t.length+1) M (by lia))];exact e
def hZ:Nat->List Tx->Fd->Fd
 |_,[],d=>d
 |n,t :: l,d=>hZ (n+1) l (gC n t (List.range (t.length+1)) d)
def RH(g:T)(l:List Tx):∀(n:Nat)(d:Fd)(N:Nat)(f e b a:Vg),(∀t∈l,t.length<=120)->Sz N d->N+14641*l.length<16000000 →
  ∃y z B A,forL (mY [br 2,br 3]) cn ((l.zipIdx n).map λp=>T.tup [.int p.2,.str p.1]) [O (.pu g),O (.ow (.dct 0 (dT d))),f,e,b,a] =
   O (.nx [O (.pu g),O (.ow (.dct 0 (dT (hZ n l d)))),y,z,B,A])/\Sz (N+14641*l.length) (hZ n l d):=by
 induction l with
 |nil=>exact λn d N f e b a _ h _=>⟨f,e,b,a,by simp[forL,hZ],by simpa[hZ] using h⟩
 |cons t l u =>
  intro n d N f e b a i h hN;rw[Zj]at hN;obtain⟨m,j,e1,h1⟩:=RJ g n t (i t Zx) d N b a h (by lia);obtain⟨x2,r,q,o,x,v⟩:=u (n+1) (gC n t (List.range (t.length+1)) d) (N+14641) (O (.pu (.int n))) (O (.pu (.str t))) m j (λs w=>i s (Zw _ w)) h1 (by lia);refine⟨x2,r,q,o,?_,by rw[Zj,show N+14641*(l.length+1)=N+14641+14641*l.length by lia];exact v⟩;rw[WQ,Zt,bR (U1:=[O (.pu g),O (.ow (.dct 0 (dT d))),O (.pu (.int n)),O (.pu (.str t)),b,a]) M e1,x];rfl
def enum_zip(l:List Tx):∀n:Nat,fz n (l.map T.str)=(l.zipIdx n).map λp=>T.tup [.int p.2,.str p.1]:=by
 induction l with
 |nil=>intro n;rfl
 |cons t l a=>intro n;rw[WQ,Zt,Zt,fz,a (n+1)]
def found(a:List Tx):Fd:=hZ 0 a [([],[])]
def u6(d:List Tx)(B:Bk 120 d)(r:d.length<=8):cQ [.lst (d.map T.str)]=O (.fr,.dct 0 (dT (found d)))/\Sz 117129 (found d):=by
 have hlen:∀t∈d,t.length<=120:=λt o=>by
  have h:t.length<=d.flatten.length:=by
   obtain⟨a,b,rfl⟩:=Vz o;simp only[Gk,Zd,Zu];lia
  have:=B.n;exact ZV h this
 obtain⟨l,j,i,g,e,m⟩:=RH (.lst (d.map T.str)) d 0 [([],[])] 1 Y Y Y Y hlen ⟨by simp,λq f=>by rw[Zf.mp f];simp⟩ (by lia);refine⟨?_,⟨by have:=m.1;unfold found;lia,λq f=>by have:=m.2 q f;lia⟩⟩;unfold cQ;refine eI M (U:=[O (.pu (.lst (d.map T.str))),Y,l,j,i,g]) ?_;refine(show au _ _ [O (.pu (.lst (d.map T.str))),Y,Y,Y,Y,Y]=_ from ?_);rw[ak (U1:=[O (.pu (.lst (d.map T.str))),O (.ow (.dct 0 (dT [([],[])]))),Y,Y,Y,Y]) (by
  have:oq 0 [((eC (.str [])),(gR aC))] [O (.pu (.lst (d.map T.str))),Y,Y,Y,Y,Y]=O (.fr,.dct 0 (dT [([],[])])):=rfl;simp only[jf,this,Zq];rfl)]
 have p:eW (mY [br 2,br 3]) (oF (ae 0)) cn [O (.pu (.lst (d.map T.str))),O (.ow (.dct 0 (dT [([],[])]))),Y,Y,Y,Y]=O (.nx [O (.pu (.lst (d.map T.str))),O (.ow (.dct 0 (dT (hZ 0 d [([],[])])))),l,j,i,g]):=by
  rw[← enum_zip]at e;simp[-forL,zu];exact e
 rw[ak p];simp[found]
def aO(d:Fd):List Tx:=d.map (·.1)
def pX(d:Fd)(w:Tx)(p:Pl):aO (cL d w p)=if w∈aO d then aO d else aO d++[w]:=by
 induction d with
 |nil=>simp[aO,cL]
 |cons a d b =>
  obtain⟨x,l⟩:=a;unfold cL;by_cases e:x=w
  ·rw[Zr e];subst e;simp[aO]
  ·rw[Zm e];have:aO ((x,l) :: cL d w p)=x :: aO (cL d w p):=rfl;rw[this,b];have f:¬w=x:=λz=>e z.symm;by_cases m:w∈aO d
   ·rw[Zr m,Zr (by simp only[aO,Zt,Zo];exact .inr m)];rfl
   ·rw[Zm m,Zm (by simp only[aO,Zt,Zo,not_or];exact⟨f,m⟩)];rfl
def yP{d:Fd}{w x:Tx}{p:Pl}:x∈aO (cL d w p)↔x∈aO d\/x=w:=by
 rw[pX];by_cases m:w∈aO d
 ·rw[Zr m];constructor
  ·exact .inl
  ·rintro (h | rfl)
   ·exact h
   ·exact m
 ·rw[Zm m];simp
def Au{d:Fd}(w:Tx)(p:Pl)(h:(aO d).Nodup):(aO (cL d w p)).Nodup:=by
 rw[pX];by_cases m:w∈aO d
 ·rw[Zr m];exact h
 ·rw[Zm m];exact ZA.mpr ⟨h,by simp,λa g b f e=>m (by rw[Zf]at f;rw[← f,← e];exact g)⟩
def AW{d:Fd}{r:List Tx}(w:Tx)(p:Pl)(h:aO d=[] :: r):∃a,aO (cL d w p)=[] :: a:=by
 rw[pX];split
 ·exact⟨r,h⟩
 ·exact⟨r++[w],by rw[h];rfl⟩
def lB{P:Fd->Prop}(g:∀d w p,P d->P (cL d w p)):∀(l:List Tx)(n:Nat)(d:Fd),P d->P (hZ n l d):=by
 have h1:∀(n:Nat)(t:Tx)(e:Nat)(b:W3)(d:Fd),P d->P (adds n t e b d):=by
  intro n t e b
  induction b with
  |nil=>exact λd h=>h
  |cons s b a=>exact λd h=>a _ (g _ _ _ h)
 have i:∀(n:Nat)(t:Tx)(f:W3)(d:Fd),P d->P (gC n t f d):=by
  intro n t f
  induction f with
  |nil=>exact λd h=>h
  |cons e f a=>exact λd h=>a _ (h1 n t e _ d h)
 intro l
 induction l with
 |nil=>exact λn d h=>h
 |cons t l a=>exact λn d h=>a (n+1) _ (i n t _ d h)
def o6(a:List Tx):(aO (found a)).Nodup:=lB (P:=λd=>(aO d).Nodup) (λd w p h=>Au w p h) a 0 _ (by simp[aO])
def oZ(a:List Tx):∃r,aO (found a)=[] :: r:=lB (P:=λd=>∃r,aO d=[] :: r) (λd w p ⟨r,h⟩=>AW w p h) a 0 _ ⟨[],rfl⟩
def u0(n:Nat)(t:Tx)(e:Nat)(x:Tx)(a:W3):∀d,x∈aO (adds n t e a d)↔x∈aO d\/∃s∈a,x=(t.drop s).take (e-s):=by
 induction a with
 |nil=>intro d;simp[adds]
 |cons s a b =>
  intro d;have:=b (cL d ((t.drop s).take (e-s)) (n,e));rw[show adds n t e (s :: a) d=adds n t e a (cL d ((t.drop s).take (e-s)) (n,e)) from rfl,this,yP];simp[or_assoc]
def ug(n:Nat)(t:Tx)(x:Tx)(a:W3):∀d,x∈aO (gC n t a d)↔x∈aO d\/∃e∈a,∃s∈List.range (e+1),x=(t.drop s).take (e-s):=by
 induction a with
 |nil=>intro d;simp[gC]
 |cons e a b =>
  intro d;rw[show gC n t (e :: a) d=gC n t a (adds n t e (List.range (e+1)) d) from rfl,b,u0,or_assoc];simp only[Zo,exists_eq_or_imp]
def kg(x:Tx)(l:List Tx):∀n d,x∈aO (hZ n l d)↔x∈aO d\/∃t∈l,∃e∈List.range (t.length+1),∃s∈List.range (e+1),x=(t.drop s).take (e-s):=by
 induction l with
 |nil=>intro n d;simp[hZ]
 |cons t l a =>
  intro n d;rw[show hZ n (t :: l) d=hZ (n+1) l (gC n t (List.range (t.length+1)) d) from rfl,a,ug,or_assoc];simp only[Zo,exists_eq_or_imp]
def pG(b:List Tx)(x:Tx)(h:x∈aO (found b)):x.drop 1∈aO (found b):=by
 unfold found at h ⊢;rw[kg]at h ⊢;rcases h with h | ⟨t,d,e,a,s,f,rfl⟩
 ·left;simp[aO]at h ⊢;rw[h];rfl
 ·have h1:=ZF.mp a;have g:=ZF.mp f;by_cases q:s=e
  ·left;subst q;simp[aO]
  ·right;refine⟨t,d,e,a,s+1,ZF.mpr (by lia),?_⟩;rw[Wf,List.drop_drop];congr 1
def ny(f:List Tx)(B:Bk 120 f)(x:Tx)(h:x∈aO (found f)):Az x/\x.length<=120:=by
 unfold found at h;rw[kg]at h;rcases h with h | ⟨t,g,e,i,s,j,rfl⟩
 ·simp[aO]at h;subst h;exact⟨λc d=>by simp at d,by simp⟩
 ·refine⟨λc d=>B.az t g c (Ye (Yk d)),?_⟩;have h1:=ZF.mp i;have l:t.length<=f.flatten.length:=by
   obtain⟨a,b,rfl⟩:=Vz g;simp only[Gk,Zd,Zu];lia
  have:=B.n;rw[ZO];lia
end T26
end
section
namespace T26
open VS p0
abbrev Gr:=List (List Pl×List Tx)
def FG(l:List Pl):ba:=l.map λq=>[.inl (q.1:Int),.inl (q.2:Int)]
theorem qS:∀{x y:List Pl},FG x=FG y->x=y
 |[],[],_=>rfl
 |[],_ :: _,h=>by simp[FG]at h
 |_ :: _,[],h=>by simp[FG]at h
 | (a,b) :: x,(c,d) :: y,h=>by
  simp only[FG,Zt,YC,Sum.inl.injEq,Int.natCast_inj,and_true]at h;obtain⟨⟨rfl,rfl⟩,h⟩:=h;rw[qS h]
def Cb(l:List Pl):DP (FG l)=T.tup (l.map tP):=by simp[DP,FG,tP,aL]
def xk(l:List Pl):wO (T.tup (l.map tP))=O (FG l):=by
 show (l.map tP).mapM LY=_
 induction l with
 |nil=>rfl
 |cons a l b =>
  rw[Zt,List.mapM_cons,b];rfl
def gT(g:Gr):List (T×T):=g.map λp=>(DP (FG p.1),T.lst (p.2.map T.str))
def cU:Gr->List Pl->Tx->Gr
 |[],k,w=>[(k,[w])]
 | (x,l) :: g,k,w=>if x=k then (x,l++[w]) :: g else (x,l) :: cU g k w
def t6{f:T->Option (T×Val)}{k:T}{a:T×T}{b:List (T×T)}(h:eqT a.1 k=S):oH f (a :: b) k=(oH f b k).map (a :: ·):=by
 unfold oH;rw[YZ,Zm (by rw[h];simp)];cases e:b.findIdx? λq=>eqT q.1 k with
 |none=>rfl
 |some i =>
  simp only[Yt,Zq,WK];cases e2:b[i]? with
  |none=>rfl
  |some q =>
   simp only[Zq];cases f q.2 with
   |none=>rfl
   |some z=>rfl
def oQ{f:T->Option (T×Val)}{k:T}{a:T×T}{b:List (T×T)}(h:eqT a.1 k=J):oH f (a :: b) k=(f a.2).map λz=>(a.1,z.1) :: b:=by
 unfold oH;rw[YZ,Zr h];rfl
def mZ{k:T}{a:T×T}{b:List (T×T)}(h:eqT a.1 k=S):bG (a :: b) k=a :: bG b k:=by
 have q:(a :: b).findIdx? (λq=>eqT q.1 k)=(b.findIdx? λq=>eqT q.1 k).map (·+1):=by
  rw[YZ,Zm (by rw[h];exact Zk)]
 unfold bG;rw[q];cases e:b.findIdx? λq=>eqT q.1 k with
 |none=>rfl
 |some i=>rfl
def nu{k:T}{a:T×T}{b:List (T×T)}(h:eqT a.1 k=J):bG (a :: b) k=a :: b:=by
 unfold bG;rw[YZ,Zr h];rfl
def yU(g:Gr)(k:List Pl)(w:Tx)(b:∀q∈g,q.2.length<16777216):oH (λx=>bx x [(.fr,.str w)]) (bG (gT g) (DP (FG k))) (DP (FG k))=O (gT (cU g k w)):=by
 induction g with
 |nil =>
  have:bG (gT []) (DP (FG k))=[(DP (FG k),.lst [])]:=rfl;rw[this,oQ (by rw[j5];simp),fE (by decide)];rfl
 |cons a g d =>
  obtain⟨x,l⟩:=a;by_cases e:x=k
  ·subst e;have h:eqT (DP (FG x)) (DP (FG x))=J:=by rw[j5];simp
   rw[show gT ((x,l) :: g)=(DP (FG x),T.lst (l.map T.str)) :: gT g from rfl,nu h,oQ h,fE (by rw[Zv];exact b (x,l) Zx)];simp[cU,gT]
  ·have h:eqT (DP (FG x)) (DP (FG k))=S:=by rw[j5];exact ZP λz=>e (qS z)
   rw[show gT ((x,l) :: g)=(DP (FG x),T.lst (l.map T.str)) :: gT g from rfl,mZ h,t6 h,d λq f=>b q (Zw _ f)];simp[cU,gT,e]
def pZ{i:Nat}{b:Ex}{a:Ex}{U:Env}{g:Gr}{w:Tx}{k:List Pl}{m:Md}(h:U[i]?=O (O (.ow (.dct 2 (gT g)))))(j:b U=O (m,.tup (k.map tP)))(d:∀c,a (U.set i c)=O (.fr,.str w))(f:∀q∈g,q.2.length<16777216)(l:g.length<16777216) :
  gS i b (af a aC) U=O (.nx (U.set i (O (.ow (.dct 2 (gT (cU g k w))))))):=by
 unfold gS;simp only[h];rw[j,Zq,Zr ⟨by rw[xk];rfl,by rw[gT,Zv];exact l⟩];have e:af a aC (U.set i (O (.ow (.dct 2 (bG (gT g) (T.tup (k.map tP)))))))=O [(.fr,.str w)]:=xv (d _) M;rw[e,Zq,← Cb,yU g k w f];rfl
def look:Fd->Tx->List Pl
 |[],_=>[]
 | (x,l) :: d,w=>if x=w then l else look d w
def vR(d:Fd)(w:Tx)(h:w∈aO d):dE (dT d) (.str w)=O (.lst ((look d w).map tP)):=by
 induction d with
 |nil=>simp[aO]at h
 |cons a d b =>
  obtain⟨x,l⟩:=a;rw[show dT ((x,l) :: d)=(T.str x,T.lst (l.map tP)) :: dT d from rfl];unfold dE;by_cases e:x=w
  ·rw[Yx,show eqT (T.str x) (T.str w)=J by simp[e]];simp[look,e]
  ·rw[Yx,show eqT (T.str x) (T.str w)=S by simpa using e];have f:w∈aO d:=by
    rcases Zo.mp (show w∈x :: aO d from h) with h | h
    ·exact absurd h.symm e
    ·exact h
   rw[show look ((x,l) :: d) w=look d w by simp[look,e]];exact b f
def ud(d:Fd)(w:Tx)(N:Nat)(h:∀q∈d,q.2.length<=N):(look d w).length<=N:=by
 induction d with
 |nil=>simp[look]
 |cons a d b =>
  obtain⟨x,l⟩:=a;unfold look;split
  ·exact h _ Zx
  ·exact b λq e=>h q (Zw _ e)
def Hf(d:Fd)(a:List Tx)(g:Gr):Gr:=a.foldl (λg w=>cU g (look d w) w) g
def zc(g:Gr)(k:List Pl)(w:Tx)(N:Nat)(h:g.length<=N/\∀q∈g,q.2.length<=N):(cU g k w).length<=N+1/\∀q∈cU g k w,q.2.length<=N+1:=by
 induction g generalizing N with
 |nil=>simp[cU]
 |cons a g e =>
  obtain⟨x,l⟩:=a;have h1:=h.2 (x,l) Zx;have d:=h.1;unfold cU;split
  ·refine⟨by simp only[Zj]at d ⊢;exact Xq d,λq b=>?_⟩;rcases Zo.mp b with rfl | b
   ·simp only[Zu,ZW];simp only at h1;exact Y2 h1
   ·have:=h.2 q (Zw _ b);exact Xq this
  ·have hN:∀(g:Gr),(cU g k w).length<=g.length+1:=by
    intro g
    induction g with
    |nil=>simp[cU]
    |cons a g e=>obtain⟨x,l⟩:=a;unfold cU;split<;>simp only[Zj]<;>lia
   refine⟨by have:=hN g;simp only[Zj]at d ⊢;lia,λq b=>?_⟩;rcases Zo.mp b with rfl | b
   ·simp only at h1 ⊢;exact Xq h1
   ·exact(e N ⟨by simp only[Zj]at d;exact Xg d,λq b=>h.2 q (Zw _ b)⟩).2 q b
def D3(d:Fd)(o:∀q∈d,q.2.length<=117129)(a:List Tx):∀(g:Gr)(N:Nat)(z:Vg),(∀w∈a,w∈aO d)->(g.length<=N/\∀q∈g,q.2.length<=N)->N+a.length<16777216 →
  ∃b,forL (br 2) cZ (a.map T.str) [O (.pu (.dct 0 (dT d))),O (.ow (.dct 2 (gT g))),z]=O (.nx [O (.pu (.dct 0 (dT d))),O (.ow (.dct 2 (gT (Hf d a g)))),b]):=by
 induction a with
 |nil=>exact λg N z _ _ _=>⟨z,rfl⟩
 |cons w a i =>
  intro g N z hw hN n;rw[Zj]at n;obtain⟨b,e⟩:=i (cU g (look d w) w) (N+1) (O (.pu (.str w))) (λx j=>hw x (Zw _ j)) (zc g _ w N hN) (by lia);refine⟨b,?_⟩;have h:=vR d w (hw w Zx);have f:=ud d w 117129 o;have bo:cZ [O (.pu (.dct 0 (dT d))),O (.ow (.dct 2 (gT g))),O (.pu (.str w))]=O (.nx [O (.pu (.dct 0 (dT d))),O (.ow (.dct 2 (gT (cU g (look d w) w)))),O (.pu (.str w))]):=by
   unfold cZ;have im:eT ((look d w).map tP)=J:=gp tP (λ_=>rfl) _;have p:gq [(.pu,.lst ((look d w).map tP))]=O (.fr,.tup ((look d w).map tP)):=by
    show (if _ then _ else _)=_;rw[Zr (by rw[Zv];exact ZV f (by decide)),up,DZ,im];rfl
   exact pZ (g:=g) (w:=w) (k:=look d w) (m:=.fr) M (nA (xv (e2v (x:=(.pu,.dct 0 (dT d))) (y:=(.fr,.str w)) M M (by
    show (dE (dT d) (.str w)).map _=_;rw[h];rfl)) M) p) (λc=>rfl) (λq l=>by have:=hN.2 q l;lia) (by have:=hN.1;lia)
  rw[Zt,bR M bo,e];rfl
def D1(a:Vh):T:=.lst (a.map λs=>T.lst (s.map T.str))
def dY(d:Fd):Vh:=(Hf d (b9 (aO d)) []).map (·.2)
def uB(d:Fd)(a:Sz 117129 d)(j:∀x∈aO d,Az x/\x.length<=120):cJ [.dct 0 (dT d)]=O (.fr,D1 (dY d)):=by
 have pm:=dj (aO d);obtain⟨b,e⟩:=D3 d a.2 (b9 (aO d)) [] 0 Y (λw hw=>pm.mem_iff.mp hw) ⟨by simp,λq g=>by simp at g⟩ (by rw[pm.length_eq,aO,Zv];have:=a.1;lia);have so:jo [(.pu,.dct 0 (dT d))]=O (.fr,.lst ((b9 (aO d)).map T.str)):=by
  show ((strs? ((dT d).map (·.1))).bind _)=_;rw[show (dT d).map (·.1)=d.map λp=>T.str p.1 by simp[dT],strs_map (λp:Tx×List Pl=>p.1) d,Zq,show d.map (λp=>p.1)=aO d from rfl,Zr (show ((aO d).all ID)=J from ZE.mpr λx f=>by
   obtain⟨h1,i⟩:=j x f;simp only[ID,FV,decide_eq_true_eq,ZE];exact⟨ZV i (by decide),λc h=>by have:=h1 c h;lia⟩)]
 unfold cJ;refine eI M (U:=[O (.pu (.dct 0 (dT d))),Y,b]) ?_;refine(show au _ _ [O (.pu (.dct 0 (dT d))),Y,Y]=_ from ?_);rw[ak (U1:=[O (.pu (.dct 0 (dT d))),O (.ow (.dct 2 (gT []))),Y]) M,
  ak ((gN (l:=(b9 (aO d)).map T.str) (by
   show (eN jo (af (ae 0) aC) _).bind _=_;rw[nA (xv (x:=(.pu,.dct 0 (dT d))) M M) so];rfl)).trans e)]
 show O _=_;rw[gT,Yy,D1,dY,Yy];rfl
structure UN(st:Vh)(ks:List Tx):Prop where
 ne:∀s∈st,s≠[]
 pm:st.flatten.Perm ks
 hd:∃a b,st=([] :: a) :: b
def yi(g:Gr)(k:List Pl)(w:Tx)(h:∀q∈g,q.2≠[]):∀q∈cU g k w,q.2≠[]:=by
 induction g with
 |nil=>intro q b;simp[cU]at b;rw[b];simp
 |cons a g d =>
  obtain⟨x,l⟩:=a;have d:=d λq b=>h q (Zw _ b);unfold cU;split
  ·intro q b;rcases Zo.mp b with rfl | b
   ·simp
   ·exact h q (Zw _ b)
  ·intro q b;rcases Zo.mp b with rfl | b
   ·exact h _ Zx
   ·exact d q b
def yM(g:Gr)(k:List Pl)(w:Tx):((cU g k w).map (·.2)).flatten.Perm (w :: (g.map (·.2)).flatten):=by
 induction g with
 |nil=>simp[cU]
 |cons a g b =>
  obtain⟨x,l⟩:=a;unfold cU;split
  ·rw[Zt,Zd,Zt,Zd];show (l++[w]++_).Perm (w :: (l++_));rw[Zb];exact Vk
  ·rw[Zt,Zd,Zt,Zd];exact(List.Perm.append_left l b).trans Vk
def wX(g:Gr)(k:List Pl)(w:Tx)(k0:List Pl)(a:List Tx)(b:Gr)(h:g=(k0,[] :: a) :: b):∃e d,cU g k w=(k0,[] :: e) :: d:=by
 subst h;unfold cU;split
 ·exact⟨a++[w],b,rfl⟩
 ·exact⟨a,_,rfl⟩
def Bw(d:Fd)(a:List Tx):∀g:Gr,(∀q∈g,q.2≠[])->∀q∈Hf d a g,q.2≠[]:=by
 induction a with
 |nil=>exact λg h=>h
 |cons w a b=>exact λg h=>b _ (yi g _ w h)
def An(d:Fd)(a:List Tx):∀g:Gr,((Hf d a g).map (·.2)).flatten.Perm (a++(g.map (·.2)).flatten):=by
 induction a with
 |nil=>exact λg=>by simp[Hf]
 |cons w a b =>
  intro g;refine(b (cU g (look d w) w)).trans ?_;refine((yM g (look d w) w).append_left a).trans ?_;exact Vk
def Bt(d:Fd)(e:List Tx):∀(g:Gr)(k0:List Pl)(a:List Tx)(b:Gr),g=(k0,[] :: a) :: b->∃i f,Hf d e g=(k0,[] :: i) :: f:=by
 induction e with
 |nil=>exact λg k0 a b h=>⟨a,b,h⟩
 |cons w e j =>
  intro g k0 a b h;obtain⟨i,f,l⟩:=wX g (look d w) w k0 a b h;exact j _ k0 i f l
def vx(l:List Tx)(h:[]∈l):∃r,b9 l=[] :: r:=by
 have pm:=dj l;have pw:=iG l;have m:[]∈b9 l:=pm.mem_iff.mpr h;cases e:b9 l with
 |nil=>rw[e]at m;simp at m
 |cons x r =>
  rw[e]at m pw;rcases Zo.mp m with b | a
  ·exact⟨r,by rw[b]⟩
  ·cases x with
   |nil=>exact⟨r,rfl⟩
   |cons c x=>exact absurd (.inl (by simp)) ((Yd.mp pw).1 [] a)
def uF(d:Fd)(h:[]∈aO d):UN (dY d) (aO d):=by
 refine⟨λs g=>?_,?_,?_⟩
 ·obtain⟨q,f,rfl⟩:=Yr.mp g;exact Bw d _ [] (λq f=>by simp at f) q f
 ·have:=An d (b9 (aO d)) [];simp only[YF,List.flatten_nil,Ft]at this;exact this.trans (dj _)
 ·obtain⟨r,e⟩:=vx _ h;obtain⟨a,b,i⟩:=Bt d r (cU [] (look d []) []) (look d []) [] [] M;refine⟨a,b.map (·.2),?_⟩;unfold dY;rw[e,show Hf d ([] :: r) []=Hf d r (cU [] (look d []) []) from rfl,i];rfl
def num:Vh->Tx->Nat
 |[],_=>0
 |s :: st,w=>if w∈s then 0 else num st w+1
def pQ(a:Vh)(w:Tx)(h:w∈a.flatten):num a w<a.length:=by
 induction a with
 |nil=>simp at h
 |cons s a b =>
  unfold num;split
  ·simp
  ·rename_i d;have:w∈a.flatten:=by
    rw[Zd]at h;exact(Zc.mp h).resolve_left d
   have:=b this;simp only[Zj];exact Nat.succ_lt_succ this
def nT(m:List (Tx×Nat)):List (T×T):=m.map λp=>(T.str p.1,T.int (p.2:Int))
def nums:Nat->Vh->List (Tx×Nat)
 |_,[]=>[]
 |k,s :: st=>s.map (λw=>(w,k))++nums (k+1) st
def uu(a b:List (T×T))(k:T):dE (a++b) k=(dE a k).or (dE b k):=by
 unfold dE;rw[List.find?_append];cases a.find? λp=>eqT p.1 k<;>rfl
def uI(s:List Tx)(k:Nat)(w:Tx):dE (nT (s.map λw=>(w,k))) (.str w)=if w∈s then O (.int (k:Int)) else Y:=by
 induction s with
 |nil=>rfl
 |cons x s a =>
  rw[Zt,show nT ((x,k) :: s.map λw=>(w,k))=(T.str x,T.int (k:Int)) :: nT (s.map λw=>(w,k)) from rfl];by_cases e:x=w
  ·rw[dE,Yx,show eqT (T.str x) (T.str w)=J by simp[e],Zr (by rw[e];simp)];rfl
  ·rw[dE,Yx,show eqT (T.str x) (T.str w)=S by simpa using e];have b:¬w=x:=λz=>e z.symm;refine(show dE (nT (s.map λw=>(w,k))) (.str w)=_ from ?_);rw[a];by_cases q:w∈s
   ·rw[Zr q,Zr (Zw _ q)]
   ·rw[Zm q,Zm λz=>(Zo.mp z).elim b q]
def lg(a:Vh)(w:Tx):∀k,dE (nT (nums k a)) (.str w)=if w∈a.flatten then O (.int ((k+num a w:Nat):Int)) else Y:=by
 induction a with
 |nil=>exact λk=>rfl
 |cons s a d =>
  intro k;rw[nums,nT,Ym,uu];rw[show dE ((s.map λw=>(w,k)).map λp=>(T.str p.1,T.int (p.2:Int))) (.str w)=_ from uI s k w];rw[show dE ((nums (k+1) a).map λp=>(T.str p.1,T.int (p.2:Int))) (.str w)=_ from d (k+1),Zd];by_cases h:w∈s
  ·rw[Zr h,Zr (Zc.mpr (.inl h)),show num (s :: a) w=0 by simp[num,h]];rfl
  ·rw[Zm h];by_cases b:w∈a.flatten
   ·rw[Zr b,Zr (Zc.mpr (.inr b)),show num (s :: a) w=num a w+1 by simp[num,h],show k+(num a w+1)=k+1+num a w by lia];rfl
   ·rw[Zm b,Zm λz=>(Zc.mp z).elim h b];rfl
def xA(m:List (Tx×Nat))(w:Tx)(k:Nat)(h:w∉m.map (·.1)):dput (nT m) (.str w) (.int (k:Int))=nT (m++[(w,k)]):=by
 unfold dput;rw[Zm (by
  simp only[List.any_eq_true,not_exists,not_and];intro p b;obtain⟨q,a,rfl⟩:=Yr.mp b;simp only[eqT,beq_iff_eq];intro e;exact h (Yr.mpr ⟨q,a,e⟩))]
 simp[nT]
def xy{i:Nat}{k e:Ex}{U:Env}{l:List (T×T)}{kv v:T}{m n:Md}(h:U[i]?=O (O (.ow (.dct 0 l))))(b:e U=O (m,v))(a:k U=O (n,kv))(h1:iP kv=J)(f:DZ v=J)(d:l.length<16777216):pf i k e U=O (.nx (U.set i (O (.ow (.dct 0 (dput l kv v)))))):=by
 unfold pf;rw[b,Zq,h,a];exact Zr ⟨h1,f,d⟩
def Sl(a:T)(b:T)(k:Nat)(s:List Tx):∀(m:List (Tx×Nat))(z:Vg),(m.map (·.1)++s).Nodup->m.length+s.length<16777216 →
  ∃d,forL (br 4) cM (s.map T.str) [O (.pu a),O (.ow (.dct 0 (nT m))),O (.pu (.int k)),O (.pu b),z]=O (.nx [O (.pu a),O (.ow (.dct 0 (nT (m++s.map λw=>(w,k))))),O (.pu (.int k)),O (.pu b),d]):=by
 induction s with
 |nil=>exact λm z _ _=>⟨z,by simp[forL]⟩
 |cons w s g =>
  intro m z f i;rw[Zj]at i;obtain⟨d,e⟩:=g (m++[(w,k)]) (O (.pu (.str w))) (by simpa using f) (by rw[Zu,ZW];lia);refine⟨d,?_⟩;have nw:w∉m.map (·.1):=λh=>by
   have:=(ZA.mp f).2.2 w h w Zx;exact this M
  have bo:cM [O (.pu a),O (.ow (.dct 0 (nT m))),O (.pu (.int k)),O (.pu b),O (.pu (.str w))]=O (.nx [O (.pu a),O (.ow (.dct 0 (nT (m++[(w,k)])))),O (.pu (.int k)),O (.pu b),O (.pu (.str w))]):=by
   unfold cM;rw[xy (l:=nT m) (kv:=.str w) (v:=.int (k:Int)) (m:=.fr) (n:=.fr) M M M M M (by rw[nT,Zv];lia),xA m w k nw];rfl
  rw[Zt,bR M bo,e];simp
def Sk(f:T)(l:Vh):∀(n:Nat)(m:List (Tx×Nat))(d b a:Vg),(m.map (·.1)++l.flatten).Nodup->m.length+l.flatten.length<16777216 →
  ∃q r t,forL (mY [br 2,br 3]) dX (fz n (l.map λs=>T.lst (s.map T.str))) [O (.pu f),O (.ow (.dct 0 (nT m))),d,b,a]=O (.nx [O (.pu f),O (.ow (.dct 0 (nT (m++nums n l)))),q,r,t]):=by
 induction l with
 |nil=>exact λn m d b a _ _=>⟨d,b,a,by simp[forL,fz,nums]⟩
 |cons s l o =>
  intro n m d b a g p;rw[Zd,Zu]at p;rw[Zd,← Zb]at g;obtain⟨h,e1⟩:=Sl f (.lst (s.map T.str)) n s m a (ZA.mp g).1 (by lia);obtain⟨x2,j,i,e⟩:=o (n+1) (m++s.map λw=>(w,n)) (O (.pu (.int n))) (O (.pu (.lst (s.map T.str)))) h (by rw[Ym,Yy,show ((λx:Tx×Nat=>x.1) ∘ λw:Tx=>(w,n))=id from rfl,Wb];exact g) (by rw[Zu,Zv];lia);refine⟨x2,j,i,?_⟩;rw[Zt,fz,bR (U1:=[O (.pu f),O (.ow (.dct 0 (nT m))),O (.pu (.int n)),O (.pu (.lst (s.map T.str))),a]) M (by
   unfold dX;rw[i3 (m:=.pu) (l:=s.map T.str) M M,e1]),e,Zb]
  rfl
def sq(a:Vh)(g:a.flatten.Nodup)(h:a.flatten.length<16777216):bO [D1 a]=O (.fr,.dct 0 (nT (nums 0 a))):=by
 obtain⟨f,d,b,e⟩:=Sk (D1 a) a 0 [] Y Y Y (by simpa using g) (by simpa using h);unfold bO;refine eI M (U:=[O (.pu (D1 a)),Y,f,d,b]) ?_;refine(show au _ _ [O (.pu (D1 a)),Y,Y,Y,Y]=_ from ?_);rw[ak (U1:=[O (.pu (D1 a)),O (.ow (.dct 0 (nT []))),Y,Y,Y]) (by
  have:oq 0 [] [O (.pu (D1 a)),Y,Y,Y,Y]=O (.fr,.dct 0 (nT [])):=rfl;simp only[jf,this,Zq];rfl)]
 rw[ak (U1:=[O (.pu (D1 a)),O (.ow (.dct 0 (nT (nums 0 a)))),f,d,b]) (by
  rw[i3 (m:=.pu) (l:=fz 0 (a.map λs=>T.lst (s.map T.str))) M M];exact e)]
 simp
def DG(s:List Tx):Tx:=s.headD []
def G2(s:List Tx):Tx:=s.getLast?.getD []
def rW{m n:Md}{s:List Tx}(h:s≠[]):aJ (m,.lst (s.map T.str)) (n,.int 0)=O (.fr,.str (DG s)):=by
 cases s with
 |nil=>exact absurd M h
 |cons a s =>
  have:Et ((T.str a :: s.map T.str).length) 0=O 0:=iC (k:=0) (by simp);show (Et ((T.str a :: s.map T.str).length) 0).bind _=_;rw[this];rfl
def BA{m n:Md}{s:List Tx}(h:s≠[]):aJ (m,.lst (s.map T.str)) (n,.int (-1))=O (.fr,.str (G2 s)):=by
 have a:0<s.length:=List.length_pos_iff.mpr h;have:Et ((s.map T.str).length) (-1)=O (s.length-1):=by
  unfold Et;rw[Zm (by lia),Zv,Zr (by lia)];congr 1;lia
 show (Et ((s.map T.str).length) (-1)).bind _=_;rw[this,Zq,ZR,Zh (show s.length-1<s.length by omega)];unfold G2;rw[List.getLast?_eq_getElem?,Zh (show s.length-1<s.length by omega)];rfl
def wT(p:Nat×Nat):T:=.tup [.str [p.1],.int (p.2:Int)]
def jz(a:Vh)(h:Tx)(c:Nat):List (Nat×Nat):=if h++[c]∈a.flatten then [(c,num a (h++[c]))] else []
def bC(a:Vh)(h:Tx)(b:W3):List (Nat×Nat):=b.flatMap (jz a h)
def oK(b:Vh)(h:Tx)(a:W3):(bC b h a).length<=a.length:=by
 induction a with
 |nil=>simp[bC]
 |cons c a d =>
  have:bC b h (c :: a)=jz b h c++bC b h a:=rfl;rw[this,Zu,Zj];have:(jz b h c).length<=1:=by unfold jz;split<;>simp
  lia
abbrev ET(f:Vh)(S e:T)(s:List Tx)(d b a:Vg):Env:=[O (.pu S),O (.pu (.dct 0 (nT (nums 0 f)))),O (.ow e),O (.pu (.lst (s.map T.str))),d,b,a]
def CD{m n:Md}{l:List (T×T)}{k:Tx}{r:Option T}(h:dE l (.str k)=r):kR (m,.str k) (n,.dct 0 l)=O (.fr,.bl r.isSome):=by
 subst h;rfl
def zx{m n:Md}{l:List (T×T)}{k:Tx}{i:Int}(h:dE l (.str k)=O (.int i)):IH (m,.dct 0 l) (n,.str k)=O (.fr,.int i):=by
 show (dE l (.str k)).map _=_;rw[h];rfl
def um{a:D5}{U:Env}{l:Vf}{t:T}(h:a U=O l)(d:l.length<=16777216)(b:T.tup (trees l)=t)(e:DZ t=J):pF a U=O (.fr,t):=by
 subst b;show (a U).bind oV=_;rw[h,Zq,o7 d,up,e];rfl
def QZ(a:Vh)(S:T)(j:T)(s:List Tx)(n:s≠[])(o:(DG s).length<=120)(l6:Vg)(g:W3):∀(d:List (Nat×Nat))(z:Vg),d.length+g.length<1000 →
  ∃h,forL (br 5) gL (g.map λc=>T.str [c]) (ET a S j s (O (.ow (.lst (d.map wT)))) z l6)=O (.nx (ET a S j s (O (.ow (.lst ((d++bC a (DG s) g).map wT)))) h l6)):=by
 induction g with
 |nil=>exact λd z _=>⟨z,by rw[show bC a (DG s) []=[] from rfl,Ft];rfl⟩
 |cons c g m =>
  intro d z hw;rw[Zj]at hw;have i:=lg a (DG s++[c]) 0;rw[Y7]at i;have ad:e2 bD (e2 aJ (ae 3) (Q3 0)) (ae 5) (ET a S j s (O (.ow (.lst (d.map wT)))) (O (.pu (.str [c]))) l6)=O (.fr,.str (DG s++[c])):=e2v (y:=(.fr,.str [c])) (e2v M M (rW n)) M (gP (show (DG s).length+1<=16777216 by lia));have cd:=e2v (f:=kR) (b:=ae 1) ad M (CD i);rw[show bC a (DG s) (c :: g)=jz a (DG s) c++bC a (DG s) g from rfl,← Zb,Zt];by_cases p:DG s++[c]∈a.flatten
  ·rw[Zr p]at i cd;rw[jz,Zr p];obtain⟨h,e⟩:=m (d++[(c,num a (DG s++[c]))]) (O (.pu (.str [c]))) (by rw[Zu,ZW];lia);refine⟨h,?_⟩;rw[← e];refine bR M ((jY cd).trans ((j9 (l:=d.map wT) (t:=wT (c,num a (DG s++[c]))) M (um (l:=[(.fr,.str [c]),(.fr,.int (num a (DG s++[c])))]) (xv M (xv (e2v M ad (zx i)) M)) (show 2<=16777216 by decide) M M) (by rw[Zv];lia)).trans ?_));rw[Ym];rfl
  ·rw[Zm p]at cd;rw[jz,Zm p,Ft];obtain⟨h,e⟩:=m d (O (.pu (.str [c]))) (by lia);exact⟨h,(bR M (jG cd)).trans e⟩
def bB:W3:=[97,98,99,100,101,102,103,104,105,106,107,108,109,110,111,112,113,114,115,116,117,118,119,120,121,122]
def HJ(a:Vh)(s:List Tx):T:=if DG s=[] then .non else .int (num a ((DG s).drop 1):Nat)
def eX(a:Vh)(s:List Tx):T:=.tup [.int (DG s).length,.int (G2 s).length,HJ a s,.tup ((bC a (DG s) bB).map wT)]
def hJ(l:List (Nat×Nat)):eT (l.map wT)=J:=gp wT (λx=>rfl) l
def yA(a:Vh)(s:List Tx):DZ (HJ a s)=J:=by unfold HJ;split<;>rfl
def j7(a:Vh)(s:List Tx):DZ (eX a s)=J:=by
 have h:(DZ (HJ a s)&&(eT ((bC a (DG s) bB).map wT)&&J))=J:=by rw[yA,hJ];rfl
 exact h
def Dm(t:Tx):cut t (O 1) Y=t.drop 1:=by
 unfold cut clip;simp only[show ¬((1:Int)<0) by lia,if_false];by_cases h:1<=t.length
 ·rw[Ys (by simpa using h),show (1:Int).toNat=1 from rfl,GG (by simp)]
 ·have:t=[]:=XI.mp (by lia);subst this;rfl
def ne_nil{m n:Md}(t:Tx):HG (m,.str t) (n,.str [])=O (.fr,.bl (!decide (t=[]))):=by
 cases t with
 |nil=>rfl
 |cons a t=>rfl
def uP(d:Vh)(S:T)(s:List Tx)(i:s≠[])(w:(DG s).length<=120)(v:DG s≠[]->(DG s).drop 1∈d.flatten)(g:Vd)(z:g.length<16777216)(q n j:Vg) :
  ∃C A B,dB (ET d S (.lst g) s q n j)=O (.nx (ET d S (.lst (g++[eX d s])) s C A B)):=by
 obtain⟨h,e⟩:=QZ d S (.lst g) s i w j bB [] n (by decide);rw[YS]at e;refine⟨O (.pu (.lst ((bC d (DG s) bB).map wT))),h,O (.pu (HJ d s)),?_⟩;unfold dB;rw[ak (U1:=ET d S (.lst g) s (O (.ow (.lst (([]:List (Nat×Nat)).map wT)))) n j) M,
  ak ((gN (l:=bB.map λc=>T.str [c]) M).trans e),
  ak (U1:=ET d S (.lst g) s (O (.pu (.lst ((bC d (DG s) bB).map wT)))) h j) M,
  ak (U1:=ET d S (.lst g) s (O (.pu (.lst ((bC d (DG s) bB).map wT)))) h (O (.pu .non))) M,
  ak (U1:=ET d S (.lst g) s (O (.pu (.lst ((bC d (DG s) bB).map wT)))) h (O (.pu (HJ d s)))) (by
  have cd:=e2v (f:=HG) (U:=ET d S (.lst g) s (O (.pu (.lst ((bC d (DG s) bB).map wT)))) h (O (.pu .non))) (b:=eC (.str [])) (e2v (a:=ae 3) (b:=Q3 0) M M (rW i)) M (ne_nil _);unfold HJ;by_cases p:DG s=[]
  ·rw[ZT p]at cd;rw[Zr p];exact jG cd
  ·have o:=lg d ((DG s).drop 1) 0;rw[Y7,Zr (v p)]at o;rw[ZP p]at cd;rw[Zm p];refine(jY cd).trans (aA (m:=.fr) (e2v (y:=(.fr,.str ((DG s).drop 1))) M ?_ (zx o)) (by decide) (by decide:6<7));show (e2 aJ (ae 3) (Q3 0) _).bind _=_;rw[e2v (a:=ae 3) (b:=Q3 0) M M (rW i),Zq];exact congrArg (λt=>O (Md.fr,T.str t)) (Dm _))]
 have r:=hJ (bC d (DG s) bB);have wl:(bC d (DG s) bB).length<=16777216:=ZV (oK _ _ _) (by decide);have u:∀m,gq [(m,.lst ((bC d (DG s) bB).map wT))]=O (.fr,.tup ((bC d (DG s) bB).map wT)):=λm=>by
  show (if _ then _ else _)=_;rw[Zr (by rw[Zv];exact wl),up,DZ,r];rfl
 exact j9 (l:=g) (t:=eX d s) M (um (xv (nA (xv (e2v M M (rW i)) M) M) (xv (nA (xv (e2v M M (BA i)) M) M) (xv (x:=(_,HJ d s)) M (xv (nA (xv M M) (u _)) (xs:=[]) M)))) (show 4<=16777216 by decide) M (j7 d s)) z
def QY(a:Vh)(S:T)(l:Vh):∀(tb:Vd)(g f d b:Vg),(∀s∈l,s≠[]/\(DG s).length<=120/\(DG s≠[]->(DG s).drop 1∈a.flatten))->tb.length+l.length<16777216 →
  ∃z C A B,forL (br 3) dB (l.map λs=>T.lst (s.map T.str)) [O (.pu S),O (.pu (.dct 0 (nT (nums 0 a)))),O (.ow (.lst tb)),g,f,d,b] =
   O (.nx [O (.pu S),O (.pu (.dct 0 (nT (nums 0 a)))),O (.ow (.lst (tb++l.map (eX a)))),z,C,A,B]):=by
 induction l with
 |nil=>exact λtb g f d b _ _=>⟨g,f,d,b,by rw[YF,YF,Ft];rfl⟩
 |cons s l r =>
  intro tb g f d b h u;rw[Zj]at u;obtain⟨h1,w,v⟩:=h s Zx;obtain⟨m,j,i,y⟩:=uP a S s h1 w v tb (by lia) f d b;obtain⟨q,p,o,n,e⟩:=r (tb++[eX a s]) (O (.pu (.lst (s.map T.str)))) m j i (λx t=>h x (Zw _ t)) (by rw[Zu,ZW];lia);refine⟨q,p,o,n,?_⟩;rw[Zt,bR M y,e,Zb];rfl
def bh(a:Vh):T:=.lst (a.map (eX a))
def yy(a:Vh)(h:∀s∈a,s≠[]/\(DG s).length<=120/\(DG s≠[]->(DG s).drop 1∈a.flatten))(i:a.length<16777216):dz [D1 a,.dct 0 (nT (nums 0 a))]=O (.fr,bh a):=by
 obtain⟨g,f,d,b,e⟩:=QY a (D1 a) a [] Y Y Y Y h (by simpa using i);rw[YS]at e;unfold dz;refine eI M (U:=[O (.pu (D1 a)),O (.pu (.dct 0 (nT (nums 0 a)))),Y,g,f,d,b]) ?_;refine(show au _ _ [O (.pu (D1 a)),O (.pu (.dct 0 (nT (nums 0 a)))),Y,Y,Y,Y,Y]=_ from ?_);rw[ak (U1:=[O (.pu (D1 a)),O (.pu (.dct 0 (nT (nums 0 a)))),O (.ow (.lst [])),Y,Y,Y,Y]) M];rw[ak (U1:=[O (.pu (D1 a)),O (.pu (.dct 0 (nT (nums 0 a)))),O (.ow (.lst (a.map (eX a)))),g,f,d,b]) (by
  rw[i3 (m:=.pu) (l:=a.map λs=>T.lst (s.map T.str)) M M];exact e)]
 simp[bh]
structure GI(f:Tx->List Pl)(g:Gr)(pre:List Tx):Prop where
 nd:(g.map (·.1)).Nodup
 eq:∀q∈g,q.2=pre.filter λw=>decide (f w=q.1)
 al:∀w∈pre,f w∈g.map (·.1)
def lJ(g:Gr)(k:List Pl)(w:Tx):(cU g k w).map (·.1)=if k∈g.map (·.1) then g.map (·.1) else g.map (·.1)++[k]:=by
 induction g with
 |nil=>simp[cU]
 |cons a g b =>
  obtain⟨x,l⟩:=a;unfold cU;by_cases e:x=k
  ·rw[Zr e];subst e;simp
  ·rw[Zm e,Zt,b];have d:¬k=x:=λz=>e z.symm;by_cases m:k∈g.map (·.1)
   ·rw[Zr m,Zr (by rw[Zt];exact Zw _ m)];rfl
   ·rw[Zm m,Zm (by rw[Zt,Zo,not_or];exact⟨d,m⟩)];rfl
def uH(g:Gr)(k:List Pl)(w:Tx)(d:(g.map (·.1)).Nodup)(q:List Pl×List Tx)(h:q∈cU g k w):(q.1≠k/\q∈g)\/(q.1=k/\((∃l,(k,l)∈g/\q.2=l++[w])\/(k∉g.map (·.1)/\q.2=[w]))):=by
 induction g with
 |nil =>
  simp only[cU,Zf]at h;subst h;exact .inr ⟨rfl,.inr ⟨by simp,rfl⟩⟩
 |cons a g j =>
  obtain⟨x,l⟩:=a;rw[Zt,ZU]at d;unfold cU at h;by_cases e:x=k
  ·rw[Zr e]at h;rcases Zo.mp h with rfl | h
   ·exact .inr ⟨e,.inl ⟨l,by rw[← e];exact Zx,rfl⟩⟩
   ·exact .inl ⟨λz=>d.1 (Yr.mpr ⟨q,h,z.trans e.symm⟩),Zw _ h⟩
  ·rw[Zm e]at h;rcases Zo.mp h with rfl | h
   ·exact .inl ⟨e,Zx⟩
   ·rcases j d.2 h with⟨h1,b⟩ | ⟨h1,⟨i,b,f⟩ | ⟨b,f⟩⟩
    ·exact .inl ⟨h1,Zw _ b⟩
    ·exact .inr ⟨h1,.inl ⟨i,Zw _ b,f⟩⟩
    ·exact .inr ⟨h1,.inr ⟨by rw[Zt,Zo,not_or];exact⟨λz=>e z.symm,b⟩,f⟩⟩
def GI.add{f:Tx->List Pl}{g:Gr}{d:List Tx}(I:GI f g d)(w:Tx):GI f (cU g (f w) w) (d++[w]):=by
 refine⟨?_,λq p=>?_,λx h=>?_⟩
 ·rw[lJ];by_cases m:f w∈g.map (·.1)
  ·rw[Zr m];exact I.nd
  ·rw[Zm m];exact ZA.mpr ⟨I.nd,by simp,λa r b o e=>m (by rw[Zf]at o;rw[← o,← e];exact r)⟩
 ·rw[Wg];rcases uH g (f w) w I.nd q p with⟨h1,j⟩ | ⟨h1,⟨l,j,n⟩ | ⟨j,n⟩⟩
  ·rw[I.eq q j,show [w].filter (λw=>decide (f w=q.1))=[] by rw[XH (by simp only[decide_eq_true_eq];exact λz=>h1 z.symm)];rfl,Ft]
  ·rw[n,show l=d.filter λi=>decide (f i=f w) from I.eq (f w,l) j,h1,show [w].filter (λi=>decide (f i=f w))=[w] by simp]
  ·rw[n,h1,show [w].filter (λi=>decide (f i=f w))=[w] by simp,XD.mpr λx h=>by
    have:=I.al x h;simp only[decide_eq_true_eq];intro z;rw[z]at this;exact j this]
   rfl
 ·rw[lJ];rcases Zc.mp h with h | h
  ·have:=I.al x h;by_cases m:f w∈g.map (·.1)
   ·rw[Zr m];exact this
   ·rw[Zm m];exact Zc.mpr (.inl this)
  ·rw[Zf.mp h];by_cases m:f w∈g.map (·.1)
   ·rw[Zr m];exact m
   ·rw[Zm m];simp
theorem GI.Hf{d:Fd}(a:List Tx):∀{g:Gr}{pre:List Tx},GI (look d) g pre->GI (look d) (Hf d a g) (pre++a):=by
 induction a with
 |nil=>intro g pre I;rw[Ft];exact I
 |cons w a b =>
  intro g pre I;have:=b (I.add w);rw[Zb]at this;exact this
def C3(d:Fd):GI (look d) (Hf d (b9 (aO d)) []) (b9 (aO d)):=GI.Hf (b9 (aO d)) (g:=[]) (pre:=[]) ⟨by simp,λq a=>by simp at a,λw hw=>by simp at hw⟩
def zD(d:Fd)(s:List Tx)(h:s∈dY d):∃k,s=(b9 (aO d)).filter λw=>decide (look d w=k):=by
 obtain⟨q,a,rfl⟩:=Yr.mp h;exact⟨q.1,(C3 d).eq q a⟩
def Cf(d:Fd)(s:List Tx)(h:s∈dY d):s.Pairwise (λa b=>¬lL b a):=by
 obtain⟨k,rfl⟩:=zD d s h;exact(iG _).filter _
def qI(a:Vh)(w:Tx)(h:w∈a.flatten):w∈a.getD (num a w) []:=by
 induction a with
 |nil=>simp at h
 |cons s a b =>
  by_cases m:w∈s
  ·rw[show num (s :: a) w=0 by simp[num,m]];exact m
  ·rw[show num (s :: a) w=num a w+1 by simp[num,m],Ws];rw[Zd]at h;exact b ((Zc.mp h).resolve_left m)
def getD_mem(a:Vh)(i:Nat)(h:i<a.length):a.getD i []∈a:=by
 rw[ZQ,Zh h];exact XW h
def uC(d:Fd)(w x:Tx)(p:Pl):look (cL d w p) x=if x=w then look d x++[p] else look d x:=by
 induction d with
 |nil =>
  by_cases e:x=w
  ·simp[cL,look,e]
  ·have g:¬w=x:=λz=>e z.symm;simp[cL,look,e,g]
 |cons a d f =>
  obtain⟨y,l⟩:=a;unfold cL;by_cases e:y=w
  ·rw[Zr e];subst e;by_cases e2:y=x
   ·simp[look,e2]
   ·have b:¬x=y:=λz=>e2 z.symm;simp[look,e2,b]
  ·rw[Zm e];by_cases e2:y=x
   ·have b:¬x=w:=λz=>e (e2.trans z);simp[look,e2,b]
   ·rw[show look ((y,l) :: cL d w p) x=look (cL d w p) x by simp[look,e2],show look ((y,l) :: d) x=look d x by simp[look,e2],f]
def tQ(n:Nat)(t:Tx)(e:Nat)(x:Tx)(a:W3):∀d,look (adds n t e a d) x=look d x++(a.filter λs=>decide ((t.drop s).take (e-s)=x)).map λ_=>(n,e):=by
 induction a with
 |nil=>intro d;simp[adds]
 |cons s a b =>
  intro d;rw[show adds n t e (s :: a) d=adds n t e a (cL d ((t.drop s).take (e-s)) (n,e)) from rfl,b,uC];by_cases h:x=(t.drop s).take (e-s)
  ·rw[Zr h,WJ (by simpa using h.symm)];simp
  ·rw[Zm h,XH (by simpa using λz=>h z.symm)]
theorem kN{P:Nat->Bool}{s0:Nat}:∀{l:W3},l.Nodup->(∀s∈l,P s=J->s=s0)->l.filter P=if s0∈l/\P s0=J then [s0] else []
 |[],_,_=>by simp
 |a :: l,i,h=>by
  obtain⟨h1,j⟩:=ZU.mp i;have f:=kN j λs g=>h s (Zw _ g);by_cases q:P a=J
  ·have e:=h a Zx q;subst e;rw[WJ q,f,Zm λz=>h1 z.1,Zr ⟨Zx,q⟩]
  ·rw[XH q,f];by_cases z:s0∈l/\P s0=J
   ·rw[Zr z,Zr ⟨Zw _ z.1,z.2⟩]
   ·rw[Zm z,Zm];rintro⟨b,d⟩;rcases Zo.mp b with rfl | b
    ·exact q d
    ·exact z ⟨b,d⟩
def starts(t x:Tx)(e:Nat)(g:e<=t.length):((List.range (e+1)).filter λs=>decide ((t.drop s).take (e-s)=x)).map (λ_=>())=if x <:+ t.take e then [()] else []:=by
 have cut:∀s,s<=e->(t.drop s).take (e-s)=(t.take e).drop s:=λs b=>by rw[Wf]
 have len:∀s,s<=e->((t.take e).drop s).length=e-s:=λs b=>by rw[ZG,ZO];lia
 rw[kN (s0:=e-x.length) List.nodup_range λs b f=>by
  have h1:=ZF.mp b;have a:=of_decide_eq_true f;rw[cut s (by exact YW h1)]at a;have:=len s (by exact YW h1);rw[a]at this;omega]
 by_cases h:x <:+ t.take e
 ·have i:x.length<=e:=by have:=h.length_le;rw[ZO]at this;lia
  rw[Zr h,Zr]
  ·rfl
  ·refine⟨ZF.mpr (by omega),ZT ?_⟩;rw[cut _ (by exact YN _ _)];obtain⟨y,d⟩:=h;have h1:(t.take e).length=e:=by rw[ZO];exact Ys g
   rw[← d,Zu]at h1;rw[← d,show e-x.length=y.length by lia,List.drop_left]
 ·rw[Zm h,Zm]
  ·rfl
  ·rintro⟨h1,a⟩;have h1:=ZF.mp h1;have a:=of_decide_eq_true a;rw[cut _ (by exact YN _ _)]at a;exact h (by rw[← a];exact List.drop_suffix _ _)
def tV(n:Nat)(t x:Tx)(a:W3):∀d,(∀e∈a,e<=t.length)->look (gC n t a d) x=look d x++(a.filter λe=>decide (x <:+ t.take e)).map λe=>(n,e):=by
 induction a with
 |nil=>intro d _;simp[gC]
 |cons e a b =>
  intro d h;rw[show gC n t (e :: a) d=gC n t a (adds n t e (List.range (e+1)) d) from rfl,b _ λi f=>h i (Zw _ f),tQ];have st:=starts t x e (h e Zx);have:((List.range (e+1)).filter λs=>decide ((t.drop s).take (e-s)=x)).map (λ_=>(n,e))=(if x <:+ t.take e then [()] else []).map λ_=>(n,e):=by
   rw[← st,Yy];rfl
  rw[this];by_cases q:x <:+ t.take e
  ·rw[Zr q,WJ (by simpa using q)];simp
  ·rw[Zm q,XH (by simpa using q)];simp
def iL:Nat->List Tx->List Pl
 |_,[]=>[]
 |n,t :: l=>(List.range (t.length+1)).map (λe=>(n,e))++iL (n+1) l
def yD(l:List Tx):∀n p,p∈iL n l->n<=p.1:=by
 induction l with
 |nil=>intro n p h;simp[iL]at h
 |cons t l a =>
  intro n p h;rcases Zc.mp h with h | h
  ·obtain⟨e,_,rfl⟩:=Yr.mp h;exact Zs _
  ·have:=a (n+1) p h;exact Xg this
def sQ(x:Tx)(l:List Tx):∀n d,look (hZ n l d) x=look d x++(iL n l).filter λp=>decide (x <:+ (l.getD (p.1-n) []).take p.2):=by
 induction l with
 |nil=>intro n d;simp[hZ,iL]
 |cons t l a =>
  intro n d;rw[show hZ n (t :: l) d=hZ (n+1) l (gC n t (List.range (t.length+1)) d) from rfl,a,tV n t x _ d λe f=>by have:=ZF.mp f;exact YW this,Zb];congr 1;rw[iL,Wg,List.filter_map];congr 1
  ·congr 1;apply Wa;intro e _;simp
  ·apply Wa;intro p b;have:=yD l (n+1) p b;rw[show p.1-n=(p.1-(n+1))+1 by lia,Ws]
def En(a:List Tx)(x:Tx)(p:Pl):Prop:=x <:+ (a.getD p.1 []).take p.2
instance (bk:List Tx) (x:Tx) (p:Pl):Decidable (En bk x p):=inferInstanceAs (Decidable (_ <:+ _))
def iq(a:List Tx)(x:Tx):look (found a) x=(iL 0 a).filter λp=>decide (En a x p):=by
 unfold found;rw[sQ,show look [([],[])] x=[] by unfold look;split<;>rfl,YS];rfl
def nt{bk:List Tx}{x:Tx}{p:Pl}:p∈look (found bk) x↔p∈iL 0 bk/\En bk x p:=by
 rw[iq,YR,decide_eq_true_eq]
def look_same{bk:List Tx}{x y:Tx}:look (found bk) x=look (found bk) y ↔ ∀p∈iL 0 bk,En bk x p↔En bk y p:=by
 constructor
 ·intro h p a;have h1:=nt (bk:=bk) (x:=x) (p:=p);have b:=nt (bk:=bk) (x:=y) (p:=p);rw[h]at h1;exact⟨λz=>(b.mp (h1.mpr ⟨a,z⟩)).2,λz=>(h1.mp (b.mpr ⟨a,z⟩)).2⟩
 ·intro h;rw[iq,iq];apply Wa;intro p a;exact decide_eq_decide.mpr (h p a)
def eL(l:List Tx):∀n p,p∈iL n l↔n<=p.1/\p.1<n+l.length/\p.2<=(l.getD (p.1-n) []).length:=by
 induction l with
 |nil=>intro n p;simp[iL];lia
 |cons t l f =>
  intro n p;obtain⟨i,e⟩:=p;rw[iL,Zc,f,Yr];simp only[ZF,Prod.mk.injEq,Zj];constructor
  ·rintro (⟨a,h1,d,b⟩ | ⟨h1,d,b⟩)
   ·subst d b;simp;exact YW h1
   ·refine⟨by exact Xg h1,by lia,?_⟩;rw[show i-n=(i-(n+1))+1 by lia,Ws];exact b
  ·rintro⟨h1,d,b⟩;by_cases q:i=n
   ·subst q;simp at b;exact .inl ⟨e,by exact Nat.lt_succ_of_le b,rfl,rfl⟩
   ·rw[show i-n=(i-(n+1))+1 by lia,Ws]at b;exact .inr ⟨by lia,by lia,b⟩
def lZ{a:List Tx}{x:Tx}:x∈aO (found a)↔x=[]\/∃p∈iL 0 a,En a x p:=by
 unfold found;rw[kg];constructor
 ·rintro (h | ⟨t,j,e,n,s,r,rfl⟩)
  ·left;simpa[aO] using h
  ·right;obtain⟨i,b,rfl⟩:=GE j;have h1:=ZF.mp n;refine⟨(i,e),(eL a 0 (i,e)).mpr ⟨ZM _,by simpa using b,?_⟩,?_⟩
   ·simp[b];exact YW h1
   ·show _ <:+ (a.getD i []).take e;rw[ZQ,Zh b,XY,← Wf];exact List.drop_suffix _ _
 ·rintro (h | ⟨⟨i,e⟩,l,h⟩)
  ·left;rw[h];simp[aO]
  ·right;obtain⟨_,q,d⟩:=(eL a 0 (i,e)).mp l;have b:i<a.length:=by simpa using q
   have m:a.getD i []=a[i]:=by rw[ZQ,Zh b,XY]
   have d:e<=a[i].length:=by simpa[b] using d
   have g:x <:+ a[i].take e:=by rw[← m];exact h
   have u:x.length<=e:=by have:=g.length_le;rw[ZO]at this;lia
   refine⟨a[i],XW b,e,ZF.mpr (by exact Nat.lt_succ_of_le d),e-x.length,ZF.mpr (by lia),?_⟩;obtain⟨y,f⟩:=g;have o:(a[i].take e).length=e:=by rw[ZO];exact Ys d
   rw[← f,Zu]at o;rw[← Wf,← f,show e-x.length=y.length by lia,List.drop_left]
def rj{s:List Tx}(h:s≠[]):DG s∈s:=by
 cases s with
 |nil=>exact absurd M h
 |cons a s=>exact Zx
def q9{s:List Tx}(h:s≠[]):G2 s∈s:=by
 unfold G2;rw[List.getLast?_eq_some_getLast h];exact List.getLast_mem h
def pN{d:Fd}{s:List Tx}(a:s∈dY d)(f:s≠[])(w:Tx):w∈s↔w∈aO d/\look d w=look d (DG s):=by
 obtain⟨k,e⟩:=zD d s a;have b:look d (DG s)=k:=by
  have:=rj f;rw[e]at this;have:=(YR.mp this).2;rw[← e]at this;exact of_decide_eq_true this
 rw[b]
 conv=>lhs;rw[e]
 rw[YR,decide_eq_true_eq,(dj (aO d)).mem_iff]
def tD(a:Vh)(u v:Tx)(h:∀s∈a,u∈s↔v∈s):num a u=num a v:=by
 induction a with
 |nil=>rfl
 |cons s a b =>
  have e:=b λx d=>h x (Zw _ d);have e2:=h s Zx;unfold num;by_cases q:u∈s
  ·rw[Zr q,Zr (e2.mp q)]
  ·rw[Zm q,Zm λz=>q (e2.mpr z),e]
def oJ{d:Fd}(b:∀s∈dY d,s≠[]){u v:Tx}(f:u∈aO d)(e:v∈aO d)(h:look d u=look d v):num (dY d) u=num (dY d) v :=
 tD _ u v λs a=>by rw[pN a (b s a),pN a (b s a),h];exact⟨λz=>⟨e,z.2⟩,λz=>⟨f,z.2⟩⟩
def pP{a:List Tx}{x:Tx}{c n e:Nat}(h:e+1<=(a.getD n []).length):En a (x++[c]) (n,e+1)↔En a x (n,e)/\(a.getD n [])[e]?=O c:=by
 unfold En;dsimp only;have f:(a.getD n []).take (e+1)=(a.getD n []).take e++[(a.getD n [])[e]]:=by rw[List.take_add_one,Zh (show e<(a.getD n []).length by exact Vt h)];rfl
 rw[f,Zh (show e<(a.getD n []).length by exact Vt h)];constructor
 ·rintro⟨y,b⟩;rw[← Zb]at b;obtain⟨h1,d⟩:=List.append_inj' b M;refine⟨⟨y,h1⟩,?_⟩;simp only[YC,and_true]at d;rw[d]
 ·rintro⟨⟨y,b⟩,d⟩;refine⟨y,?_⟩;rw[← Zb,b,ZJ d]
def jM{a:List Tx}{x:Tx}{n:Nat}(h:En a x (n,0)):x=[]:=by
 unfold En at h;simpa using h
def gQ{a:List Tx}{x y:Tx}(c:Nat)(h:look (found a) x=look (found a) y):look (found a) (x++[c])=look (found a) (y++[c]):=by
 rw[look_same]at h ⊢;rintro⟨n,e⟩ g;cases e with
 |zero=>exact⟨λz=>absurd (jM z) (by simp),λz=>absurd (jM z) (by simp)⟩
 |succ e =>
  have d:=(eL a 0 (n,e+1)).mp g;have b:e+1<=(a.getD n []).length:=by simpa using d.2.2
  rw[pP b,pP b];have f:(n,e)∈iL 0 a:=(eL a 0 (n,e)).mpr ⟨d.1,d.2.1,by simpa using(by(exact Xg b):e<=(a.getD n []).length)⟩;rw[h _ f]
def mK{b:List Tx}{x y:Tx}(e:x≠[])(d:y≠[])(h:look (found b) x=look (found b) y):x∈aO (found b)↔y∈aO (found b):=by
 rw[look_same]at h;rw[lZ,lZ];constructor
 ·rintro (z | ⟨p,a,z⟩)
  ·exact absurd z e
  ·exact .inr ⟨p,a,(h p a).mp z⟩
 ·rintro (z | ⟨p,a,z⟩)
  ·exact absurd z d
  ·exact .inr ⟨p,a,(h p a).mpr z⟩
def yV{a:List Tx}{x:Tx}{c:Nat}(h:x++[c]∈aO (found a)):x∈aO (found a):=by
 rw[lZ]at h ⊢;rcases h with h | ⟨⟨n,e⟩,f,h⟩
 ·simp at h
 ·cases e with
  |zero=>have:=jM h;simp at this
  |succ e =>
   have b:=(eL a 0 (n,e+1)).mp f;have d:e+1<=(a.getD n []).length:=by simpa using b.2.2
   exact .inr ⟨(n,e),(eL a 0 (n,e)).mpr ⟨b.1,b.2.1,by simpa using(by(exact Xg d):e<=(a.getD n []).length)⟩,((pP d).mp h).1⟩
def vz{a:List Tx}{x:Tx}(d:x∈aO (found a))(h:look (found a) x=look (found a) []):x=[]:=by
 rcases lZ.mp d with z | ⟨p,e,z⟩
 ·exact z
 ·have b:=(eL a 0 p).mp e;rw[look_same]at h;exact jM ((h (p.1,0) ((eL a 0 (p.1,0)).mpr ⟨b.1,b.2.1,ZM _⟩)).mpr (by unfold En;simp))
def xD(d:Fd)(s:List Tx)(h:s∈dY d)(w:Tx)(hw:w∈s):w.length<=(G2 s).length:=by
 have p:=Cf d s h;have e:s≠[]:=List.ne_nil_of_mem hw;obtain⟨a,b,rfl⟩:∃a b,s=a++[b]:=⟨_,_,(List.dropLast_concat_getLast e).symm⟩
 rw[show G2 (a++[b])=b by simp[G2]];rcases Zc.mp hw with hw | hw
 ·have:=(ZS.mp p).2.2 w hw b (by simp);unfold lL at this;lia
 ·rw[Zf.mp hw];exact Zs _
def bj{f:Val->Val->Ve}{a b:Ex}{U:Env}{x y:Val}(h1:a U=O x)(d:b U=O y):e2 f a b U=f x y:=by simp[h1,d]
def dR{a:Ex}{r:D5}{U:Env}{x:Val}{xs:Vf}(h1:a U=O x)(b:r U=O xs):af a r U=O (x :: xs):=by simp[h1,b]
def yr(a:Vh)(s:List Tx)(n:Nat):Ek (n+3) (eX a s)=J:=by
 have e:Ek (n+2) (HJ a s)=J:=by unfold HJ;split<;>rfl
 have d:((bC a (DG s) bB).map wT).all (Ek (n+1))=J:=by
  rw[ZE];intro x b;obtain⟨p,_,rfl⟩:=Yr.mp b;simp[wT]
 unfold eX;rw[Ek];simp only[WU,List.all_nil,e,Ek,d,Bool.and_self,W7]
def wQ(a:Vh):Ek 60 (bh a)=J:=by
 unfold bh;rw[Ek,ZE];intro x b;obtain⟨s,_,rfl⟩:=Yr.mp b;exact yr a s 56
def BI(l:Vh):(∀s∈l,s≠[])->l.length<=l.flatten.length:=by
 induction l with
 |nil=>exact λ_=>by simp
 |cons s l a =>
  intro h;have h1:=List.length_pos_iff.mpr (h s Zx);have d:=a λx b=>h x (Zw _ b);rw[Zd,Zu,Zj];lia
def Bd(a:Vh)(h:a.length<16777216):kn [(.pu,bh a)]=O (.fr,bh a):=by
 have im:eT (a.map (eX a))=J:=gp (eX a) (λs=>j7 a s) a;show Fh .pu (a.map (eX a))=_;rw[i7 (by rw[Zv];lia),im];rfl
def j3{f:Vf->Ve}{a:D5}{U:Env}{xs:Vf}(h:a U=O xs):eN f a U=f xs:=by simp[h]
section
variable(p:Tx->Bool)
def dU(x:Tx):W3:=bB.filter λc=>p (x++[c])
def ext:Nat->Tx->List Tx
 |0,x=>[x]
 |n+1,x=>x :: (dU p x).flatMap λc=>ext n (x++[c])
theorem nq(a:∀y,p y=J->y.length<=120):∀(n:Nat)(x:Tx),120<=x.length+n->ext p (n+1) x=ext p n x
 |0,x,h=>by
  have:dU p x=[]:=by
   unfold dU;rw[XD];intro c _ b;have:=a _ b;rw[Zu,ZW]at this;lia
  show x :: (dU p x).flatMap (λc=>ext p 0 (x++[c]))=[x];rw[this];rfl
 |n+1,x,h=>by
  have e:(λc=>ext p (n+1) (x++[c]))=λc=>ext p n (x++[c]):=funext λc=>nq a n (x++[c]) (by rw[Zu,ZW];lia);show x :: (dU p x).flatMap (λc=>ext p (n+1) (x++[c]))=x :: (dU p x).flatMap λc=>ext p n (x++[c]);rw[e]
def E(x:Tx):List Tx:=ext p 120 x
def AG(a:∀y,p y=J->y.length<=120)(x:Tx):E p x=x :: (dU p x).flatMap λc=>E p (x++[c]):=(nq p a 120 x (by lia)).symm
theorem jN:∀(n:Nat)(x y:Tx),y∈ext p n x->∃r,y=x++r
 |0,x,y,h=>⟨[],by rw[Zf.mp h,Ft]⟩
 |n+1,x,y,h=>by
  rcases Zo.mp h with h | h
  ·exact⟨[],by rw[h,Ft]⟩
  ·obtain⟨c,_,h⟩:=WM.mp h;obtain⟨r,e⟩:=jN n _ y h;exact⟨c :: r,by rw[e,Zb];rfl⟩
theorem zp:∀(n:Nat)(x y:Tx),p x=J->y∈ext p n x->p y=J
 |0,x,y,a,h=>by rw[Zf.mp h];exact a
 |n+1,x,y,a,h=>by
  rcases Zo.mp h with h | h
  ·rw[h];exact a
  ·obtain⟨c,b,h⟩:=WM.mp h;exact zp n _ y (YR.mp b).2 h
theorem uO(a:∀y c,p (y++[c])=J->p y=J)(x:Tx):∀r:Tx,p (x++r.reverse)=J->p x=J
 |[],h=>by simpa using h
 |c :: r,h=>uO a x r (a _ c (by rw[List.reverse_cons,← Zb]at h;exact h))
theorem gy(b:∀y c,p (y++[c])=J->p y=J)(d:∀y,p y=J->∀c∈y,c∈bB):∀(n:Nat)(x r:Tx),p (x++r)=J->r.length<=n->x++r∈ext p n x
 |n,x,[],h,_=>by cases n<;>simp[ext]
 |0,x,c :: r,h,a=>by simp at a
 |n+1,x,c :: r,h,a=>by
  have e:x++c :: r=(x++[c])++r:=by rw[Zb];rfl
  rw[e]at h ⊢;have h1:p (x++[c])=J:=uO p b (x++[c]) r.reverse (by rw[List.reverse_reverse];exact h);exact Zw _ (WM.mpr ⟨c,YR.mpr ⟨d _ h1 c (by simp),h1⟩,gy b d n (x++[c]) r h (by simpa using a)⟩)
theorem mP:∀(x a b:Tx),EB (x++a) (x++b)=EB a b
 |[],_,_=>rfl
 |c :: x,a,b=>by
  rw[WI,WI,EB,Zm (Yg c),Zm (Yg c),mP x a b]
def wW(x r:Tx)(c:Nat):EB x (x++c :: r)=J:=by
 have:=mP x [] (c :: r);rw[Ft]at this;exact this
def yp(x r q:Tx){c d:Nat}(h:c<d):EB (x++c :: r) (x++d :: q)=J:=by
 rw[mP,EB,Zr h]
def rD:bB.Pairwise (· < ·):=by decide
theorem uG:∀(n:Nat)(x:Tx),(ext p n x).Pairwise λa b=>EB a b=J
 |0,x=>WO _ _
 |n+1,x=>by
  refine Yd.mpr ⟨λy h=>?_,List.pairwise_flatMap.mpr ⟨λc _=>uG n _,?_⟩⟩
  ·obtain⟨c,_,h⟩:=WM.mp h;obtain⟨r,e⟩:=jN p n _ y h;rw[e,Zb];exact wW x r c
  ·refine List.Pairwise.imp (λ{c d} j y g z f=>?_) (rD.filter λc=>p (x++[c]));obtain⟨r,e⟩:=jN p n _ y g;obtain⟨q,i⟩:=jN p n _ z f;rw[e,i,Zb,Zb];exact yp x r q j
theorem qT:∀x:Tx,EB x x=S
 |[]=>rfl
 |c :: x=>by rw[EB,Zm (Yg c),Zm (Yg c),qT x]
def xE{a b:Tx}(h:EB a b=J):¬b<a:=by
 rw[ir]at h;exact λg=>absurd (of_decide_eq_true h) (List.lt_asymm g)
def zQ{l:List Tx}(g:l.Nodup)(f:∀x,x∈l↔p x=J)(n:p []=J)(i:∀y,p y=J->y.length<=120)(j:∀y c,p (y++[c])=J->p y=J)(m:∀y,p y=J->∀c∈y,c∈bB):E p []=cV l:=by
 have pw:=uG p 120 [];have nd:(ext p 120 []).Nodup:=pw.imp λ{a b} h e=>by rw[e,qT]at h;cases h
 refine lq ((List.perm_ext_iff_of_nodup nd g).mpr λx=>⟨λh=>(f x).mpr (zp p 120 [] x n h),λh=>?_⟩) (pw.imp λ{a b} h=>xE h);have d:=(f x).mp h;exact gy p j m 120 [] x d (i x d)
end
abbrev pS(a:Vh):Tx->Bool:=λx=>decide (x∈a.flatten)
def fg(a:Vh)(x:Tx):bC a x bB=(dU (pS a) x).map λc=>(c,num a (x++[c])):=by
 unfold bC dU;generalize bB=l
 induction l with
 |nil=>rfl
 |cons c l b =>
  rw[List.flatMap_cons,Vi,b];unfold jz;by_cases h:x++[c]∈a.flatten
  ·rw[Zr h,Zr (ZT h)];rfl
  ·rw[Zm h,Zm (λz=>h (of_decide_eq_true z))];rfl
abbrev on(a:Vh)(i:Nat):Nat:=(E (pS a) (DG (a.getD i []))).length
structure Od(st:Vh):Prop where
 len:st.length<1000000
 fl:st.flatten.length<=117129
 nf:st.flatten.Nodup
 ne:∀s∈st,s≠[]
 z0:∃b,st=[[]] :: b
 FH:∀y,pS st y=true->y.length<=120
 cl:∀y c,pS st (y++[c])=true->pS st y=true
 ab:∀y,pS st y=true->∀c∈y,c∈bB
 way:∀x,x∈st.flatten->bC st (DG (st.getD (num st x) [])) bB=bC st x bB
 Pp:∀x,x∈st.flatten->on st (num st x)=(E (pS st) x).length
 asc:∀i,i<st.length->∀p∈bC st (DG (st.getD i [])) bB,p.2<st.length/\(G2 (st.getD i [])).length<(G2 (st.getD p.2 [])).length
def Od.MF{a:Vh}(D:Od a)(i:Nat)(d:i<a.length):on a i=1+((bC a (DG (a.getD i [])) bB).map λp=>on a p.2).sum:=by
 unfold on;rw[AG _ D.FH,Zj,Xw,fg,Yy,Nat.add_comm];congr 2;refine YB λc b=>?_;exact(D.Pp _ (of_decide_eq_true (YR.mp b).2)).symm
def oS{a:List Tx}{q:Tx->Bool}(b:∀x,q x=J↔x∈aO (found a)){x y:Tx}(h:look (found a) x=look (found a) y):dU q x=dU q y:=by
 unfold dU;refine Wa λc _=>?_;have:=mK (x:=x++[c]) (y:=y++[c]) (by simp) (by simp) (gQ c h);rw[Wv,b,b];exact this
theorem pj{a:List Tx}{q:Tx->Bool}(b:∀x,q x=J↔x∈aO (found a)):∀(n:Nat)(x y:Tx),look (found a) x=look (found a) y->(ext q n x).length=(ext q n y).length
 |0,_,_,_=>rfl
 |n+1,x,y,h=>by
  show (x :: (dU q x).flatMap λc=>ext q n (x++[c])).length=(y :: (dU q y).flatMap λc=>ext q n (y++[c])).length;rw[Zj,Zj,Xw,Xw,oS b h];congr 2;exact YB λc _=>pj b n _ _ (gQ c h)
def uQ{d:Vh}(h:d.flatten.Nodup){s:List Tx}(e:s∈d):s.Nodup:=by
 obtain⟨a,b,rfl⟩:=Vz e;rw[Gk,Zd]at h;exact(ZA.mp (ZA.mp h).2.1).1
def BQ(d:List Tx)(B:Bk 120 d)(C:Sz 117129 (found d)):Od (dY (found d)):=by
 obtain⟨r,hd⟩:=oZ d;have A:=ny d B;have g:=uF (found d) (by rw[hd];exact Zx);have nf:(dY (found d)).flatten.Nodup:=g.pm.nodup_iff.mpr (o6 d);have fl:(dY (found d)).flatten.length<=117129:=by rw[g.pm.length_eq,aO,Zv];exact C.1
 have I:=BI _ g.ne;have n:=λ{s:List Tx} (q:s∈dY (found d)) w=>pN q (g.ne s q) w;have j:∀x,pS (dY (found d)) x=J↔x∈aO (found d):=λx=>decide_eq_true_iff.trans g.pm.mem_iff;have u:∀{x},x∈(dY (found d)).flatten↔x∈aO (found d):=g.pm.mem_iff;have nl:∀x,x∈(dY (found d)).flatten->num (dY (found d)) x<(dY (found d)).length:=λx f=>pQ _ x f;have v:∀x,x∈(dY (found d)).flatten->look (found d) x=look (found d) (DG ((dY (found d)).getD (num (dY (found d)) x) [])):=λx f=>((n (getD_mem _ _ (nl x f)) x).mp (qI _ x f)).2;have z0:∃b,dY (found d)=[[]] :: b:=by
  obtain⟨a,b,z⟩:=g.hd;have m:([] :: a)∈dY (found d):=by rw[z];exact Zx
  have nd:=uQ nf m;have G:a=[]:=by
   cases a with
   |nil=>rfl
   |cons x a =>
    have f:=(n m x).mp (Zw _ Zx);have:x=[]:=vz f.1 f.2;rw[this]at nd;exact absurd Zx (ZU.mp nd).1
  exact⟨b,by rw[z,G]⟩
 refine⟨by lia,fl,nf,g.ne,z0,λy o=>(A y ((j y).mp o)).2,λy c h=>(j y).mpr (yV ((j _).mp h)),λy o c l=>?_,λx f=>?_,λx f=>?_,λi F p t=>?_⟩
 ·have:=(A y ((j y).mp o)).1 c l;have:c∈List.range' 97 26:=List.mem_range'_1.mpr ⟨this.1,by lia⟩;exact this
 ·have e:=v x f;rw[fg,fg,← oS j e];refine YB λc l=>?_;have k1:x++[c]∈aO (found d):=(j _).mp (YR.mp l).2;rw[oJ g.ne ((mK (by simp) (by simp) (gQ c e)).mp k1) k1 (gQ c e).symm]
 ·exact(pj j 120 _ _ (v x f)).symm
 ·rw[fg]at t;obtain⟨c,l,rfl⟩:=Yr.mp t;have k1:=(j _).mp (YR.mp l).2;have m:=getD_mem (dY (found d)) i F;have H:=(n m _).mp (q9 (g.ne _ m));have e:=gQ c H.2;have k2:=(mK (by simp) (by simp) e).mpr k1;have h1:=nl _ (u.mpr k1);refine⟨h1,?_⟩;have D:=oJ g.ne k2 k1 e;have:=xD _ _ (getD_mem _ _ h1) _ (D ▸ qI _ _ (u.mpr k2));rw[Zu,ZW]at this;exact this
def mO{m n:Md}(a:Vh)(i:Nat)(h:i<a.length):aJ (m,bh a) (n,.int (i:Int))=O (.fr,eX a (a.getD i [])):=by
 show (Et ((a.map (eX a)).length) (i:Int)).bind _=_;rw[iC (by rw[Zv];exact h),Zq,ZR,Zh h,ZQ,Zh h,Yt,Yt,XY];unfold sub up;rw[j7,Zr M]
def jZ{a:Ex}{U:Env}{m:Md}{l:Vd}(e:a U=O (m,.tup l)):fT a U=O (m,l):=by
 show (a U).bind Ao=_;rw[e];rfl
def CL{m n:Md}(a:Vh)(s:List Tx):aJ (m,eX a s) (n,.int 1)=O (.fr,.int (G2 s).length):=rfl
def wA{m n:Md}(a:Vh)(s:List Tx):aJ (m,eX a s) (n,.int 3)=O (.fr,.tup ((bC a (DG s) bB).map wT)):=by
 show O (up _ _)=_;unfold up;have h:DZ (T.tup ((bC a (DG s) bB).map wT))=J:=hJ _;rw[h,Zr M]
def wI{m n:Md}(q:Nat×Nat):aJ (m,wT q) (n,.int 0)=O (.fr,.str [q.1]):=rfl
def uj{m n:Md}(q:Nat×Nat):aJ (m,wT q) (n,.int 1)=O (.fr,.int (q.2:Int)):=rfl
def pO{m n:Md}(O:Vw)(j:Nat)(h:j<O.length):aJ (m,.lst (O.map T.int)) (n,.int (j:Int))=some (.fr,.int (O.getD j 0)):=by
 show (Et ((O.map T.int).length) (j:Int)).bind _=_;rw[iC (by rw[Zv];exact h),Zq,ZR,Zh h,ZQ,Zh h,Yt,Yt,XY];rfl
theorem ints_map{α:Type}(f:α->Int):∀l:List α,jA (l.map λx=>T.int (f x))=O (l.map f)
 |[]=>rfl
 |x :: l=>by
  show (jA (l.map λx=>T.int (f x))).map (f x :: ·)=_;rw[ints_map f l];rfl
abbrev oE(a:Vh)(O:Vw)(z:Vg):Env:=[some (.pu (bh a)),some (.ow (.lst (O.map T.int))),z]
def mL(a:Vh)(x:Tx):(bC a x bB).length<=16777216:=ZV (oK a x bB) (by decide)
abbrev wsum(O:Vw)(ws:List (Nat×Nat)):Int:=(ws.map λq=>O.getD q.2 0).sum
def xQ{a:Vh}(O:Vw)(d:O.length=a.length)(i:Nat)(b:i<a.length)(hw:∀q∈bC a (DG (a.getD i [])) bB,q.2<a.length) :
  bF (oE a O (some (.pu (.int i))))=some (.nx (oE a (O.set i (1+wsum O (bC a (DG (a.getD i [])) bB))) (some (.pu (.int i))))):=by
 have e1:e2 aJ (ae 0) (ae 2) (oE a O (some (.pu (.int i))))=some (.fr,eX a (a.getD i [])):=by
  rw[bj (x:=(.pu,bh a)) (y:=(.fr,.int i)) M M,mO a i b]
 have g:e2 aJ (e2 aJ (ae 0) (ae 2)) (Q3 3) (oE a O (some (.pu (.int i))))=some (.fr,.tup ((bC a (DG (a.getD i [])) bB).map wT)):=by
  rw[bj e1 (y:=(.fr,.int 3)) M,wA]
 have co:dJ 1 (br 0) (fT (e2 aJ (e2 aJ (ae 0) (ae 2)) (Q3 3))) Y (e2 aJ (ae 2) (e2 aJ (ae 0) (Q3 1))) (oE a O (some (.pu (.int i))))=some (.fr,.lst ((bC a (DG (a.getD i [])) bB).map λq=>T.int (O.getD q.2 0))) :=
  jq (m:=.fr) wT (λq=>T.int (O.getD q.2 0)) (bC a (DG (a.getD i [])) bB) (jZ g) M (mL _ _) λq f=>⟨some (.pu (wT q)) :: oE a O (some (.pu (.int i))),rfl,by
   have k:e2 aJ (ae 0) (Q3 1) (some (.pu (wT q)) :: oE a O (some (.pu (.int i))))=some (.fr,.int (q.2:Int)):=by
    rw[bj (x:=(.fr,wT q)) (y:=(.fr,.int 1)) M M,uj]
   rw[bj (x:=(.bo,.lst (O.map T.int))) M k,pO O q.2 (by rw[d];exact hw q f)]⟩
 have e:e2 bD (Q3 1) (eN pR (af (dJ 1 (br 0) (fT (e2 aJ (e2 aJ (ae 0) (ae 2)) (Q3 3))) Y (e2 aJ (ae 2) (e2 aJ (ae 0) (Q3 1)))) aC)) (oE a O (some (.pu (.int i))))=some (.fr,.int (1+wsum O (bC a (DG (a.getD i [])) bB))):=by
  rw[bj (x:=(.fr,.int 1)) (y:=(.fr,.int (wsum O (bC a (DG (a.getD i [])) bB)))) M (by
   rw[j3 (dR co M)];show (jA ((bC a (DG (a.getD i [])) bB).map λq=>T.int (O.getD q.2 0))).bind _=_;rw[ints_map (λq:Nat×Nat=>O.getD q.2 0),Zq])]
  rfl
 unfold bF ql;rw[e,Zq];show Option.map _ (Option.map _ (Et (O.map T.int).length (i:Int)))=_;rw[iC (by rw[Zv,d];exact b),Yt,Yt];show some (Out.nx (oE a O (some (.pu (.int i))) |>.set 1 _))=_;rw[← List.map_set];rfl
abbrev ky(a:Vh)(i:Nat):Nat:=(G2 (a.getD i [])).length
def nM(l:W3):((l.sum:Nat):Int)=(l.map λn:Nat=>(n:Int)).sum:=by
 induction l with
 |nil=>rfl
 |cons a l b=>rw[X5,Zt,X5,← b];lia
theorem qQ{d:Vh}(D:Od d):∀(g done:W3)(f:Vw)(z:Vg),f.length=d.length->(∀i∈done,f.getD i 0=on d i)->(done++g).Perm (List.range d.length)->(done++g).Pairwise (λa b=>ky d b<=ky d a) →
  ∃r:Vw,r.length=d.length/\(∀i∈done++g,r.getD i 0=on d i)/\forL (br 2) bF (g.map λi:Nat=>T.int (i:Int)) (oE d f z)=some (.nx (oE d r ((g.getLast?.map λi:Nat=>Cell.pu (.int (i:Int))).or z)))
 |[],done,f,z,o,hd,_,_=>⟨f,o,by rw[Ft];exact hd,by rfl⟩
 |i :: g,done,f,z,o,hd,pm,pw=>by
  have s:i<d.length:=ZF.mp (pm.mem_iff.mp (by simp));have hw:∀q∈bC d (DG (d.getD i [])) bB,q.2<d.length/\f.getD q.2 0=on d q.2:=λq m=>by
   obtain⟨h1,p⟩:=D.asc i s q m;refine⟨h1,hd _ ?_⟩;have x:q.2∈done++i :: g:=pm.mem_iff.mpr (ZF.mpr h1);rcases Zc.mp x with h | h
   ·exact h
   ·rcases Zo.mp h with h | h
    ·rw[h]at p;exact absurd p (Yg _)
    ·have:=(Yd.mp (ZS.mp pw).2.1).1 _ h;exact absurd this (Nat.not_le_of_lt p)
  have b:=xQ f o i s λq m=>(hw q m).1;have u:1+wsum f (bC d (DG (d.getD i [])) bB)=(on d i:Int):=by
   rw[D.MF i s];have:(bC d (DG (d.getD i [])) bB).map (λq=>f.getD q.2 0)=((bC d (DG (d.getD i [])) bB).map λq=>on d q.2).map λn:Nat=>(n:Int):=by
    rw[Yy];exact YB λq m=>(hw q m).2
   unfold wsum;rw[this,← nM];lia
  rw[u]at b;have e:done++i :: g=(done++[i])++g:=by rw[Zb];rfl
  rw[e]at pm pw ⊢;obtain⟨r,h1,p,w⟩:=qQ D g (done++[i]) (f.set i (on d i:Int)) (some (.pu (.int i))) (by rw[XO];exact o) (λj v=>by
   rw[ZQ,Vr];by_cases c:i=j
   ·rw[Zr c,Zr (by rw[o];exact s),← c];rfl
   ·rw[Zm c,← ZQ];rcases Zc.mp v with h | h
    ·exact hd j h
    ·exact absurd (Zf.mp h).symm c) pm pw
  refine⟨r,h1,p,?_⟩;rw[Zt,bR (U1:=oE d f (some (.pu (.int i)))) M b,w];cases g with
  |nil=>rfl
  |cons y g =>
   obtain⟨l,t⟩:∃l,(y :: g).getLast?=some l:=⟨_,List.getLast?_eq_some_getLast (by simp)⟩
   have A:(i :: y :: g).getLast?=some l:=by rw[List.getLast?_cons_cons,t]
   rw[t,A];rfl
def vS{g:Tg}{S:Env->Option (Vd->Prop)}{b:Sx}{U:Env}{P:Vd->Prop}{o:Out}(e:S U=O P)(d:∃l,P l)(h:∀l,P l->forL g b l U=O o):lP g S b U=O o:=by
 unfold lP;rw[e,Zq];split
 ·rename_i h1;obtain⟨l,a⟩:=d;have:=h1.choose_spec l a;rw[h l a]at this;exact this.symm
 ·rename_i h1;exact absurd ⟨o,h⟩ h1
abbrev HF(a:Vh):Vw:=(List.range a.length).map λi=>(on a i:Int)
def CK{d:Vh}(D:Od d)(f:W3)(j:f.Perm (List.range d.length))(p:f.Pairwise (λa b=>ky d b<=ky d a)):f.getLast?=O 0:=by
 obtain⟨b,e⟩:=D.z0;have t:0<d.length:=by rw[e];simp
 have i:0∈f:=j.mem_iff.mpr (ZF.mpr t);rcases List.eq_nil_or_concat f with h | ⟨r,g,h⟩
 ·rw[h]at i;exact absurd i (by simp)
 ·rw[List.concat_eq_append]at h;subst h;rw[List.getLast?_append,List.getLast?_singleton];show O g=O 0;have m:g<d.length:=ZF.mp (j.mem_iff.mp (by simp));have k:ky d g<=ky d 0:=by
   rcases Zc.mp i with h | h
   ·exact(ZS.mp p).2.2 0 h g (by simp)
   ·rw[Zf.mp h];exact Zs _
  cases g with
  |zero=>rfl
  |succ n =>
   exfalso;have k0:ky d 0=0:=by unfold ky;rw[e];rfl
   rw[k0]at k;have q:d.getD (n+1) []=b.getD n []:=by rw[e];rfl
   have s:n<b.length:=by rw[e]at m;simpa using m
   have o:b.getD n []∈b:=getD_mem b n s;have u:G2 (b.getD n [])=[]:=XI.mp (by unfold ky at k;rw[q]at k;lia);have l:=q9 (D.ne _ (by rw[e];exact Zw _ o));rw[u]at l;have nf:=D.nf;rw[e,Zd]at nf;exact(ZA.mp nf).2.2 [] (by simp) [] (WN.mpr ⟨_,o,l⟩) M
def vP{d:Vh}(D:Od d):bJ [bh d]=O (.fr,.lst ((HF d).map T.int)):=by
 have B:=D.len;have it:fT (ae 0) [O (.pu (bh d)),Y,Y]=O (.pu,d.map (eX d)):=ke M;have co:dJ 1 (br 0) (fT (ae 0)) Y (Q3 1) [O (.pu (bh d)),Y,Y]=O (.fr,.lst (d.map λ_=>T.int 1)) :=
  jq (m:=.pu) (eX d) (λ_=>T.int 1) d it M (by lia) λs C=>⟨[O (.pu (eX d s)),O (.pu (bh d)),Y,Y],rfl,rfl⟩
 have j:∀i,i<d.length->j6 (e2 aJ (e2 aJ (ae 1) (ae 0)) (Q3 1)) (oE d (d.map λ_=>1) Y) i=O (ky d i:Int):=λi g=>by
  unfold j6;have e1:e2 aJ (ae 1) (ae 0) (O (.pu (.int i)) :: oE d (d.map λ_=>1) Y)=O (.fr,eX d (d.getD i [])):=by
   rw[bj (x:=(.pu,bh d)) (y:=(.fr,.int i)) M M,mO d i g]
  rw[bj e1 (y:=(.fr,.int 1)) M,CL];rfl
 have v:tK (eN dS (af (ae 0) aC)) (e2 aJ (e2 aJ (ae 1) (ae 0)) (Q3 1)) (oE d (d.map λ_=>1) Y)=O λl=>∃f:W3,l=f.map (λi:Nat=>T.int (i:Int))/\f.Perm (List.range d.length)/\f.Pairwise (λa b=>(j6 (e2 aJ (e2 aJ (ae 1) (ae 0)) (Q3 1)) (oE d (d.map λ_=>1) Y) b).getD 0<=(j6 (e2 aJ (e2 aJ (ae 1) (ae 0)) (Q3 1)) (oE d (d.map λ_=>1) Y) a).getD 0):=by
  unfold tK;have e:eN dS (af (ae 0) aC) (oE d (d.map λ_=>1) Y)=O (.fr,.int (d.length:Int)):=by
   rw[j3 (xs:=[(.pu,bh d)]) M];show O (Md.fr,T.int (((d.map (eX d)).length:Nat):Int))=_;rw[Zv]
  rw[e,Zq];show (O (d.length:Int)).bind _=_;rw[Zq,Zr ⟨⟨by lia,by lia⟩,ZE.mpr λi g=>by rw[j i (by simpa using g)];rfl⟩,Yf]
 have u:∀f:W3,f.Perm (List.range d.length)->(f.Pairwise (λa b=>(j6 (e2 aJ (e2 aJ (ae 1) (ae 0)) (Q3 1)) (oE d (d.map λ_=>1) Y) b).getD 0<=(j6 (e2 aJ (e2 aJ (ae 1) (ae 0)) (Q3 1)) (oE d (d.map λ_=>1) Y) a).getD 0)↔f.Pairwise (λa b=>ky d b<=ky d a)):=λf pm=>by
  have n:∀i∈f,i<d.length:=λi g=>ZF.mp (pm.mem_iff.mp g);constructor
  ·intro h;refine Xy (λ{a b} p o q=>?_) h;rw[j a (n a p),j b (n b o)]at q;exact Int.ofNat_le.mp q
  ·intro h;refine Xy (λ{a b} p o q=>?_) h;rw[j a (n a p),j b (n b o)];exact Int.ofNat_le.mpr q
 have z:lP (br 2) (tK (eN dS (af (ae 0) aC)) (e2 aJ (e2 aJ (ae 1) (ae 0)) (Q3 1))) bF (oE d (d.map λ_=>1) Y)=O (.nx (oE d (HF d) (O (.pu (.int (0:Nat)))))):=by
  refine vS v ?_ ?_
  ·have pm:=List.mergeSort_perm (List.range d.length) (λa b=>decide (ky d b<=ky d a));refine⟨_,_,rfl,pm,(u _ pm).mpr ?_⟩;have:=List.pairwise_mergeSort (le:=λa b=>decide (ky d b<=ky d a)) (λa b c h1 r=>by simp at *;lia) (λa b=>by simp;lia) (List.range d.length);exact this.imp λ{a b} h=>of_decide_eq_true h
  ·rintro l ⟨f,rfl,pm,pw⟩;have t:=(u f pm).mp pw;obtain⟨A,h1,r,w⟩:=qQ D f [] (d.map λ_=>1) Y (by rw[Zv]) (λi g=>absurd g (by simp)) pm t;rw[w,CK D f pm t];have:A=HF d:=by
    refine List.ext_getElem (by rw[h1,Zv,ZH]) λi g F=>?_;have:=r i (pm.mem_iff.mpr (ZF.mpr (by rw[← h1];exact g)));rw[ZQ,Zh g,XY]at this;rw[this,List.getElem_map,Wh]
   rw[this];rfl
 unfold bJ;refine eI M (U:=[O (.pu (bh d)),Y,O (.pu (.int (0:Nat)))]) ?_;refine(show au _ _ [O (.pu (bh d)),Y,Y]=_ from ?_);rw[ak (U1:=oE d (d.map λ_=>1) Y) (by
  simp only[jf,co,Zq];show O (Out.nx [O (.pu (bh d)),O (.ow (.lst (d.map λ_=>T.int 1))),Y])=O (Out.nx [O (.pu (bh d)),O (.ow (.lst ((d.map λ_=>(1:Int)).map T.int))),Y]);rw[Yy];rfl)]
 rw[ak z];rfl
def AL{m n:Md}(l:Vd)(t:T):aJ (m,.lst (l++[t])) (n,.int (-1))=O (sub m t):=by
 have:Et ((l++[t]).length) (-1)=O l.length:=by
  unfold Et;rw[Zm (by lia),Zu,ZW,Zr (by lia)];congr 1;lia
 show (Et ((l++[t]).length) (-1)).bind _=_;rw[this,Zq,Hg (Zs _)];simp
def Fq(a:Nat->Nat)(C:W3)(c:Nat):Nat:=((C.filter λd=>decide (d<c)).map a).sum
def iQ(a:Nat->Nat)(d:Nat)(C:W3)(c:Nat):Fq a (d :: C) c=(if d<c then a d else 0)+Fq a C c:=by
 unfold Fq;rw[Vi];by_cases h:d<c
 ·rw[ZT h,Zr M,Zr h,Zt,X5]
 ·rw[ZP h,Zm Zk,Zm h,Y7]
theorem ki(a:Nat->Nat){c d:Nat}(h:c<=d):∀C:W3,Fq a C c<=Fq a C d
 |[]=>Zs _
 |e :: C=>by
  have:=ki a h C;rw[iQ,iQ];by_cases h1:e<c
  ·rw[Zr h1,Zr (by lia)];lia
  ·rw[Zm h1];lia
theorem u7(a:Nat->Nat){c d:Nat}(h:c<d):∀C:W3,c∈C->Fq a C c+a c<=Fq a C d
 |e :: C,f=>by
  rw[iQ,iQ];by_cases b:e=c
  ·subst b;have:=ki a (ZK h) C;rw[Zm (Yg e),Zr h];lia
  ·have g:=u7 a h C ((Zo.mp f).resolve_left λz=>b z.symm);by_cases h1:e<c
   ·rw[Zr h1,Zr (by lia)];lia
   ·rw[Zm h1];lia
theorem gG(b:Nat->Nat):∀(C:W3)(a:Nat),a<(C.map b).sum->∃pre c post,C=pre++c :: post/\(pre.map b).sum<=a/\a<(pre.map b).sum+b c
 |[],a,h=>absurd h (by simp)
 |c :: C,a,h=>by
  rw[Zt,X5]at h;by_cases g:a<b c
  ·exact⟨[],c,C,rfl,ZM _,by simpa using g⟩
  ·obtain⟨pre,d,post,e,h1,f⟩:=gG b C (a-b c) (by lia);exact⟨c :: pre,d,post,by rw[e];rfl,by rw[Zt,X5];lia,by rw[Zt,X5];lia⟩
def rA(b:Nat->Nat){a post:W3}{c:Nat}(e:(a++c :: post).Pairwise (· < ·)):Fq b (a++c :: post) c=(a.map b).sum:=by
 unfold Fq;obtain⟨i,g,f⟩:=ZS.mp e;have h1:a.filter (λd=>decide (d<c))=a:=List.filter_eq_self.mpr λd hd=>ZT (f d hd c Zx);have h:(c :: post).filter (λd=>decide (d<c))=[]:=XD.mpr λd hd=>by
  rw[decide_eq_true_iff];rcases Zo.mp hd with z | z
  ·rw[z];exact Yg c
  ·have:=(Yd.mp g).1 d z;lia
 rw[Wg,h1,h,Ft]
def toward(e:Nat->Nat){b post:W3}{c a:Nat}(f:(b++c :: post).Pairwise (· < ·))(h1:(b.map e).sum<=a)(l:a<(b.map e).sum+e c):(b++c :: post).filter (λd=>decide (Fq e (b++c :: post) d<=a))=b++[c]:=by
 obtain⟨i,h,g⟩:=ZS.mp f;have j:=rA e f;have e1:b.filter (λd=>decide (Fq e (b++c :: post) d<=a))=b:=List.filter_eq_self.mpr λd hd=>ZT (by
  have:=ki e (ZK (g d hd c Zx)) (b++c :: post);lia)
 have e2:post.filter (λd=>decide (Fq e (b++c :: post) d<=a))=[]:=XD.mpr λd hd=>by
  rw[decide_eq_true_iff];have:=u7 e ((Yd.mp h).1 d hd) (b++c :: post) (by simp);lia
 rw[Wg,e1,Vi,e2,Zr (ZT (by lia))]
def jP{f:Nat->List Tx}{b post:W3}{c a:Nat}(h1:(b.map λd=>(f d).length).sum<=a)(e:a<(b.map λd=>(f d).length).sum+(f c).length):((b++c :: post).flatMap f)[a]?=(f c)[a-(b.map λd=>(f d).length).sum]?:=by
 rw[List.flatMap_append,List.flatMap_cons,Hg (by rw[Xw];exact h1),Xw,Yv (by lia)]
def qB(p:Tx->Bool)(x:Tx):(dU p x).Pairwise (· < ·):=rD.filter _
abbrev NL(a:Vh)(x:Tx)(c:Nat):Nat:=(E (pS a) (x++[c])).length
abbrev DX(a:Vh)(x:Tx):T:=.tup ((bC a x bB).map wT)
abbrev Es(a:Vh):T:=.lst ((HF a).map T.int)
def A9{a:Vh}(D:Od a)(x:Tx)(q:Nat×Nat)(d:q∈bC a x bB):q.2<(HF a).length/\(HF a).getD q.2 0=(NL a x q.1:Int):=by
 rw[fg]at d;obtain⟨c,g,rfl⟩:=Yr.mp d;have b:=of_decide_eq_true (YR.mp g).2;have f:=pQ a _ b;refine⟨by rw[Zv,ZH];exact f,?_⟩;have e:(HF a).getD (num a (x++[c])) 0=(on a (num a (x++[c])):Int):=by
  rw[ZQ,ZR,Zh (by rw[ZH];exact f),Wh];rfl
 rw[e,D.Pp _ b]
def qz{a:Vh}(D:Od a)(x:Tx)(c:Nat):bq [DX a x,Es a,.str [c]]=O (.fr,.int (Fq (NL a x) (dU (pS a) x) c:Nat)):=by
 have g:ae 0 [O (.pu (DX a x)),O (.pu (Es a)),O (.pu (.str [c]))]=O (.fr,DX a x):=by
  show O (up .pu (DX a x))=_;unfold up;have h:DZ (DX a x)=J:=hJ _;rw[h,Zr M]
 have co:dJ 1 (br 0) (fT (ae 0)) (O (e2 oLt (e2 aJ (ae 0) (Q3 0)) (ae 3))) (e2 aJ (ae 2) (e2 aJ (ae 0) (Q3 1))) [O (.pu (DX a x)),O (.pu (Es a)),O (.pu (.str [c]))]=O (.fr,.lst (((bC a x bB).filter λq=>decide (q.1<c)).map λq=>T.int (NL a x q.1:Int))) :=
  iS (m:=.fr) wT (λq=>decide (q.1<c)) (λq=>T.int (NL a x q.1:Int)) (bC a x bB) (jZ g) M (mL _ _) λq b=>⟨[O (.pu (wT q)),O (.pu (DX a x)),O (.pu (Es a)),O (.pu (.str [c]))],(.fr,.bl (EB [q.1] [c])),rfl,by
   rw[bj (x:=(.fr,.str [q.1])) (y:=(.fr,.str [c])) M M];rfl,by
   show O (EB [q.1] [c])=_;rw[EB];by_cases h:q.1<c
   ·rw[Zr h,ZT h]
   ·rw[Zm h,ZP h,EB,ite_self],λ_=>by
   have k:e2 aJ (ae 0) (Q3 1) [O (.pu (wT q)),O (.pu (DX a x)),O (.pu (Es a)),O (.pu (.str [c]))]=O (.fr,.int (q.2:Int)):=by
    rw[bj (x:=(.fr,wT q)) (y:=(.fr,.int 1)) M M,uj]
   obtain⟨h1,f⟩:=A9 D x q b;rw[bj (x:=(.pu,Es a)) M k,pO _ q.2 h1,f]⟩
 unfold bq;refine eI M (U:=[O (.pu (DX a x)),O (.pu (Es a)),O (.pu (.str [c]))]) ?_;refine(show eE _ [O (.pu (DX a x)),O (.pu (Es a)),O (.pu (.str [c]))]=_ from ?_);have e:eN pR (af (dJ 1 (br 0) (fT (ae 0)) (O (e2 oLt (e2 aJ (ae 0) (Q3 0)) (ae 3))) (e2 aJ (ae 2) (e2 aJ (ae 0) (Q3 1)))) aC) [O (.pu (DX a x)),O (.pu (Es a)),O (.pu (.str [c]))]=O (.fr,.int (Fq (NL a x) (dU (pS a) x) c:Nat)):=by
  rw[j3 (dR co M)];show (jA (((bC a x bB).filter λq=>decide (q.1<c)).map λq=>T.int (NL a x q.1:Int))).bind _=_;rw[ints_map (λq:Nat×Nat=>(NL a x q.1:Int)),Zq];have:((bC a x bB).filter λq=>decide (q.1<c)).map (λq=>(NL a x q.1:Int))=(((dU (pS a) x).filter λd=>decide (d<c)).map (NL a x)).map λn:Nat=>(n:Int):=by
   rw[fg,List.filter_map,Yy,Yy];rfl
  rw[this,← nM];rfl
 simp only[eE,e,Zq]
def Ce{b:Vh}(D:Od b)(x:Tx)(a:Nat){e post:W3}{c:Nat}(f:dU (pS b) x=e++c :: post)(h1:(e.map (NL b x)).sum<=a)(i:a<(e.map (NL b x)).sum+NL b x c):dD [DX b x,Es b,.int a]=O (.fr,wT (c,num b (x++[c]))):=by
 have g:ae 0 [O (.pu (DX b x)),O (.pu (Es b)),O (.pu (.int a))]=O (.fr,DX b x):=by
  show O (up .pu (DX b x))=_;unfold up;have h:DZ (DX b x)=J:=hJ _;rw[h,Zr M]
 have j:∀q:Nat×Nat,ae 1 [O (.pu (wT q)),O (.pu (DX b x)),O (.pu (Es b)),O (.pu (.int a))]=O (.fr,DX b x):=λq=>g;have co:dJ 1 (br 0) (fT (ae 0)) (O (e2 oLe (aN bq (af (ae 1) (af (ae 2) (af (e2 aJ (ae 0) (Q3 0)) aC)))) (ae 3))) (ae 0) [O (.pu (DX b x)),O (.pu (Es b)),O (.pu (.int a))]=O (.fr,.lst (((bC b x bB).filter λq=>decide (Fq (NL b x) (dU (pS b) x) q.1<=a)).map wT)) :=
  iS (m:=.fr) wT (λq=>decide (Fq (NL b x) (dU (pS b) x) q.1<=a)) wT (bC b x bB) (jZ g) M (mL _ _) λq l=>⟨[O (.pu (wT q)),O (.pu (DX b x)),O (.pu (Es b)),O (.pu (.int a))],(.fr,.bl (decide ((Fq (NL b x) (dU (pS b) x) q.1:Int)<=(a:Int)))),rfl,by
   have k:e2 aJ (ae 0) (Q3 0) [O (.pu (wT q)),O (.pu (DX b x)),O (.pu (Es b)),O (.pu (.int a))]=O (.fr,.str [q.1]):=by
    rw[bj (x:=(.fr,wT q)) (y:=(.fr,.int 0)) M M,wI]
   rw[bj (aP (dR (j q) (dR (x:=(.pu,Es b)) M (dR k M))) (qz D x q.1)) (y:=(.fr,.int a)) M];rfl,by
   show O _=O _;rw[decide_eq_decide.mpr Int.ofNat_le],λ_=>rfl⟩
 have fl:(bC b x bB).filter (λq=>decide (Fq (NL b x) (dU (pS b) x) q.1<=a))=(e.map λd=>(d,num b (x++[d])))++[(c,num b (x++[c]))]:=by
  have pw:=qB (pS b) x;rw[f]at pw;rw[fg,List.filter_map,f];have:=toward (NL b x) pw h1 i;rw[show (λq:Nat×Nat=>decide (Fq (NL b x) (e++c :: post) q.1<=a)) ∘ (λc=>(c,num b (x++[c])))=λd=>decide (Fq (NL b x) (e++c :: post) d<=a) from rfl,this,Ym];rfl
 rw[fl,Ym]at co;unfold dD;refine eI M (U:=[O (.pu (DX b x)),O (.pu (Es b)),O (.pu (.int a))]) ?_;refine(show eE _ [O (.pu (DX b x)),O (.pu (Es b)),O (.pu (.int a))]=_ from ?_);unfold eE;rw[bj co (y:=(.fr,.int (-1))) M,List.map_singleton,AL];rfl
def yR{c:Ex}{a:Sx}{f:Nat}{U b:Env}{m:Md}(h:c U=O (m,.bl J))(d:a U=O (.nx b)):eM c a (f+1) U=eM c a f b:=by
 simp[eM,h,d];rfl
def yn{c:Ex}{a:Sx}{f:Nat}{U:Env}{m:Md}(h:c U=O (m,.bl S)):eM c a (f+1) U=O (.nx U):=by
 simp[eM,h];rfl
abbrev pE(b:Vh)(k:Int)(x:Tx)(a:Int)(w z:Vg):Env:=[O (.pu (bh b)),O (.pu (.int k)),O (.pu (Es b)),O (.pu (.str x)),w,O (.pu (.int a)),z]
def zi{b:Vh}{k:Int}{y x:Tx}{a:Int}{z:Vg}:ae 4 (pE b k y a (O (.pu (DX b x))) z)=O (.fr,DX b x):=by
 show O (up .pu (DX b x))=_;unfold up;have h:DZ (DX b x)=J:=hJ _;rw[h,Zr M]
def xq{b:Vh}(D:Od b)(k:Int)(x:Tx)(n:x∈b.flatten)(a:Nat)(z:Vg){d post:W3}{c:Nat}(e:dU (pS b) x=d++c :: post)(h1:(d.map (NL b x)).sum<=a)(h:a<(d.map (NL b x)).sum+NL b x c) :
  eY (pE b k x ((a+1:Nat):Int) (O (.pu (DX b x))) z)=O (.nx (pE b k (x++[c]) ((a-(d.map (NL b x)).sum:Nat):Int) (O (.pu (DX b (x++[c])))) (O (.pu (wT (c,num b (x++[c]))))))):=by
 have f:x++[c]∈b.flatten:=of_decide_eq_true (YR.mp (show c∈dU (pS b) x by rw[e];simp)).2;have FH:=D.FH _ (ZT f);have pw:=qB (pS b) x;have g:Fq (NL b x) (dU (pS b) x) c=(d.map (NL b x)).sum:=by rw[e]at pw ⊢;exact rA _ pw
 unfold eY;rw[ak (U1:=pE b k x (a:Int) (O (.pu (DX b x))) z) (by
  rw[aA (m:=.fr) (t:=.int (a:Int)) (by
   rw[bj (x:=(.fr,.int ((a+1:Nat):Int))) (y:=(.fr,.int 1)) M M];show O (Md.fr,T.int (((a+1:Nat):Int)-1))=_;rw[show ((a+1:Nat):Int)-1=(a:Int) by lia]) (by decide) (by decide:5<7)]
  rfl)]
 rw[ak (U1:=pE b k x (a:Int) (O (.pu (DX b x))) (O (.pu (wT (c,num b (x++[c])))))) (by
  rw[aA (aP (dR zi (dR (x:=(.pu,Es b)) M (dR (x:=(.fr,.int a)) M M))) (Ce D x a e h1 h)) (by decide) (by decide:6<7)];rfl)]
 have i:ae 6 (pE b k x (a:Int) (O (.pu (DX b x))) (O (.pu (wT (c,num b (x++[c]))))))=O (.fr,wT (c,num b (x++[c]))):=rfl;have j:e2 aJ (ae 6) (Q3 0) (pE b k x (a:Int) (O (.pu (DX b x))) (O (.pu (wT (c,num b (x++[c]))))))=O (.fr,.str [c]):=by
  rw[bj i (y:=(.fr,.int 0)) M,wI]
 rw[ak (U1:=pE b k x ((a-(d.map (NL b x)).sum:Nat):Int) (O (.pu (DX b x))) (O (.pu (wT (c,num b (x++[c])))))) (by
  rw[aA (m:=.fr) (t:=.int ((a-(d.map (NL b x)).sum:Nat):Int)) (by
   rw[bj (x:=(.fr,.int (a:Int))) M (aP (dR zi (dR (x:=(.pu,Es b)) M (dR j M))) (qz D x c)),g];show O (Md.fr,T.int ((a:Int)-((d.map (NL b x)).sum:Nat)))=_;rw[show (a:Int)-((d.map (NL b x)).sum:Nat)=((a-(d.map (NL b x)).sum:Nat):Int) by lia]) (by decide) (by decide:5<7)]
  rfl)]
 have l:e2 aJ (ae 6) (Q3 0) (pE b k x ((a-(d.map (NL b x)).sum:Nat):Int) (O (.pu (DX b x))) (O (.pu (wT (c,num b (x++[c]))))))=O (.fr,.str [c]):=by
  rw[bj (x:=(.fr,wT (c,num b (x++[c])))) (y:=(.fr,.int 0)) M M,wI]
 rw[ak (U1:=pE b k (x++[c]) ((a-(d.map (NL b x)).sum:Nat):Int) (O (.pu (DX b x))) (O (.pu (wT (c,num b (x++[c])))))) (by
  rw[aA (m:=.fr) (t:=.str (x++[c])) (by
   rw[bj (x:=(.fr,.str x)) M l];rw[Zu,ZW]at FH;exact Zr (ZV (show x.length+[c].length<=120 from FH) (by decide))) (by decide) (by decide:3<7)]
  rfl)]
 have e1:e2 aJ (ae 6) (Q3 1) (pE b k (x++[c]) ((a-(d.map (NL b x)).sum:Nat):Int) (O (.pu (DX b x))) (O (.pu (wT (c,num b (x++[c]))))))=O (.fr,.int (num b (x++[c]):Nat)):=by
  rw[bj (x:=(.fr,wT (c,num b (x++[c])))) (y:=(.fr,.int 1)) M M,uj]
 rw[aA (m:=.fr) (t:=DX b (x++[c])) (by
  rw[bj (x:=(.fr,eX b (b.getD (num b (x++[c])) []))) (y:=(.fr,.int 3)) (by
   rw[bj (x:=(.pu,bh b)) M e1,mO b _ (pQ b _ f)]) M,wA,D.way _ f]) (by decide) (by decide:4<7)]
 rfl
theorem qY{d:Vh}(D:Od d)(k:Int):∀(n:Nat)(x:Tx)(a:Nat)(z:Vg)(w:Tx),x∈d.flatten->121<=x.length+n->(E (pS d) x)[a]?=O w →
  ∃u h,eM (e2 Gi (ae 5) (Q3 0)) eY n (pE d k x (a:Int) (O (.pu (DX d x))) z)=O (.nx (pE d k w 0 u h))
 |0,x,a,z,w,g,i,_=>absurd (D.FH x (ZT g)) (by lia)
 |n+1,x,0,z,w,g,i,hw=>by
  rw[AG _ D.FH]at hw;cases hw;exact⟨_,_,yn (m:=.fr) M⟩
 |n+1,x,a+1,z,w,g,i,hw=>by
  rw[AG _ D.FH,WK]at hw;have l:a<((dU (pS d) x).map (NL d x)).sum:=by
   have:=(ZY.mp hw).1;rw[Xw]at this;exact this
  obtain⟨pre,c,post,hC,h1,j⟩:=gG (NL d x) _ a l;have b:=xq D k x g a z hC h1 j;rw[hC,jP (f:=λc=>E (pS d) (x++[c])) h1 j]at hw;have o:x++[c]∈d.flatten:=of_decide_eq_true (YR.mp (show c∈dU (pS d) x by rw[hC];simp)).2;obtain⟨u,h,e⟩:=qY D k n (x++[c]) _ (O (.pu (wT (c,num d (x++[c]))))) w o (by rw[Zu,ZW];lia) hw;refine⟨u,h,?_⟩;rw[yR (m:=.fr) (by
   show O (Md.fr,T.bl (decide ((0:Int)<((a+1:Nat):Int))))=_;rw[ZT (by lia)]) b]
  exact e
abbrev wd(a:Vh):List Tx:=E (pS a) []
def RO{a:Vh}(D:Od a):(HF a).getD 0 0=((wd a).length:Int)/\0<(HF a).length:=by
 obtain⟨b,e⟩:=D.z0;have d:0<a.length:=by rw[e];simp
 refine⟨?_,by rw[Zv,ZH];exact d⟩;rw[ZQ,ZR,Zh (by rw[ZH];exact d),Wh];show ((on a 0:Nat):Int)=_;have:DG (a.getD 0 [])=[]:=by rw[e];rfl
 unfold on;rw[this]
def qN{a:Vh}(D:Od a)(k:Int):om (gH oLe oLt (Q3 0) (ae 1) (e2 ik (e2 aJ (ae 2) (Q3 0)) (Q3 1))) [O (.pu (bh a)),O (.pu (.int k)),O (.pu (Es a)),Y,Y,Y,Y]=O (.fr,.bl (!(decide (0<=k)&&decide (k<((wd a).length:Int)-1)))):=by
 obtain⟨h1,b⟩:=RO D;have e:e2 ik (e2 aJ (ae 2) (Q3 0)) (Q3 1) [O (.pu (bh a)),O (.pu (.int k)),O (.pu (Es a)),Y,Y,Y,Y]=O (.fr,.int (((wd a).length:Int)-1)):=by
  rw[bj (x:=(.fr,.int ((wd a).length:Int))) (y:=(.fr,.int 1)) (by
   rw[bj (x:=(.pu,Es a)) (y:=(.fr,.int 0)) M M];have:=pO (m:=.pu) (n:=.fr) (HF a) 0 b;rw[h1]at this;exact this) M]
  rfl
 have d:gH oLe oLt (Q3 0) (ae 1) (e2 ik (e2 aJ (ae 2) (Q3 0)) (Q3 1)) [O (.pu (bh a)),O (.pu (.int k)),O (.pu (Es a)),Y,Y,Y,Y]=O (.fr,.bl (decide (0<=k)&&decide (k<((wd a).length:Int)-1))):=by
  unfold gH;simp only[e,Zq];refine(show (match (T.bl (decide ((0:Int)<=k))) with | .bl true=>oLt (.fr,.int k) (.fr,.int (((wd a).length:Int)-1)) | .bl false=>some (.fr,.bl false) | _=>none)=_ from ?_);cases decide ((0:Int)<=k)<;>rfl
 unfold om;rw[d,Zq]
def pA{a:Vh}(D:Od a)(k:Int):aK 2 (aN bJ (af (ae 0) aC)) [O (.pu (bh a)),O (.pu (.int k)),Y,Y,Y,Y,Y]=O (.nx [O (.pu (bh a)),O (.pu (.int k)),O (.pu (Es a)),Y,Y,Y,Y]):=by
 rw[aA (aP (xs:=[(.pu,bh a)]) M (vP D)) (by decide) (by decide:2<7)];rfl
def AF{a:Vh}(D:Od a)(k:Nat)(w:Tx)(hw:(wd a)[k+1]?=O w):dw [bh a,.int (k:Int)]=O (.fr,.str w):=by
 have h:=(ZY.mp hw).1;have g:([]:Tx)∈a.flatten:=by obtain⟨b,d⟩:=D.z0;rw[d];simp
 obtain⟨u,f,e⟩:=qY D (k:Int) yX [] (k+1) Y w g (by unfold yX;lia) hw;unfold dw;refine eI M (U:=pE a (k:Int) w 0 u f) ?_;refine(show au _ _ [O (.pu (bh a)),O (.pu (.int (k:Int))),Y,Y,Y,Y,Y]=_ from ?_);rw[ak (pA D k)];rw[ak (U1:=[O (.pu (bh a)),O (.pu (.int (k:Int))),O (.pu (Es a)),Y,Y,Y,Y]) (by
  have t:=qN D (k:Int);rw[ZT (show (0:Int)<=(k:Int) by lia),ZT (show (k:Int)<((wd a).length:Int)-1 by lia)]at t;rw[jG (m:=.fr) t];rfl)]
 rw[ak (U1:=[O (.pu (bh a)),O (.pu (.int (k:Int))),O (.pu (Es a)),O (.pu (.str [])),Y,Y,Y]) M];rw[ak (U1:=[O (.pu (bh a)),O (.pu (.int (k:Int))),O (.pu (Es a)),O (.pu (.str [])),O (.pu (DX a [])),Y,Y]) (by
  have hd:DG (a.getD 0 [])=[]:=by obtain⟨b,d⟩:=D.z0;rw[d];rfl
  rw[aA (m:=.fr) (t:=DX a []) (by
   rw[bj (x:=(.fr,eX a (a.getD 0 []))) (y:=(.fr,.int 3)) (by
    rw[bj (x:=(.pu,bh a)) (y:=(.fr,.int 0)) M M];exact mO a 0 (by obtain⟨b,d⟩:=D.z0;rw[d];simp)) M,wA,hd]) (by decide) (by decide:4<7)]
  rfl)]
 rw[ak (U1:=pE a (k:Int) [] ((k+1:Nat):Int) (O (.pu (DX a []))) Y) M];rw[ak (by unfold p8;exact e)];rfl
def Bv{a:Vh}(D:Od a)(k:Int)(h:k<0\/((wd a).length:Int)-1<=k):dw [bh a,.int k]=O (.fr,.non):=by
 unfold dw;refine eI M (U:=[O (.pu (bh a)),O (.pu (.int k)),O (.pu (Es a)),Y,Y,Y,Y]) ?_;refine(show au _ _ [O (.pu (bh a)),O (.pu (.int k)),Y,Y,Y,Y,Y]=_ from ?_);rw[ak (pA D k)];have t:=qN D k;have b:(decide (0<=k)&&decide (k<((wd a).length:Int)-1))=S:=by
  rcases h with h | h
  ·rw[ZP (show ¬0<=k by lia)];rfl
  ·rw[ZP (show ¬k<((wd a).length:Int)-1 by lia),Bool.and_false]
 rw[b]at t;unfold au;rw[jY (m:=.fr) t];rfl
def CY{α:Type}(t:List α):cut t (O 1) Y=t.drop 1:=by
 unfold cut clip;simp only[show ¬((1:Int)<0) by lia,if_false];by_cases h:1<=t.length
 ·rw[Ys (by simpa using h),show (1:Int).toNat=1 from rfl,GG (by simp)]
 ·have:t=[]:=XI.mp (by lia);subst this;rfl
def yw{α β:Type}(f:α->β)(l:List α)(a b:Option Int):cut (l.map f) a b=(cut l a b).map f:=by
 unfold cut;rw[Zv,List.map_take,List.map_drop]
def yS{α:Type}{l:List α}{a b:Option Int}{x:α}(h:x∈cut l a b):x∈l:=by
 unfold cut at h;exact Ye (Yk h)
def jR{α:Type}(l:List α)(a b:Option Int):(cut l a b).length<=l.length:=by
 unfold cut;rw[ZO,ZG];lia
def B9{x:Tx}(h:Az x)(a:x.length<=120):ID x=J:=by
 unfold ID;rw[ZT (show x.length<=fC from ZV a (by decide)),W7,ZE];intro c b;exact ZT (Wl (h c b).2 (by decide))
abbrev Jn(a:W3):T:=.lst (a.map λi:Nat=>T.int (i:Int))
abbrev IV(a:Vh):T:=.lst (((wd a).drop 1).map T.str)
abbrev lE(a0 a1 a2 a3:Vg)(a:Vh)(d:W3)(f:Int)(b g e:Vg):Env:=[a0,a1,a2,a3,O (.pu (bh a)),O (.pu (bh a)),O (.pu (IV a)),O (.pu (Jn d)),O (.pu (.int f)),b,g,e]
def BZ{m n:Md}(a:Vh)(i:Nat)(w:Tx)(h:(wd a)[i+1]?=O w):aJ (m,IV a) (n,.int (i:Int))=O (.fr,.str w):=by
 have b:=(ZY.mp h).1;show (Et ((((wd a).drop 1).map T.str).length) (i:Int)).bind _=_;rw[iC (by rw[Zv,ZG];lia),Zq,ZR,W9,Nat.add_comm,h];rfl
section
variable{st:Vh}(D:Od st)(a0 a1 a2 a3:Vg)(is:W3)(DV:Int)
include D
theorem wu(i:Nat)(a:i+1<(wd st).length)(e:Vg):∃d,iW (lE a0 a1 a2 a3 st is DV (O (.pu (.int i))) e Y)=O (.nx (lE a0 a1 a2 a3 st is DV (O (.pu (.int i))) d Y)):=by
 obtain⟨w,hw⟩:∃w,(wd st)[i+1]?=O w:=⟨_,Zh a⟩
 refine⟨O (.pu (.str w)),?_⟩;unfold iW;rw[ak (U1:=lE a0 a1 a2 a3 st is DV (O (.pu (.int i))) (O (.pu (.str w))) Y) (by
  rw[aA (aP (xs:=[(.pu,bh st),(.fr,.int i)]) M (AF D i w hw)) (by decide) (by decide:10<12)];rfl)]
 have e1:om (Lg .str (ae 10)) (lE a0 a1 a2 a3 st is DV (O (.pu (.int i))) (O (.pu (.str w))) Y)=O (.fr,.bl S):=rfl;have b:e2 HG (ae 10) (e2 aJ (ae 6) (ae 9)) (lE a0 a1 a2 a3 st is DV (O (.pu (.int i))) (O (.pu (.str w))) Y)=O (.fr,.bl S):=by
  rw[bj (x:=(.fr,.str w)) (y:=(.fr,.str w)) M (by
   rw[bj (x:=(.pu,IV st)) (y:=(.fr,.int i)) M M,BZ st i w hw])]
  exact wk M
 rw[jG (m:=.fr) (by unfold Lf;rw[e1,Zq];exact b)];rfl
theorem Pz:∀(d:W3),(∀i∈d,i+1<(wd st).length)->∀b a:Vg,∃o n,forL (br 9) iW (d.map λi:Nat=>T.int (i:Int)) (lE a0 a1 a2 a3 st is DV b a Y)=O (.nx (lE a0 a1 a2 a3 st is DV o n Y))
 |[],_,b,a=>⟨b,a,rfl⟩
 |i :: d,h,b,a=>by
  obtain⟨m,e⟩:=wu D a0 a1 a2 a3 is DV i (h i Zx) a;obtain⟨f,p,l⟩:=Pz d (λj g=>h j (Zw _ g)) (O (.pu (.int i))) m;exact⟨f,p,by rw[Zt,bR (U1:=lE a0 a1 a2 a3 st is DV (O (.pu (.int i))) a Y) M e,l]⟩
theorem Py(b:Int):∀(f:Vw),(∀k∈f,k<0\/((wd st).length:Int)-1<=k)->∀d a:Vg,∃n,forL (br 9) iD (f.map T.int) (lE a0 a1 a2 a3 st is DV d a (O (.pu (.int b))))=O (.nx (lE a0 a1 a2 a3 st is DV n a (O (.pu (.int b)))))
 |[],_,d,a=>⟨d,rfl⟩
 |k :: f,h,d,a=>by
  have e:iD (lE a0 a1 a2 a3 st is DV (O (.pu (.int k))) a (O (.pu (.int b))))=O (.nx (lE a0 a1 a2 a3 st is DV (O (.pu (.int k))) a (O (.pu (.int b))))):=by
   unfold iD;rw[jG (m:=.fr) (by
    unfold nW;rw[aP (xs:=[(.pu,bh st),(.fr,.int k)]) M (Bv D k (h k Zx))];rfl)]
   rfl
  obtain⟨g,l⟩:=Py b f (λj i=>h j (Zw _ i)) (O (.pu (.int k))) a;exact⟨g,by rw[Zt,bR (U1:=lE a0 a1 a2 a3 st is DV (O (.pu (.int k))) a (O (.pu (.int b)))) M e,l]⟩
theorem yg(b:Vw)(n:Nat)(r:n<1000000)(s:0<DV):∃e:W3,(∀j∈e,j<n)/\FF (e2 Gi (ae 8) (Q3 1)) (aK 7 (e2 bD (rZ (ae 7) (O (e2 oMod (aN ao (af (ae 0) (af (Q3 300) aC))) (ae 8))) Y (O (ae 8))) (Gj (ae 7) (O (Q3 (-1))) Y))) h9 (lE (O (.pu (.scr b))) a1 a2 a3 st (List.range n) DV Y Y Y)=O (.nx (lE (O (.pu (.scr b))) a1 a2 a3 st e DV Y Y Y)):=by
 by_cases h:1<DV
 ·obtain⟨a,o,q,p⟩:=cC b 300 (by decide) (by decide);refine⟨gf (List.range n) (O (a%DV)) Y (O DV)++cut (List.range n) (O (-1)) Y,λj d=>?_,?_⟩
  ·rcases Zc.mp d with h | h
   ·exact ZF.mp (vB _ _ h)
   ·exact ZF.mp (yS h)
  ·rw[jY (m:=.fr) (by
    show O (Md.fr,T.bl (decide ((1:Int)<DV)))=_;rw[ZT h])]
   have em:e2 oMod (aN ao (af (ae 0) (af (Q3 300) aC))) (ae 8) (lE (O (.pu (.scr b))) a1 a2 a3 st (List.range n) DV Y Y Y)=O (.fr,.int (a%DV)):=by
    rw[bj (x:=(.fr,.int a)) (y:=(.fr,.int DV)) (aP (xs:=[(.fr,.scr b),(.fr,.int 300)]) M o) M,aV (by lia)]
   have l:rZ (ae 7) (O (e2 oMod (aN ao (af (ae 0) (af (Q3 300) aC))) (ae 8))) Y (O (ae 8)) (lE (O (.pu (.scr b))) a1 a2 a3 st (List.range n) DV Y Y Y)=O (.fr,Jn (gf (List.range n) (O (a%DV)) Y (O DV))):=by
    unfold rZ;rw[show jw (O (e2 oMod (aN ao (af (ae 0) (af (Q3 300) aC))) (ae 8))) (lE (O (.pu (.scr b))) a1 a2 a3 st (List.range n) DV Y Y Y)=O (O (a%DV)) by simp only[jw,em,Zq];rfl];show Kn (.pu,Jn (List.range n)) (O (a%DV)) Y (O DV)=_;show (if ((List.range n).map λi:Nat=>T.int (i:Int)).all LO=J/\O DV≠O 0 then O (Md.fr,T.lst (gf ((List.range n).map λi:Nat=>T.int (i:Int)) (O (a%DV)) Y (O DV))) else Y)=_;rw[Zr ⟨ZE.mpr λx f=>by obtain⟨i,_,rfl⟩:=Yr.mp f;rfl,λz=>by cases z;lia⟩,nV]
   have g:Gj (ae 7) (O (Q3 (-1))) Y (lE (O (.pu (.scr b))) a1 a2 a3 st (List.range n) DV Y Y Y)=O (.fr,Jn (cut (List.range n) (O (-1)) Y)):=by
    show Fh .pu (cut ((List.range n).map λi:Nat=>T.int (i:Int)) (O (-1)) Y)=_;have l1:=jR (List.range n) (O (-1)) Y;rw[ZH]at l1;rw[yw,i7 (by rw[Zv];lia),gp _ (λ_=>rfl)];rfl
   rw[aA (m:=.fr) (t:=Jn (gf (List.range n) (O (a%DV)) Y (O DV)++cut (List.range n) (O (-1)) Y)) (by
    rw[bj l g];show Fh .fr (((gf (List.range n) (O (a%DV)) Y (O DV)).map λi:Nat=>T.int (i:Int))++((cut (List.range n) (O (-1)) Y).map λi:Nat=>T.int (i:Int)))=_;have l1:=jR (List.range n) (O (-1)) Y;have l2:=n8 (List.range n) (O (a%DV)) Y (O DV);rw[ZH]at l1 l2;rw[← Ym,i7 (by rw[Zv,Zu];lia),gp _ (λ_=>rfl)];rfl) (by decide) (by decide:7<12)]
   rfl
 ·refine⟨List.range n,λj d=>ZF.mp d,?_⟩;rw[jG (m:=.fr) (by
   show O (Md.fr,T.bl (decide ((1:Int)<DV)))=_;rw[ZP h])]
  rfl
end
def zR(b:Vw)(f:List Tx)(d:Fd)(a:Vh)(D:Od a)(hw:wd a=cV (aO d))(hz:d.length<=117129)(w:∀x∈aO d,Az x/\x.length<=120)(s:(aO d).length=a.flatten.length)(h1:0<(aO d).length)(N:d4 [.scr b,.int 60]=O (.fr,.lst (f.map T.str)))(H:cQ [.lst (f.map T.str)]=O (.fr,.dct 0 (dT d)))(Ma:cJ [.dct 0 (dT d)]=O (.fr,D1 a))(I:bO [D1 a]=O (.fr,.dct 0 (nT (nums 0 a))))(G:dz [D1 a,.dct 0 (nT (nums 0 a))]=O (.fr,bh a)):nO [.scr b]=O (.fr,.bl J):=by
 have sl:=D.len;have fl:=D.fl;have L8:(wd a).length=(aO d).length:=by rw[hw];exact(fI _).length_eq
 obtain⟨n,S1⟩:∃n,(wd a).length=n+1:=⟨(wd a).length-1,by lia⟩
 have dl:((wd a).drop 1).length=n:=by rw[ZG];lia
 have C:n<1000000:=by lia
 obtain⟨o,W,T1⟩:=yg D (O (.pu (.lst (f.map T.str)))) (O (.pu (.dct 0 (dT d)))) (O (.pu (D1 a))) (1+(n:Int)/40) b n C (by lia);obtain⟨q,p,X⟩:=Pz D (O (.pu (.scr b))) (O (.pu (.lst (f.map T.str)))) (O (.pu (.dct 0 (dT d)))) (O (.pu (D1 a))) o (1+(n:Int)/40) o (λj L=>by have:=W j L;lia) Y Y;obtain⟨h,JB,F,m1⟩:=cC b 301 (by decide) (by decide);have JI:(0:Int)<=h*10 ^ 49:=Int.mul_nonneg F (show (0:Int)<=10 ^ 49 by decide);obtain⟨r,Z⟩:=Py D (O (.pu (.scr b))) (O (.pu (.lst (f.map T.str)))) (O (.pu (.dct 0 (dT d)))) (O (.pu (D1 a))) o (1+(n:Int)/40) (h*10 ^ 49) [-1,(n:Int),(n:Int)+1+h*10 ^ 49,-2-h*10 ^ 49] (λk s=>by
  rw[S1];simp only[Zo,List.not_mem_nil,or_false]at s;rcases s with rfl | rfl | rfl | rfl
  ·exact .inl (by lia)
  ·exact .inr (by lia)
  ·exact .inr (by lia)
  ·exact .inl (by lia)) q p
 have ln:∀{B A z DS Er:Vg},eN dS (af (ae 6) aC) [O (.pu (.scr b)),O (.pu (.lst (f.map T.str))),O (.pu (.dct 0 (dT d))),O (.pu (D1 a)),O (.pu (bh a)),O (.pu (bh a)),O (.pu (IV a)),B,A,z,DS,Er]=O (.fr,.int (n:Int)):=by
  intros
  rw[j3 (xs:=[(.pu,IV a)]) M];show O (Md.fr,T.int (((((wd a).drop 1).map T.str).length:Nat):Int))=_;rw[Zv,dl]
 unfold nO;refine eI M (U:=lE (O (.pu (.scr b))) (O (.pu (.lst (f.map T.str)))) (O (.pu (.dct 0 (dT d)))) (O (.pu (D1 a))) a o (1+(n:Int)/40) r p (O (.pu (.int (h*10 ^ 49))))) ?_;refine(show au _ _ [O (.pu (.scr b)),Y,Y,Y,Y,Y,Y,Y,Y,Y,Y,Y]=_ from ?_);rw[ak (U1:=[O (.pu (.scr b)),O (.pu (.lst (f.map T.str))),Y,Y,Y,Y,Y,Y,Y,Y,Y,Y]) (by
  rw[aA (aP (xs:=[(.fr,.scr b),(.fr,.int 60)]) M N) (by decide) (by decide:1<12)];rfl)]
 rw[ak (U1:=[O (.pu (.scr b)),O (.pu (.lst (f.map T.str))),O (.pu (.dct 0 (dT d))),Y,Y,Y,Y,Y,Y,Y,Y,Y]) (by
  rw[aA (aP (xs:=[(.pu,.lst (f.map T.str))]) M H) (by decide) (by decide:2<12)];rfl)]
 rw[ak (U1:=[O (.pu (.scr b)),O (.pu (.lst (f.map T.str))),O (.pu (.dct 0 (dT d))),O (.pu (D1 a)),Y,Y,Y,Y,Y,Y,Y,Y]) (by
  rw[aA (aP (xs:=[(.pu,.dct 0 (dT d))]) M Ma) (by decide) (by decide:3<12)];rfl)]
 rw[ak (U1:=[O (.pu (.scr b)),O (.pu (.lst (f.map T.str))),O (.pu (.dct 0 (dT d))),O (.pu (D1 a)),O (.pu (bh a)),Y,Y,Y,Y,Y,Y,Y]) (by
  have h1:ae 3 [O (.pu (.scr b)),O (.pu (.lst (f.map T.str))),O (.pu (.dct 0 (dT d))),O (.pu (D1 a)),Y,Y,Y,Y,Y,Y,Y,Y]=O (.pu,D1 a):=rfl;have P:=aP (g:=bO) (as:=af (ae 3) aC) (dR h1 M) I;rw[aA (aP (xs:=[(.pu,D1 a),(.fr,.dct 0 (nT (nums 0 a)))]) (dR h1 (dR P M)) G) (by decide) (by decide:4<12)];rfl)]
 rw[ak (U1:=[O (.pu (.scr b)),O (.pu (.lst (f.map T.str))),O (.pu (.dct 0 (dT d))),O (.pu (D1 a)),O (.pu (bh a)),O (.pu (bh a)),Y,Y,Y,Y,Y,Y]) (by
  rw[aA (m:=.fr) (t:=bh a) (by
   rw[j3 (xs:=[(.pu,bh a)]) M,Bd a (by lia)]) (by decide) (by decide:5<12)];rfl)]
 rw[ak (U1:=[O (.pu (.scr b)),O (.pu (.lst (f.map T.str))),O (.pu (.dct 0 (dT d))),O (.pu (D1 a)),O (.pu (bh a)),O (.pu (bh a)),O (.pu (IV a)),Y,Y,Y,Y,Y]) (by
  have Q:eN jW (af (ae 2) aC) [O (.pu (.scr b)),O (.pu (.lst (f.map T.str))),O (.pu (.dct 0 (dT d))),O (.pu (D1 a)),O (.pu (bh a)),O (.pu (bh a)),Y,Y,Y,Y,Y,Y]=O (.fr,.lst ((wd a).map T.str)):=by
   rw[j3 (xs:=[(.pu,.dct 0 (dT d))]) M];show (strs? ((dT d).map (·.1))).bind _=_;have e:(dT d).map (·.1)=(aO d).map T.str:=by unfold dT aO;rw[Yy,Yy];rfl
   have v:=strs_map (λx:Tx=>x) (aO d);rw[List.map_id']at v;rw[e,v,Zq,Zr (ZE.mpr λx u=>B9 (w x u).1 (w x u).2),hw]
  rw[aA (m:=.fr) (t:=IV a) (by
   unfold Gj;rw[Q,Zq];show Fh .fr (cut ((wd a).map T.str) (O 1) Y)=_;rw[CY,← List.map_drop,i7 (by rw[Zv,dl];lia),ite_self]) (by decide) (by decide:6<12)]
  rfl)]
 rw[ak (U1:=[O (.pu (.scr b)),O (.pu (.lst (f.map T.str))),O (.pu (.dct 0 (dT d))),O (.pu (D1 a)),O (.pu (bh a)),O (.pu (bh a)),O (.pu (IV a)),O (.pu (Jn (List.range n))),Y,Y,Y,Y]) (by
  rw[aA (m:=.fr) (t:=Jn (List.range n)) (by
   rw[j3 (dR ln M)];show (if 0<=(n:Int)/\(n:Int)<=16777216 then _ else _)=_;rw[Zr ⟨by lia,by lia⟩,Yf]) (by decide) (by decide:7<12)]
  rfl)]
 rw[ak (U1:=lE (O (.pu (.scr b))) (O (.pu (.lst (f.map T.str)))) (O (.pu (.dct 0 (dT d)))) (O (.pu (D1 a))) a (List.range n) (1+(n:Int)/40) Y Y Y) (by
  rw[aA (m:=.fr) (t:=.int (1+(n:Int)/40)) (by
   rw[bj (x:=(.fr,.int 1)) (y:=(.fr,.int ((n:Int)/40))) M (by
    rw[bj ln (y:=(.fr,.int 40)) M,eA (by decide)])]
   rfl) (by decide) (by decide:8<12)]
  rfl)]
 rw[ak T1];rw[ak (U1:=lE (O (.pu (.scr b))) (O (.pu (.lst (f.map T.str)))) (O (.pu (.dct 0 (dT d)))) (O (.pu (D1 a))) a o (1+(n:Int)/40) q p Y) (by
  rw[i3 (m:=.pu) (ke (m:=.pu) (l:=o.map λi:Nat=>T.int (i:Int)) M) M];exact X)]
 rw[ak (U1:=lE (O (.pu (.scr b))) (O (.pu (.lst (f.map T.str)))) (O (.pu (.dct 0 (dT d)))) (O (.pu (D1 a))) a o (1+(n:Int)/40) q p (O (.pu (.int (h*10 ^ 49))))) (by
  have e1:aN ao (af (ae 0) (af (Q3 301) aC)) (lE (O (.pu (.scr b))) (O (.pu (.lst (f.map T.str)))) (O (.pu (.dct 0 (dT d)))) (O (.pu (D1 a))) a o (1+(n:Int)/40) q p Y)=O (.fr,.int h):=aP (xs:=[(.fr,.scr b),(.fr,.int 301)]) M JB;have Hz:e2 yj (Q3 10) (Q3 49) (lE (O (.pu (.scr b))) (O (.pu (.lst (f.map T.str)))) (O (.pu (.dct 0 (dT d)))) (O (.pu (D1 a))) a o (1+(n:Int)/40) q p Y)=O (.fr,.int (10 ^ 49)):=rfl;rw[aA (m:=.fr) (t:=.int (h*10 ^ 49)) (by
   rw[bj e1 Hz];exact Zr (.inl ⟨by show -18446744073709551616<h;lia,by show h<18446744073709551616;lia⟩)) (by decide) (by decide:11<12)]
  rfl)]
 rw[ak (U1:=lE (O (.pu (.scr b))) (O (.pu (.lst (f.map T.str)))) (O (.pu (.dct 0 (dT d)))) (O (.pu (D1 a))) a o (1+(n:Int)/40) r p (O (.pu (.int (h*10 ^ 49))))) (by
  have R:gR (af (Q3 (-1)) (af (eN dS (af (ae 6) aC)) (af (e2 bD (e2 bD (eN dS (af (ae 6) aC)) (Q3 1)) (ae 11)) (af (e2 ik (Q3 (-2)) (ae 11)) aC)))) (lE (O (.pu (.scr b))) (O (.pu (.lst (f.map T.str)))) (O (.pu (.dct 0 (dT d)))) (O (.pu (D1 a))) a o (1+(n:Int)/40) q p (O (.pu (.int (h*10 ^ 49)))))=O (.fr,.lst ([-1,(n:Int),(n:Int)+1+h*10 ^ 49,-2-h*10 ^ 49].map T.int)):=by
   unfold gR;rw[dR (x:=(.fr,.int (-1))) M (dR ln (dR (x:=(.fr,.int ((n:Int)+1+h*10 ^ 49))) (by
    rw[bj (x:=(.fr,.int ((n:Int)+1))) (y:=(.fr,.int (h*10 ^ 49))) (by rw[bj ln (y:=(.fr,.int 1)) M];rfl) M];rfl) (dR (x:=(.fr,.int (-2-h*10 ^ 49))) (by
    rw[bj (x:=(.fr,.int (-2))) (y:=(.fr,.int (h*10 ^ 49))) M M];rfl) M)))]
   rfl
  rw[i3 (m:=.fr) (ke R) M];exact Z)]
 have ce:e2 oEq (ae 5) (ae 4) (lE (O (.pu (.scr b))) (O (.pu (.lst (f.map T.str)))) (O (.pu (.dct 0 (dT d)))) (O (.pu (D1 a))) a o (1+(n:Int)/40) r p (O (.pu (.int (h*10 ^ 49)))))=O (.fr,.bl J):=by
  rw[bj (x:=(.pu,bh a)) (y:=(.pu,bh a)) M M];exact vE (wQ a)
 simp only[eE,ce,Zq]
def vN(e:Vw)(_:e.length<=63):nO [.scr e]=O (.fr,.bl J):=by
 obtain⟨bk,g,B,q⟩:=Ay e;obtain⟨o,f⟩:=u6 bk B q;obtain⟨r,hd⟩:=oZ bk;have h:=ny bk B;have j:=uB (found bk) f h;have a:=uF (found bk) (by rw[hd];exact Zx);have D:=BQ bk B f;have nd:=o6 bk;have l:=pG bk;generalize dY (found bk)=st at j a D;have nf:=D.nf;have t:=D.len;have fl:=D.fl;have i:∀s∈st,DG s∈st.flatten:=λs d=>WN.mpr ⟨s,d,rj (a.ne s d)⟩;have p:∀x∈st.flatten,x.drop 1∈st.flatten:=λx m=>a.pm.mem_iff.mpr (l x (a.pm.mem_iff.mp m));have n:=yy st (λs d=>⟨a.ne s d,(h _ (a.pm.mem_iff.mp (i s d))).2,λ_=>p _ (i s d)⟩) (by lia);have hw:wd st=cV (aO (found bk)):=zQ (pS st) nd (λx=>a.pm.mem_iff.symm.trans decide_eq_true_iff.symm) (by
  obtain⟨b,g⟩:=D.z0;exact ZT (by rw[g];simp)) D.FH D.cl D.ab
 exact zR e bk (found bk) st D hw f.1 h a.pm.length_eq.symm (by rw[hd];simp) g o j (sq st nf (by lia)) n
end T26
end
section
namespace T26
open PySem PySem.Spec PyProof.Rows p0 VS
def qv{G:Gx}{X:Cx}{x:Str}{p:Pos}(i:Nat)(a:X.N[i]?=O x:=by exact rfl)(b:FX X.env.scope x:=by exact Or.inl M)(c:K2 x:=by rfl)(d:K3 x:=by rfl):PV G X (.Name x p) (ae i):=dF i a b c d
def Q4{α:Sort _}{x:α}{b:Prop}:x=x∨b:=.inl M
abbrev Q5:List Str:=["_law_cell_here"]
abbrev Q6:List Str:=["_law_k", "_law_cell_here", "_law_start", "_law_step"]
abbrev Q7:List Str:=["_law_script", "_law_k"]
abbrev Q8:List Str:=["_law_script", "_law_most"]
abbrev Q9:List Str:=["_law_script"]
abbrev Qa:List Str:=["_law_some", "_law_found", "_law_groups", "_law_word"]
abbrev Qb:List Str:=["_law_stands_here", "_law_numbers_here"]
abbrev Qc:List Str:=["_law_stands_here"]
abbrev Qd:List Str:=["row", "table", "onward", "stand"]
abbrev Qe:List Str:=["way", "table", "onward", "stand"]
abbrev Qf:List Str:=["ways", "onward", "ahead"]
abbrev Qg:List Str:=["ways", "onward", "sign"]
def top(i:Nat):Stmt:=PySem.Challenge.pw_allparts_k26_parts_by_numbers.main.body.getD i (.Pass ⟨0,0,0,0⟩)
structure FZ(mg:X2):Prop where
 ER:mg "enumerate" = none
 FQ:mg "isinstance" = none
 DR:mg "len" = none
 HA:mg "list" = none
 IZ:mg "min" = none
 DQ:mg "range" = none
 E7:mg "sorted" = none
 Lv:mg "str" = none
 IW:mg "sum" = none
 GV:mg "tuple" = none
section
variable{P:PP}{w:SL}{K:Xj}{mg:X2}{base:SC}
abbrev bV:Stmt:=top 3
def jC:xa Qg Qg (aq bV):=⟨rfl,rfl,rfl,by decide +kernel,rfl,by decide +kernel,by decide +kernel⟩
def bu{f:GM}{d:On}(F:EH K "onward_below" "onward_below" bV f d)(a:mg "onward_below" = O (.ref f))(B:FZ mg) :
  FnAt P w K mg base 1 "onward_below" Qg (DW K) bq:=fF F a jC M M (λ_ _ _ _ _ _ e b=>by obtain⟨_,_,_,rfl⟩:=p0.C0 b;rfl) λh A outer s H E g =>
  (aE (bQ (w_sum B.IW (aa (lh 1 ["way", "ways", "onward", "sign"] M (ef (qv 0)) (iI) (λ_ _ _ _ _=>(aU 0 (show List.Nodup (["way", "ways", "onward", "sign"]:List Str) from by decide +kernel) M Q4 (Or.inr M))) (λ_ _ _ _ _=>(eU qd vL iY (aZ (qv 0) ag (λ_ _=>rfl)) (dF 3 M (Or.inr Q4) M M) (gr _))) (λ_ _ _ _ _=>(aZ (dF 2 M (Or.inr Q4) M M) (aZ (qv 0) ag (λ_ _=>rfl)) (λ_ _=>rfl))) M M (by decide)) aj))))
abbrev bH:Stmt:=top 2
def d5:xa ["table", "onward", "stand"] ["table"] (aq bH):=⟨rfl,rfl,rfl,by decide +kernel,rfl,by decide +kernel,by decide +kernel⟩
def cj{f:GM}{b:On}(F:EH K "onward_counts" "onward_counts" bH f b)(g:mg "onward_counts" = O (.ref f))(B:FZ mg){e d:GM}(j:PySem.W.codeHdIn K e d=J)(LT:Tb base d "onward_counts.<locals>.<lambda>")(l:Bm mg base)(i:b.code=.ref e) :
  FnAt P w K mg base 4 "onward_counts" ["table"] (DW K) bJ:=Bc F g i d5 M M (λ_ _ _ _ _ _ m h=>by obtain⟨_,rfl⟩:=p0.mh h;rfl) λA outer s H E a=>(
  (ah (fR (mI 1 Qd M (ef (dF 0 M (Or.inr Q4) M M)) (iI) (λ_ _ _ _ _=>(aU 0 (show List.Nodup Qd from by decide +kernel) M Q4 (Or.inr M))) (λ_ _ _ _ _=>ag) M M (by decide)) d5.nd M (Or.inr M))
  (ah (AO Yq M (xI (k0:=0) (y := "number") (N:=["table", "onward", "stand"]) a (by decide) B.E7 B.DQ (fA B.DR (aa (dF 0 M (Or.inr Q4) M M) aj)) uN (λ_ _ _ _ _ _ a=>((aZ (aZ (dF 1 M (Or.inr (Or.inr M)) M M) (qv 0) (λ_ _=>rfl)) ag (λ_ _=>rfl)))) j LT l M M M M M M M M M M M M M M (λ_ _ _ _ _=>rfl) M M) (aU 2 d5.nd M Q4 Q4)
  (aE (B4 1 (qZ _) a (qv 2) (w_add ag (w_sum B.IW (aa (mI 1 Qe M (ef (aZ (aZ (dF 0 M (Or.inr Q4) M M) (qv 2) (λ_ _=>rfl)) ag (λ_ _=>rfl))) (iI) (λ_ _ _ _ _=>(aU 0 (show List.Nodup Qe from by decide +kernel) M Q4 (Or.inr M))) (λ_ _ _ _ _=>(aZ (dF 2 M (Or.inr Q4) M M) (aZ (qv 0) ag (λ_ _=>rfl)) (λ_ _=>rfl))) M M (by decide)) aj))) M (Or.inr Q4) M M (λ_=>rfl) M M M)) (λ_=>rfl))
  (aE (gg 1 M (Or.inr Q4) M M)))))
abbrev cK:Stmt:=top 4
def kW:xa Qf Qf (aq cK):=⟨rfl,rfl,rfl,by decide +kernel,rfl,by decide +kernel,by decide +kernel⟩
def dG{f:GM}{e:On}(F:EH K "way_toward" "way_toward" cK f e)(b:mg "way_toward" = O (.ref f))(B:FZ mg)(g:FnAt P w K mg base 1 "onward_below" Qg (DW K) bq) :
  FnAt P w K mg base 2 "way_toward" Qf (DW K) dD:=fF F b kW M M (λ_ _ _ _ _ _ h d=>by obtain⟨_,_,_,rfl⟩:=p0.C0 d;rfl) λi A outer s H E a =>
  (aE (bQ (aZ (lh 1 ["way", "ways", "onward", "ahead"] M (ef (dF 0 M (Or.inr Q4) M M)) (iI) (λ_ _ _ _ _=>(aU 0 (show List.Nodup (["way", "ways", "onward", "ahead"]:List Str) from by decide +kernel) M Q4 (Or.inr M))) (λ_ _ _ _ _=>(eU u5 zj nZ (aT g a (aa (dF 1 M (Or.inr Q4) M M) (aa (dF 2 M (Or.inr Q4) M M) (aa (aZ (qv 0) ag (λ_ _=>rfl)) aj))) (by decide) M M) (dF 3 M (Or.inr Q4) M M) (gr _))) (λ_ _ _ _ _=>(qv 0)) M M (by decide)) nK (λ_ _=>rfl))))
abbrev ff:Stmt:=top 1
def bN:xa ["table", "number", "onward", "word", "ways", "ahead", "way"] ["table", "number"] (aq ff):=⟨rfl,rfl,rfl,by decide +kernel,rfl,by decide +kernel,by decide +kernel⟩
def eZ{f:GM}{e:On}(F:EH K "part_at" "part_at" ff f e)(b:mg "part_at" = O (.ref f))(B:FZ mg)(i:FnAt P w K mg base 1 "onward_below" Qg (DW K) bq)(h:FnAt P w K mg base 4 "onward_counts" ["table"] (DW K) bJ)(g:FnAt P w K mg base 2 "way_toward" Qf (DW K) dD) :
  FnAt P w K mg base 5 "part_at" ["table", "number"] (DW K) dw:=fF F b bN M M (λ_ _ _ _ _ _ j d=>by obtain⟨_,_,rfl⟩:=p0.pD d;rfl) λl A outer s H E a =>
  (ah (ar (aT h a (aa (qv 0) aj) (by decide) M M) bN.nd M Q4)
  (ah (d6 (qo (j1 ag (qv 1) (w_sub (aZ (qv 2) ag (λ_ _=>rfl)) ag) (by with_unfolding_all rfl))) (aE (bQ v3)) df)
  (ah (ar (ji (by decide +kernel) (by decide)) bN.nd M Q4)
  (ah (ar (aZ (aZ (qv 0) ag (λ_ _=>rfl)) ag (λ_ _=>rfl)) bN.nd M Q4)
  (ah (ar (w_add (qv 1) ag) bN.nd M Q4)
  (ah (rX Yq (lj (qv 5) ag)
  (ah (ar (w_sub (qv 5) ag) bN.nd M Q4)
  (ah (ar (aT g a (aa (qv 4) (aa (qv 2) (aa (qv 5) aj))) (by decide) M M) bN.nd M Q4)
  (ah (ar (w_sub (qv 5) (aT i a (aa (qv 4) (aa (qv 2) (aa (aZ (qv 6) ag (λ_ _=>rfl)) aj))) (by decide) M M)) bN.nd M Q4)
  (ah (ar (w_add (qv 3) (aZ (qv 6) ag (λ_ _=>rfl))) bN.nd M Q4)
  (aE (ar (aZ (aZ (qv 0) (aZ (qv 6) ag (λ_ _=>rfl)) (λ_ _=>rfl)) ag (λ_ _=>rfl)) bN.nd M Q4)))))))
  (aE (gg 3 M (Or.inl M) M M))))))))
abbrev d3:Stmt:=top 6
def oz:xa Q7 Q7 (aq d3):=⟨rfl,rfl,rfl,by decide +kernel,rfl,by decide +kernel,by decide +kernel⟩
def d7{f:GM}{d:On}(F:EH K "_law_cell" "_law_cell" d3 f d)(a:mg "_law_cell" = O (.ref f))(B:FZ mg) :
  FnAt P w K mg base 1 "_law_cell" Q7 (DW K) dZ:=fF F a oz M M (λ_ _ _ _ _ _ e b=>by obtain⟨_,_,rfl⟩:=p0.pD b;rfl) λh A outer s H E g =>
  (ah (d6 (eU qd vL iY (qv 1) (fA B.DR (aa (qv 0) aj)) (gr _)) (aE (bQ (aZ (qv 0) (qv 1) (λ_ _=>rfl)))) df)
  (aE (bQ ag)))
abbrev du:Stmt:=top 7
def cP:xa ["_law_script", "_law_k", "_law_cell_here", "_law_number"] Q7 (aq du):=⟨rfl,rfl,rfl,by decide +kernel,rfl,by decide +kernel,by decide +kernel⟩
def aF{f:GM}{d:On}(F:EH K "_law_mixed" "_law_mixed" du f d)(a:mg "_law_mixed" = O (.ref f))(B:FZ mg) :
  FnAt P w K mg base 1 "_law_mixed" Q7 (DW K) ao:=fF F a cP M M (λ_ _ _ _ _ _ e b=>by obtain⟨_,_,rfl⟩:=p0.pD b;rfl) λh A outer s H E g =>
  (ah (ar ag cP.nd M Q4)
  (ah (d6 (lj (fA B.DR (aa (qv 0) aj)) ag) (aE (ar (aZ (qv 0) (w_mod (qv 1) (fA B.DR (aa (qv 0) aj))) (λ_ _=>rfl)) cP.nd M Q4)) df)
  (ah (ar (w_mod (w_mul (w_add (w_add (w_mod (qv 2) ag) (w_mul ag (qv 1))) ag) ag) ag) cP.nd M Q4)
  (ah (ar (w_mod (w_mul (qv 3) (qv 3)) ag) cP.nd M Q4)
  (ah (ar (w_mod (w_mul (w_add (qv 3) (qv 1)) ag) ag) cP.nd M Q4)
  (aE (bQ (fX (w_mod (w_mul (qv 3) (qv 3)) ag) ag))))))))
abbrev dv:Stmt:=top 8
def gw:xa ["_law_cell_here", "_law_start", "_law_step"] Q5 (aq dv):=⟨rfl,rfl,rfl,by decide +kernel,rfl,by decide +kernel,by decide +kernel⟩
def bw{f:GM}{d:On}(F:EH K "_law_signs" "_law_signs" dv f d)(a:mg "_law_signs" = O (.ref f))(B:FZ mg) :
  FnAt P w K mg base 1 "_law_signs" Q5 (DW K) bE:=fF F a gw M M (λ_ _ _ _ _ _ e b=>by obtain⟨_,rfl⟩:=p0.mh b;rfl) λh A outer s H E g =>
  (ah (ar (w_mod (qv 0) ag) gw.nd M (Or.inr M))
  (ah (ar (aZ (fY (aa ag (aa ag (aa ag (aa ag (aa ag aj)))))) (w_mod (fX (qv 0) ag) ag) (λ_ _=>rfl)) gw.nd M (Or.inr M))
  (aE (bQ (mI 1 Q6 M (dk ag M B.DQ) (iI) (λ_ _ _ _ _=>(aU 0 (show List.Nodup Q6 from by decide +kernel) M Q4 (Or.inr M))) (λ_ _ _ _ _=>(aZ (ji (by decide +kernel) (by decide)) (w_mod (w_add (dF 2 M (Or.inr Q4) M M) (w_mul (dF 3 M (Or.inr Q4) M M) (qv 0))) ag) (λ_ _=>rfl))) M M (by decide))))))
abbrev bK:Stmt:=top 9
def aH:xa ["_law_cell_here", "_law_signs_here", "_law_some", "_law_many", "_law_room", "_law_book_here", "_law_k", "_law_size", "_law_text", "_law_j"] Q5 (aq bK):=⟨rfl,rfl,rfl,by decide +kernel,rfl,by decide +kernel,by decide +kernel⟩
def cm{f:GM}{e:On}(F:EH K "_law_by_digits" "_law_by_digits" bK f e)(b:mg "_law_by_digits" = O (.ref f))(B:FZ mg)(g:FnAt P w K mg base 1 "_law_signs" Q5 (DW K) bE) :
  FnAt P w K mg base 2 "_law_by_digits" Q5 (DW K) cw:=fF F b aH M M (λ_ _ _ _ _ _ h d=>by obtain⟨_,rfl⟩:=p0.mh d;rfl) λi A outer s H E a =>
  (ah (ar (aT g a (aa (qv 0) aj) (by decide) M M) aH.nd M Q4)
  (ah (ar (aZ (fY (aa ag (aa ag (aa ag (aa ag (aa ag (aa ag (aa ag (aa ag aj))))))))) (w_mod (fX (qv 0) ag) ag) (λ_ _=>rfl)) aH.nd M Q4)
  (ah (ar (w_mod (fX (qv 0) ag) ag) aH.nd M Q4)
  (ah (ar (fX (qv 0) ag) aH.nd M Q4)
  (ah (ar ag aH.nd M Q4)
  (ah (fR (fY aj) aH.nd M Q4)
  (ah (cD Yq M (dk (qv 3) M B.DQ) (aU 6 aH.nd M Q4 Q4)
  (ah (ar (wy B.IZ (aa (qv 4) (aa (w_mod (qv 0) ag) aj))) aH.nd M Q4)
  (ah (ar (fX (qv 0) ag) aH.nd M Q4)
  (ah (ar (w_sub (qv 4) (qv 7)) aH.nd M Q4)
  (ah (ar (ji (by decide +kernel) (by decide)) aH.nd M Q4)
  (ah (cD Yq M (dk (qv 7) M B.DQ) (aU 9 aH.nd M Q4 Q4)
  (ah (ar (w_add (qv 8) (aZ (qv 1) (w_mod (qv 0) (qv 2)) (λ_ _=>rfl))) aH.nd M Q4)
  (aE (ar (fX (qv 0) (qv 2)) aH.nd M Q4))))
  (aE (gO 5 (aa (qv 8) aj) M M Q4 M M))))))))
  (aE (gg 5 M (Or.inl M) M M)))))))))
abbrev bI:Stmt:=top 10
def aI:xa ["_law_script", "_law_most", "_law_signs_here", "_law_some", "_law_room", "_law_book_here", "_law_k", "_law_size", "_law_back", "_law_text", "_law_j", "_law_number"] Q8 (aq bI):=⟨rfl,rfl,rfl,by decide +kernel,rfl,by decide +kernel,by decide +kernel⟩
def cx{f:GM}{g:On}(F:EH K "_law_by_mixing" "_law_by_mixing" bI f g)(d:mg "_law_by_mixing" = O (.ref f))(B:FZ mg)(b:FnAt P w K mg base 1 "_law_mixed" Q7 (DW K) ao)(h:FnAt P w K mg base 1 "_law_signs" Q5 (DW K) bE) :
  FnAt P w K mg base 2 "_law_by_mixing" Q8 (DW K) cp:=fF F d aI M M (λ_ _ _ _ _ _ i e=>by obtain⟨_,_,rfl⟩:=p0.pD e;rfl) λj A outer s H E a =>
  (ah (ar (aT h a (aa (aT b a (aa (qv 0) (aa ag aj)) (by decide) M M) aj) (by decide) M M) aI.nd M Q4)
  (ah (ar (aZ (fY (aa ag (aa ag (aa ag (aa ag (aa ag (aa ag (aa ag (aa ag aj))))))))) (w_mod (aT b a (aa (qv 0) (aa ag aj)) (by decide) M M) ag) (λ_ _=>rfl)) aI.nd M Q4)
  (ah (ar (qv 1) aI.nd M Q4)
  (ah (fR (fY aj) aI.nd M Q4)
  (ah (cD Yq M (dk (w_mod (aT b a (aa (qv 0) (aa ag aj)) (by decide) M M) ag) M B.DQ) (aU 6 aI.nd M Q4 Q4)
  (ah (ar (wy B.IZ (aa (qv 4) (aa (w_mod (aT b a (aa (qv 0) (aa (w_add (w_mul ag (qv 6)) ag) aj)) (by decide) M M) (w_add (qv 1) ag)) aj))) aI.nd M Q4)
  (ah (ar (w_sub (qv 4) (qv 7)) aI.nd M Q4)
  (ah (ar (w_add ag (w_mod (aT b a (aa (qv 0) (aa (w_add (w_mul ag (qv 6)) ag) aj)) (by decide) M M) ag)) aI.nd M Q4)
  (ah (ar (ji (by decide +kernel) (by decide)) aI.nd M Q4)
  (ah (cD Yq M (dk (qv 7) M B.DQ) (aU 10 aI.nd M Q4 Q4)
  (ah (ar (aT b a (aa (qv 0) (aa (w_add (w_add (w_mul ag (qv 6)) ag) (qv 10)) aj)) (by decide) M M) aI.nd M Q4)
  (aE (d6 (HR.LQ (jJ (zk (fA B.DR (aa (qv 9) aj)) (qv 8)) (ml (lj (w_mod (qv 11) ag) ag)))) (aE (ar (w_add (qv 9) (aZ (qv 9) (w_sub (fA B.DR (aa (qv 9) aj)) (qv 8)) (λ_ _=>rfl))) aI.nd M Q4)) (aE (ar (w_add (qv 9) (aZ (qv 2) (w_mod (fX (qv 11) ag) (qv 3)) (λ_ _=>rfl))) aI.nd M Q4))))))
  (ah (gO 5 (aa (qv 9) aj) M M Q4 M M)
  (aE (d6 (HR.LQ (jJ (lj (qv 7) ag) (jJ (rO a (w_mod (aT b a (aa (qv 0) (aa (w_add (w_mul ag (qv 6)) ag) aj)) (by decide) M M) ag) ag) (ml (zk (qv 4) ag))))) (ah (gO 5 (aa (eJ (qv 9) (cf ag) (cf ag)) aj) M M Q4 M M)
  (aE (ar (w_sub (qv 4) ag) aI.nd M Q4))) df)))))))))
  (rn 5 (aE (bQ (eJ (qv 5) fD (cf ag))))))))))
abbrev dn:Stmt:=top 11
def dA:xa ["_law_script", "_law_signs_here", "_law_text", "_law_at"] Q9 (aq dn):=⟨rfl,rfl,rfl,by decide +kernel,rfl,by decide +kernel,by decide +kernel⟩
def eu{f:GM}{g:On}(F:EH K "_law_great" "_law_great" dn f g)(d:mg "_law_great" = O (.ref f))(B:FZ mg)(b:FnAt P w K mg base 1 "_law_mixed" Q7 (DW K) ao)(h:FnAt P w K mg base 1 "_law_signs" Q5 (DW K) bE) :
  FnAt P w K mg base 2 "_law_great" Q9 (DW K) dm:=fF F d dA M M (λ_ _ _ _ _ _ i e=>by obtain⟨_,rfl⟩:=p0.mh e;rfl) λj A outer s H E a =>
  (ah (ar (aT h a (aa (aT b a (aa (qv 0) (aa ag aj)) (by decide) M M) aj) (by decide) M M) dA.nd M Q4)
  (ah (ar (ku yh xw (aZ (qv 1) ag (λ_ _=>rfl)) (w_add ag (w_mod (aT b a (aa (qv 0) (aa ag aj)) (by decide) M M) ag))) dA.nd M Q4)
  (ah (d6 (rO a (w_mod (aT b a (aa (qv 0) (aa ag aj)) (by decide) M M) ag) ag) (ah (ar (w_mod (aT b a (aa (qv 0) (aa ag aj)) (by decide) M M) (fA B.DR (aa (qv 2) aj))) dA.nd M Q4)
  (aE (ar (w_add (w_add (eJ (qv 2) fD (cf (qv 3))) (aZ (qv 1) ag (λ_ _=>rfl))) (eJ (qv 2) (cf (w_add (qv 3) ag)) fD)) dA.nd M Q4))) df)
  (aE (bQ (fY (aa (qv 2) aj)))))))
abbrev dW:Stmt:=top 12
def ot:xa Q8 Q8 (aq dW):=⟨rfl,rfl,rfl,by decide +kernel,rfl,by decide +kernel,by decide +kernel⟩
def fu{f:GM}{h:On}(F:EH K "_law_book" "_law_book" dW f h)(e:mg "_law_book" = O (.ref f))(B:FZ mg)(l:FnAt P w K mg base 2 "_law_by_digits" Q5 (DW K) cw)(j:FnAt P w K mg base 2 "_law_by_mixing" Q8 (DW K) cp)(b:FnAt P w K mg base 1 "_law_cell" Q7 (DW K) dZ)(i:FnAt P w K mg base 2 "_law_great" Q9 (DW K) dm)(d:FnAt P w K mg base 1 "_law_mixed" Q7 (DW K) ao) :
  FnAt P w K mg base 3 "_law_book" Q8 (DW K) d4:=fF F e ot M M (λ_ _ _ _ _ _ m g=>by obtain⟨_,_,rfl⟩:=p0.pD g;rfl) λn A outer s H E a =>
  (ah (d6 (rO a (w_mod (aT b a (aa (qv 0) (aa ag aj)) (by decide) M M) ag) ag) (aE (bQ (aT l a (aa (fX (aT b a (aa (qv 0) (aa ag aj)) (by decide) M M) ag) aj) (by decide) M M))) df)
  (ah (d6 (HR.LQ (jJ (lj (qv 1) ag) (ml (rO a (w_mod (aT d a (aa (qv 0) (aa ag aj)) (by decide) M M) ag) ag)))) (aE (bQ (aT i a (aa (qv 0) aj) (by decide) M M))) df)
  (aE (bQ (aT j a (aa (qv 0) (aa (aZ (fY (aa ag (aa ag (aa ag (aa (qv 1) aj))))) (w_mod (aT d a (aa (qv 0) (aa ag aj)) (by decide) M M) ag) (λ_ _=>rfl)) aj)) (by decide) M M)))))
abbrev cN:Stmt:=top 13
def cy:xa ["_law_book_here", "_law_found", "_law_number", "_law_text", "_law_end", "_law_start"] ["_law_book_here"] (aq cN):=⟨rfl,rfl,rfl,by decide +kernel,rfl,by decide +kernel,by decide +kernel⟩
def dN{f:GM}{d:On}(F:EH K "_law_places" "_law_places" cN f d)(a:mg "_law_places" = O (.ref f))(B:FZ mg) :
  FnAt P w K mg base 1 "_law_places" ["_law_book_here"] (DW K) cQ:=fF F a cy M M (λ_ _ _ _ _ _ e b=>by obtain⟨_,rfl⟩:=p0.mh b;rfl) λh A outer s H E g =>
  (ah (fR (yN (by decide +kernel) (by decide)) cy.nd M Q4)
  (ah (cD Yq M (oM (qv 0) M B.ER) (q0 M (hV (aU 2 cy.nd M Q4 Q4) (hV (aU 3 cy.nd M Q4 Q4) oC)))
  (aE (cD Yq M (dk (w_add (fA B.DR (aa (qv 3) aj)) ag) M B.DQ) (aU 4 cy.nd M Q4 Q4)
  (aE (cD Yq M (dk (w_add (qv 4) ag) M B.DQ) (aU 5 cy.nd M Q4 Q4)
  (aE (uT (qZ _) 1 (eJ (qv 3) (cf (qv 5)) (cf (qv 4))) (aa (mw (aa (qv 2) (aa (qv 4) aj))) aj)  rfl M Q4 M M M M M M M M M M M M M M)))))))
  (aE (gg 1 M (Or.inl M) M M))))
abbrev cA:Stmt:=top 14
def kH:xa ["_law_word"] ["_law_word"] (aq cA):=⟨rfl,rfl,rfl,by decide +kernel,rfl,by decide +kernel,by decide +kernel⟩
def cW{f:GM}{d:On}(F:EH K "_law_by_size" "_law_by_size" cA f d)(a:mg "_law_by_size" = O (.ref f))(B:FZ mg) :
  FnAt P w K mg base 1 "_law_by_size" ["_law_word"] (DW K) d8:=fF F a kH M M (λ_ _ _ _ _ _ e b=>by obtain⟨_,rfl⟩:=p0.mh b;rfl) λh A outer s H E g =>
  (aE (bQ (mw (aa (fA B.DR (aa (qv 0) aj)) (aa (qv 0) aj)))))
abbrev cO:Stmt:=top 15
def fZ:xa ["_law_found", "_law_groups", "_law_word"] ["_law_found"] (aq cO):=⟨rfl,rfl,rfl,by decide +kernel,rfl,by decide +kernel,by decide +kernel⟩
def dC{f:GM}{e:On}(F:EH K "_law_stands" "_law_stands" cO f e)(b:mg "_law_stands" = O (.ref f))(B:FZ mg)(g:FnAt P w K mg base 1 "_law_by_size" ["_law_word"] (DW K) d8) :
  FnAt P w K mg base 4 "_law_stands" ["_law_found"] (DW K) cJ:=fF F b fZ M M (λ_ _ _ _ _ _ h d=>by obtain⟨_,rfl⟩:=p0.mh d;rfl) λi A outer s H E a =>
  (ah (fR yx fZ.nd M (Or.inr M))
  (ah (cD Yq M (ef (si g (by decide) kC a B.E7 (aa (qv 0) aj) M M M M M M)) (aU 2 fZ.nd M Q4 Q4)
  (aE (tj 1 a (qO B.GV (aa (Bx a (qv 0) (qv 2) (λ_ _=>rfl)) aj)) (aa (qv 2) aj)  rfl M (Or.inr Q4) M M M M M M M M M M M M M M)))
  (aE (sT 1 Qa a M M (Or.inr Q4) M M (λ_ _ _ _ _=>⟨p0.rG (show List.Nodup Qa from by decide +kernel) M Q4 (Or.inr M),p0.fh M (Or.inr Q4) M M,p0.fh M Q4 M M,rfl⟩) (λ_ _=>rfl) M M (by decide) (λ_=>rfl)))))
abbrev cz:Stmt:=top 16
def cE:xa ["_law_stands_here", "_law_numbers_here", "_law_k", "_law_some", "_law_word"] Qc (aq cz):=⟨rfl,rfl,rfl,by decide +kernel,rfl,by decide +kernel,by decide +kernel⟩
def cX{f:GM}{e:On}(F:EH K "_law_numbers" "_law_numbers" cz f e)(b:mg "_law_numbers" = O (.ref f))(B:FZ mg) :
  FnAt P w K mg base 1 "_law_numbers" Qc (DW K) bO:=fF F b cE M M (λ_ _ _ _ _ _ g d=>by obtain⟨_,rfl⟩:=p0.mh d;rfl) λh A outer s H E a =>
  (ah (fR zM cE.nd M Q4)
  (ah (cD Yq M (oM (qv 0) M B.ER) (q0 M (hV (aU 2 cE.nd M Q4 Q4) (hV (aU 3 cE.nd M Q4 Q4) oC)))
  (aE (cD Yq M (ef (qv 3)) (aU 4 cE.nd M Q4 Q4)
  (aE (AN 1 a (qv 4) (qv 2) M Q4 M M (λ_=>rfl) M M M)))))
  (aE (gg 1 M (Or.inl M) M M))))
abbrev dy:Stmt:=top 17
def bZ:xa ["_law_stands_here", "_law_numbers_here", "_law_table_here", "_law_some", "_law_ways", "_law_sign", "_law_link"] Qb (aq dy):=⟨rfl,rfl,rfl,by decide +kernel,rfl,by decide +kernel,by decide +kernel⟩
def eD{f:GM}{e:On}(F:EH K "_law_table" "_law_table" dy f e)(b:mg "_law_table" = O (.ref f))(B:FZ mg) :
  FnAt P w K mg base 1 "_law_table" Qb (DW K) dz:=fF F b bZ M M (λ_ _ _ _ _ _ g d=>by obtain⟨_,_,rfl⟩:=p0.pD d;rfl) λh A outer s H E a =>
  (ah (fR (fY aj) bZ.nd M Q4)
  (ah (cD Yq M (ef (qv 0)) (aU 3 bZ.nd M Q4 Q4)
  (ah (fR (fY aj) bZ.nd M Q4)
  (ah (cD Yq M (ef (ji (by decide +kernel) (by decide))) (aU 5 bZ.nd M Q4 Q4)
  (aE (d6 (B3 a (w_add (aZ (qv 3) ag (λ_ _=>rfl)) (qv 5)) (qv 1) (by with_unfolding_all rfl) M) (aE (gO 4 (aa (mw (aa (qv 5) (aa (Bx a (qv 1) (w_add (aZ (qv 3) ag (λ_ _=>rfl)) (qv 5)) (λ_ _=>rfl)) aj))) aj) M M Q4 M M)) df)))
  (rn 4 (ah (ar v3 bZ.nd M Q4)
  (ah (d6 (eU (uD a.units) zC oN (aZ (qv 3) ag (λ_ _=>rfl)) (ji (by decide +kernel) (by decide)) (gr _)) (aE (ar (Bx a (qv 1) (eJ (aZ (qv 3) ag (λ_ _=>rfl)) (cf ag) fD) (λ_ _=>rfl)) bZ.nd M Q4)) df)
  (aE (gO 2 (aa (mw (aa (fA B.DR (aa (aZ (qv 3) ag (λ_ _=>rfl)) aj)) (aa (fA B.DR (aa (aZ (qv 3) nK (λ_ _=>rfl)) aj)) (aa (qv 6) (aa (qO B.GV (aa (qv 4) aj)) aj))))) aj) M M Q4 M M))))))))
  (aE (gg 2 M (Or.inl M) M M))))
abbrev iF:Stmt:=top 18
def dP:xa ["_law_script", "_law_book_here", "_law_found", "_law_stands_here", "_law_table_here", "_law_handed", "_law_due", "_law_some", "_law_by", "_law_k", "_law_told", "_law_far"] Q9 (aq iF):=⟨rfl,rfl,rfl,by decide +kernel,rfl,by decide +kernel,by decide +kernel⟩
def AK{f:GM}{b:On}(F:EH K "law" "law" iF f b)(B:FZ mg)(g:FnAt P w K mg base 3 "_law_book" Q8 (DW K) d4)(e:FnAt P w K mg base 1 "_law_mixed" Q7 (DW K) ao)(l:FnAt P w K mg base 1 "_law_numbers" Qc (DW K) bO)(i:FnAt P w K mg base 1 "_law_places" ["_law_book_here"] (DW K) cQ)(j:FnAt P w K mg base 4 "_law_stands" ["_law_found"] (DW K) cJ)(h:FnAt P w K mg base 1 "_law_table" Qb (DW K) dz)(d:FnAt P w K mg base 5 "part_at" ["table", "number"] (DW K) dw) :
  FnOk P w K mg base FC 6 f b Q9 (G0 (DW K) nO):=Qq F dP M M λm A outer s H E a =>
  (ah (ar (aT g a (aa (qv 0) (aa ag aj)) (by decide) M M) dP.nd M Q4)
  (ah (ar (aT i a (aa (qv 1) aj) (by decide) M M) dP.nd M Q4)
  (ah (ar (aT j a (aa (qv 2) aj) (by decide) M M) dP.nd M Q4)
  (ah (ar (aT h a (aa (qv 3) (aa (aT l a (aa (qv 3) aj) (by decide) M M) aj)) (by decide) M M) dP.nd M Q4)
  (ah (ar (yC B.HA (aa (qv 4) aj)) dP.nd M Q4)
  (ah (ar (eJ (vO B.E7 (aa (qv 2) aj)) (cf ag) fD) dP.nd M Q4)
  (ah (ar (u9 B.HA B.DQ (aa (fA B.DR (aa (qv 6) aj)) aj) M M M M M) dP.nd M Q4)
  (ah (ar (w_add ag (fX (fA B.DR (aa (qv 6) aj)) ag)) dP.nd M Q4)
  (ah (d6 (lj (qv 8) ag) (aE (ar (w_add (vo (qv 7) (cf (w_mod (aT e a (aa (qv 0) (aa ag aj)) (by decide) M M) (qv 8))) fD (cf (qv 8)) M) (eJ (qv 7) (cf nK) fD)) dP.nd M Q4)) df)
  (ah (cD Yq M (ef (qv 7)) (aU 9 dP.nd M Q4 Q4)
  (ah (ar (aT d a (aa (qv 5) (aa (qv 9) aj)) (by decide) M M) dP.nd M Q4)
  (aE (d6 (HR.LQ (AE (qo (yK (w_is .str B.FQ B.Lv (qv 10)))) (zH (eU (uD a.units) zC oN (qv 10) (aZ (qv 6) (qv 9) (λ_ _=>rfl)) (gr _))))) (aE (bQ uN)) df))))
  (ah (ar (w_mul (aT e a (aa (qv 0) (aa ag aj)) (by decide) M M) (ku Am Aa ag ag)) dP.nd M Q4)
  (ah (cD Yq M (ef (fY (aa nK (aa (fA B.DR (aa (qv 6) aj)) (aa (w_add (w_add (fA B.DR (aa (qv 6) aj)) ag) (qv 11)) (aa (w_sub nK (qv 11)) aj)))))) (aU 9 dP.nd M Q4 Q4)
  (aE (d6 (yf (aT d a (aa (qv 5) (aa (qv 9) aj)) (by decide) M M)) (aE (bQ uN)) df)))
  (aE (bQ (Bu (vp a.units) zB (qv 5) (qv 4) (gr _))))))))))))))))
end
def all_mk{l:PySem.W.OpenLaw}{w:SL}{K:Xj}{h:SC}{a:X2}{H r q o n m j i g f d u x y z A C t:GM}(X:K.In h)(G:h.Ns mainGlobals a)(Tv:a "law" = O (.ref H)){R1 UM RZ UL RY UK RX UJ RW UI RV UH RU UG RT UE RS UD RR UC MZ O4 MY O3 MX O2 MW O1 MV O0 MU OZ MT Lx:Option GM}{Rq Ro Rn Kn Rm Rl Rk Rj Ri Rh MB MA Mz My Mx Mw Mv:Array (Wd)}{Se SG Ul RG N Uw Sd SF Uk RF Uv Sb SE Uj RE Q Uu Sa SD Ui RD R Ut R9 SA Uh RC U Us R8 Sy Ug RB Z Ur R7 Sw Ue RA QB Uq R6 Sv Ud Rz QA Up R5 Su Uc Ry I Uo R3 Ss Ub Rx L Um M7 Nr OP MO Lr OV M6 Nq OO MN Lp OU M5 Np ON MM Lo OT M4 Nn OM ML Ln OS M3 Nm OL MK Lm OR M1 Nl OK MJ Ll OQ M0 Kx Li Kr D Lj:IR}{b D0:GM}(NS:∀ns:Vw,ns.length<=63->nO [.scr ns]=O (.fr,.bl J))(a0:PySem.W.nsIn K mainGlobals "onward_below" = O (O (.ref r)))(l0:K.lookup r=O ⟨Se,R1,.func (PySem.W.fnOf "onward_below" "onward_below" (aY bV) (aS bV) (aq bV) .none SG Ul RG UM N Uw),Rq⟩)(c0:PySem.W.codeIn K N "onward_below" = J)(k0:PySem.W.keepIn K (.ref r)=J)(a1:PySem.W.nsIn K mainGlobals "onward_counts" = O (O (.ref q)))(l1:K.lookup q=O ⟨Sd,RZ,.func (PySem.W.fnOf "onward_counts" "onward_counts" (aY bH) (aS bH) (aq bH) .none SF Uk RF UL (.ref b) Uv),Ro⟩)(c1:PySem.W.codeIn K (.ref b) "onward_counts" = J)(k1:PySem.W.keepIn K (.ref q)=J)(h1:PySem.W.codeHdIn K b D0=J)(a2:PySem.W.nsIn K mainGlobals "way_toward" = O (O (.ref o)))(l2:K.lookup o=O ⟨Sb,RY,.func (PySem.W.fnOf "way_toward" "way_toward" (aY cK) (aS cK) (aq cK) .none SE Uj RE UK Q Uu),Rn⟩)(c2:PySem.W.codeIn K Q "way_toward" = J)(k2:PySem.W.keepIn K (.ref o)=J)(a3:PySem.W.nsIn K mainGlobals "part_at" = O (O (.ref n)))(l3:K.lookup n=O ⟨Sa,RX,.func (PySem.W.fnOf "part_at" "part_at" (aY ff) (aS ff) (aq ff) .none SD Ui RD UJ R Ut),Kn⟩)(c3:PySem.W.codeIn K R "part_at" = J)(k3:PySem.W.keepIn K (.ref n)=J)(a4:PySem.W.nsIn K mainGlobals "_law_cell" = O (O (.ref m)))(l4:K.lookup m=O ⟨R9,RW,.func (PySem.W.fnOf "_law_cell" "_law_cell" (aY d3) (aS d3) (aq d3) .none SA Uh RC UI U Us),Rm⟩)(c4:PySem.W.codeIn K U "_law_cell" = J)(k4:PySem.W.keepIn K (.ref m)=J)(a5:PySem.W.nsIn K mainGlobals "_law_mixed" = O (O (.ref j)))(l5:K.lookup j=O ⟨R8,RV,.func (PySem.W.fnOf "_law_mixed" "_law_mixed" (aY du) (aS du) (aq du) .none Sy Ug RB UH Z Ur),Rl⟩)(c5:PySem.W.codeIn K Z "_law_mixed" = J)(k5:PySem.W.keepIn K (.ref j)=J)(a6:PySem.W.nsIn K mainGlobals "_law_signs" = O (O (.ref i)))(l6:K.lookup i=O ⟨R7,RU,.func (PySem.W.fnOf "_law_signs" "_law_signs" (aY dv) (aS dv) (aq dv) .none Sw Ue RA UG QB Uq),Rk⟩)(c6:PySem.W.codeIn K QB "_law_signs" = J)(k6:PySem.W.keepIn K (.ref i)=J)(a7:PySem.W.nsIn K mainGlobals "_law_by_digits" = O (O (.ref g)))(l7:K.lookup g=O ⟨R6,RT,.func (PySem.W.fnOf "_law_by_digits" "_law_by_digits" (aY bK) (aS bK) (aq bK) .none Sv Ud Rz UE QA Up),Rj⟩)(c7:PySem.W.codeIn K QA "_law_by_digits" = J)(k7:PySem.W.keepIn K (.ref g)=J)(a8:PySem.W.nsIn K mainGlobals "_law_by_mixing" = O (O (.ref f)))(l8:K.lookup f=O ⟨R5,RS,.func (PySem.W.fnOf "_law_by_mixing" "_law_by_mixing" (aY bI) (aS bI) (aq bI) .none Su Uc Ry UD I Uo),Ri⟩)(c8:PySem.W.codeIn K I "_law_by_mixing" = J)(k8:PySem.W.keepIn K (.ref f)=J)(a9:PySem.W.nsIn K mainGlobals "_law_great" = O (O (.ref d)))(l9:K.lookup d=O ⟨R3,RR,.func (PySem.W.fnOf "_law_great" "_law_great" (aY dn) (aS dn) (aq dn) .none Ss Ub Rx UC L Um),Rh⟩)(c9:PySem.W.codeIn K L "_law_great" = J)(k9:PySem.W.keepIn K (.ref d)=J)(a10:PySem.W.nsIn K mainGlobals "_law_book" = O (O (.ref u)))(l10:K.lookup u=O ⟨M7,MZ,.func (PySem.W.fnOf "_law_book" "_law_book" (aY dW) (aS dW) (aq dW) .none Nr OP MO O4 Lr OV),MB⟩)(c10:PySem.W.codeIn K Lr "_law_book" = J)(k10:PySem.W.keepIn K (.ref u)=J)(a11:PySem.W.nsIn K mainGlobals "_law_places" = O (O (.ref x)))(l11:K.lookup x=O ⟨M6,MY,.func (PySem.W.fnOf "_law_places" "_law_places" (aY cN) (aS cN) (aq cN) .none Nq OO MN O3 Lp OU),MA⟩)(c11:PySem.W.codeIn K Lp "_law_places" = J)(k11:PySem.W.keepIn K (.ref x)=J)(a12:PySem.W.nsIn K mainGlobals "_law_by_size" = O (O (.ref y)))(l12:K.lookup y=O ⟨M5,MX,.func (PySem.W.fnOf "_law_by_size" "_law_by_size" (aY cA) (aS cA) (aq cA) .none Np ON MM O2 Lo OT),Mz⟩)(c12:PySem.W.codeIn K Lo "_law_by_size" = J)(k12:PySem.W.keepIn K (.ref y)=J)(a13:PySem.W.nsIn K mainGlobals "_law_stands" = O (O (.ref z)))(l13:K.lookup z=O ⟨M4,MW,.func (PySem.W.fnOf "_law_stands" "_law_stands" (aY cO) (aS cO) (aq cO) .none Nn OM ML O1 Ln OS),My⟩)(c13:PySem.W.codeIn K Ln "_law_stands" = J)(k13:PySem.W.keepIn K (.ref z)=J)(a14:PySem.W.nsIn K mainGlobals "_law_numbers" = O (O (.ref A)))(l14:K.lookup A=O ⟨M3,MV,.func (PySem.W.fnOf "_law_numbers" "_law_numbers" (aY cz) (aS cz) (aq cz) .none Nm OL MK O0 Lm OR),Mx⟩)(c14:PySem.W.codeIn K Lm "_law_numbers" = J)(k14:PySem.W.keepIn K (.ref A)=J)(a15:PySem.W.nsIn K mainGlobals "_law_table" = O (O (.ref C)))(l15:K.lookup C=O ⟨M1,MU,.func (PySem.W.fnOf "_law_table" "_law_table" (aY dy) (aS dy) (aq dy) .none Nl OK MJ OZ Ll OQ),Mw⟩)(c15:PySem.W.codeIn K Ll "_law_table" = J)(k15:PySem.W.keepIn K (.ref C)=J)(a16:PySem.W.nsIn K mainGlobals "law" = O (O (.ref t)))(l16:K.lookup t=O ⟨M0,MT,.func (PySem.W.fnOf "law" "law" (aY iF) (aS iF) (aq iF) .none Kx Li Kr Lx D Lj),Mv⟩)(c16:PySem.W.codeIn K D "law" = J)(k16:PySem.W.keepIn K (.ref t)=J)(z_enumerate:PySem.W.nsIn K mainGlobals "enumerate" = O Y)(z_isinstance:PySem.W.nsIn K mainGlobals "isinstance" = O Y)(z_len:PySem.W.nsIn K mainGlobals "len" = O Y)(z_list:PySem.W.nsIn K mainGlobals "list" = O Y)(z_min:PySem.W.nsIn K mainGlobals "min" = O Y)(z_range:PySem.W.nsIn K mainGlobals "range" = O Y)(z_sorted:PySem.W.nsIn K mainGlobals "sorted" = O Y)(z_str:PySem.W.nsIn K mainGlobals "str" = O Y)(z_sum:PySem.W.nsIn K mainGlobals "sum" = O Y)(z_tuple:PySem.W.nsIn K mainGlobals "tuple" = O Y)
  : ∃fd:On,(∀(s:FB)(v:IR),BindsTo s fd ⟨[v],[]⟩ [("_law_script",v)])/\∀base:SC,K.In base->base.Ns mainGlobals a->Bm a base->(∀p∈([(b,D0, "onward_counts.<locals>.<lambda>")]:p0.Lz),Tb base p.2.1 p.2.2)->FnOk l.prog w K a base FC 6 H fd Q9 (G0 (DW K) xp):=by
 have e:=Tv.symm.trans (Yj X G a16);cases e;have B:FZ a:=⟨Ya X G z_enumerate,Ya X G z_isinstance,Ya X G z_len,Ya X G z_list,Ya X G z_min,Ya X G z_range,Ya X G z_sorted,Ya X G z_str,Ya X G z_sum,Ya X G z_tuple⟩
 refine⟨PySem.W.fnOf "law" "law" (aY iF) (aS iF) (aq iF) .none Kx Li Kr Lx D Lj,λs v=>.of_eq M,λbase _ _ Lb Lt=>?_⟩;have bu:=bu (P:=l.prog) (w:=w) (base:=base) (cF (st:=bV) l0 c0 k0) (Yj X G a0) B;have cj:=cj (P:=l.prog) (w:=w) (base:=base) (cF (st:=bH) l1 c1 k1) (Yj X G a1) B h1 (Lt _ (.head _)) Lb M;have dG:=dG (P:=l.prog) (w:=w) (base:=base) (cF (st:=cK) l2 c2 k2) (Yj X G a2) B bu;have eZ:=eZ (P:=l.prog) (w:=w) (base:=base) (cF (st:=ff) l3 c3 k3) (Yj X G a3) B bu cj dG;have d7:=d7 (P:=l.prog) (w:=w) (base:=base) (cF (st:=d3) l4 c4 k4) (Yj X G a4) B;have aF:=aF (P:=l.prog) (w:=w) (base:=base) (cF (st:=du) l5 c5 k5) (Yj X G a5) B;have bw:=bw (P:=l.prog) (w:=w) (base:=base) (cF (st:=dv) l6 c6 k6) (Yj X G a6) B;have cm:=cm (P:=l.prog) (w:=w) (base:=base) (cF (st:=bK) l7 c7 k7) (Yj X G a7) B bw;have cx:=cx (P:=l.prog) (w:=w) (base:=base) (cF (st:=bI) l8 c8 k8) (Yj X G a8) B aF bw;have eu:=eu (P:=l.prog) (w:=w) (base:=base) (cF (st:=dn) l9 c9 k9) (Yj X G a9) B aF bw;have fu:=fu (P:=l.prog) (w:=w) (base:=base) (cF (st:=dW) l10 c10 k10) (Yj X G a10) B cm cx d7 eu aF;have dN:=dN (P:=l.prog) (w:=w) (base:=base) (cF (st:=cN) l11 c11 k11) (Yj X G a11) B;have cW:=cW (P:=l.prog) (w:=w) (base:=base) (cF (st:=cA) l12 c12 k12) (Yj X G a12) B;have dC:=dC (P:=l.prog) (w:=w) (base:=base) (cF (st:=cO) l13 c13 k13) (Yj X G a13) B cW;have cX:=cX (P:=l.prog) (w:=w) (base:=base) (cF (st:=cz) l14 c14 k14) (Yj X G a14) B;have eD:=eD (P:=l.prog) (w:=w) (base:=base) (cF (st:=dy) l15 c15 k15) (Yj X G a15) B;exact w6 M (AK (cF (st:=iF) l16 c16 k16) B fu aF cX dN dC eD eZ) NS
end T26
open PySem PySem.W PyProof.Rows PySem.W.X PySem.W.ZRun
set_option maxRecDepth 100000 in
set_option maxHeartbeats 0 in
theorem PySem.Challenge.cw_allparts_k26_parts_by_numbers_holds : PySem.Challenge.rw_allparts_k26_parts_by_numbers.Holds := by
 w_on;o_law;k_head;(case hw=>w_witness2)
 k_fill
 refine VS.wg (l:=PySem.Challenge.rw_allparts_k26_parts_by_numbers) (k:=6) (x := "_law_script") (tb:=[(25,23, "onward_counts.<locals>.<lambda>")]) rfl rfl ⟨rfl,by decide,by decide⟩ (by decide) (by decide +kernel) (fun _=>by kernel_rfl) (fun _=>(List.forall_mem_cons.mpr ⟨by kernel_rfl,(fun _ h=>nomatch h)⟩)) ?F
 case F =>
  intro w mg fa h KX G hmg
  refine' T26.all_mk KX G hmg T26.vN ?a0 ?l0 ?c0 ?k0 ?a1 ?l1 ?c1 ?k1 ?h1 ?a2 ?l2 ?c2 ?k2 ?a3 ?l3 ?c3 ?k3 ?a4 ?l4 ?c4 ?k4 ?a5 ?l5 ?c5 ?k5 ?a6 ?l6 ?c6 ?k6 ?a7 ?l7 ?c7 ?k7 ?a8 ?l8 ?c8 ?k8 ?a9 ?l9 ?c9 ?k9 ?a10 ?l10 ?c10 ?k10 ?a11 ?l11 ?c11 ?k11 ?a12 ?l12 ?c12 ?k12 ?a13 ?l13 ?c13 ?k13 ?a14 ?l14 ?c14 ?k14 ?a15 ?l15 ?c15 ?k15 ?a16 ?l16 ?c16 ?k16 ?z_enumerate ?z_isinstance ?z_len ?z_list ?z_min ?z_range ?z_sorted ?z_str ?z_sum ?z_tuple
  (case a0=>k_is)
  (case l0=>k_is)
  (case c0=>k_is)
  (case k0=>k_is)
  (case a1=>k_is)
  (case l1=>k_is)
  (case c1=>k_is)
  (case k1=>k_is)
  (case h1=>kernel_rfl)
  (case a2=>k_is)
  (case l2=>k_is)
  (case c2=>k_is)
  (case k2=>k_is)
  (case a3=>k_is)
  (case l3=>k_is)
  (case c3=>k_is)
  (case k3=>k_is)
  (case a4=>k_is)
  (case l4=>k_is)
  (case c4=>k_is)
  (case k4=>k_is)
  (case a5=>k_is)
  (case l5=>k_is)
  (case c5=>k_is)
  (case k5=>k_is)
  (case a6=>k_is)
  (case l6=>k_is)
  (case c6=>k_is)
  (case k6=>k_is)
  (case a7=>k_is)
  (case l7=>k_is)
  (case c7=>k_is)
  (case k7=>k_is)
  (case a8=>k_is)
  (case l8=>k_is)
  (case c8=>k_is)
  (case k8=>k_is)
  (case a9=>k_is)
  (case l9=>k_is)
  (case c9=>k_is)
  (case k9=>k_is)
  (case a10=>k_is)
  (case l10=>k_is)
  (case c10=>k_is)
  (case k10=>k_is)
  (case a11=>k_is)
  (case l11=>k_is)
  (case c11=>k_is)
  (case k11=>k_is)
  (case a12=>k_is)
  (case l12=>k_is)
  (case c12=>k_is)
  (case k12=>k_is)
  (case a13=>k_is)
  (case l13=>k_is)
  (case c13=>k_is)
  (case k13=>k_is)
  (case a14=>k_is)
  (case l14=>k_is)
  (case c14=>k_is)
  (case k14=>k_is)
  (case a15=>k_is)
  (case l15=>k_is)
  (case c15=>k_is)
  (case k15=>k_is)
  (case a16=>k_is)
  (case l16=>k_is)
  (case c16=>k_is)
  (case k16=>k_is)
  (case z_enumerate=>k_is)
  (case z_isinstance=>k_is)
  (case z_len=>k_is)
  (case z_list=>k_is)
  (case z_min=>k_is)
  (case z_range=>k_is)
  (case z_sorted=>k_is)
  (case z_str=>k_is)
  (case z_sum=>k_is)
  (case z_tuple=>k_is)
end
