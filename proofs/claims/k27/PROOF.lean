import PyProof.Rows.All
import Wide.All
import OpenK.AllK
import Wide.FinOn
import Lean
import PyProof.EqAt
import PyProof.EqKinds
import PyProof.TupleCall
import PyProof.Rows.SortShellK
import PyProof.Rows.SortStr
import PyProof.Rows.SortWalk
import PyProof.StrBlockH
import PyProof.StrLawsIn
import PyProof.Rows.SetFrom
import PyProof.CollectWalk
import KE.KDictSum
import PyProof.ListStr
import PyProof.SeqI3
import PyProof.Rows.CallKwBuiltin
import PyProof.ListRange
import PyProof.AttrMissSeq
import PyProof.DictUpdate
import PyProof.DictList
import PyProof.ListNew
import PyProof.FactsAll.dict_1
import PyProof.SliceList
import PyProof.WalkInts
import PyProof.StationsW
import OpenK.KOwn
import KE.KTryMore
import PyProof.NsDelKeeps
import PyProof.ExcArgsOwn
import PyProof.ExcAttrAll.Exception
import OpenK.KDescr
import KE.KIsAll
import PyProof.ExcBaseAll.ValueError
import PyProof.StrBlock
import PyProof.StrCalls
import PyProof.StrLawsOccR
import KE.KDictOf
import PyProof.Rows.Range3
import PyProof.Rows.ZipForRows
import PyProof.Draws
import KE.KLam
import PySem.Challenge.RW_allparts_k27_numbers_of_parts
namespace PySem.W.Fast
def tw445962363796093396:True:=⟨⟩
def tw17414209735828953689:True:=⟨⟩
def tw9088290569685586009:True:=⟨⟩
def tw1201863055905943491:True:=⟨⟩
def tw1441341498020379669:True:=⟨⟩
def tw17778559751922319614:True:=⟨⟩
def tw4834090661392691384:True:=⟨⟩
def tw7594845816379592004:True:=⟨⟩
def tw14907114091928409071:True:=⟨⟩
def tw3489868876757512397:True:=⟨⟩
def tw15077402930868235632:True:=⟨⟩
def tw12309669782441792679:True:=⟨⟩
def tw4869005809363060161:True:=⟨⟩
def tw1708193669460614040:True:=⟨⟩
def tw13422433474034161679:True:=⟨⟩
def tw6862915153458730938:True:=⟨⟩
def tw1107811965689502184:True:=⟨⟩
def tw17355795258923140965:True:=⟨⟩
def tw10882986480292713537:True:=⟨⟩
def tw13477311743662870506:True:=⟨⟩
def tw12907527427062413929:True:=⟨⟩
def tw5301611557010983248:True:=⟨⟩
def tw16498318985419012322:True:=⟨⟩
def tw15724812638550909124:True:=⟨⟩
def tw3420485119846282636:True:=⟨⟩
def tw10047664389694521353:True:=⟨⟩
def tw15906390606003364332:True:=⟨⟩
def tw88201952034596041:True:=⟨⟩
def tw4400439394048787350:True:=⟨⟩
def tw5678464074115406709:True:=⟨⟩
def tw11808805297290609073:True:=⟨⟩
def tw8483225661081806982:True:=⟨⟩
def tw16804030636939786639:True:=⟨⟩
def tw14588119864567315552:True:=⟨⟩
def tw12488419413541349133:True:=⟨⟩
def tw7854052731052661793:True:=⟨⟩
def tw2652420914487713101:True:=⟨⟩
def tw14172653941551922528:True:=⟨⟩
def tw17750313255378001596:True:=⟨⟩
def tw18263022187320558593:True:=⟨⟩
end PySem.W.Fast
open Option renaming some->O, none->Y
open Bool renaming true->J, false->S
theorem M.{u}{α:Sort u}{a:α}:a=a:=rfl
open PySem renaming Shared->FB, model->FM, sizeLine->FS, Addr->GM, Value->IR, wpAny->KB, starEach->KM, FuncData->On, Program->PP, Around->Pi, keywordEach->P3, compareOp->SB, Heap->SC, World->SL, attributeBase->SZ, foldedSetIterable->UF
open PyProof.Rows renaming Keyed->KF, SortSt->Pv, pendingOf->Re
set_option linter.all false
set_option maxRecDepth 100000
set_option Elab.async false
set_option maxHeartbeats 4000000
abbrev Yu:=PySem.Value->PySem.Shared->Prop
abbrev Yf:=List (PySem.Addr×PySem.Obj)
abbrev Yd:=List (List PySem.Addr)
abbrev Xd:=PySem.W.Frag
abbrev X3:=PySem.Str->Option PySem.Value
abbrev X4:=List PySem.Addr
abbrev Ws:=List PySem.Value
abbrev Vj:=Option PySem.Value
abbrev Vi:=List Nat
abbrev Vb:=List Int
abbrev V0:=List (List (List Nat))
abbrev Zn:=@if_pos
abbrev Zj:=@if_neg
abbrev ZR:=@decide_eq_true
abbrev ZJ:=@decide_eq_false
open PySem renaming wpAny_bind->Zz,wpAny_pure->Zs,wpAny_mono->Yj,wpAny_holding->YU,wpAny_truthy_bool->Y4,wpAny_call_entry->Y8,wpAny_seqItems->Xl,wpAny_forIn_list->Xk,wpAny_setField_rec->XX,wpAny_rule->XW,wpAny_attempt->XR,mem_of_lookup->XG,wpAny_specialOf->X8,wpAny_Call_Name_kw->Wz,wpAny_field->Wy,wpAny_newObj_type->Wt,wpAny_isInstance->Wf,wpAny_newList->Wb,wpAny_typeNameOfWhole_keyiter->Wa,wpAny_letGo->WZ,wpAny_passesOwn->WQ,codeAny_builtin->WO,codeAny_mono->WH,tupleKind_room_in1->WC,wpAny_pyIter_list->Vx,wpAny_callSpecial?_slot->Vr,isSubtype_tuple_tuple->Vk,wpAny_updateSeq_pair->Vd,wpAny_newTuple->Vc,sizeLine_eq->Va
open Option renaming bind_eq_some_iff->Zy,bind_some->Zr,map_eq_some_iff->Zm,map_some->Ys,getD_some->XO,isSome_iff_exists->XE,isSome_map->VZ
open List renaming mem_cons_self->Zx,mem_cons_of_mem->Zw,length_map->Zv,length_append->Zu,mem_cons->Zq,map_cons->Zp,length_cons->Zl,append_assoc->Zk,getElem?_eq_getElem->Zi,mem_singleton->Zh,flatten_cons->Zf,size_toArray->Zd,mem_append->Zb,length_singleton->ZZ,getElem?_eq_some_iff->ZW,getElem?_map->ZT,nodup_cons->ZS,append_nil->ZP,getD_eq_getElem?_getD->ZO,length_take->ZM,pairwise_append->ZL,nodup_append->ZG,length_drop->ZE,all_eq_true->ZD,zip_cons_cons->ZA,take_of_length_le->Jd,mem_range->G9,mem_append_right->Jc,getElem?_append_right->JS,flatten_append->IG,nil_append->HH,length_range->IA,getElem_of_mem->Ja,map_append->Yy,length_zip->Yx,map_map->Yw,mem_map->Yt,find?_cons->Yr,getElem?_eq_none_iff->Yq,getElem?_append_left->Yp,mem_of_mem_take->Yi,mem_of_mem_drop->Yc,length_nil->Ya,pairwise_cons->YY,mem_of_getElem?->YX,findIdx?_cons->YW,take_append_drop->YR,not_mem_nil->YM,mem_reverse->YL,sublist_cons_self->YJ,map_nil->YI,drop_eq_nil_of_le->YH,mem_filter->YF,drop_eq_getElem_cons->YD,perm_append_comm->YC,map_congr_left->YA,filterMap_cons->Y0,lookup_cons->Y6,length_replicate->Y7,pairwise_iff_getElem->Y9,mem_append_left->Xy,any_cons->Xv,getElem_mem->Xs,getElem?_replicate->Xr,getElem?_set_self->Xn,drop_of_length_le->Xm,getElem?_eq_none->Xe,getElem_take->XZ,getElem_drop->XY,getElem?_set_ne->XT,zipIdx_cons->XJ,getElem?_zip_eq_some->XI,length_flatMap->XF,zip_append->XC,length_set->XB,foldl_cons->XA,getElem?_cons_succ->X1,filter_cons_of_neg->X2,pairwise_map->X6,drop_zero->X7,map_snd_zip->Ww,drop_append->Wv,take_append_of_le_length->Wr,not_lt->Wq,eq_nil_of_length_eq_zero->Wp,forIn_cons->Wl,replicate_succ->Wh,getD_cons_succ->Wg,mem_filterMap->WV,lt_irrefl->WU,drop_take->WT,append_of_mem->WS,map_id->WM,filter_congr->WL,ext_getElem?->WK,all_cons->WD,pairwise_singleton->W1,mem_flatten->W2,mem_flatMap->W3,map_fst_zip->W4,length_eq_zero_iff->W5,filter_cons_of_pos->W6,cons_append->W7,flatten_singleton->W9,filter_eq_nil_iff->Vz,of_mem_zip->Vw,getElem?_toArray->Vt,cons_lt_cons_iff->Vs,length_pos_iff->Vp,lt_trans->Vo,getElem_range->Vh,filter_append->Vg,getElem?_set->VU,perm_middle->VN,le_antisymm->VM,flatten_nil->VL
open PySem.Heap renaming get?_push_of_some->Zt,get?_push_size->Zc,lt_size->ZY,get?_update_ne->Yn,get?_push_ne->YB,size_update->Xz,size_push->Xg,get?_update_other->XU,get?_update_self->Vf
open Nat renaming le_refl->Zo,ne_of_lt->ZV,le_trans->ZU,zero_le->ZN,le_add_right->ZI,le_of_lt->ZH,lt_of_lt_of_le->ZC,min_eq_left->Ym,pos_of_ne_zero->Yh,lt_irrefl->YZ,le_of_lt_succ->YS,succ_le_succ->YO,add_sub_cancel_left->YN,sub_le->YK,zero_add->Y3,le_of_not_lt->Y5,le_add_right_of_le->Xo,le_add_left->Xh,add_assoc->Xf,lt_succ_of_lt->Xc,lt_of_succ_lt->Xb,le_of_succ_le->Xa,le_of_not_le->XM,le_of_eq->X5,ne_of_gt->We,lt_trans->Wd,lt_or_ge->Wc,lt_of_le_of_lt->WX,add_sub_cancel->WW,succ_le_of_lt->WN,min_eq_right->WA,lt_of_not_le->W0,sub_pos_of_lt->VY,lt_of_succ_le->VX,add_sub_of_le->VW,not_lt_of_le->VO
open PyProof.Rows renaming wpS_pure->Zg,wpS_bind->ZX,wpS_forRange->Yb,listUpdate_at->YV,callWith_type1->Y1,wpS_mono->Xw,size_push'->Xp,get?_update_seq->Xj,seqEpoch_at->X9,listItems_at->Wx,wpS_modify->Wi,wpS_get->WR
open Array renaming getElem_mem->Ze,getElem?_toList->Jb,toList_append->Yk,length_toList->Yg,perm_iff_toList_perm->YG,forIn_toList->X0,toList_reverse->Wn,toList_extract->Wm,toList_map->W8,toArray_toList->Vq,toList_push->VT
open Bool renaming false_ne_true->Za,false_eq_true->Ij,and_eq_true->Yz,not_true->Wu,and_eq_true_iff->Wo,eq_iff_iff->Wj,true_and->Vl,true_eq_false->Ve
open Int renaming emod_lt_of_pos->ZQ,emod_nonneg->ZF,toNat_natCast->Ye
open Option.some renaming inj->ZK
open PySem.PassesOwn renaming never->Yv
open PySem.W renaming mg_of->Yo,mg_none_of->Yl,kia_one->YQ
open List.cons renaming injEq->YE
open Ne renaming symm->Y2
open List.Pairwise renaming imp_of_mem->Xu
open List.Perm renaming refl->Xq
open PySem.F renaming slot_dict_setdefault->Xi,slot_dict_keyiterator_next->XS,type_list_append->WG,slot_list_append->WE,plainAttrs_list->WB,slot_tuple_getattribute->Vy,slot_tuple_hash->Vv,slot_zip_next->Vn,slot_tuple_eq->Vm,args_dict_setdefault_3->VP
open PySem.Around renaming under_plainId->XD
open List.Sublist renaming refl->WJ
open PySem.Heap.SameBut renaming update->WI
open PySem.Paired renaming length->Vu
open PySem.Value renaming isStrOf_shape->VQ
section
namespace td
def gg{G:Prop}(h:∀P:Prop,(G->P)->P):G:=h G id
end td
namespace VS
abbrev Tx:=Vi
inductive T where
 |non | bl (b:Bool) | int (i:Int) | str (s:Tx) | scr (ns:Vb)
 |tup (l:List T) | lst (l:List T) | dct (kd:Nat) (l:List (T×T)) | obj (c:Nat) (fs:List (Nat×T))
 deriving Inhabited
abbrev V4:=List T
def fC:Nat:=16777216
mutual
def FY:T->Bool
 |.lst _=>S
 |.dct _ _=>S
 |.obj _ _=>S
 |.tup l=>fA l
 |_=>J
@[simp] def fA:V4->Bool
 |[]=>J
 |t :: r=>FY t&&fA r
end
mutual
@[simp] def eqT:T->T->Bool
 |.non,.non=>J
 |.bl a,.bl b=>a==b
 |.bl a,.int i=>(if a then 1 else 0)==i
 |.int i,.bl a=>i==(if a then 1 else 0)
 |.int i,.int j=>i==j
 |.str s,.str t=>s==t
 |.tup a,.tup b=>iR a b
 |.lst a,.lst b=>iR a b
 |_,_=>S
def iR:V4->V4->Bool
 |[],[]=>J
 |a :: d,b :: bs=>eqT a b&&iR d bs
 |_,_=>S
end
@[simp] def GN:Nat->T->Bool
 |_,.non=>J
 |_,.bl _=>J
 |_,.int _=>J
 |_,.str _=>J
 |n+1,.tup l=>l.all (GN n)
 |n+1,.lst l=>l.all (GN n)
 |_,_=>S
inductive Md where | fr | pu | bo
 deriving DecidableEq,Inhabited
@[simp] def Md.join:Md->Md->Md
 |.bo,_=>.bo
 |_,.bo=>.bo
 |.pu,_=>.pu
 |_,.pu=>.pu
 |.fr,.fr=>.fr
inductive Cell where | pu (t:T) | ow (t:T)
 deriving Inhabited
abbrev V1:=Option Cell
abbrev Env:=List (V1)
abbrev Val:=Md×T
abbrev V3:=Option Val
abbrev V2:=List Val
abbrev Ex:=Env->V3
abbrev Gd:=Env->Option (V2)
@[simp] def up(m:Md)(t:T):Val:=(if FY t then .fr else m,t)
def DD:T->Bool
 |.lst _=>J
 |.dct _ _=>J
 |.obj _ _=>J
 |_=>S
@[simp] def cellOf:Val->V1
 | (.fr,t)=>O (if DD t then .ow t else .pu t)
 | (.pu,t)=>O (.pu t)
 | (.bo,_)=>Y
inductive Out where | nx (U:Env) | rt (v:Val) (U:Env) | bk (U:Env) | ct (U:Env)
abbrev Sx:=Env->Option Out
@[simp] def eC(t:T)(_:Env):V3:=O (.fr,t)
abbrev Q3(i:Int):Ex:=eC (.int i)
@[simp] def ae(i:Nat)(U:Env):V3:=match U[i]? with
 |some (some (.pu t))=>O (up .pu t)
 |some (some (.ow t))=>O (.bo,t)
 |_=>Y
@[simp] def e1(f:Val->V3)(a:Ex)(U:Env):V3:=(a U).bind f
@[simp] def e2(f:Val->Val->V3)(a b:Ex)(U:Env):V3:=(a U).bind λx=>(b U).bind λy=>f x y
@[simp] def aA(_:Env):Option (V2):=O []
@[simp] def af(a:Ex)(r:Gd)(U:Env):Option (V2):=(a U).bind λx=>(r U).bind λxs=>O (x :: xs)
@[simp] def eN(f:V2->V3)(a:Gd)(U:Env):V3:=(a U).bind f
@[simp] def bQ:V2->Md
 |[]=>.fr
 |v :: r=>v.1.join (bQ r)
@[simp] def trees(l:V2):V4:=l.map (·.2)
def Hw(m:Md)(l:V4):V3:=if l.length<=fC then O (if fA l then .fr else m,.lst l) else Y
@[simp] def gP(a:Gd)(U:Env):V3:=(a U).bind λl=>Hw (bQ l) (trees l)
def qb(l:V2):V3:=if l.length<=fC then O (up (bQ l) (.tup (trees l))) else Y
@[simp] def rL(a:Gd)(U:Env):V3:=(a U).bind qb
def dput(l:List (T×T))(k v:T):List (T×T):=if l.any (λp=>eqT p.1 k) then l.map (λp=>if eqT p.1 k then (p.1,v) else p) else l++[(k,v)]
def gG:T->Bool
 |.int _=>J
 |.str _=>J
 |_=>S
def keyOk:Nat->T->Bool
 |0,t=>gG t
 |1,.tup l=>l.all gG
 |_,_=>S
def pairs:List (Ex×Ex)->Env->Option (List (Val×Val))
 |[],_=>O []
 | (a,b) :: r,U=>(a U).bind λx=>(b U).bind λy=>(pairs r U).map ((x,y) :: ·)
def n8(a:Nat)(b:List (Ex×Ex))(U:Env):V3:=(pairs b U).bind λl=>if l.all (λp=>keyOk a p.1.2)/\l.length<=15 then
 O (bQ (l.map (·.2)),.dct a (l.foldl (λd p=>dput d p.1.2 p.2.2) [])) else Y
def Ks:T->Option Bool
 |.bl b=>O b
 |.int i=>O (i != 0)
 |.str s=>O (!s.isEmpty)
 |.lst l=>O (!l.isEmpty)
 |.tup l=>O (!l.isEmpty)
 |.dct 0 l=>O (!l.isEmpty)
 |.non=>O S
 |_=>Y
@[simp] def iV(a b:Ex)(U:Env):V3:=(a U).bind λx=>match x.2 with
 |.bl true=>b U
 |.bl false=>O (.fr,.bl S)
 |_=>Y
@[simp] def M3(a b:Ex)(U:Env):V3:=(a U).bind λx=>match x.2 with
 |.bl true=>O (.fr,.bl J)
 |.bl false=>b U
 |_=>Y
@[simp] def pW(a:Ex)(U:Env):V3:=(a U).bind λx=>match x.2 with
 |.bl b=>O (.fr,.bl (!b))
 |_=>Y
@[simp] def Lv(c a b:Ex)(U:Env):V3:=(c U).bind λx=>(Ks x.2).bind λt=>if t then a U else b U
def isN:T->Bool
 |.non=>J
 |_=>S
@[simp] def mz(a:Ex)(U:Env):V3:=(a U).bind λx=>O (.fr,.bl (isN x.2))
@[simp] def int?:T->Option Int
 |.int i=>O i
 |_=>Y
def bq:Val->Val->V3
 | (_,.int i),(_,.int j)=>O (.fr,.int (i+j))
 | (_,.str s),(_,.str t)=>if s.length+t.length<=fC then O (.fr,.str (s++t)) else Y
 | (m,.lst s),(n,.lst t)=>Hw (m.join n) (s++t)
 |_,_=>Y
@[simp] def rD:Val->Val->V3
 | (_,.int i),(_,.int j)=>O (.fr,.int (i-j))
 |_,_=>Y
def MM:Int:=4611686018427387904
def OH:Int:=18446744073709551616
def fu:Val->Val->V3
 | (_,.int i),(_,.int j)=>if (-OH<i/\i<OH)\/(-OH<j/\j<OH) then O (.fr,.int (i*j)) else Y
 |_,_=>Y
def pO:Val->Val->V3
 | (_,.str s),(_,.int j)=>if s.length*j.toNat<=fC/\-MM<=j/\j<MM then O (.fr,.str (List.replicate j.toNat s).flatten) else Y
 |_,_=>Y
def fN:Val->Val->V3
 | (_,.int i),(_,.int j)=>if 0<j/\j<1073741824 then O (.fr,.int (i/j)) else Y
 |_,_=>Y
def oMod:Val->Val->V3
 | (_,.int i),(_,.int j)=>if 0<j then O (.fr,.int (i%j)) else Y
 |_,_=>Y
def GY:Tx->Tx->Bool
 |[],[]=>S
 |[],_ :: _=>J
 |_ :: _,[]=>S
 |a :: d,b :: bs=>if a<b then J else if b<a then S else GY d bs
@[simp] def oLt:Val->Val->V3
 | (_,.int i),(_,.int j)=>O (.fr,.bl (decide (i<j)))
 | (_,.str s),(_,.str t)=>O (.fr,.bl (GY s t))
 |_,_=>Y
@[simp] def oLe:Val->Val->V3
 | (_,.int i),(_,.int j)=>O (.fr,.bl (decide (i<=j)))
 | (_,.str s),(_,.str t)=>O (.fr,.bl (!GY t s))
 |_,_=>Y
@[simp] def Ji(a b:Val):V3:=oLt b a
@[simp] def K9(a b:Val):V3:=oLe b a
@[simp] def oEq(a b:Val):V3:=if GN 60 a.2/\GN 60 b.2 then O (.fr,.bl (eqT a.2 b.2)) else Y
@[simp] def LU(a b:Val):V3:=if GN 60 a.2/\GN 60 b.2 then O (.fr,.bl (!eqT a.2 b.2)) else Y
def bO(l:List (T×T))(k:T):Option T:=(l.find? λp=>eqT p.1 k).map (·.2)
def GF(n:Nat)(i:Int):Option Nat:=if 0<=i then (if i<n then O i.toNat else Y) else (if 0<=i+n then O (i+n).toNat else Y)
@[simp] def sub(m:Md)(t:T):Val:=up m t
@[simp] def aF:Val->Val->V3
 | (m,.lst l),(_,.int i)=>(GF l.length i).bind λk=>(l[k]?).map (sub m)
 | (m,.tup l),(_,.int i)=>(GF l.length i).bind λk=>(l[k]?).map (sub m)
 | (_,.scr l),(_,.int i)=>(GF l.length i).bind λk=>(l[k]?).map λn=>(.fr,.int n)
 | (_,.str l),(_,.int i)=>(GF l.length i).bind λk=>(l[k]?).map λn=>(.fr,.str [n])
 |_,_=>Y
def clip(n:Nat)(i:Int):Nat:=if i<0 then (i+n).toNat else min i.toNat n
def cut{α:Type}(l:List α)(a b:Option Int):List α :=
 let lo:=match a with | none=>0 | some i=>clip l.length i
 let d:=match b with | none=>l.length | some i=>clip l.length i
 (l.drop lo).take (d-lo)
@[simp] def Tj(v:Val)(a b:Option Int):V3:=match v with
 | (_,.str s)=>O (.fr,.str (cut s a b))
 | (m,.lst l)=>Hw m (cut l a b)
 |_=>Y
@[simp] def j4(c:Option Ex)(U:Env):Option (Option Int):=match c with
 |none=>O Y
 |some e=>(e U).bind λy=>(int? y.2).map O
@[simp] def Hk(a:Ex)(b d:Option Ex)(U:Env):V3:=(a U).bind λx=>(j4 b U).bind λl=>(j4 d U).bind λh=>Tj x l h
def Dl:T->Option Nat
 |.lst l=>O l.length
 |.tup l=>O l.length
 |.str l=>O l.length
 |.scr l=>O l.length
 |.dct 0 l=>O l.length
 |_=>Y
@[simp] def dh:V2->V3
 |[x]=>(Dl x.2).map λn=>(.fr,.int n)
 |_=>Y
@[simp] def pC:V2->V3
 |[(_,.int i),(_,.int j)]=>O (.fr,.int (if j<i then j else i))
 |_=>Y
def j3:V4->Option (Vb)
 |[]=>O []
 |.int i :: r=>(j3 r).map (i :: ·)
 |_=>Y
def strs?:V4->Option (List Tx)
 |[]=>O []
 |.str i :: r=>(strs? r).map (i :: ·)
 |_=>Y
def rY:V2->V3
 |[(_,.lst l)]=>(j3 l).bind λis=>O (.fr,.int is.sum)
 |_=>Y
@[simp] def AZ:V2->V3
 |[(m,.lst l)]=>Hw m l
 |[(m,.tup l)]=>Hw m l
 |_=>Y
def gM:V2->V3
 |[(m,.lst l)]=>if l.length<=fC then O (up m (.tup l)) else Y
 |_=>Y
def lT(x:Tx):List Tx->List Tx
 |[]=>[x]
 |y :: r=>if GY y x then y :: lT x r else x :: y :: r
def di(l:List Tx):List Tx:=l.foldr lT []
inductive Ty where | int | str | bool | list | tuple | dict
@[simp] def oV:Ty->T->Bool
 |.int,.int _=>J
 |.int,.bl _=>J
 |.bool,.bl _=>J
 |.str,.str _=>J
 |.list,.lst _=>J
 |.tuple,.tup _=>J
 |.dict,.dct _ _=>J
 |_,_=>S
@[simp] def tN:T->Bool
 |.obj _ _=>S
 |.scr _=>S
 |.dct 0 _=>J
 |.dct 1 _=>J
 |.dct _ _=>S
 |_=>J
@[simp] def Mx(t:Ty)(a:Ex)(U:Env):V3:=(a U).bind λx=>if tN x.2 then O (.fr,.bl (oV t x.2)) else Y
abbrev Fn:=V4->V3
@[simp] def aP(g:Fn)(a:Gd)(U:Env):V3:=(a U).bind λxs=>(g (trees xs)).bind λr=>match r with
 | (.fr,t)=>O (.fr,t)
 | (_,t)=>O ((Md.pu).join (bQ xs),t)
abbrev GB:=Env->Option (Md×V4)
def Cs:Val->Option (Md×V4)
 | (m,.lst l)=>O (m,l)
 | (m,.tup l)=>O (m,l)
 | (_,.str l)=>O (.fr,l.map λc=>.str [c])
 |_=>Y
@[simp] def fT(a:Ex)(U:Env):Option (Md×V4):=(a U).bind Cs
def rng(a:Int)(n:Nat):V4:=(List.range n).map λ(k:Nat)=>T.int (a+k)
def cF(a:Ex)(U:Env):Option (Md×V4):=(a U).bind λx=>(int? x.2).bind λj=>if -MM<=j/\j<MM then O (.fr,rng 0 j.toNat) else Y
def d9(k:Nat):V4->V4
 |[]=>[]
 |t :: r=>.tup [.int k,t] :: d9 (k+1) r
def Bq:Val->Option (Md×V4)
 | (m,.lst l)=>O (m,d9 0 l)
 |_=>Y
@[simp] def m9(a:Ex)(U:Env):Option (Md×V4):=(a U).bind Bq
abbrev Tg:=T->Env->Option Env
@[simp] def aZ(i:Nat)(t:T)(U:Env):Option Env:=if i<U.length then O (U.set i (O (.pu t))) else Y
def rn:List Tg->V4->Env->Option Env
 |[],[],U=>O U
 |g :: b,t :: a,U=>(g t U).bind λd=>rn b a d
 |_,_,_=>Y
@[simp] def iN(a:List Tg)(t:T)(U:Env):Option Env:=match t with
 |.tup l=>rn a l U
 |_=>Y
@[simp] def P4(m:Md)(l:V4):Bool:=match m with
 |.bo=>fA l
 |_=>J
def iJ(e:Tg)(a:Option Ex)(d:Ex)(U:Env):V4->Option (V2)
 |[]=>O []
 |t :: r=>(e t U).bind λf=>(match a with | none=>some true | some c=>(c f).bind λx=>Ks x.2).bind λb =>
  if b then (d f).bind λv=>(iJ e a d U r).map (v :: ·) else iJ e a d U r
def eX(k:Nat)(e:Tg)(f:GB)(a:Option Ex)(b:Ex)(U:Env):V3:=(f U).bind λ(m,l)=>if P4 m l then
 (iJ e a b (List.replicate k Y++U) l).bind λd=>Hw (bQ d) (trees d) else Y
@[simp] def iu(U:Env):Option Out:=O (.nx U)
@[simp] def aq(a b:Sx)(U:Env):Option Out:=(a U).bind λo=>match o with
 |.nx U'=>b U'
 |o=>O o
@[simp] def iF(i:Nat)(e:Ex)(U:Env):Option Out:=(e U).bind λv=>(cellOf v).bind λc=>if i<U.length then O (.nx (U.set i (O c))) else Y
@[simp] def aL(i:Nat)(e:Ex)(U:Env):Option Out:=(e U).bind λv=>match v.1 with
 |.bo=>Y
 |_=>if i<U.length then O (.nx (U.set i (O (.pu v.2)))) else Y
@[simp] def d8(e:Ex)(U:Env):Option Out:=(e U).bind λv=>O (.rt (match v.1 with | .bo=>.pu | m=>m,v.2) U)
@[simp] def ir(i:Nat)(U:Env):Option Out:=match U[i]? with
 |some (some (.ow t))=>O (.rt (.fr,t) (U.set i Y))
 |some (some (.pu t))=>O (.rt (up .pu t) U)
 |_=>Y
@[simp] def sIf(c:Ex)(a b:Sx)(U:Env):Option Out:=(c U).bind λx=>(Ks x.2).bind λt=>if t then a U else b U
def forL(d:Tg)(a:Sx):V4->Env->Option Out
 |[],U=>O (.nx U)
 |t :: r,U=>(d t U).bind λU1=>(a U1).bind λo=>match o with
  |.nx b=>forL d a r b
  |.ct b=>forL d a r b
  |.bk b=>O (.nx b)
  |.rt v b=>O (.rt v b)
@[simp] def Th:Md->Bool
 |.bo=>S
 |_=>J
@[simp] def dS(b:Tg)(d:GB)(a:Sx)(U:Env):Option Out:=(d U).bind λ(m,l)=>if Th m then forL b a l U else Y
@[simp] def wj(i:Nat)(U:Env):Option Out:=match U[i]? with
 |some (some (.ow t))=>O (.nx (U.set i (O (.pu t))))
 |some (some (.pu _))=>O (.nx U)
 |_=>Y
inductive OD where | fld (k:Nat) | ix (e:Ex) | un
inductive Ky where | fld (k:Nat) | at (t:T) | un
def keys:List OD->Env->Option (List Ky)
 |[],_=>O []
 |.fld k :: r,U=>(keys r U).map (.fld k :: ·)
 |.ix e :: r,U=>(e U).bind λx=>(keys r U).map (.at x.2 :: ·)
 |.un :: r,U=>(keys r U).map (.un :: ·)
def Fu(a:List (Nat×T))(k:Nat):Option T:=a.lookup k
def EW(a:List (Nat×T))(k:Nat)(v:T):List (Nat×T):=if a.any (λp=>p.1==k) then a.map (λp=>if p.1==k then (p.1,v) else p) else a++[(k,v)]
noncomputable def wu{α:Type}(f:T->Option (T×α)):List Ky->T->Option (T×α)
 |[],t=>f t
 |.fld k :: r,.obj c fs=>(Fu fs k).bind λx=>(wu f r x).map λ(y,a)=>(.obj c (EW fs k y),a)
 |.at (.int i) :: r,.lst l=>(GF l.length i).bind λj=>(l[j]?).bind λx=>(wu f r x).map λ(y,a)=>(.lst (l.set j y),a)
 |.at k :: r,.dct d l=>(bO l k).bind λx=>(wu f r x).map λ(y,a)=>(.dct d (dput l k y),a)
 |_,_=>Y
abbrev Xx:=Env->Option (Val×Env)
@[simp] noncomputable def mm(i:Nat)(a:List OD)(f:T->V2->Option (T×Val))(g:Gd)(U:Env):Option (Val×Env):=match U[i]? with
 |some (some (.ow t))=>(keys a U).bind λe=>(g U).bind λb=>(wu (λx=>f x b) e t).map λ(d,v)=>(v,U.set i (O (.ow d)))
 |_=>Y
@[simp] def fit(v:Val):Option T:=match v.1 with
 |.fr=>O v.2
 |_=>Y
def bz:T->V2->Option (T×Val)
 |.lst l,[v]=>(fit v).bind λt=>if l.length<fC then O (.lst (l++[t]),(.fr,.non)) else Y
 |_,_=>Y
@[simp] def sX(x:Xx)(U:Env):Option Out:=(x U).map λr=>.nx r.2
@[simp] def fn(d e:Nat)(a:Sx):Fn:=λb=>if b.length=d then
 (a (b.map (λt=>O (.pu t))++List.replicate (e-d) Y)).bind λo=>match o with
  |.rt v _=>O v
  |.nx _=>O (.fr,.non)
  |_=>Y else Y
def iq{m n:Md}{s t:Tx}(h:s.length+t.length<=16777216):bq (m,.str s) (n,.str t)=O (.fr,.str (s++t)):=Zn h
def jO{m n:Md}{i j:Int}(h:-18446744073709551616<i/\i<18446744073709551616):fu (m,.int i) (n,.int j)=O (.fr,.int (i*j)):=Zn (.inl h)
def eU{m n:Md}{i j:Int}(h:0<j/\j<1073741824):fN (m,.int i) (n,.int j)=O (.fr,.int (i/j)):=Zn h
def aY{m n:Md}{i j:Int}(h:0<j):oMod (m,.int i) (n,.int j)=O (.fr,.int (i%j)):=Zn h
def fO{l:V4}{t:T}(h:l.length<16777216):bz (.lst l) [(.fr,t)]=O (.lst (l++[t]),(.fr,.non)):=by
 simp only[bz,fit,Zr];exact Zn h
def iU{a:Ex}{U:Env}{m:Md}{j:Int}(e:a U=O (m,.int j))(h:-4611686018427387904<=j/\j<4611686018427387904):cF a U=O (.fr,rng 0 j.toNat):=by
 simp only[cF,e,Zr,int?];exact Zn h
def jT{m:Md}{l:V4}(h:l.length<=16777216):Hw m l=O (if fA l then .fr else m,.lst l):=Zn h
def bD{b:Tg}{a:Sx}{t:T}{r:V4}{U U1 U2:Env}(e:b t U=O U1)(d:a U1=O (.nx U2)):forL b a (t :: r) U=forL b a r U2:=by
 simp[forL,e,d]
def zR{b:Tg}{a:Sx}{t:T}{r:V4}{U U1 d:Env}{v:Val}(f:b t U=O U1)(e:a U1=O (.rt v d)):forL b a (t :: r) U=O (.rt v d):=by
 simp[forL,f,e]
theorem strs_map{α:Type}(f:α->Tx):∀l:List α,strs? (l.map λx=>T.str (f x))=O (l.map f)
 |[]=>rfl
 |a :: r=>by simp[strs?,strs_map f r]
def lU(n:Nat):rng 0 n=(List.range n).map λ(k:Nat)=>T.int (k:Int):=by
 unfold rng;simp
theorem gz{α:Type}(f:α->T)(h:∀x,FY (f x)=J):∀l:List α,fA (l.map f)=J
 |[]=>rfl
 |a :: r=>by simp[h,gz f h r]
theorem mJ{α:Type}{i:Tg}{d:Ex}{U:Env}(g:α->T)(f:α->Val):∀l:List α,(∀a∈l,∃e,i (g a) U=O e/\d e=O (f a))->iJ i Y d U (l.map g)=O (l.map f)
 |[],_=>rfl
 |a :: r,h=>by
  obtain⟨e,n,m⟩:=h a Zx;simp[iJ,n,m,mJ g f r λb j=>h b (Zw _ j)]
theorem jf{α:Type}{j:Tg}{c d:Ex}{U:Env}(g:α->T)(p:α->Bool)(f:α->Val):∀l:List α,(∀a∈l,∃i x,j (g a) U=O i/\c i=O x/\Ks x.2=O (p a)/\(p a=J->d i=O (f a))) →
  iJ j (O c) d U (l.map g)=O ((l.filter p).map f)
 |[],_=>rfl
 |a :: r,h=>by
  obtain⟨i,x,o,n,h3,s⟩:=h a Zx;have m:=jf (c:=c) g p f r λb q=>h b (Zw _ q);cases e:p a with
  |true=>simp[-Ks,iJ,o,n,h3,e,s e,m]
  |false=>simp[-Ks,iJ,o,n,h3,e,m]
theorem lr{α:Type}(f:α->T):∀l:List α,bQ (l.map λa=>(Md.fr,f a))=.fr
 |[]=>rfl
 |a :: r=>by simp[lr f r]
def m7{α:Type}(f:α->Val)(l:List α):trees (l.map f)=l.map λa=>(f a).2:=by simp
def jx{α:Type}{k:Nat}{tg:Tg}{it:GB}{elt:Ex}{U:Env}{m:Md}(g:α->T)(f:α->T)(l:List α)(i:it U=O (m,l.map g))(e:P4 m (l.map g)=J)(d:l.length<=16777216)(h:∀a∈l,∃b,tg (g a) (List.replicate k Y++U)=O b/\elt b=O (.fr,f a)):eX k tg it Y elt U=O (.fr,.lst (l.map f)):=by
 simp only[eX,i,Zr];rw[Zn e,mJ g (λa=>(Md.fr,f a)) l h];simp only[Zr,lr,m7];rw[jT (by rw[Zv];exact d)];simp
def n9{α:Type}{k:Nat}{e:Tg}{i:GB}{c b:Ex}{U:Env}{m:Md}(g:α->T)(p:α->Bool)(f:α->T)(l:List α)(o:i U=O (m,l.map g))(n:P4 m (l.map g)=J)(j:l.length<=16777216)(h:∀a∈l,∃d x,e (g a) (List.replicate k Y++U)=O d/\c d=O x/\Ks x.2=O (p a)/\(p a=J->b d=O (.fr,f a))):eX k e i (O c) b U=O (.fr,.lst ((l.filter p).map f)):=by
 simp only[eX,o,Zr];rw[Zn n,jf g p (λa=>(Md.fr,f a)) l h];simp only[Zr,lr,m7];rw[jT (by rw[Zv];exact ZU (List.length_filter_le _ _) j)];simp
def kJ{α:Type}{m n:Md}(f:α->T)(l:List α)(i:Int)(d:α)(g:0<=i)(e:i<l.length)(a:FY (f (l.getD i.toNat d))=J):aF (m,.lst (l.map f)) (n,.int i)=O (.fr,f (l.getD i.toNat d)):=by
 have b:i.toNat<l.length:=by lia
 simp only[ZO,Zi b,XO]at a ⊢;simp[GF,g,e,b,a]
def p8{l:V2}(h:l.length<=16777216):qb l=O (up (bQ l) (.tup (trees l))):=Zn h
end VS
end
section
namespace td
open PySem PySem.Spec PyProof.Rows
abbrev Key:=Sum Int Str
def mR:Key->IR->Bool
 |.inl k,v=>Value.isInt k v
 |.inr x,v=>Value.isStrOf x v
def EF(w:SL):Key->Int
 |.inl k=>hashInt k
 |.inr x=>hashStr w x
theorem bN:∀{k:Key}{v:IR},mR k v=J->(∃i t,k=Sum.inl i/\v=Value.int i t)\/(∃x t,k=Sum.inr x/\v=Value.str x t)
 |.inl i,v,h=>by
  obtain⟨t,e⟩:=Value.isInt_shape (k:=i) (v:=v) h;exact .inl ⟨i,t,rfl,e⟩
 |.inr x,v,h=>by
  obtain⟨t,e⟩:=VQ (x:=x) (v:=v) h;exact .inr ⟨x,t,rfl,e⟩
def uf(i:Int)(t:Tok):mR (.inl i) (.int i t)=J:=by simp[mR,Value.isInt]
def uW(x:Str)(t:Tok):mR (.inr x) (.str x t)=J:=by simp[mR,Value.isStrOf]
def CM(a b:Int):decide ((Sum.inl a:Key)=Sum.inl b)=(a==b):=by
 by_cases e:a=b
 ·subst e;simp
 ·have h:¬(Sum.inl a:Key)=Sum.inl b:=λq=>e (Sum.inl.inj q);rw[ZJ h];exact(beq_eq_false_iff_ne.mpr e).symm
def Cb(a b:Str):decide ((Sum.inr a:Key)=Sum.inr b)=decide (a=b):=by
 by_cases e:a=b
 ·subst e;simp
 ·have h:¬(Sum.inr a:Key)=Sum.inr b:=λq=>e (Sum.inr.inj q);rw[ZJ h,ZJ e]
def Co(a:Int)(b:Str):decide ((Sum.inl a:Key)=Sum.inr b)=S:=ZJ (λq=>nomatch q)
def BE(a:Str)(b:Int):decide ((Sum.inr a:Key)=Sum.inl b)=S:=ZJ (λq=>nomatch q)
noncomputable def aN(d:PP)(w:SL):PySem.KeyKind d w Key where
 is:=mR
 hash:=EF w
 inj:=λv a b m g=>by
  rcases bN m with⟨i,t,rfl,rfl⟩ | ⟨x,t,rfl,rfl⟩
  ·rcases bN g with⟨j,u,rfl,e⟩ | ⟨y,u,rfl,e⟩
   ·injection e with e1 _;rw[e1]
   ·exact nomatch e
  ·rcases bN g with⟨j,u,rfl,e⟩ | ⟨y,u,rfl,e⟩
   ·exact nomatch e
   ·injection e with e1 _;rw[e1]
 byValue:=λk v h=>by
  rcases bN h with⟨i,t,rfl,rfl⟩ | ⟨x,t,rfl,rfl⟩<;>rfl
 pyHash:=λf h=>by
  rcases bN f with⟨i,t,rfl,rfl⟩ | ⟨x,t,rfl,rfl⟩
  ·exact wpAny_pyHash_int h
  ·exact wpAny_pyHash_str h
 eqBool:=λl f h=>by
  rcases bN l with⟨i,t,rfl,rfl⟩ | ⟨x,t,rfl,rfl⟩
  ·rcases bN f with⟨j,u,rfl,rfl⟩ | ⟨y,u,rfl,rfl⟩
   ·rw[CM]at h;exact wpAny_eqBool_int h
   ·rw[Co]at h;exact SeqAt.EqAt.int_str i t y u _ _ _ _ h
  ·rcases bN f with⟨j,u,rfl,rfl⟩ | ⟨y,u,rfl,rfl⟩
   ·rw[BE]at h;exact SeqAt.EqAt.str_int x t j u _ _ _ _ h
   ·rw[Cb]at h;exact wpAny_eqBool_str h
 «strs» := λk x t v h=>by
  rcases bN h with⟨i,u,rfl,e⟩ | ⟨y,u,rfl,e⟩
  ·exact nomatch e
  ·injection e with e1 _
   subst e1;cases v<;>rfl
def pF(a:PP)(w:SL)(i:Int)(t:Tok):(aN a w).is (.inl i) (.int i t)=J:=uf i t
def pH(a:PP)(w:SL)(x:Str)(t:Tok):(aN a w).is (.inr x) (.str x t)=J:=uW x t
inductive V where
 |non | bl (b:Bool) | int (i:Int) | str (x:Str) | byt (b:Array UInt8) | flt (b:UInt64) | ref (a:GM) | ty (n:String)
 deriving DecidableEq
def RelV:V->IR->Prop
 |.non,u=>u=Value.none
 |.bl b,u=>u=Value.bool b
 |.int i,u=>∃t,u=Value.int i t
 |.str x,u=>∃t,u=Value.str x t
 |.byt b,u=>∃t,u=Value.bytes b t
 |.flt b,u=>∃t,u=Value.float b t
 |.ref a,u=>u=Value.ref a
 |.ty n,u=>u=Value.type n
abbrev aT:List V->Ws->Prop:=Paired RelV
theorem aT.length{xs:List V}{a:Ws}(r:aT xs a):xs.length=a.length:=Vu r
theorem aT.get:∀{a:List V}{b:Ws}{i:Nat}{x:V},aT a b->a[i]?=O x->∃u,b[i]?=O u/\RelV x u
 |_,_,_,_,.nil,e=>by simp at e
 |_,_,0,_,.cons r _,e=>by simp at e;subst e;exact⟨_,rfl,r⟩
 |_,_,i+1,x,.cons _ t,e=>by
  obtain⟨u,f,d⟩:=aT.get (i:=i) (x:=x) t (by simpa using e);exact⟨u,by simpa using f,d⟩
theorem aT.set{x:V}{u:IR}(r:RelV x u):∀{a:List V}{b:Ws}(i:Nat),aT a b->aT (a.set i x) (b.set i u)
 |_,_,_,.nil=>.nil
 |_,_,0,.cons _ t=>.cons r t
 |_,_,i+1,.cons q t=>.cons q (aT.set r i t)
theorem aT.append:∀{b a:List V}{e d:Ws},aT b e->aT a d->aT (b++a) (e++d)
 |_,_,_,_,.nil,s=>s
 |_,_,_,_,.cons r t,s=>.cons r (aT.append t s)
theorem aT.take:∀{xs:List V}{a:Ws}(n:Nat),aT xs a->aT (xs.take n) (a.take n)
 |_,_,0,_=>.nil
 |_,_,_+1,.nil=>.nil
 |_,_,n+1,.cons r t=>.cons r (aT.take n t)
theorem aT.drop:∀{a:List V}{b:Ws}(n:Nat),aT a b->aT (a.drop n) (b.drop n)
 |_,_,0,r=>r
 |_,_,_+1,.nil=>.nil
 |_,_,n+1,.cons _ t=>aT.drop n t
def aT.none_of:∀{a:List V}{b:Ws}{i:Nat},aT a b->a[i]?=Y->b[i]?=Y:=λ{a b i} r e=>by
 have f:=r.length;have d:a.length<=i:=Yq.mp e;exact Yq.mpr (by lia)
def jJ:Option V->Vj->Prop
 |some v,some u=>RelV v u
 |none,none=>True
 |_,_=>False
def KV{κ:Type}:List (κ×V)->List (κ×IR)->Prop:=Paired λ(p:κ×V) (q:κ×IR)=>p.1=q.1/\RelV p.2 q.2
def kV:Key->V
 |.inl i=>.int i
 |.inr x=>.str x
inductive HO where
 |lst (xs:List V)
 |tup (xs:List V)
 |dK (bt:List (Key×V)) | dT (bt:List (List Key×V))
 |set (S:Int->Bool) (n:Nat)
 |ins (C dx:GM) (fs:List (Str×V))
 |own (x:GM)
 |xd (fs:List (Str×V))
 |met (f x:GM)
 |rng (lo hi:Int)
 |frz (o:Obj) (u:HO)
 |tbl (q:Str)
 |ext (φ:SL->SC->Prop)
abbrev Hp:=GM->Option HO
def upd(H:Hp)(a:GM)(o:HO):Hp:=λb=>if b=a then O o else H b
def aw{H:Hp}{a:GM}{o:HO}:upd H a o a=O o:=by unfold upd;rw[Zn M]
def av{H:Hp}{a b:GM}{o:HO}(h:b≠a):upd H a o b=H b:=by unfold upd;rw[Zj h]
def yZ{H:Hp}{a:GM}{o u:HO}:upd (upd H a o) a u=upd H a u:=by
 funext b;unfold upd;split<;>rfl
def DJ{H:Hp}{a b:GM}{o u:HO}(h:H a=O o)(f:H b=O u)(d:o≠u):a≠b:=by
 intro e;subst e;rw[h]at f;exact d (ZK f)
def aQ{H:Hp}{a b:GM}{o:HO}(h:H a=O o)(d:H b=Y):a≠b:=by
 intro e;subst e;rw[h]at d;cases d
def Kp(h:SC)(a:GM):Prop:=∀o,h.get? a=O o->o.dict=Y
def Kp.new(h:SC)(a:Array IR):Kp (h.push { cls:=.type "tuple",data:=.seq a }) h.objs.size:=λo e=>by
 rw[Zc _ M]at e;cases e;rfl
def Kp.of{h:SC}{a:GM}{o:Obj}(e:h.get? a=O o)(d:o.dict=Y):Kp h a:=λf b=>by
 rw[e]at b;cases b;exact d
section
variable(P:PP)(w:SL)
noncomputable def bg(H:Hp)(h:SC)(a:GM):HO->Prop
 |.lst b=>b.length<=FS/\∃(g:Ws)(n:Nat),aT b g/\h.get? a=O { cls:=.type "list",data:=.seq g.toArray n }
 |.tup b=>b.length<=FS/\∃g:Ws,aT b g/\Kp h a/\IsTup h a g.toArray
 |.dK i=>i.length<=FS/\(a==sysModules)=false/\∃e,KV i e/\h.DictOf (aN P w) a e
 |.dT i=>i.length<=FS/\(a==sysModules)=false/\∃b:List (List Key×GM×IR),
   Paired (λ(p:List Key×V) (q:List Key×GM×IR)=>p.1=q.1/\H q.2.1=O (.tup (p.1.map kV))/\RelV p.2 q.2.2) i b ∧
   ∃o z B,h.get? a=O o/\o.ExactDict/\o.data=.dict z B/\z.toList=b.map (entryOfKey (tupleKind (aN P w)))/\(b.map (·.1)).Nodup
 |.set m n=>h.SetOf (intKind P w) a m n
 |.ins C j fs=>H j=O (.own a)/\fs.length<=1000/\j≠a/\h.get? a=O (PySem.W.instObj C j) ∧
   ∃d,h.Ns1 j d/\(∀f,jJ (fs.lookup f) (d f))/\PySem.Within d (fs.map (·.1))
 |.own _=>∃o,h.get? a=O o
 |.xd fs=>∃d,h.Ns1 a d/\∀f,jJ (fs.lookup f) (d f)
 |.rng lo A=>∃t u v,h.get? a=O { cls:=.type "range",data:=.fields #[.int lo t,.int A u,.int 1 v] }
 |.frz o u=>h.get? a=O o/\bg H h a u
 |.tbl q=>∃l,h.get? a=O { cls:=.none,data:=.fields l }/\TriplesOk l.toList/\∀pos v,codeAmong pos l.toList=O v->∃c o y e t,v=.ref c/\H c=O (.frz o (.own y))/\o.data=.fields e/\e[1]?=O (.str q t)
 |.met f x=>h.get? a=O (PySem.W.methodObj (.ref f) (.ref x))
 |.ext φ=>φ w h/\(∃o,h.get? a=O o)/\∀s r:SC,φ w s->(∀o,s.get? a=O o->r.get? a=O o)->φ w r
noncomputable def Gn(H:Hp)(h:SC):Prop:=∀a o,H a=O o->bg P w H h a o
end
section
variable{P:PP}{w:SL}{H H':Hp}{h h':SC}{a:GM}{o:HO}
theorem bg.lt(x:bg P w H h a o):a<h.objs.size:=by
 cases o with
 |lst b=>obtain⟨_,_,_,_,e⟩:=x;exact ZY e
 |tup b=>obtain⟨_,_,_,_,p⟩:=x;exact p.lt
 |dK d=>obtain⟨_,_,_,_,o,_,_,e,_⟩:=x;exact ZY e
 |dT d=>obtain⟨_,_,_,_,o,_,_,e,_⟩:=x;exact ZY e
 |set g n=>obtain⟨o,_,_,_,e,_⟩:=x;exact ZY e
 |ins C l fs=>obtain⟨_,_,_,e,_⟩:=x;exact ZY e
 |own y=>obtain⟨_,e⟩:=x;exact ZY e
 |xd fs=>obtain⟨_,⟨_,_,_,e,_⟩,_⟩:=x;exact ZY e
 |rng lo j=>obtain⟨_,_,_,e⟩:=x;exact ZY e
 |frz i u=>obtain⟨e,_⟩:=x;exact ZY e
 |tbl q=>obtain⟨_,e,_⟩:=x;exact ZY e
 |met f y=>exact ZY (show h.get? a=O _ from x)
 |ext φ=>obtain⟨_,⟨_,e⟩,_⟩:=x;exact ZY e
theorem Paired.KC{α β:Type}{F G:α->β->Prop}:∀{e:List α}{d:List β},Paired F e d->(∀a b,F a b->G a b)->Paired G e d
 |_,_,.nil,_=>.nil
 |_,_,.cons r t,f=>.cons (f _ _ r) (Paired.KC t f)
def bg.Hv(x:bg P w H h a o)(k:∀b u,(b=a\/H b=O (.own a))->h.get? b=O u->h'.get? b=O u)(L:∀b,H b=O (.own a)->H' b=O (.own a))(I:∀b l,H b=O (.tup l)->H' b=O (.tup l))(N:∀b o y,H b=O (.frz o (.own y))->H' b=O (.frz o (.own y))):bg P w H' h' a o:=by
 induction o with
 |lst l=>obtain⟨z,s,n,r,e⟩:=x;exact⟨z,s,n,r,k _ _ (.inl M) e⟩
 |tup l=>obtain⟨z,s,r,nd,g,e,c⟩:=x;exact⟨z,s,r,Kp.of (k _ _ (.inl M) e) (nd _ e),g,k _ _ (.inl M) e,c⟩
 |dK Q=>obtain⟨z,y,m,r,g,i,j,e,c⟩:=x;exact⟨z,y,m,r,g,i,j,k _ _ (.inl M) e,c⟩
 |dT Q =>
  obtain⟨z,y,l,r,g,i,j,e,c⟩:=x;exact⟨z,y,l,Paired.KC r λp q z=>⟨z.1,I _ _ z.2.1,z.2.2⟩,g,i,j,k _ _ (.inl M) e,c⟩
 |set R n=>obtain⟨g,i,j,t,e,c⟩:=x;exact⟨g,i,j,t,k _ _ (.inl M) e,c⟩
 |ins C X fs =>
  obtain⟨d,z,ne,e,B,⟨A,i,j,e2,c⟩,r⟩:=x;exact⟨L _ d,z,ne,k _ _ (.inl M) e,B,⟨A,i,j,k _ _ (.inr d) e2,c⟩,r⟩
 |own y=>obtain⟨g,e⟩:=x;exact⟨g,k _ _ (.inl M) e⟩
 |xd fs=>obtain⟨B,⟨A,i,j,e,c⟩,r⟩:=x;exact⟨B,⟨A,i,j,k _ _ (.inl M) e,c⟩,r⟩
 |rng lo U=>obtain⟨t,u,v,e⟩:=x;exact⟨t,u,v,k _ _ (.inl M) e⟩
 |frz g u G=>obtain⟨e,q⟩:=x;exact⟨k _ _ (.inl M) e,G q⟩
 |tbl q =>
  obtain⟨F,e,e1,e2⟩:=x;refine⟨F,k a _ (.inl M) e,e1,λpos v r=>?_⟩;obtain⟨c,o,y,m,t,r1,r2,D⟩:=e2 pos v r;exact⟨c,o,y,m,t,r1,N _ _ _ r2,D⟩
 |met f y =>
  have e:h.get? a=O (PySem.W.methodObj (.ref f) (.ref y)):=x;show h'.get? a=O (PySem.W.methodObj (.ref f) (.ref y));exact k a _ (.inl M) e
 |ext φ=>obtain⟨p,⟨o,e⟩,st⟩:=x;exact⟨st _ _ p λo q=>k _ _ (.inl M) q,⟨o,k _ _ (.inl M) e⟩,st⟩
theorem Gn.lt(x:Gn P w H h)(e:H a=O o):a<h.objs.size:=(x a o e).lt
def Gn.fresh(x:Gn P w H h)(e:h.objs.size<=a):H a=Y:=by
 cases q:H a with
 |none=>rfl
 |some u=>exact absurd (ZC (x.lt q) e) (YZ _)
def Gn.kept(x:Gn P w H h)(k:∀b u,h.get? b=O u->h'.get? b=O u):Gn P w H h':=λa o e =>
 (x a o e).Hv (λb u _ q=>k b u q) (λ_ q=>q) (λ_ _ q=>q) λ_ _ _ q=>q
def Gn.laid(x:Gn P w H h)(k:∀b u,h.get? b=O u->h'.get? b=O u)(i:h.objs.size<=a)(d:bg P w (upd H a o) h' a o):Gn P w (upd H a o) h':=λb u e=>by
 have f:=x.fresh i;by_cases g:b=a
 ·subst g;rw[aw]at e;cases e;exact d
 ·rw[av g]at e;exact(x b u e).Hv (λc v _ q=>k c v q) (λc q=>by rw[av (aQ q f)];exact q) (λc j q=>by rw[av (aQ q f)];exact q) λc _ _ q=>by rw[av (aQ q f)];exact q
end
def Rd(H:Hp)(a:GM)(u:HO):Prop:=H a=O u\/∃o,H a=O (.frz o u)
def Rd.ok{P:PP}{w:SL}{H:Hp}{h:SC}{a:GM}{u:HO}(r:Rd H a u)(x:Gn P w H h):bg P w H h a u:=by
 rcases r with r | ⟨o,r⟩
 ·exact x a u r
 ·obtain⟨_,q⟩:=x a _ r;exact q
def FG:Option HO->Prop
 |some (.lst _)=>True
 |some (.dK _)=>True
 |some (.dT _)=>True
 |some (.set _ _)=>True
 |some (.ins _ _ _)=>True
 |some (.ext _)=>True
 |_=>False
section
variable{P:PP}{w:SL}{H:Hp}{h h':SC}{x e:GM}{o':HO}
def Gn.write(o:Gn P w H h)(a:FG (H x))(m:e=x\/H e=O (.own x))(k:∀b u,b≠e->h.get? b=O u->h'.get? b=O u)(t:∃u,h'.get? e=O u)(j:bg P w (upd H x o') h' x o'):Gn P w (upd H x o') h':=λb u q=>by
 have n:∀c y,H c=O (.own y)->c≠x:=λc y r z=>by subst z;rw[r]at a;exact a
 have s:∀c d,H c=O (.tup d)->c≠x:=λc d r z=>by subst z;rw[r]at a;exact a
 by_cases g:b=x
 ·subst g;rw[aw]at q;cases q;exact j
 ·rw[av g]at q;by_cases i:b=e
  ·have l:H b=O (.own x):=by
    rcases m with z | z
    ·exact absurd (i.trans z) g
    ·rw[i];exact z
   rw[q]at l;cases l;obtain⟨v,p⟩:=t;exact⟨v,by rw[i];exact p⟩
  ·refine(o b u q).Hv (λc v f r=>k c v ?_ r) (λc r=>by rw[av (n c b r)];exact r) (λc d r=>by rw[av (s c d r)];exact r) λc _ _ r=>by rw[av λz=>by subst z;rw[r]at a;exact a];exact r
   rcases f with rfl | f
   ·exact i
   ·rintro rfl;rcases m with z | z
    ·exact n c b f z
    ·rw[f]at z;cases z;exact g M
end
structure Un(fs ex:X4)(H H':Hp)(h h':SC):Prop where
 keep:∀b o,h.get? b=some o->H b=none->b∉fs->b∉ex->h'.get? b=some o
 slot:∀b o,h.get? b=some o->H b=none->b∈fs->b∉ex->∃sl,h'.get? b=some { o with slots:=sl }
 free:∀b o,h.get? b=some o->H b=none->b∉ex->H' b=none
 there:∀b o,h.get? b=some o->b∉ex->∃o',h'.get? b=some o'
 Io:∀b xs,H b=some (.tup xs)->H' b=some (.tup xs)
 HY:∀b o u,H b=some (.frz o u)->H' b=some (.frz o u)
 Hu:∀b q,H b=some (.tbl q)->H' b=some (.tbl q)
section
variable{fs fs' ex ex':X4}{H H1 H2:Hp}{h h1 h2 h':SC}{a x e:GM}{o:HO}
def Un.any(u:Un fs ex H H1 h h1){b:GM}{d:Obj}(q:h.get? b=O d)(n:H b=Y)(f:b∉ex):∃i,h1.get? b=O { d with slots:=i }:=by
 by_cases g:b∈fs
 ·exact u.slot b d q n g f
 ·exact⟨d.slots,u.keep b d q n g f⟩
def Un.kept(k:∀b u,h.get? b=O u->h'.get? b=O u):Un fs ex H H h h' :=
 ⟨λb d q _ _ _=>k b d q,λb d q _ _ _=>⟨d.slots,k b d q⟩,λ_ _ _ n _=>n,λb d q _=>⟨d,k b d q⟩,λ_ _ q=>q,λ_ _ _ q=>q,λ_ _ q=>q⟩
def Un.refl:Un fs ex H H h h:=Un.kept λ_ _ q=>q
def Un.laid(k:∀b u,h.get? b=O u->h'.get? b=O u)(g:h.objs.size<=a)(d:H a=Y):Un fs ex H (upd H a o) h h' where
 keep:=λb u q _ _ _=>k b u q
 slot:=λb u q _ _ _=>⟨u.slots,k b u q⟩
 free:=λb u q n _=>by rw[av (ZV (ZC (ZY q) g))];exact n
 there:=λb u q _=>⟨u,k b u q⟩
 Io:=λb f q=>by rw[av (aQ q d)];exact q
 HY:=λb u f q=>by rw[av (aQ q d)];exact q
 Hu:=λb n q=>by rw[av (aQ q d)];exact q
def Un.write(d:FG (H x))(m:e=x\/H e=O (.own x))(k:∀b u,b≠e->h.get? b=O u->h'.get? b=O u)(p:∃u,h'.get? e=O u):Un fs ex H (upd H x o) h h':=by
 have g:∀b,H b=Y->b≠x:=λb n z=>by subst z;rw[n]at d;exact d
 have i:∀b,H b=Y->b≠e:=λb n z=>by
  subst z;rcases m with r | r
  ·exact g b n r
  ·rw[n]at r;cases r
 have f:∀b u,H b=O u->¬FG (O u)->b≠x:=λb u q nm z=>by subst z;rw[q]at d;exact nm d
 refine⟨λb u q n _ _=>k b u (i b n) q,λb u q n _ _=>⟨u.slots,k b u (i b n) q⟩,λb u q n _=>by rw[av (g b n)];exact n,λb u q _=>?_,
  λb l q=>by rw[av (f b _ q λz=>z)];exact q,λb u l q=>by rw[av (f b _ q λz=>z)];exact q,λb n q=>by rw[av (f b _ q λz=>z)];exact q⟩
 by_cases j:b=e
 ·subst j;exact p
 ·exact⟨u,k b u j q⟩
end
def gone(v:IR):Obj:=⟨v,Y,.freed,#[]⟩
def vg(H:Hp)(a:GM)(o:Obj):Obj:=match H a with
 |some (.tbl q)=>gone (.str q 0)
 |some _=>gone .none
 |none=>match o.data with
  |.freed=>gone .none
  |_=>o
def lD(h:SC)(H:Hp):Heap:=⟨h.objs.mapIdx λa o=>vg H a o,h.life⟩
def Tb(b:SC)(a:GM)(q:Str):Prop:=b.objs[a]?=O (gone (.str q 0))
def vb(h:SC)(H:Hp):(lD h H).objs.size=h.objs.size:=Array.size_mapIdx
def oi(h:SC)(H:Hp)(b:GM):(lD h H).objs[b]?=(h.objs[b]?).map (vg H b):=Array.getElem?_mapIdx
def ko{h:SC}{b:GM}{o:Obj}:h.get? b=O o↔h.objs[b]?=O o/\o.data ≠ .freed:=by
 unfold Heap.get?;split
 ·rename_i e;exact⟨λz=>(nomatch z),λ⟨z,n⟩=>by rw[e]at z;cases z;exact absurd M n⟩
 ·rename_i n;exact⟨λz=>⟨z,λd=>by
   obtain⟨c,u,a,f⟩:=o;cases (show a=Data.freed from d);exact n _ _ _ z⟩,λz=>z.1⟩
def wH{h:SC}{H:Hp}{b:GM}{o:Obj}(e:h.get? b=O o)(n:H b=Y):(lD h H).get? b=O o:=by
 obtain⟨e1,e2⟩:=ko.mp e;refine ko.mpr ⟨?_,e2⟩;rw[oi,e1,Ys];unfold vg;rw[n];cases h:o.data with
 |freed=>exact absurd h e2
 |_=>rfl
def Ak{h:SC}{H:Hp}{b:GM}{o:Obj}(e:(lD h H).get? b=O o):h.get? b=O o/\H b=Y:=by
 obtain⟨e1,e2⟩:=ko.mp e;rw[oi]at e1;obtain⟨u,g,a⟩:=Zm.mp e1;unfold vg at a;cases q:H b with
 |some y =>
  rw[q]at a;cases y<;>(cases a;exact absurd M e2)
 |none =>
  rw[q]at a;refine⟨ko.mpr ?_,rfl⟩;cases d:u.data with
  |freed=>rw[d]at a;cases a;exact absurd M e2
  |_ =>
   have f:u=o:=by rw[d]at a;exact a
   subst f;exact⟨g,e2⟩
def sy{h:SC}{H:Hp}{b:GM}{q:Str}:Tb (lD h H) b q↔H b=O (.tbl q)/\b<h.objs.size:=by
 unfold Tb;rw[oi];constructor
 ·intro e;obtain⟨u,i,a⟩:=Zm.mp e;refine⟨?_,(Array.getElem?_eq_some_iff.mp i).1⟩;unfold vg at a;cases y:H b with
  |some f =>
   rw[y]at a;cases f with
   |tbl j=>cases a;rfl
   |_=>cases a
  |none =>
   rw[y]at a;cases d:u.data with
   |freed=>rw[d]at a;cases a
   |_ =>
    have g:u=gone (.str q 0):=by rw[d]at a;exact a
    rw[g]at d;cases d
 ·rintro⟨e,l⟩;rw[Array.getElem?_eq_getElem l,Ys];unfold vg;rw[e]
def yI(g h:SC)(b:GM):Yf:=(List.range h.objs.size).filterMap λa=>if a=b\/(g.get? a).isSome=J then Y else (h.get? a).map λo=>(a,o)
def rest(g h:SC)(a d:GM):Yf:=(yI g h a).filter λp=>decide (p.1≠d)
structure Mod(K:Xd)(mg:X3)(base:SC):Prop where
 OX:K.In base
 glob:base.Ns mainGlobals mg
 blt:∃mb,base.Ns builtinsNs mb/\∀x:Str,x ≠ "__name__" → mb x=bootBuiltins x
 nolimit:base.NoLimit
structure Cx where
 prog:PP
 w:SL
 K:Xd
 mg:X3
 base:SC
 A:Pi
 N:List Str
 s₀:FB
 H₀:Hp
 env:Env
 outer:List Env
 stack:List Env
 ex:X4
 fn:Str->Bool
 calm:Bool
 pn:Yf
 xe:Yu
abbrev K0(e:Expr)(l:List Expr)(X:Cx):Prop:=KM (e :: l) X.env=(S,eval e X.env) :: KM l X.env
abbrev K1(p:Pos)(l:List Expr)(X:Cx):Prop:=(backTo p (KM l X.env)).any (·.1)=S
abbrev K2(x:Str):Prop:=(x==("__debug__" : Str))=S
abbrev K3(x:Str):Prop:=(x==("__classdict__" : Str))=S
def GV(l:List Env):X4:=l.filterMap (·.frame)
abbrev Cx.fs(X:Cx):X4:=GV X.outer
def Ik(a:Scope)(x:Str):Prop:=a.names.lookup x=O .local\/a.names.lookup x=O .cell\/a.names.lookup x=O .free
def Loc(a:Scope)(x:Str):Prop:=a.names.lookup x=O .local\/a.names.lookup x=O .cell
def Look(a:Env)(h:SC)(m:X3)(x:Str)(u:IR):Prop :=
 (a.kindOf x=O .local/\m x=O u)\/((a.kindOf x=O .cell\/a.kindOf x=O .free)/\∃c,a.cells.lookup x=O c/\h.IsCell c (O u))
structure Cx.Ok(X:Cx):Prop where
 mod:Mod X.K X.mg X.base
 kind:X.env.scope.kind=.function
 glob:X.env.globals=mainGlobals
 blt:X.env.builtins=builtinsNs
 above:X.s₀.heap.objs.size<=X.env.locals
 inj:∀x y c,X.env.cells.lookup x=some c->X.env.cells.lookup y=some c->x=y
 has:∀x,(X.env.kindOf x=some .cell\/X.env.kindOf x=some .free)->∃c,X.env.cells.lookup x=some c
 Ow:∀x c,X.fn x=true->X.env.cells.lookup x=some c->X.s₀.heap.objs.size<=c
 hd:X.calm=true->X.A.handled=none
 frames:X.A.frames=some X.stack
 OK:X.stack=X.outer\/(X.stack=X.env :: X.outer/\X.env.frame=some X.env.locals)
 Ua:∀b∈X.ex,b≠X.env.locals/\∀x c,X.env.cells.lookup x=some c->c≠b
 tb:∀b q,Tb X.base b q->X.H₀ b=some (.tbl q)
 bs:∀b o,X.base.get? b=some o->X.s₀.heap.get? b=some o/\X.H₀ b=none
 Km:X.base.objs.size<=X.s₀.heap.objs.size
 J1:∀b o,X.base.get? b=some o->b∉X.ex
 KR:∀b∈X.ex,b∉X.fs
 G5:X.s₀.heap.FunFrames X.base X.outer
 Mu:∀b∈X.fs,X.H₀ b=none
structure Inv(X:Cx)(pins:Yf)(Z:List (Option V))(H:Hp)(s:FB):Prop where
 ok:X.Ok
 os:s.os=X.s₀.os
 bare:AllBare s.gens
 base:Un X.fs X.ex X.H₀ H X.s₀.heap s.heap
 loc:∃m,s.heap.Ns X.env.locals m/\∀(i:Nat)(x:Str)(v:V),X.N[i]?=some x->Z[i]?=some (some v)->Ik X.env.scope x->∃u,RelV v u/\Look X.env s.heap m x u
 cell:∀x c,X.env.cells.lookup x=some c->∃v,s.heap.IsCell c v
 free:H X.env.locals=none
 Gk:∀x c,X.env.cells.lookup x=some c->H c=none
 pin:∀p∈X.pn++pins,s.heap.get? p.1=some p.2/\H p.1=none/\p.1≠X.env.locals/\p.1∉X.fs/\∀v,p.2.data ≠ .cell v
 xa:Gn X.prog X.w H s.heap
 len:Z.length=X.N.length
section
variable{X:Cx}{pins:Yf}{Z:List (Option V)}{H H':Hp}{s:FB}{h':SC}
def Cx.Ok.Qy(a:X.Ok){b:GM}{o:Obj}(e:X.base.get? b=O o):b∉X.fs:=λd=>by
 have:=(a.G5.mem d).1;rw[e]at this;cases this
theorem Inv.bs(I:Inv X pins Z H s):∀b o,X.base.get? b=O o->s.heap.get? b=O o/\H b=Y:=λb o e =>
 ⟨I.base.keep b o (I.ok.bs b o e).1 (I.ok.bs b o e).2 (I.ok.Qy e) (I.ok.J1 b o e),I.base.free b o (I.ok.bs b o e).1 (I.ok.bs b o e).2 (I.ok.J1 b o e)⟩
theorem Inv.tb(I:Inv X pins Z H s):∀b q,Tb X.base b q->H b=O (.tbl q):=λb q e=>I.base.Hu b q (I.ok.tb b q e)
def Inv.bk(I:Inv X pins Z H s):∀b o,X.base.get? b=O o->s.heap.get? b=O o:=λb o e=>(I.bs b o e).1
theorem Inv.mod(I:Inv X pins Z H s):Mod X.K X.mg X.base:=I.ok.mod
def Inv.Ii(I:Inv X pins Z H s):X.K.In s.heap:=I.ok.mod.OX.keeps I.bk
theorem Inv.nolimit(I:Inv X pins Z H s):s.heap.NoLimit:=I.ok.mod.nolimit.keeps I.bk
theorem Inv.lt(I:Inv X pins Z H s):X.env.locals<s.heap.objs.size:=let ⟨_,a,_⟩:=I.loc;a.lt
def Inv.sz(I:Inv X pins Z H s):X.s₀.heap.objs.size<=s.heap.objs.size:=ZU I.ok.above (ZH I.lt)
def Inv.Qx(I:Inv X pins Z H s){a:GM}(h:s.heap.objs.size<=a):a∉X.fs:=λd=>by
 obtain⟨_,o,b,_⟩:=I.ok.G5.mem d;exact absurd (ZC (ZY b) (ZU I.sz h)) (YZ _)
def Inv.MA(I:Inv X pins Z H s):∀x c,X.env.cells.lookup x=O c->c≠X.env.locals:=λx c e z=>by
 obtain⟨v,o,b,hd⟩:=I.cell x c e;obtain⟨m,⟨f,g,h,d,a,_⟩,_⟩:=I.loc;rw[z,d]at b;cases b;rw[a]at hd;cases hd
theorem Inv.G5(I:Inv X pins Z H s):s.heap.FunFrames X.base X.outer:=by
 have all:∀(l:List Env),(∀b∈GV l,b∈X.fs)->X.s₀.heap.FunFrames X.base l->s.heap.FunFrames X.base l:=by
  intro l
  induction l with
  |nil=>intro _ _;trivial
  |cons env r i =>
   intro h p;obtain⟨q,⟨a,o,d,n,m,hd⟩,j⟩:=p;have g:a∈X.fs:=h a (by unfold GV;rw[Y0,d];exact Zx);obtain⟨t,e⟩:=I.base.slot a o m (I.ok.Mu a g) g λz=>I.ok.KR a z g;exact⟨q,⟨a,_,d,n,e,hd⟩,i (λb f=>h b (by unfold GV;rw[Y0,d];exact Zw _ f)) j⟩
 exact all X.outer (λ_ f=>f) I.ok.G5
theorem Inv.stack(I:Inv X pins Z H s):s.heap.FunFrames X.base X.stack:=by
 rcases I.ok.OK with e | ⟨e,b⟩
 ·rw[e];exact I.G5
 ·rw[e];obtain⟨m,a,_⟩:=I.loc;refine .cons (by rw[I.ok.kind];decide) b a ?_ I.G5;exact Heap.get?_none_of_le (ZU I.ok.Km I.ok.above)
def Inv.GS(I:Inv X pins Z H s):∀b∈GV X.stack,b∈X.env.locals :: X.fs:=λb a=>by
 rcases I.ok.OK with e | ⟨e,d⟩
 ·rw[e]at a;exact Zw _ a
 ·rw[e]at a;unfold GV at a;rw[Y0,d]at a;exact a
def Inv.HP(I:Inv X pins Z H s):∀b∈GV X.stack,H b=Y:=λb a=>by
 rcases Zq.mp (I.GS b a) with e | a
 ·rw[e];exact I.free
 ·obtain⟨_,o,d,_⟩:=I.ok.G5.mem a;exact I.base.free b o d (I.ok.Mu b a) λz=>I.ok.KR b z a
def Inv.step{g':Array GenState}{t':Nat}{d':Drawn}{ch:X4}(I:Inv X pins Z H s)(D:∀b∈ch,(b∈X.ex\/X.s₀.heap.objs.size<=b)/\b≠X.env.locals/\(∀x c,X.env.cells.lookup x=O c->c≠b)/\∀p∈X.pn++pins,p.1≠b)(g:∀b o,b≠X.env.locals->b∉X.fs->b∉ch->s.heap.get? b=O o->H b=Y->h'.get? b=O o)(j:∀b o,b≠X.env.locals->b∈X.fs->b∉ch->s.heap.get? b=O o->H b=Y->∃G,h'.get? b=O { o with slots:=G })(f:∀b o,b∉ch->s.heap.get? b=some o->H b=none->H' b=none)(t:∀b o,b∉ch->s.heap.get? b=O o->∃B,h'.get? b=O B)(Io:∀b h,H b=O (.tup h)->H' b=O (.tup h))(HY:∀b o u,H b=O (.frz o u)->H' b=O (.frz o u))(Hu:∀b q,H b=O (.tbl q)->H' b=O (.tbl q))(R:∀m,s.heap.Ns X.env.locals m->h'.Ns X.env.locals m)(Q:Gn X.prog X.w H' h')(hg:AllBare g') :
  Inv X pins Z H' { s with heap:=h',gens:=g',drawn:=d',toks:=t' }:=by
 have P:∀b o,X.s₀.heap.get? b=O o->b≠X.env.locals:=λb o e=>ZV (ZC (ZY e) I.ok.above);have F:∀b o,X.s₀.heap.get? b=O o->b∉X.ex->b∉ch:=λb o e a y=>by
  rcases (D b y).1 with z | z
  ·exact a z
  ·exact absurd (ZC (ZY e) z) (YZ _)
 have cellK:∀x c,X.env.cells.lookup x=O c->∀v,s.heap.IsCell c v->h'.IsCell c v:=λx c e v ⟨o,A,hd⟩=>by
  have C:c∉ch:=λz=>(D c z).2.2.1 x c e M;by_cases N:c∈X.fs
  ·obtain⟨G,q⟩:=j c o (I.MA x c e) N C A (I.Gk x c e);exact⟨_,q,hd⟩
  ·exact⟨o,g c o (I.MA x c e) N C A (I.Gk x c e),hd⟩
 refine⟨I.ok,I.os,hg,⟨λb o e n y a=>?_,λb o e n y a=>?_,λb o e n a=>?_,λb o e a=>?_,λb h e=>Io b h (I.base.Io b h e),λb o h e=>HY b o h (I.base.HY b o h e),λb q e=>Hu b q (I.base.Hu b q e)⟩,?_,λx c e=>?_,?_,λx c e=>?_,λp L=>?_,Q,I.len⟩
 ·exact g b o (P b o e) y (F b o e a) (I.base.keep b o e n y a) (I.base.free b o e n a)
 ·obtain⟨G,e1⟩:=I.base.slot b o e n y a;obtain⟨U8,e2⟩:=j b _ (P b o e) y (F b o e a) e1 (I.base.free b o e n a);exact⟨U8,e2⟩
 ·obtain⟨B,e1⟩:=I.base.there b o e a;exact f b B (F b o e a) e1 (I.base.free b o e n a)
 ·obtain⟨B,e1⟩:=I.base.there b o e a;exact t b B (F b o e a) e1
 ·obtain⟨m,U,W⟩:=I.loc;refine⟨m,R m U,λi x v e1 e2 e3=>?_⟩;obtain⟨u,r,l⟩:=W i x v e1 e2 e3;refine⟨u,r,?_⟩;rcases l with l | ⟨k,c,e,z⟩
  ·exact .inl l
  ·exact .inr ⟨k,c,e,cellK x c e _ z⟩
 ·obtain⟨v,z⟩:=I.cell x c e;exact⟨v,cellK x c e v z⟩
 ·obtain⟨m,⟨o,_,_,A,_⟩,_⟩:=I.loc;exact f _ o (λz=>(D _ z).2.1 M) A I.free
 ·obtain⟨v,o,A,hd⟩:=I.cell x c e;exact f c o (λz=>(D c z).2.2.1 x c e M) A (I.Gk x c e)
 ·obtain⟨e,n,ne,nf,d⟩:=I.pin p L;have C:p.1∉ch:=λz=>(D p.1 z).2.2.2 p L M;exact⟨g p.1 p.2 ne nf C e n,f p.1 p.2 C e n,ne,nf,d⟩
def Inv.un{t':Nat}(I:Inv X pins Z H s)(u:Un X.fs [] H H' s.heap h')(g:Gn X.prog X.w H' h'):Inv X pins Z H' { s with heap:=h',toks:=t' }:=by
 obtain⟨m,⟨o,x,y,d,r⟩,_⟩:=id I.loc;obtain⟨q,j⟩:=u.any d I.free (by simp);exact I.step (g':=s.gens) (d':=s.drawn) (ch:=[]) (λ_ z=>nomatch z) (λb o _ a _ e n=>u.keep b o e n a (by simp)) (λb o _ a _ e n=>u.slot b o e n a (by simp)) (λb o _ e n=>u.free b o e n (by simp)) (λb o _ e=>u.there b o e (by simp)) u.Io u.HY u.Hu (λv i=>by
  obtain⟨t,p,l,f,h⟩:=i;rw[d]at f;cases f;exact⟨_,p,l,j,h⟩) g I.bare
def Inv.call{g':Array GenState}{t':Nat}{d':Drawn}{ch:X4}(I:Inv X pins Z H s)(u:Un (GV X.stack) ch H H' s.heap h')(i:Gn X.prog X.w H' h')(q:AllBare g')(g:∀b∈ch,(b∈X.ex\/X.s₀.heap.objs.size<=b)/\b≠X.env.locals/\(∀x c,X.env.cells.lookup x=O c->c≠b)/\∀p∈X.pn++pins,p.1≠b) :
  Inv X pins Z H' { s with heap:=h',gens:=g',drawn:=d',toks:=t' }:=by
 obtain⟨m,⟨o,D,F,f,r⟩,_⟩:=id I.loc;obtain⟨A,d⟩:=u.any f I.free λz=>(g _ z).2.1 M;exact I.step (ch:=ch) g (λb o d t a e n=>u.keep b o e n (λz=>(Zq.mp (I.GS b z)).elim d t) a) (λb o _ _ a e n=>u.any e n a) (λb o a e n=>u.free b o e n a) (λb o a e=>u.there b o e a) u.Io u.HY u.Hu (λC l=>by
  obtain⟨B,y,v,h,j⟩:=l;rw[f]at h;cases h;exact⟨_,y,v,d,j⟩) i q
def Inv.turned{t':Nat}{it:GM}(I:Inv X pins Z H s)(k:∀b o,b≠it->s.heap.get? b=O o->h'.get? b=O o)(h:H it=Y)(d:it≠X.env.locals)(t:it∈X.ex\/X.s₀.heap.objs.size<=it)(l:∀x c,X.env.cells.lookup x=O c->c≠it)(h3:∀p∈X.pn++pins,p.1≠it):Inv X pins Z H { s with heap:=h',toks:=t' }:=by
 have f:∀b u,H b=O u->b≠it:=λb u e z=>by rw[z,h]at e;cases e
 refine I.step (g':=s.gens) (d':=s.drawn) (ch:=[it]) (λb j=>?_) (λb o _ _ a e _=>k b o (λz=>a (by simp[z])) e) (λb o _ _ a e _=>⟨o.slots,k b o (λz=>a (by simp[z])) e⟩) (λ_ _ _ _ n=>n)
  (λb o a e=>⟨o,k b o (λz=>a (by simp[z])) e⟩) (λ_ _ e=>e) (λ_ _ _ e=>e) (λ_ _ e=>e) (λm i=>?_) (λb u e=>?_) I.bare
 ·have e:b=it:=by simpa using j
  subst e;exact⟨t,d,l,h3⟩
 ·obtain⟨o,w,y,g,r⟩:=i;exact⟨o,w,y,k _ o (Y2 d) g,r⟩
 ·refine(I.xa b u e).Hv (λc v a q=>k c v ?_ q) (λ_ q=>q) (λ_ _ q=>q) λ_ _ _ q=>q;rcases a with z | z
  ·rw[z];exact f b u e
  ·exact f c _ z
def Inv.tok(I:Inv X pins Z H s)(t:Nat):Inv X pins Z H { s with toks:=t }:=I.un (h':=s.heap) (t':=t) Un.refl I.xa
theorem Inv.kept{t':Nat}(I:Inv X pins Z H s)(k:∀b u,s.heap.get? b=O u->h'.get? b=O u):Inv X pins Z H { s with heap:=h',toks:=t' }:=I.un (Un.kept k) (I.xa.kept k)
theorem Inv.laid{a:GM}{o:HO}{t':Nat}(I:Inv X pins Z H s)(k:∀b u,s.heap.get? b=O u->h'.get? b=O u)(e:s.heap.objs.size<=a)(d:bg X.prog X.w (upd H a o) h' a o) :
  Inv X pins Z (upd H a o) { s with heap:=h',toks:=t' }:=I.un (Un.laid k e (I.xa.fresh e)) (I.xa.laid k e d)
theorem Inv.write{x e:GM}{o:HO}{g:Nat}(I:Inv X pins Z H s)(d:FG (H x))(he:e=x\/H e=O (.own x))(k:∀b u,b≠e->s.heap.get? b=O u->h'.get? b=O u)(f:∃u,h'.get? e=O u)(a:bg X.prog X.w (upd H x o) h' x o):Inv X pins Z (upd H x o) { s with heap:=h',toks:=g }:=I.un (Un.write d he k f) (I.xa.write d he k f a)
def Inv.Jh{a:Yf}(I:Inv X pins Z H s)(h:∀p∈a,s.heap.get? p.1=O p.2/\H p.1=Y/\p.1≠X.env.locals/\p.1∉X.fs/\∀v,p.2.data ≠ .cell v):Inv X a Z H s :=
 ⟨I.ok,I.os,I.bare,I.base,I.loc,I.cell,I.free,I.Gk,λp b=>(Zb.mp b).elim (λz=>I.pin p (Xy _ z)) (h p),I.xa,I.len⟩
def pG{N:List Str}(d:N.Nodup){i j:Nat}{x:Str}(a:N[i]?=O x)(b:N[j]?=O x):i=j:=by
 obtain⟨f,e1⟩:=ZW.mp a;obtain⟨e,e2⟩:=ZW.mp b;exact(List.getElem_inj d).mp (e1.trans e2.symm)
def uN{Mq0:Model}{A:Pi}{E:Yu}{i:Nat}{x:Str}{v:V}{u:IR}{Q:Unit->FB->Prop}(I:Inv X pins Z H s)(hN:X.N.Nodup)(D:X.N[i]?=O x)(l:Loc X.env.scope x)(r:RelV v u)(h:∀R,Inv X pins (Z.set i (O v)) H R->(∃a,Heap.SameBut a s.heap R.heap/\(a=X.env.locals\/X.env.cells.lookup x=O a))->Q () R)(hf:X.fn x=J\/X.env.scope.names.lookup x=O .local:=by first | exact .inl rfl | exact .inr rfl | assumption):KB Mq0 A (storeName X.env x u) Q E s:=by
 obtain⟨m,hn,hl⟩:=id I.loc;have RK:(X.env.scope.kind == .class||(X.env.scope.kind == .module&&X.env.locals != X.env.globals))=S:=by rw[I.ok.kind];rfl
 have TY:i<Z.length:=by rw[I.len];exact(ZW.mp D).1
 have MA:=I.MA;have tracked:∀{a:GM}{h':SC},(∃o,s.heap.get? a=O o/\H a=Y)->Heap.SameBut a s.heap h'->Gn X.prog X.w H h':=λ{a h'} ha f b ob e=>by
  obtain⟨_,_,Lp⟩:=ha;refine(I.xa b ob e).Hv (λc F g q=>(f.2 c ?_).trans q) (λ_ q=>q) (λ_ _ q=>q) λ_ _ _ q=>q;rintro rfl;rcases g with rfl | g
  ·rw[Lp]at e;cases e
  ·rw[Lp]at g;cases g
 rcases l with t | t
 ·refine wpAny_storeName_local t hn (λh' hn' f=>?_) RK;obtain⟨oL,_,_,Jl,_⟩:=id hn;refine h _ ⟨I.ok,I.os,I.bare,⟨λb o e n C l=>?_,λb o e n C l=>?_,I.base.free,λb o e l=>?_,I.base.Io,I.base.HY,I.base.Hu⟩,⟨_,hn',λj y L e1 e2 e3=>?_⟩,λy c e=>?_,I.free,I.Gk,λp hp=>?_,tracked ⟨oL,Jl,I.free⟩ f,by simpa using I.len⟩ ⟨_,f,.inl rfl⟩
  ·exact(f.2 b (ZV (ZC (ZY e) I.ok.above))).trans (I.base.keep b o e n C l)
  ·obtain⟨P,e1⟩:=I.base.slot b o e n C l;exact⟨P,(f.2 b (ZV (ZC (ZY e) I.ok.above))).trans e1⟩
  ·obtain⟨W,e1⟩:=I.base.there b o e l;exact⟨W,(f.2 b (ZV (ZC (ZY e) I.ok.above))).trans e1⟩
  ·by_cases B:j=i
   ·subst B;rw[D]at e1;cases e1;rw[Xn TY]at e2;cases e2;exact⟨u,r,.inl ⟨t,by simp⟩⟩
   ·rw[XT (Y2 B)]at e2;obtain⟨M,U,q⟩:=hl j y L e1 e2 e3;refine⟨M,U,?_⟩;rcases q with⟨k,e⟩ | ⟨k,c,e,z⟩
    ·refine .inl ⟨k,?_⟩;have:y≠x:=λe=>B (pG hN e1 (e ▸ D));simp[this,e]
    ·exact .inr ⟨k,c,e,z.sameBut f (MA y c e)⟩
  ·obtain⟨F,z⟩:=I.cell y c e;exact⟨F,z.sameBut f (MA y c e)⟩
  ·obtain⟨e,n,ne,nf,d⟩:=I.pin p hp;exact⟨(f.2 p.1 ne).trans e,n,ne,nf,d⟩
 ·have RB:X.fn x=J:=by
   rcases hf with z | z
   ·exact z
   ·rw[z]at t;cases t
  obtain⟨c,g⟩:=I.ok.has x (.inl t);obtain⟨F,z⟩:=I.cell x c g;refine wpAny_storeName_cell I.ok.kind t g z (λh' GC f=>?_);obtain⟨oc,NO,Rf⟩:=id z;refine h { s with heap:=h' } ⟨I.ok,I.os,I.bare,⟨λb o e n C l=>?_,λb o e n C l=>?_,I.base.free,λb o e l=>?_,I.base.Io,I.base.HY,I.base.Hu⟩,⟨m,hn.sameBut f (Y2 (MA x c g)),λj y L e1 e2 e3=>?_⟩,λy G e=>?_,I.free,I.Gk,λp hp=>?_,tracked ⟨oc,NO,I.Gk x c g⟩ f,by simpa using I.len⟩ ⟨c,f,.inr g⟩
  ·exact(f.2 b (ZV (ZC (ZY e) (I.ok.Ow x c RB g)))).trans (I.base.keep b o e n C l)
  ·obtain⟨P,e1⟩:=I.base.slot b o e n C l;exact⟨P,(f.2 b (ZV (ZC (ZY e) (I.ok.Ow x c RB g)))).trans e1⟩
  ·obtain⟨W,e1⟩:=I.base.there b o e l;exact⟨W,(f.2 b (ZV (ZC (ZY e) (I.ok.Ow x c RB g)))).trans e1⟩
  ·by_cases B:j=i
   ·subst B;rw[D]at e1;cases e1;rw[Xn TY]at e2;cases e2;exact⟨u,r,.inr ⟨.inl t,c,g,GC⟩⟩
   ·rw[XT (Y2 B)]at e2;obtain⟨M,U,q⟩:=hl j y L e1 e2 e3;refine⟨M,U,?_⟩;rcases q with q | ⟨k,G,e,z'⟩
    ·exact .inl q
    ·refine .inr ⟨k,G,e,z'.sameBut f ?_⟩;rintro rfl;exact B (pG hN e1 (I.ok.inj _ _ _ e g ▸ D))
  ·by_cases NZ:G=c
   ·subst NZ;exact⟨_,GC⟩
   ·obtain⟨w2,z2⟩:=I.cell y G e;exact⟨w2,z2.sameBut f NZ⟩
  ·obtain⟨e,n,ne,nf,d⟩:=I.pin p hp;refine⟨(f.2 p.1 ?_).trans e,n,ne,nf,d⟩;intro q;rw[q,NO]at e;have q':oc=p.2:=ZK e;exact d F (by rw[← q'];exact Rf)
def oU{b:Model}{A:Pi}{E:Yu}{i:Nat}{x:Str}{v:V}{u:IR}{Q:Unit->FB->Prop}(I:Inv X pins Z H s)(g:X.N.Nodup)(e:X.N[i]?=O x)(d:Loc X.env.scope x)(r:RelV v u)(h:∀a,Inv X pins (Z.set i (O v)) H a->Q () a)(f:X.fn x=J\/X.env.scope.names.lookup x=O .local:=by first | exact .inl rfl | exact .inr rfl | assumption):KB b A (storeName X.env x u) Q E s :=
 uN I g e d r (λa j _=>h a j) f
def Inv.Ov{a:FB}{ch:X4}(I:Inv X pins Z H s)(g:a.os=s.os)(u:Un (GV X.stack) ch H H' s.heap a.heap)(d:Gn X.prog X.w H' a.heap)(h:AllBare a.gens)(i:∀b∈ch,(b∈X.ex\/X.s₀.heap.objs.size<=b)/\b≠X.env.locals/\(∀x c,X.env.cells.lookup x=O c->c≠b)/\∀p∈X.pn++pins,p.1≠b):Inv X pins Z H' a:=by
 obtain⟨h',g',d',t',f⟩:=a;have e:f=s.os:=g;subst e;exact I.call (g':=g') (t':=t') (d':=d') u d h i
end
abbrev XK:=IR->Option GM->Hp->Prop
abbrev St:=List (Option V)
abbrev VK:=V->Hp->Prop
abbrev TE:=St->Hp->VK->Prop
abbrev TT:=St->Hp->(Bool->Hp->Prop)->Prop
abbrev TA:=St->Hp->(List V->Hp->Prop)->Prop
structure Ends where
 nx:St->Hp->Prop
 rt:VK
 bk:St->Hp->Prop:=λ_ _=>False
 ct:St->Hp->Prop:=λ_ _=>False
abbrev TS:=Ends->St->Hp->Prop
def EP(X:Cx)(a:Yf)(Z:St)(Q:VK)(u:IR)(d:FB):Prop:=∃v b,Inv X a Z b d/\RelV v u/\Q v b
def TP(X:Cx)(a:Yf)(Z:St)(Q:Bool->Hp->Prop)(b:Bool)(e:FB):Prop:=∃d,Inv X a Z d e/\Q b d
def AP(X:Cx)(a:Yf)(Z:St)(Q:List V->Hp->Prop)(e:Ws)(f:FB):Prop:=∃b d,Inv X a Z d f/\aT b e/\Q b d
def SP(X:Cx)(a:Yf)(D:Ends)(f:Flow)(e:FB):Prop :=
 match f with
 |.next=>∃d b,Inv X a d b e/\D.nx d b
 |.brk=>∃d b,Inv X a d b e/\D.bk d b
 |.cont=>∃d b,Inv X a d b e/\D.ct d b
 |.ret u=>∃v d b,Inv X a d b e/\RelV v u/\D.rt v b
def PE(X:Cx)(e:Expr)(t:TE):Prop :=
 ∀(a:Yf)(s:FB)(Z:St)(H:Hp)(Q:VK),Inv X a Z H s->t Z H Q->KB (FM X.prog X.w) X.A (eval e X.env) (EP X a Z Q) X.xe s
def PT(X:Cx)(e:Expr)(t:TT):Prop :=
 ∀(a:Yf)(s:FB)(Z:St)(H:Hp)(Q:Bool->Hp->Prop),Inv X a Z H s->t Z H Q->KB (FM X.prog X.w) X.A (isTrue e X.env (eval e X.env)) (TP X a Z Q) X.xe s
def PW(X:Cx)(e:Expr)(t:TT):Prop :=
 ∀(whole:Sem IR)(a:Yf)(s:FB)(Z:St)(H:Hp)(Q:Bool->Hp->Prop),Inv X a Z H s->t Z H Q->KB (FM X.prog X.w) X.A (isTrue e X.env whole) (TP X a Z Q) X.xe s
def PW.pt{X:Cx}{e:Expr}{t:TT}(h:PW X e t):PT X e t:=h _
def PA(X:Cx)(b:List Expr)(t:TA):Prop :=
 ∀(pos:Pos)(a:Yf)(s:FB)(Z:St)(H:Hp)(Q:List V->Hp->Prop),Inv X a Z H s->t Z H Q->KB (FM X.prog X.w) X.A (spliced (backTo pos (KM b X.env))) (AP X a Z Q) X.xe s
def PS(X:Cx)(b:Stmt)(t:TS):Prop :=
 ∀(a:Yf)(s:FB)(Z:St)(H:Hp)(D:Ends),Inv X a Z H s->t D Z H->KB (FM X.prog X.w) X.A (exec b X.env) (SP X a D) X.xe s
def HJ(X:Cx)(b:List Stmt)(t:TS):Prop :=
 ∀(a:Yf)(s:FB)(Z:St)(H:Hp)(D:Ends),Inv X a Z H s->t D Z H->KB (FM X.prog X.w) X.A (execs b X.env) (SP X a D) X.xe s
def thn{α:Type}{t:Sem α}{Q b:α->FB->Prop}{M:Model}{A:Pi}{E:Yu}{s:FB}(h:KB M A t Q E s)(d:∀a s,Q a s->b a s):KB M A t b E s:=Yj h d λ_ _ x=>x
section
variable{X:Cx}
def zo(i:Nat):TE:=λZ H Q=>∃v,Z[i]?=O (O v)/\Q v H
def tC(v:V):TE:=λ_ H Q=>Q v H
def fF{i:Nat}{x:Str}{d:Pos}(t:X.N[i]?=O x)(n:Ik X.env.scope x)(f:K2 x:=by decide)(w:K3 x:=by decide):PE X (.Name x d) (zo i):=by
 intro b s Z H Q I h;obtain⟨v,e,h⟩:=h;obtain⟨m,o,q⟩:=I.loc;obtain⟨u,r,l⟩:=q i x v t e n;have fin:EP X b Z Q u s:=⟨v,H,I,r,h⟩
 rcases l with⟨a,p⟩ | ⟨a,c,g,j⟩
 ·exact wpAny_Name (wpAny_loadName_local I.ok.kind a o p fin) f
 ·rcases a with a | a
  ·exact wpAny_Name (wpAny_loadName_cell I.ok.kind a g j fin) f
  ·exact wpAny_Name (wpAny_loadName_free I.ok.kind a g j fin w) f
def wg{i j pos}:PE X (.Constant (.int i) j pos) (tC (.int i)):=λ_ _ _ H _ I h=>wpAny_Constant_int ⟨.int i,H,I.tok _,⟨_,rfl⟩,h⟩
def DV{b j pos}:PE X (.Constant (.bool b) j pos) (tC (.bl b)):=λ_ _ _ H _ I h=>Constant_bool ⟨.bl b,H,I,rfl,h⟩
def Bx{j pos}:PE X (.Constant .none j pos) (tC .non):=λ_ _ _ H _ I h=>Constant_none ⟨.non,H,I,rfl,h⟩
def wA{x j pos}:PE X (.Constant (.str x) j pos) (tC (.str x)):=λ_ _ _ H _ I h=>Calls.Constant_str ⟨.str x,H,I.tok _,⟨_,rfl⟩,h⟩
def Gl(X:Cx)(x:Str):Prop:=X.env.kindOf x=O .globalImplicit
def sU{E:Yu}{a:Yf}{s:FB}{Z:St}{H:Hp}{x:Str}{u:IR}{b:Pos}{Q:Yu}(I:Inv X a Z H s)(e:Gl X x)(d:X.mg x=O u)(h:Q u s)(f:K2 x:=by decide):KB (FM X.prog X.w) X.A (eval (.Name x b) X.env) Q E s :=
 Calls.Name_function_global I.ok.kind e (Calls.loadGlobal_global (by rw[I.ok.glob];exact I.mod.glob.keeps I.bk) d h) f
def gL{E:Yu}{a:Yf}{s:FB}{Z:St}{H:Hp}{x:Str}{u:IR}{pos:Pos}{Q:Yu}(I:Inv X a Z H s)(f:Gl X x)(e:X.mg x=Y)(b:bootBuiltins x=O u)(h:Q u s)(d:x ≠ "__name__" := by decide)(g:K2 x:=by decide):KB (FM X.prog X.w) X.A (eval (.Name x pos) X.env) Q E s:=by
 obtain⟨l,j,i⟩:=I.mod.blt;exact Calls.Name_function_global I.ok.kind f (Calls.loadGlobal_builtin (by rw[I.ok.glob];exact I.mod.glob.keeps I.bk) e (by rw[I.ok.blt];exact j.keeps I.bk) ((i x d).trans b) h) g
def As{x:Str}{v:V}{u:IR}{pos:Pos}(b:Gl X x)(a:X.mg x=O u)(r:RelV v u)(d:K2 x:=by decide):PE X (.Name x pos) (tC v) :=
 λ_ _ _ H _ I h=>sU I b a ⟨v,H,I,r,h⟩ d
def zg{x:Str}{v:V}{u:IR}{a:Pos}(f:Gl X x)(e:X.mg x=Y)(b:bootBuiltins x=O u)(r:RelV v u)(d:x ≠ "__name__" := by decide)(g:K2 x:=by decide):PE X (.Name x a) (tC v) :=
 λ_ _ _ H _ I h=>gL I f e b ⟨v,H,I,r,h⟩ d g
variable{a b:Expr}{ta tb:TE}{pos:Pos}
def PC(X:Cx)(g:CmpOp)(a b:Expr)(t:TE):Prop :=
 ∀(d:Yf)(s:FB)(Z:St)(H:Hp)(Q:VK),Inv X d Z H s->t Z H Q →
  KB (FM X.prog X.w) X.A (eval a X.env) (λv f=>KB (FM X.prog X.w) X.A (eval b X.env) (λu e=>KB (FM X.prog X.w) X.A (SB g v u) (EP X d Z Q) X.xe e) X.xe f) X.xe s
def oO(b:Expr){d:CmpOp}(h:d ≠ .In)(e:d ≠ .NotIn):behindInMarks d b=S:=by
 have e1:(d==CmpOp.In)=S:=by cases d<;>first | rfl | exact absurd M h
 have e2:(d==CmpOp.NotIn)=S:=by cases d<;>first | rfl | exact absurd M e
 cases b<;>simp[behindInMarks,e1,e2]
def ES(d:TE):TE:=λZ H Q=>d Z H λx e=>Q (.bl (decide (x=.non))) e
def RelV.JZ{x:V}{v:IR}(r:RelV x v):(v==Value.none)=decide (x=.non):=by
 cases x with
 |non=>cases r;rfl
 |bl _=>cases r;rfl
 |int _=>obtain⟨t,rfl⟩:=r;rfl
 |str _=>obtain⟨t,rfl⟩:=r;rfl
 |byt _=>obtain⟨t,rfl⟩:=r;rfl
 |flt _=>obtain⟨t,rfl⟩:=r;rfl
 |ref _=>cases r;rfl
 |ty _=>cases r;rfl
def wa{j pos'}(f:PE X a ta):PC X .Is a (.Constant .none j pos') (ES ta):=by
 intro d s Z H Q I h;refine thn (f d s Z H _ I h) λv l ⟨x,i,g,r1,e⟩=>?_;exact Constant_none (is_none_gen ⟨.bl _,i,g,by rw[r1.JZ];rfl,e⟩)
def tB(t:TE):TT:=λZ H Q=>t Z H λx d=>∃c,x=.bl c/\Q c d
def Bv{e:CmpOp}{t:TE}(h:PC X e a b t)(f:behindInMarks e b=S:=by first | exact oO _ (by decide) (by decide) | rfl):PE X (.Compare a [e] [b] pos) t:=λd s Z H Q I hw=>wpAny_Compare1 (h d s Z H Q I hw) f
def BC{f:CmpOp}{t:TE}(h:PC X f a b t)(g:behindInMarks f b=S:=by first | exact oO _ (by decide) (by decide) | rfl):PT X (.Compare a [f] [b] pos) (tB t):=by
 intro e s Z H Q I hw;refine wpAny_isTrue_Compare1 (thn (h e s Z H _ I hw) λv p g=>thn g λu o j=>thn j λc n ⟨x,m,l,r1,i⟩=>?_) g;obtain⟨d,rfl,q⟩:=i;cases r1;exact Y4 ⟨m,l,q⟩
variable{tA OJ:TT}{rest:List Expr}
def Fm(t u:TT):TT:=λZ H Q=>t Z H λc d=>if c=J then u Z d Q else Q S d
def UO(t u:TT):TT:=λZ H Q=>t Z H λc d=>if c=J then Q J d else u Z d Q
def ER(t:TT):TT:=λZ H Q=>t Z H λc d=>Q (!c) d
def nQ(f:PT X a tA):PW X (.BoolOp .And [a] pos) tA:=by
 intro g d s Z H Q I h;refine isTrue_and (thn (f d s Z H Q I h) λc i e=>?_);cases c with
 |true=>exact isTrue_and_nil e
 |false=>exact e
def CW(f:PT X a tA):PW X (.BoolOp .Or [a] pos) tA:=by
 intro g d s Z H Q I h;refine isTrue_or (thn (f d s Z H Q I h) λc i e=>?_);cases c with
 |false=>exact isTrue_or_nil e
 |true=>exact e
def Ct(m:PT X a tA)(l:PW X (.BoolOp .And (b :: rest) pos) OJ):PW X (.BoolOp .And (a :: b :: rest) pos) (Fm tA OJ):=by
 intro i d s Z H Q I h;refine isTrue_and (thn (m d s Z H _ I h) λc j ⟨g,f,e⟩=>?_);cases c with
 |true=>exact l i d j Z g Q f e
 |false=>exact⟨g,f,e⟩
def De(m:PT X a tA)(l:PW X (.BoolOp .Or (b :: rest) pos) OJ):PW X (.BoolOp .Or (a :: b :: rest) pos) (UO tA OJ):=by
 intro i d s Z H Q I h;refine isTrue_or (thn (m d s Z H _ I h) λc j ⟨g,f,e⟩=>?_);cases c with
 |true=>exact⟨g,f,e⟩
 |false=>exact l i d j Z g Q f e
def BK(e:PT X a tA):PT X (.UnaryOp .Not a pos) (ER tA):=by
 intro d s Z H Q I h;exact isTrue_not (e d s Z H (λc f=>Q (!c) f) I h)
def Dy(f e:TE):TE:=λZ H Q=>f Z H λx d=>∃c,x=.bl c/\if c=J then e Z d Q else Q (.bl S) d
def Do(d:TE):TE:=λZ H Q=>d Z H λx e=>∃c,x=.bl c/\Q (.bl (!c)) e
def BS{op}{t:TE}(h:PE X a t):PE X (.BoolOp op [a] pos) t:=λd s Z H Q I hw=>BoolOp_one (h d s Z H Q I hw)
def BM(l:PE X a ta)(j:PE X (.BoolOp .And (b :: rest) pos) tb):PE X (.BoolOp .And (a :: b :: rest) pos) (Dy ta tb):=by
 intro d s Z H Q I h;refine BoolOp_and (thn (l d s Z H _ I h) λv i ⟨x,g,f,r1,e⟩=>?_);obtain⟨c,rfl,e⟩:=e;cases r1;refine Y4 ?_;cases c with
 |true=>exact j d i Z g Q f e
 |false=>exact⟨.bl S,g,f,rfl,e⟩
def Cm(f:PE X a ta):PE X (.UnaryOp .Not a pos) (Do ta):=by
 intro d s Z H Q I h;refine UnaryOp_ (thn (f d s Z H _ I h) λv j ⟨x,i,g,r1,e⟩=>?_);obtain⟨c,rfl,e⟩:=e;cases r1;exact not_of (Y4 ⟨.bl (!c),i,g,rfl,e⟩)
def UP(t:TT)(f e:TE):TE:=λZ H Q=>t Z H λc d=>if c=J then f Z d Q else e Z d Q
def v9{c:Expr}(l:PT X c tA)(n:PE X a ta)(m:PE X b tb):PE X (.IfExp c a b pos) (UP tA ta tb):=by
 intro e s Z H Q I h;refine wpAny_IfExp (thn (l e s Z H _ I h) λd f ⟨j,i,g⟩=>?_);cases d with
 |true=>exact n e f Z j Q i g
 |false=>exact m e f Z j Q i g
end
def FF(K:Xd)(H:Hp)(a:GM)(d:List V):Prop :=
 Rd H a (.lst d) ∨
  ∃(o:Obj)(b:Array IR)(n:Nat),K.lookup a=O o/\o.cls=.type "list" ∧ o.dict=Y/\o.data=.seq b n/\b.size<=FS/\aT d b.toList
def GA(K:Xd)(H:Hp)(a:GM)(d:List V):Prop :=
 Rd H a (.tup d) ∨
  ∃(o:Obj)(b:Array IR)(n:Nat),K.lookup a=O o/\o.cls=.type "tuple" ∧ o.data=.seq b n/\b.size<=FS/\aT d b.toList
def EZ:IR->Option V
 |.none=>O .non
 |.bool b=>O (.bl b)
 |.int i _=>O (.int i)
 |.str x _=>O (.str x)
 |.bytes b _=>O (.byt b)
 |.float b _=>O (.flt b)
 |.ref a=>O (.ref a)
 |.type n=>O (.ty n)
 |_=>Y
def RelV.abs{x:V}{u:IR}(r:RelV x u):EZ u=O x:=by
 cases x with
 |non=>cases r;rfl
 |bl _=>cases r;rfl
 |int _=>obtain⟨t,rfl⟩:=r;rfl
 |str _=>obtain⟨t,rfl⟩:=r;rfl
 |byt _=>obtain⟨t,rfl⟩:=r;rfl
 |flt _=>obtain⟨t,rfl⟩:=r;rfl
 |ref _=>cases r;rfl
 |ty _=>cases r;rfl
def RelV.inj{x y:V}{u:IR}(r:RelV x u)(q:RelV y u):x=y:=ZK (r.abs.symm.trans q.abs)
theorem aT.inj:∀{b a:List V}{d:Ws},aT b d->aT a d->b=a
 |_,_,_,.nil,.nil=>rfl
 |_,_,_,.cons r t,.cons f e=>by rw[r.inj f,aT.inj t e]
section
variable{X:Cx}{pins:Yf}{Z:St}{H:Hp}{s:FB}{a:GM}{xs ys:List V}
def FF.of{K:Xd}(h:H a=O (.lst xs)):FF K H a xs:=.inl (.inl h)
def GA.of{K:Xd}(h:H a=O (.tup xs)):GA K H a xs:=.inl (.inl h)
def Inv.list(I:Inv X pins Z H s)(h:FF X.K H a xs):∃b:Ws,aT xs b/\PlainL s.heap a b.toArray/\xs.length<=sizeLine:=by
 rcases h with h | ⟨o,b,n,f,g,hd,d,i,r⟩
 ·obtain⟨z,b,n,r,e⟩:=h.ok I.xa;exact⟨b,r,⟨_,n,e,rfl,rfl,rfl⟩,z⟩
 ·refine⟨b.toList,r,⟨o,n,I.Ii a o f,g,hd,by simpa using d⟩,?_⟩;have e:=r.length;simp only[Yg]at e;lia
def Inv.tuple(I:Inv X pins Z H s)(h:GA X.K H a xs):∃b:Ws,aT xs b/\IsTup s.heap a b.toArray/\xs.length<=sizeLine:=by
 rcases h with h | ⟨o,b,n,f,g,d,i,r⟩
 ·obtain⟨z,b,r,_,p⟩:=h.ok I.xa;exact⟨b,r,p,z⟩
 ·refine⟨b.toList,r,⟨o,I.Ii a o f,g,n,by simpa using d⟩,?_⟩;have e:=r.length;simp only[Yg]at e;lia
def Inv.Hc(I:Inv X pins Z H s)(h:FF X.K H a xs)(l:FF X.K H a ys):xs=ys:=by
 obtain⟨j,r,⟨o,n,e,_,_,d⟩,_⟩:=I.list h;obtain⟨b,i,⟨m,p,f,_,_,g⟩,_⟩:=I.list l;rw[e]at f;cases f;rw[d]at g;injection g with d1 _
 have:j=b:=by simpa using congrArg Array.toList d1
 subst this;exact r.inj i
def Inv.Jr(I:Inv X pins Z H s)(h:GA X.K H a xs)(l:GA X.K H a ys):xs=ys:=by
 obtain⟨j,r,⟨o,e,_,n,d⟩,_⟩:=I.tuple h;obtain⟨b,i,⟨m,f,_,p,g⟩,_⟩:=I.tuple l;rw[e]at f;cases f;rw[d]at g;injection g with d1 _
 have:j=b:=by simpa using congrArg Array.toList d1
 subst this;exact r.inj i
end
abbrev Cx.Hr(X:Cx)(E:Yu):Cx:={ X with xe:=E }
abbrev Cx.Kz(X:Cx):Cx:=X.Hr λ_ _=>False
theorem Cx.Ok.Hr{X:Cx}(a:X.Ok)(E:Yu):(X.Hr E).Ok :=
 ⟨a.mod,a.kind,a.glob,a.blt,a.above,a.inj,a.has,a.Ow,a.hd,a.frames,a.OK,a.Ua,a.tb,a.bs,a.Km,a.J1,a.KR,a.G5,a.Mu⟩
def Cx.Ok.Gi{X:Cx}{E:Yu}(a:(X.Hr E).Ok):X.Ok :=
 ⟨a.mod,a.kind,a.glob,a.blt,a.above,a.inj,a.has,a.Ow,a.hd,a.frames,a.OK,a.Ua,a.tb,a.bs,a.Km,a.J1,a.KR,a.G5,a.Mu⟩
section
variable{X:Cx}{pins:Yf}{Z:St}{H:Hp}{s:FB}{E:Yu}
theorem Inv.Hr(I:Inv X pins Z H s)(E:Yu):Inv (X.Hr E) pins Z H s:=⟨I.ok.Hr E,I.os,I.bare,I.base,I.loc,I.cell,I.free,I.Gk,I.pin,I.xa,I.len⟩
theorem Inv.Gi(I:Inv (X.Hr E) pins Z H s):Inv X pins Z H s:=⟨I.ok.Gi,I.os,I.bare,I.base,I.loc,I.cell,I.free,I.Gk,I.pin,I.xa,I.len⟩
theorem SP.Gi{D:Ends}{f:Flow}{d:FB}(h:SP (X.Hr E) pins D f d):SP X pins D f d:=by
 cases f with
 |next=>obtain⟨a,b,I,q⟩:=h;exact⟨a,b,I.Gi,q⟩
 |brk=>obtain⟨a,b,I,q⟩:=h;exact⟨a,b,I.Gi,q⟩
 |cont=>obtain⟨a,b,I,q⟩:=h;exact⟨a,b,I.Gi,q⟩
 |ret u=>obtain⟨v,a,b,I,r,q⟩:=h;exact⟨v,a,b,I.Gi,r,q⟩
theorem HJ.Kz{a:List Stmt}{t:TS}(h:HJ X.Kz a t):HJ X a t:=λpins s Z H D I hw =>
 Yj (h pins s Z H D (I.Hr _) hw) (λ_ _ q=>q.Gi) λ_ _ z=>False.elim z
end
section
variable{X:Cx}{st:Stmt}{rest:List Stmt}{t u:TS}{e:Expr}{te:TE}{pos:Pos}
def Er:TS:=λD Z H=>D.nx Z H
def Fq(t u:TS):TS:=λD Z H=>t { D with nx:=u D } Z H
def zT:HJ X [] Er:=λ_ _ Z H _ I h=>wpAny_execs_nil ⟨Z,H,I,h⟩
def vD(g:PS X st t)(d:HJ X rest u):HJ X (st :: rest) (Fq t u):=by
 intro a s Z H D I h;refine wpAny_execs_cons (thn (g a s Z H { D with nx:=u D } I h) λf b q=>?_);cases f with
 |next =>
  obtain⟨i,l,j,q⟩:=q;exact d a b i l D j q
 |ret v=>exact q
 |brk=>exact q
 |cont=>exact q
def aC(b:PS X st t):HJ X [st] t:=by
 intro a s Z H D I h;refine wpAny_execs_cons (thn (b a s Z H D I h) λf d q=>?_);cases f with
 |next=>exact wpAny_execs_nil q
 |ret v=>exact q
 |brk=>exact q
 |cont=>exact q
def Inv.quiet{a:Yf}{Z:St}{H:Hp}{s:FB}(I:Inv X a Z H s):interactive X.env=S:=by simp[interactive,I.ok.kind]
def Dc(a:TE):TS:=λD Z H=>a Z H λ_ b=>D.nx Z b
def ny(f:PE X e te)(d:swapsWith e Y pos.line X.env=pure S:=by rfl):PS X (.Expr e pos) (Dc te):=by
 intro a s Z H D I h;exact wpAny_Expr_any (thn (f a s Z H _ I h) λv j ⟨x,i,g,r1,b⟩=>⟨Z,i,g,b⟩) I.quiet d
def Fe(a:TE):TS:=λD Z H=>a Z H D.rt
def qW(d:PE X e te):PS X (.Return (O e) pos) (Fe te):=by
 intro a s Z H D I h;exact wpAny_Return_some (thn (d a s Z H _ I h) λv i ⟨x,g,f,r1,b⟩=>⟨x,Z,g,f,r1,b⟩)
def E7(c:TT)(t u:TS):TS:=λD Z H=>c Z H λb a=>if b=J then t D Z a else u D Z a
def D8{c:Expr}{a b:List Stmt}{g:TT}(n:PT X c g)(p:HJ X a t)(o:HJ X b u):PS X (.If c a b pos) (E7 g t u):=by
 intro f s Z H D I h;refine wpAny_If (thn (n f s Z H _ I h) λd i ⟨m,l,j⟩=>?_);cases d with
 |true=>exact p f i Z m D l j
 |false=>exact o f i Z m D l j
end
abbrev TG:=V->St->Hp->(St->Hp->Prop)->Prop
abbrev KY:=List V->St->Hp->(St->Hp->Prop)->Prop
def PG(X:Cx)(a:Expr)(t:TG):Prop :=
 ∀(b:Yf)(s:FB)(Z:St)(H:Hp)(v:V)(u:IR)(Q:St->Hp->Prop),Inv X b Z H s->RelV v u->t v Z H Q →
  KB (FM X.prog X.w) X.A (assign a X.env u) (λ_ f=>∃d e,Inv X b d e f/\Q d e) X.xe s
def Ko(X:Cx)(g:List Expr)(t:KY):Prop :=
 ∀(a:Yf)(s:FB)(Z:St)(H:Hp)(b:List V)(d:Ws)(Q:St->Hp->Prop),Inv X a Z H s->aT b d->t b Z H Q →
  KB (FM X.prog X.w) X.A (assignInOrder ((assignEach g X.env).map (·.2)) d) (λ_ h=>∃e f,Inv X a e f h/\Q e f) X.xe s
abbrev AQ:=V->V->V->Hp->(Hp->Prop)->Prop
def CA(X:Cx)(t:AQ):Prop :=
 ∀(a:Yf)(s:FB)(Z:St)(H:Hp)(o i v:V)(b d u:IR)(Q:Hp->Prop),Inv X a Z H s->RelV o b->RelV i d->RelV v u->t o i v H Q →
  KB (FM X.prog X.w) X.A (setItem b d u) (λ_ f=>∃e,Inv X a Z e f/\Q e) X.xe s
section
variable{X:Cx}{pos:Pos}
def xB(i:Nat):TG:=λv Z H Q=>Q (Z.set i (O v)) H
def sZ{i:Nat}{x:Str}(f:X.N.Nodup)(d:X.N[i]?=O x)(b:Loc X.env.scope x)(e:X.fn x=J\/X.env.scope.names.lookup x=O .local:=by first | exact .inl M | exact .inr M | assumption):PG X (.Name x pos) (xB i):=by
 intro a s Z H v u Q I r h;exact wpAny_assign_Name (oU I f d b r (λj g=>⟨_,H,g,h⟩) e)
def E3:KY:=λa Z H Q=>a=[]/\Q Z H
def DG(t:TG)(u:KY):KY:=λa Z H Q=>∃v r,a=v :: r/\t v Z H λb d=>u r b d Q
def yG:Ko X [] E3:=by
 intro a s Z H b d Q I r h;obtain⟨e,h⟩:=h;subst e;cases r;exact assignInOrder_nil ⟨Z,H,I,h⟩
def xu{e:Expr}{b:List Expr}{t:TG}{u:KY}(l:PG X e t)(j:Ko X b u)(i:(assignEach (e :: b) X.env).map (·.2)=assign e X.env :: (assignEach b X.env).map (·.2):=by rfl):Ko X (e :: b) (DG t u):=by
 intro a s Z H p w Q I r h;obtain⟨v,q,e1,h⟩:=h;subst e1;cases r with
 |cons r f =>
  rw[i];refine assignInOrder_cons (thn (l a s Z H _ _ _ I r h) λ_ d ⟨m,o,n,g⟩=>?_);exact j a d m o _ _ Q n f g
def iN(K:Xd)(n:Nat)(t:KY):TG:=λv Z H Q=>∃a b,v=.ref a/\GA K H a b/\b.length=n/\t b Z H Q
def BP{f:List Expr}{k:Nat}{t:KY}{n:Nat}(w:X.calm=J)(h:Ko X f t)(p:(assignEach f X.env).length=n:=by rfl)(y:(assignEach f X.env).findIdx? (·.1)=Y:=by rfl):PG X (.Tuple f k pos) (iN X.K n t):=by
 intro d s Z H v u Q I r hw;obtain⟨a,i,e1,m,q,hw⟩:=hw;subst e1;cases r;obtain⟨A,g,l,B⟩:=I.tuple m;refine assign_Tuple_tuple (I.ok.hd w) l (by simp[p,← q,g.length]) y λx j=>?_;have z:Inv X d Z H { s with heap:=x }:=I.kept (t':=s.toks) λb o e=>j b o (ZV (ZY e)) e;exact h d _ Z H i _ Q z (by simpa using g) hw
def Fx(a b:TE)(t:AQ):TG:=λv Z H Q=>a Z H λo f=>b Z f λi e=>t o i v e λd=>Q Z d
def vX{o i:Expr}{e f:TE}{t:AQ}(q:PE X o e)(w:PE X i f)(p:CA X t)(z:∀v,assign (.Subscript o i pos) X.env v=(do
   let b ← holding [v] (eval o X.env)
   let d ← holding [v,b] (eval i X.env)
   standAt pos
   holding [v,b,d] (setItem b d v)
   release [v,b,d] []):=by intro _;rfl):PG X (.Subscript o i pos) (Fx e f t):=by
 intro a s Z H v u Q I r h;rw[z];refine Zz (YU (thn (q a s Z H _ I h) λb j ⟨x,G,C,r1,n⟩=>?_));refine Zz (YU (thn (w a j Z G _ C n) λd g ⟨y,F,B,r2,m⟩=>?_));refine Zz (wpAny_standAt (Zz (YU (thn (p a g Z F x y v b d u _ B r1 r2 r m) λ_ L ⟨D,A,l⟩=>?_))));exact wpAny_release ⟨Z,D,A,l⟩
def Ef(a:TE)(g:TG):TS:=λD Z H=>a Z H λx b=>g x Z b D.nx
def vn{b e:Expr}{d:TE}{g:TG}(m:PE X e d)(l:PG X b g)(j:swapsWithSole [b] e pos.line X.env=pure S:=by rfl)(hw:swappedStores [b] e X.env=pure Y:=by rfl)(n:(assignEach [b] X.env).map (·.2)=[assign b X.env]:=by rfl):PS X (.Assign [b] e pos) (Ef d g):=by
 intro a s Z H D I h;refine wpAny_Assign_stores (thn (m a s Z H _ I h) λv f ⟨x,p,o,r1,i⟩=>?_) j hw;rw[n];exact thn (l a f Z p x v _ o r1 i) λ_ r q=>q
def vC{i:Nat}{x:Str}{e:Expr}{d:TE}{a:Pos}(o:X.N.Nodup)(l:X.N[i]?=O x)(g:Loc X.env.scope x)(n:PE X e d)(j:swapsWith e (O (.Name x a)) pos.line X.env=pure S:=by rfl)(m:X.fn x=J\/X.env.scope.names.lookup x=O .local:=by first | exact .inl M | exact .inr M | assumption) :
  PS X (.Assign [.Name x a] e pos) (Ef d (xB i)):=by
 intro b s Z H D I h;refine wpAny_Assign_Name (thn (n b s Z H _ I h) λv u ⟨y,r,q,r1,f⟩=>?_) j;exact oU q o l g r1 (λt p=>⟨_,r,p,f⟩) m
end
structure It where
 go:Nat->Hp->Prop
 OI:Nat->Hp->V->Hp->Prop
 stop:Nat->Hp->Prop
def fU(X:Cx)(a:Yf)(H:Hp)(b:GM):Prop :=
 H b=Y/\b≠X.env.locals/\b∉X.fs/\(b∈X.ex\/X.s₀.heap.objs.size<=b)/\(∀x c,X.env.cells.lookup x=O c->c≠b)/\∀p∈X.pn++a,p.1≠b
def Inv.Hj{X:Cx}{a:Yf}{Z:St}{H f:Hp}{s:FB}{b:GM}(I:Inv X a Z H s)(d:s.heap.objs.size<=b)(h:f b=Y):fU X a f b:=by
 refine⟨h,We (ZC I.lt d),I.Qx d,.inr (ZU I.sz d),λx c e z=>?_,λp g z=>?_⟩
 ·obtain⟨v,q⟩:=I.cell x c e;exact absurd (ZC q.lt (by rw[z];exact d)) (YZ _)
 ·exact absurd (ZC (ZY (I.pin p g).1) (by rw[z];exact d)) (YZ _)
structure Turn(P:PP)(w:SL)(K:Xd)(tg:Expr)(J:It)(fp:X4)(it:GM)(tn:Nat->SC->Prop):Prop where
 mem:it∈fp
 obj:∀i h,tn i h->∀b∈fp,∃o,h.get? b=some o/\∀v,o.data ≠ .cell v
 keep:∀i h h',tn i h->(∀b∈fp,∀o,h.get? b=some o->h'.get? b=some o)->tn i h'
 item:∀(X:Cx),X.prog=P->X.w=w->X.K=K->X.calm=true->∀(i:Nat)(pins:Yf)(s:FB)(Z:St)(H:Hp)(E:Yu),Inv X pins Z H s->(∀b∈fp,fU X pins H b)->tn i s.heap->J.go i H →
  KB (FM P w) X.A (pyNext (.ref it)) (λr s1=>∃u,r=some u ∧
   KB (FM P w) X.A (letOwnedTupleGo tg (.ref it) u) (λ_ s2=>∃x H',Inv X pins Z H' s2/\RelV x u/\J.OI i H x H'/\tn (i+1) s2.heap/\∀b∈fp,H' b=none) E s1) E s
 done:∀(X:Cx),X.prog=P->X.w=w->X.K=K->X.calm=true->∀(i:Nat)(pins:Yf)(s:FB)(Z:St)(H:Hp)(E:Yu),Inv X pins Z H s->(∀b∈fp,fU X pins H b)->tn i s.heap->J.stop i H →
  KB (FM P w) X.A (pyNext (.ref it)) (λr s1=>r=none/\Inv X pins Z H s1) E s
 self:∀(A:Pi)(i:Nat)(s:FB)(Q:Yu)(E:Yu),tn i s.heap->Q (.ref it) s->KB (FM P w) A (pyIter (.ref it)) Q E s
abbrev TI:=St->Hp->(It->Hp->Prop)->Prop
def Ut(X:Cx)(a:Yf)(Z:St)(g:Expr)(R:It->Hp->Prop)(h:IR)(f:FB):Prop :=
 ∃(it:GM)(fp:X4)(e:Nat->SC->Prop)(J:It)(d:Hp),h=.ref it/\Inv X a Z d f/\Turn X.prog X.w X.K g J fp it e/\e 0 f.heap/\(∀b∈fp,fU X a d b)/\R J d
def PI(X:Cx)(e b:Expr)(d:TI):Prop :=
 ∀(a:Yf)(s:FB)(Z:St)(H:Hp)(R:It->Hp->Prop),Inv X a Z H s->d Z H R →
  KB (FM X.prog X.w) X.A (eval b X.env) (λv f=>KB (FM X.prog X.w) X.A (pyIter v) (Ut X a Z e R) X.xe f) X.xe s
def qN{M:Model}{A:Pi}{E:Yu}{s:FB}{d:Expr}{e:GM}{u:IR}{o:Obj}{n:String}{b:Array IR}{Q:Unit->FB->Prop}(f:s.heap.get? e=O o)(j:o.cls=.type n)(i:o.data=.fields b)(g:["enumerate", "zip", "dict_itemiterator", "dict_reverseitemiterator", "odict_iterator", "itertools.zip_longest", "itertools.pairwise"].contains n=S)(a:Q () s):KB M A (letOwnedTupleGo d (.ref e) u) Q E s:=by
 unfold letOwnedTupleGo;cases d<;>first
  |exact Zs a
  | (cases u<;>first
    |exact Zs a
    | (refine Zz (wpAny_load f ?_)
       rw[j,i];show KB M A (if (["enumerate", "zip", "dict_itemiterator", "dict_reverseitemiterator", "odict_iterator", "itertools.zip_longest", "itertools.pairwise"].contains n&&b[0]? == O (rawInt _))=J then _ else _) Q E s;rw[Zj (by intro h;rw[g,Bool.false_and]at h;cases h)];exact Zs a))
def Pg(K:Xd)(a:GM):It :=
 ⟨λi H=>∃b x,FF K H a b/\b[i]?=O x,λi H x d=>d=H/\∀b,FF K H a b->b[i]?=O x,λi H=>∃b,FF K H a b/\b.length<=i⟩
def SU(K:Xd)(a:GM):It :=
 ⟨λi H=>∃b x,GA K H a b/\b[i]?=O x,λi H x d=>d=H/\∀b,GA K H a b->b[i]?=O x,λi H=>∃b,GA K H a b/\b.length<=i⟩
def Pf(a:Int)(n:Nat):It:=⟨λi _=>i<n,λi H x b=>b=H/\x=.int (a+i),λi _=>n<=i⟩
def mK{P:PP}{w:SL}{K:Xd}{N:Expr}(a g:GM):Turn P w K N (Pg K a) [g] g (λi h=>h.IsListIter g a i) where
 mem:=by simp
 obj:=λi h st b j=>by
  have e:b=g:=by simpa using j
  subst e;obtain⟨o,e,c,d⟩:=st;exact⟨o,e,λv z=>by rw[d]at z;cases z⟩
 keep:=λi h n st k=>st.at λo e=>k g (by simp) o e
 item:=by
  intro X y hw A L i f s Z H E I m st t;subst y hw A;obtain⟨M,x,l,r⟩:=t;obtain⟨R,q,p,U⟩:=I.list l;obtain⟨u,hu,Q⟩:=q.get r;obtain⟨F,f1,f2,D,C,B⟩:=m g (by simp);refine wpAny_pyNext_list_item st p.isList (x:=u) (by simpa using hu) λn G sb=>?_;have I1:Inv X f Z H { s with heap:=n }:=I.turned (t':=s.toks) (λb o j e=>(sb.2 b j).trans e) F f1 D C B;obtain⟨o,e,c,d⟩:=id G;exact⟨u,rfl,qN (s:={ s with heap:=n }) e c d (by decide) ⟨x,H,I1,Q,⟨rfl,λys W=>by rw[I.Hc W l];exact r⟩,G,λb j=>(m b j).1⟩⟩
 done:=by
  intro X y hw A L i f s Z H E I m st t;subst y hw A;obtain⟨M,l,r⟩:=t;obtain⟨R,q,p,U⟩:=I.list l;obtain⟨F,f1,f2,D,C,B⟩:=m g (by simp);have hl:=q.length;exact wpAny_pyNext_list_end (I.ok.hd L) st p.isList (by simp;lia) λn eb=>⟨rfl,I.turned (t':=s.toks) (λb o j e=>eb b o j e) F f1 D C B⟩
 self:=λ_ _ _ _ _ st h=>wpAny_pyIter_listiter st h
def rO{P:PP}{w:SL}{K:Xd}{Q:Expr}(a g:GM):Turn P w K Q (SU K a) [g] g (λi h=>h.IsTupleIter g a i) where
 mem:=by simp
 obj:=λi h st b j=>by
  have e:b=g:=by simpa using j
  subst e;obtain⟨o,e,c,d⟩:=st;exact⟨o,e,λv z=>by rw[d]at z;cases z⟩
 keep:=λi h n st k=>st.at λo e=>k g (by simp) o e
 item:=by
  intro X A hw B M i f s Z H E I m st y;subst A hw B;obtain⟨N,x,l,t⟩:=y;obtain⟨r,q,p,U⟩:=I.tuple l;obtain⟨u,hu,R⟩:=q.get t;obtain⟨G,f1,f2,F,D,C⟩:=m g (by simp);refine wpAny_pyNext_tuple_item st (show s.heap.IsTuple a r.toArray from p) (x:=u) (by simpa using hu) λn L sb=>?_;have I1:Inv X f Z H { s with heap:=n }:=I.turned (t':=s.toks) (λb o j e=>(sb.2 b j).trans e) G f1 F D C;obtain⟨o,e,c,d⟩:=id L;exact⟨u,rfl,qN (s:={ s with heap:=n }) e c d (by decide) ⟨x,H,I1,R,⟨rfl,λys W=>by rw[I.Jr W l];exact t⟩,L,λb j=>(m b j).1⟩⟩
 done:=by
  intro X A hw B M i f s Z H E I m st y;subst A hw B;obtain⟨N,l,t⟩:=y;obtain⟨r,q,p,U⟩:=I.tuple l;obtain⟨G,f1,f2,F,D,C⟩:=m g (by simp);have hl:=q.length;exact wpAny_pyNext_tuple_end (I.ok.hd M) st (show s.heap.IsTuple a r.toArray from p) (by simp;lia) λn eb=>⟨rfl,I.turned (t':=s.toks) (λb o j e=>eb b o j e) G f1 F D C⟩
 self:=λ_ _ _ _ _ st h=>wpAny_pyIter_tupleiter st h
def qQ{P:PP}{w:SL}{K:Xd}{F:Expr}(d:GM)(g:Int)(n:Nat):Turn P w K F (Pf g n) [d] d (λi h=>IsRangeIter h d (g+(i:Nat)*1) ((n:Int)-(i:Nat)) 1) where
 mem:=by simp
 obj:=λi h st b f=>by
  have e:b=d:=by simpa using f
  subst e;exact⟨_,st,λv z=>by
   have D:Data.fields _=Data.cell v:=z;cases D⟩
 keep:=λi h l st k=>k d (by simp) _ st
 item:=by
  intro X q hw r p i a s Z H E I j st m;subst q hw r;obtain⟨A,f1,f2,y,x,u⟩:=j d (by simp);have W:=Walks.range (prog:=X.prog) (w:=X.w) (I.ok.hd p) d g 1 n;refine W.item i s _ _ m st λv l B L C G=>?_;obtain⟨t,rfl⟩:=L;have Q:Inv X a Z H { s with heap:=l,toks:=B }:=I.turned (λb o f e=>G b o (by simpa using f) e) A f1 y x u;refine⟨_,rfl,qN (s:={ s with heap:=l,toks:=B }) (n := "range_iterator") C M M (by decide) ⟨.int (g+i),H,Q,⟨t,?_⟩,⟨rfl,rfl⟩,C,λb f=>(j b f).1⟩⟩;rw[Int.mul_one]
 done:=by
  intro X q hw r p i a s Z H E I j st m;subst q hw r;obtain⟨A,f1,f2,y,x,u⟩:=j d (by simp);exact wpAny_pyNext_range_end (I.ok.hd p) st (by have:n<=i:=m;lia) λl N=>⟨rfl,I.turned (t':=s.toks) (λb o f e=>N b o f e) A f1 y x u⟩
 self:=λ_ _ _ _ _ st h=>wpAny_pyIter_rangeiter st h
section
variable{X:Cx}{tg:Expr}
def Dg(K:Xd)(e:TE):TI:=λZ H R=>e Z H λx b=>∃a,x=.ref a/\(∃d,FF K b a d)/\R (Pg K a) b
def AC{l:Expr}{i:TE}(n:PE X l i):PI X tg l (Dg X.K i):=by
 intro d s Z H R I h;refine thn (n d s Z H _ I h) λv f ⟨x,t,g,r1,j⟩=>?_;obtain⟨a,e,⟨u,m⟩,q⟩:=j;subst e;cases r1;obtain⟨y,w,p,z⟩:=g.list m;refine Vx p.isList ?_;refine⟨f.heap.objs.size,[f.heap.objs.size],_,_,t,rfl,g.kept (t':=f.toks) λb o e=>Zt _ e,mK a _,⟨_,Zc _ M,rfl,rfl⟩,λb r=>?_,q⟩;have e:b=f.heap.objs.size:=by simpa using r
 subst e;exact g.Hj (Zo _) (g.xa.fresh (Zo _))
def vQ{f:Yf}{Z:St}{H:Hp}{s:FB}{R:It->Hp->Prop}{E:Yu}{a d:Int}{t u v:Tok}{g:Nat}(I:Inv X f Z H s)(m:-(2 ^ 62)<=a)(l:a<2 ^ 62)(h3:-(2 ^ 62)<=d)(j:d<2 ^ 62)(q:R (Pf a (d-a).toNat) H):KB (FM X.prog X.w) X.A (pyIter (.ref s.heap.objs.size)) (Ut X f Z tg R) E { s with heap:=s.heap.push { cls:=.type "range",data:=.fields #[.int a t,.int d u,.int 1 v] },toks:=g }:=by
 refine wpAny_pyIter_range (IsRange.new ..) (small_one m l h3 j) ?_;have h:Inv X f Z H { s with heap:=s.heap.push { cls:=.type "range",data:=.fields #[.int a t,.int d u,.int 1 v] },toks:=g }:=I.kept λb o e=>Zt _ e;refine⟨(s.heap.push { cls:=.type "range",data:=.fields #[.int a t,.int d u,.int 1 v] }).objs.size,[(s.heap.push { cls:=.type "range",data:=.fields #[.int a t,.int d u,.int 1 v] }).objs.size],_,_,H,rfl,
  h.kept (t':=g) λb o e=>Zt _ e,qQ _ a (d-a).toNat,?_,λb i=>?_,q⟩
 ·have e1:a+((0:Nat):Int)*1=a:=by simp
  have e2:(((d-a).toNat:Nat):Int)-((0:Nat):Int)=Builtin.Range.rangeSize a d 1:=by rw[rangeSize_one];split<;>lia
  show IsRangeIter _ _ (a+((0:Nat):Int)*1) ((((d-a).toNat:Nat):Int)-((0:Nat):Int)) 1;rw[e1,e2];exact Zc _ M
 ·have e:b=(s.heap.push { cls:=.type "range",data:=.fields #[.int a t,.int d u,.int 1 v] }).objs.size:=by simpa using i
  subst e;exact h.Hj (Zo _) (h.xa.fresh (Zo _))
def DK(b:TA):TI:=λZ H R=>b Z H λa d=>∃j:Int,a=[.int j]/\-(2 ^ 62)<=j/\j<2 ^ 62/\R (Pf 0 j.toNat) d
def uS{a:Expr}{g:TA}{p b:Pos}(o:Gl X "range")(n:X.mg "range" = Y)(u:PA X [a] g)(m:KM [a] X.env=[(S,eval a X.env)]:=by rfl):PI X tg (.Call (.Name "range" p) [a] [] b) (DK g):=by
 intro d s Z H R I h;refine Call_ (gL I o n boot_range (Y1 (thn (u b d s Z H _ I h) λx y ⟨w,z,v,r1,f⟩=>?_) m M));obtain⟨j,e,f,l,q⟩:=f;subst e;cases r1 with
 |cons r i =>
  cases i;obtain⟨t,rfl⟩:=r;exact call_range_1 (vQ v (by lia) (by lia) f l (by simpa using q))
def BU(e:TI)(g:TG)(f:TS):TS:=λD Z H=>e Z H λJ l=>∃W:Nat->Nat->St->Hp->Prop,(∃m,W 0 m Z l)/\∀i m Z H,W i m Z H →
 (J.stop i H/\D.nx Z H)\/(J.go i H/\∃N:St->Hp->Prop,(∀d a,N d a->∃b,b<m/\W (i+1) b d a)/\∀x a,J.OI i H x a->g x Z a λh j=>f { D with nx:=N,ct:=N,bk:=D.nx } h j)
def lO(a:X4)(h:SC):Yf:=a.filterMap λb=>(h.get? b).map λo=>(b,o)
def gO{a:X4}{h:SC}{b:GM}{o:Obj}(d:b∈a)(e:h.get? b=O o):(b,o)∈lO a h:=WV.mpr ⟨b,d,by rw[e];rfl⟩
def u0{a:X4}{h:SC}{p:GM×Obj}(d:p∈lO a h):p.1∈a/\h.get? p.1=O p.2:=by
 obtain⟨b,f,e⟩:=WV.mp d;cases q:h.get? b with
 |none=>rw[q]at e;cases e
 |some o =>
  rw[q]at e;have g:(b,o)=p:=ZK e;subst g;exact⟨f,q⟩
def Inv.pinned{a:Yf}{Z:St}{H:Hp}{s:FB}{f:X4}(I:Inv X a Z H s)(l:∀b∈f,fU X a H b)(j:∀b∈f,∃o,s.heap.get? b=O o/\∀v,o.data ≠ .cell v):Inv X (a++lO f s.heap) Z H s :=
 I.Jh λp i=>(Zb.mp i).elim (λz=>I.pin p (Jc _ z)) λz=>by
  obtain⟨g,e⟩:=u0 z;obtain⟨m,f1,f2,_⟩:=l p.1 g;obtain⟨o,h,d⟩:=j p.1 g;rw[e]at h;cases h;exact⟨e,m,f1,f2,d⟩
def Inv.GH{a b:Yf}{Z:St}{H:Hp}{s:FB}(I:Inv X (a++b) Z H s):Inv X a Z H s:=I.Jh λp d=>I.pin p (Jc _ (Xy _ d))
def vY{j:Expr}{B:List Stmt}{wi:TI}{g:TG}{tb:TS}{R:Pos}(F:PassesOwn (FM X.prog X.w) X.A X.env X.xe)(hc:X.calm=true)(hi:PI X tg j wi)(hg:PG X tg g)(l:HJ X B tb)(hs:∀x,UF j X.env x=pure x:=by intro _;rfl):PS X (.For tg j B [] R) (BU wi g tb):=by
 intro a s Z H D I h;refine wpAny_For (thn (hi a s Z H _ I h) λv s1 h1=>thn h1 λQU s2 h2=>?_) hs;obtain⟨it,fp,tn,J,H2,e,I2,T,F9,f2,W,⟨m0,w0⟩,turn⟩:=h2;subst e;have II:∀{y:Hp},(∀b∈fp,y b=Y)->∀b∈fp,fU X a y b:=λhn b l=>⟨hn b l,(f2 b l).2⟩
 refine codeAny_forLoop_any (λn s'=>∃i L y,Inv X a L y s'/\tn i s'.heap/\(∀b∈fp,y b=Y)/\W i n L y) ?_ m0 ⟨0,Z,H2,I2,F9,λb l=>(f2 b l).1,w0⟩;rintro n s3 ⟨i,G,P,I3,HQ,Oe,w3⟩;rcases turn i n G P w3 with⟨stop,qn⟩ | ⟨go,N,hN,step⟩
 ·refine WQ F (thn (T.done X M M M hc i a s3 G P X.xe I3 (II Oe) HQ stop) λr s4 ⟨U,I4⟩=>?_);subst U;exact wpAny_execs_nil ⟨G,P,I4,qn⟩
 ·refine WQ F (thn (T.item X M M M hc i a s3 G P X.xe I3 (II Oe) HQ go) λr s4 ⟨u,U,h4⟩=>?_);subst U;refine WQ F (thn h4 λ_ s5 ⟨x,H5,I5,r5,y5,LN,RX⟩=>?_);have SW:=I5.pinned (II RX) (T.obj _ _ LN);refine WQ F (thn (hg _ s5 G H5 x u _ SW r5 (step x H5 y5)) λ_ s6 ⟨Z6,H6,I6,q6⟩=>?_);refine WQ F (thn (l _ s6 Z6 H6 _ I6 q6) λf Q z=>?_);have again:∀{p:St}{t:Hp},Inv X (a++lO fp s5.heap) p t Q->N p t->∃m,m<n/\∃i L y,Inv X a L y Q/\tn i Q.heap/\(∀b∈fp,y b=Y)/\W i m L y:=λ{p t} q C=>by
   obtain⟨m',hm,w7⟩:=hN p t C;refine⟨m',hm,i+1,p,t,q.GH,T.keep _ _ _ LN λb l o e=>(q.pin (b,o) (Jc _ (Jc _ (gO l e)))).1,λb l=>?_,w7⟩;obtain⟨o,e,d⟩:=T.obj _ _ LN b l;exact(q.pin (b,o) (Jc _ (Jc _ (gO l e)))).2.1
  cases f with
  |next=>obtain⟨p,t,q,C⟩:=z;exact again q C
  |cont=>obtain⟨p,t,q,C⟩:=z;exact again q C
  |brk=>obtain⟨p,t,q,z⟩:=z;exact⟨p,t,q.GH,z⟩
  |ret v=>obtain⟨x7,p,t,q,r7,z⟩:=z;exact⟨x7,p,t,q.GH,r7,z⟩
end
abbrev R2:=V->V->Hp->VK->Prop
def OpR(X:Cx)(f:IR->IR->Sem IR)(r:R2):Prop :=
 ∀(a:Yf)(s:FB)(Z:St)(H:Hp)(x y:V)(v u:IR)(Q:VK),Inv X a Z H s->RelV x v->RelV y u->r x y H Q →
  KB (FM X.prog X.w) X.A (f v u) (EP X a Z Q) X.xe s
def UnR(X:Cx)(f:IR->Sem IR)(r:V->Hp->VK->Prop):Prop :=
 ∀(a:Yf)(s:FB)(Z:St)(H:Hp)(x:V)(v:IR)(Q:VK),Inv X a Z H s->RelV x v->r x H Q →
  KB (FM X.prog X.w) X.A (f v) (EP X a Z Q) X.xe s
def dI(X:Cx)(f:IR)(r:List V->Hp->VK->Prop):Prop :=
 ∀(a:Yf)(s:FB)(Z:St)(H:Hp)(b:List V)(d:Ws)(Q:VK),Inv X a Z H s->aT b d->r b H Q →
  KB (FM X.prog X.w) X.A (call f d) (EP X a Z Q) X.xe s
def EO(X:Cx)(r:V->Hp->(Bool->Hp->Prop)->Prop):Prop :=
 ∀(a:Yf)(s:FB)(Z:St)(H:Hp)(x:V)(v:IR)(Q:Bool->Hp->Prop),Inv X a Z H s->RelV x v->r x H Q →
  KB (FM X.prog X.w) X.A (truthy v) (TP X a Z Q) X.xe s
def Ng(r:R2)(b a:TE):TE:=λZ H Q=>b Z H λx e=>a Z e λy d=>r x y d Q
def UM(r:V->Hp->VK->Prop)(a:TE):TE:=λZ H Q=>a Z H λx b=>r x b Q
def rI(C:Int->Int->Prop)(g:Int->Int->V):R2:=λx y H Q=>∃i j,x=.int i/\y=.int j/\C i j/\Q (g i j) H
def JL(g:Int->Int->V):R2:=λx y H Q=>∃i j,x=.int i/\y=.int j/\Q (g i j) H
def rU(g:Int->V):V->Hp->VK->Prop:=λx H Q=>∃i,x=.int i/\Q (g i) H
section
variable{X:Cx}{a b c:Expr}{ta tb tc:TE}{pos:Pos}
def CK(r:PE X a ta)(q:PE X b tb){d:Yf}{s:FB}{Z:St}{H:Hp}{R:V->V->Hp->Prop}(I:Inv X d Z H s)(h:ta Z H λx i=>tb Z i λy e=>R x y e){Q:Yu}{f:IR->IR->Sem IR}(p:∀v u g x y e,Inv X d Z e g->RelV x v->RelV y u->R x y e->KB (FM X.prog X.w) X.A (f v u) Q X.xe g) :
  KB (FM X.prog X.w) X.A (eval a X.env) (λv l=>KB (FM X.prog X.w) X.A (eval b X.env) (λu j=>KB (FM X.prog X.w) X.A (f v u) Q X.xe j) X.xe l) X.xe s:=by
 refine thn (r d s Z H _ I h) λv m ⟨x,i,z,r1,o⟩=>?_;refine thn (q d m Z i _ z o) λu g ⟨y,e,t,r2,n⟩=>?_;exact p v u g x y e t r1 r2 n
def DE{e:Operator}{r:R2}(j:OpR X (binaryOp e) r)(m:PE X a ta)(l:PE X b tb):PE X (.BinOp a e b pos) (Ng r ta tb):=by
 intro d s Z H Q I h;exact wpAny_BinOp (CK m l I h λv u f x y o n i g q=>j d f Z o x y v u Q n i g q)
def EA{e:UnaryOp}{r:V->Hp->VK->Prop}(i:UnR X (unaryOp e) r)(j:PE X a ta):PE X (.UnaryOp e a pos) (UM r ta):=by
 intro d s Z H Q I h;exact UnaryOp_ (thn (j d s Z H _ I h) λv f ⟨x,m,l,r1,g⟩=>i d f Z m x v Q l r1 g)
def P2{f:IR->IR->Sem IR}{C:Int->Int->Prop}{g:Int->Int->Int}(d:∀(i j:Int)(t u:Tok)(s:FB)(Q:Yu)(E:Yu),C i j->Q (.int (g i j) s.toks) { s with toks:=s.toks+1 }->KB (FM X.prog X.w) X.A (f (.int i t) (.int j u)) Q E s) :
  OpR X f (rI C λi j=>.int (g i j)):=by
 intro e s Z H x y v u Q I n m h;obtain⟨i,j,rfl,rfl,o,q⟩:=h;obtain⟨t,rfl⟩:=n;obtain⟨l,rfl⟩:=m;exact d i j t l s _ _ o ⟨.int (g i j),H,I.tok _,⟨_,rfl⟩,q⟩
def Es{f:IR->IR->Sem IR}{g:Int->Int->Int}(d:∀(i j:Int)(t u:Tok)(s:FB)(Q:Yu)(E:Yu),Q (.int (g i j) s.toks) { s with toks:=s.toks+1 }->KB (FM X.prog X.w) X.A (f (.int i t) (.int j u)) Q E s) :
  OpR X f (JL λi j=>.int (g i j)):=by
 intro e s Z H x y v u Q I n m h;obtain⟨i,j,rfl,rfl,q⟩:=h;obtain⟨t,rfl⟩:=n;obtain⟨l,rfl⟩:=m;exact d i j t l s _ _ ⟨.int (g i j),H,I.tok _,⟨_,rfl⟩,q⟩
def B7{f:IR->IR->Sem IR}{g:Int->Int->Bool}(d:∀(i j:Int)(t u:Tok)(s:FB)(Q:Yu)(E:Yu),Q (.bool (g i j)) s->KB (FM X.prog X.w) X.A (f (.int i t) (.int j u)) Q E s) :
  OpR X f (JL λi j=>.bl (g i j)):=by
 intro e s Z H x y v u Q I n m h;obtain⟨i,j,rfl,rfl,q⟩:=h;obtain⟨t,rfl⟩:=n;obtain⟨l,rfl⟩:=m;exact d i j t l s _ _ ⟨.bl (g i j),H,I,rfl,q⟩
def DC(i j:Int):Prop:=0<j/\j<1073741824
def Av(i j:Int):Prop:=(-(2 ^ 64)<i/\i<2 ^ 64)\/(-(2 ^ 64)<j/\j<2 ^ 64)
def Av.ok{i j:Int}(h:Av i j):IntMulOk i j:=by
 rcases h with⟨e,d⟩ | ⟨e,d⟩
 ·exact .of_left (intBits_le_64 e d)
 ·exact .of_right (intBits_le_64 e d)
def Br:OpR X (binaryOp .Add) (JL λi j=>.int (i+j)):=Es λ_ _ _ _ _ _ _ q=>add_int q
def kP:OpR X (binaryOp .Sub) (JL λi j=>.int (i-j)):=Es λ_ _ _ _ _ _ _ q=>sub_int q
def CV:OpR X (binaryOp .Mult) (rI Av λi j=>.int (i*j)):=P2 λ_ _ _ _ _ _ _ d q=>mul_int q d.ok
def zQ:OpR X (binaryOp .FloorDiv) (rI DC λi j=>.int (i/j)):=P2 λi j _ _ _ _ _ d q=>by
 have f:(0:Int)<j:=d.1;have e:j<1073741824:=d.2;exact floordiv_int (by lia) (by rw[Int.fdiv_eq_ediv_of_nonneg i (by lia)];exact q) (.inl (PyProof.noPylong_small (by omega)))
def BH:OpR X (binaryOp .Mod) (rI (λ_ j=>0<j) λi j=>.int (i%j)):=P2 λi j _ _ _ _ _ d q=>by
 have e:(0:Int)<j:=d;exact mod_int' (by lia) (by rw[Int.fmod_eq_emod_of_nonneg i (by lia)];exact q)
def UJ{f:IR->Sem IR}{g:Int->Int}(d:∀(i:Int)(t:Tok)(s:FB)(Q:Yu)(E:Yu),Q (.int (g i) s.toks) { s with toks:=s.toks+1 }->KB (FM X.prog X.w) X.A (f (.int i t)) Q E s) :
  UnR X f (rU λi=>.int (g i)):=by
 intro e s Z H x v Q I j h;obtain⟨i,rfl,q⟩:=h;obtain⟨t,rfl⟩:=j;exact d i t s _ _ ⟨.int (g i),H,I.tok _,⟨_,rfl⟩,q⟩
def BG:UnR X (unaryOp .USub) (rU λi=>.int (-i)):=UJ λ_ _ _ _ _ q=>neg_int q
end
section
variable{X:Cx}{a b c:Expr}{ta tb tc:TE}{pos:Pos}
def Bz{d:Yf}{Z:St}{H:Hp}{s:FB}{Q:VK}{k f:Bool}(I:Inv X d Z H s)(q:Q (.bl k) H)(e:k=f):EP X d Z Q (.bool f) s:=by
 subst e;exact⟨.bl k,H,I,rfl,q⟩
def Eb:OpR X (SB .Lt) (JL λi j=>.bl (decide (i<j))):=B7 λ_ _ _ _ _ _ _ q=>lt_int q
def Df:OpR X (SB .Gt) (JL λi j=>.bl (decide (j<i))):=B7 λ_ _ _ _ _ _ _ q=>gt_int q
def EJ:OpR X (SB .GtE) (JL λi j=>.bl (decide (j<=i))):=B7 λ_ _ _ _ _ _ _ q=>ge_int q
def uQ:OpR X (SB .Lt) (λx y H Q=>∃i j,x=.str i/\y=.str j/\Q (.bl (decide (i.cps.toList<j.cps.toList))) H):=by
 intro d s Z H x y v u Q I f e h;obtain⟨i,j,rfl,rfl,q⟩:=h;obtain⟨t,rfl⟩:=f;obtain⟨g,rfl⟩:=e;exact lt_str (Bz I q M)
def OpR.or{f:IR->IR->Sem IR}{r i:R2}(h:OpR X f r)(j:OpR X f i):OpR X f (λx y H Q=>r x y H Q\/i x y H Q):=by
 intro d s Z H x y v u Q I g e q;rcases q with q | q
 ·exact h d s Z H x y v u Q I g e q
 ·exact j d s Z H x y v u Q I g e q
def ig(b:Expr){d:CmpOp}(h:d ≠ .In:=by decide)(e:d ≠ .NotIn:=by decide):behindInMarks d b=S:=by
 have e1:(d==CmpOp.In)=S:=by cases d<;>first | rfl | exact absurd M h
 have e2:(d==CmpOp.NotIn)=S:=by cases d<;>first | rfl | exact absurd M e
 cases b<;>simp[behindInMarks,e1,e2]
def yN{e:CmpOp}{r:R2}(j:OpR X (SB e) r)(n:PE X a ta)(m:PE X b tb)(l:behindInMarks e b=S):PE X (.Compare a [e] [b] pos) (Ng r ta tb):=by
 intro d s Z H Q I h;exact wpAny_Compare1 (CK n m I h λv u f x y p o i g q=>j d f Z p x y v u Q o i g q) l
def A8(t:TE):TT:=λZ H Q=>t Z H λx d=>∃k,x=.bl k/\Q k d
def zb{f:CmpOp}{r:R2}(o:OpR X (SB f) r)(t:PE X a ta)(q:PE X b tb)(p:behindInMarks f b=S):PT X (.Compare a [f] [b] pos) (A8 (Ng r ta tb)):=by
 intro d s Z H Q I h;refine wpAny_isTrue_Compare1 (thn (t d s Z H _ I h) λv i ⟨x,F,B,r1,n⟩=>thn (q d i Z F _ B n) λu g ⟨y,D,A,r2,m⟩ =>
  thn (o d g Z D x y v u _ A r1 r2 m) λc G ⟨z,C,w,j,k,e,l⟩=>?_) p
 subst e;cases j;exact Y4 ⟨C,w,l⟩
def BV(K:Xd)(x:V)(H:Hp)(k:Bool):Prop :=
 match x with
 |.non=>k=S
 |.bl b=>k=b
 |.int i=>k=(i != 0)
 |.str y=>y.length<=FS/\k=((y.length:Int) != 0)
 |.byt y=>y.size<=FS/\k=((y.size:Int) != 0)
 |.ref p=>(∃d,FF K H p d/\k=!d.isEmpty)\/(∃d,GA K H p d/\k=!d.isEmpty)\/∃e,H p=O (.dK e)/\k=!e.isEmpty
 |_=>False
def qV{κ:Type}{e:List (κ×V)}{d:List (κ×IR)}(r:KV e d):(!d.isEmpty)=!e.isEmpty:=by
 cases r<;>rfl
def lM{d:List V}{e:Ws}(r:aT d e):(!e.toArray.isEmpty)=!d.isEmpty:=by
 cases r<;>simp
def jV:(FS:Nat)<2 ^ 63:=by rw[Va];decide
def B6:EO X (λx H Q=>∃k,BV X.K x H k/\Q k H):=by
 intro u s Z H x v Q I g h;obtain⟨k,e,q⟩:=h;have F:=jV;have D:FS=16777216:=Va;cases x with
 |non =>
  cases g;have d:k=S:=e;subst d;exact truthy_none ⟨H,I,q⟩
 |bl b =>
  cases g;have d:k=b:=e;subst d;exact Y4 ⟨H,I,q⟩
 |int i =>
  obtain⟨t,rfl⟩:=g;have d:k=(i != 0):=e;subst d;exact PySem.P.truthy_int ⟨H,I,q⟩
 |str y =>
  obtain⟨t,rfl⟩:=g;obtain⟨B,d⟩:y.length<=FS/\k=((y.length:Int) != 0):=e;subst d;exact PySem.P.truthy_str (by lia) ⟨H,I.tok _,q⟩
 |byt y =>
  obtain⟨t,rfl⟩:=g;obtain⟨B,d⟩:y.size<=FS/\k=((y.size:Int) != 0):=e;subst d;exact PySem.W.truthy_bytes (by lia) ⟨H,I.tok _,q⟩
 |ref p =>
  cases g;have d:(∃f,FF X.K H p f/\k=!f.isEmpty)\/(∃f,GA X.K H p f/\k=!f.isEmpty)\/∃j,H p=O (.dK j)/\k=!j.isEmpty:=e;rcases d with⟨f,l,d⟩ | ⟨f,l,d⟩ | ⟨j,l,d⟩
  ·subst d;obtain⟨A,r,o,z⟩:=I.list l;have hlen:=r.length;exact wpAny_truthy_list o.isList (by simp only[Zd];lia) ⟨H,I.tok _,by rw[lM r];exact q⟩
  ·subst d;obtain⟨A,r,o,z⟩:=I.tuple l;have hlen:=r.length;exact truthy_tuple o (by simp only[Zd];lia) ⟨H,I.tok _,by rw[lM r];exact q⟩
  ·subst d;obtain⟨z,C,n,r,m⟩:j.length<=FS/\(p==sysModules)=S/\∃n,KV j n/\s.heap.DictOf (aN X.prog X.w) p n:=I.xa p _ l;have hlen:j.length=n.length:=Vu r;exact wpAny_truthy_dict C m (by lia) ⟨H,I.tok _,by rw[qV r];exact q⟩
 |_=>exact(show False from e).elim
def yj(j:PE X a ta)(i:∀whole,isTrue a X.env whole=(do let v ← whole;standAt a.pos;holding [v] (truthy v))) :
  PT X a (λZ H Q=>ta Z H λx e=>∃k,BV X.K x e k/\Q k e):=by
 intro d s Z H Q I h;exact isTrue_plain (thn (j d s Z H _ I h) λv f ⟨x,m,l,r1,g⟩=>B6 d f Z m x v Q l r1 g) (i _)
def rN:OpR X (binaryOp .Add) (λx y H Q=>∃i j,x=.str i/\y=.str j/\i.length+j.length<=FS/\Q (.str (i++j)) H):=by
 intro d s Z H x y v u Q I g f h;obtain⟨i,j,rfl,rfl,l,q⟩:=h;obtain⟨t,rfl⟩:=g;obtain⟨e,rfl⟩:=f;exact add_str (λe m=>⟨.str (i++j),H,I.tok _,⟨_,rfl⟩,q⟩) l
def vals1{x:V}{d:Ws}(r:aT [x] d):∃u,d=[u]/\RelV x u:=by
 cases r with
 |cons r1 r2=>cases r2;exact⟨_,rfl,r1⟩
def vals2{x y:V}{e:Ws}(r:aT [x,y] e):∃u d,e=[u,d]/\RelV x u/\RelV y d:=by
 cases r with
 |cons r1 r2 =>
  cases r2 with
  |cons g f=>cases f;exact⟨_,_,rfl,r1,g⟩
def va(g:X.calm=J):dI X (.builtin "min") (λe H Q=>∃i j,e=[.int i,.int j]/\Q (.int (if j<i then j else i)) H):=by
 intro f s Z H e m Q I r h;obtain⟨i,j,rfl,q⟩:=h;obtain⟨u,l,rfl,⟨t,rfl⟩,⟨o,rfl⟩⟩:=vals2 r;refine min_two_ints (I.ok.hd g) λp n k=>⟨_,H,I.kept k,?_,q⟩
 by_cases d:j<i
 ·rw[Zn d,Zn d];exact⟨_,rfl⟩
 ·rw[Zj d,Zj d];exact⟨_,rfl⟩
def D9(K:Xd)(x:V)(H:Hp)(n:Nat):Prop :=
 match x with
 |.str y=>y.length<=FS/\n=y.length
 |.byt y=>y.size<=FS/\n=y.size
 |.ref p=>(∃d,FF K H p d/\n=d.length)\/∃d,GA K H p d/\n=d.length
 |_=>False
def vS:dI X (.builtin "len") (λd H Q=>∃x n,d=[x]/\D9 X.K x H n/\Q (.int n) H):=by
 intro m s Z H d z Q I r h;obtain⟨x,n,rfl,e,q⟩:=h;obtain⟨u,rfl,g⟩:=vals1 r;have B:=jV;have A:FS=16777216:=Va;cases x with
 |str y =>
  obtain⟨t,rfl⟩:=g;obtain⟨w,f⟩:y.length<=FS/\n=y.length:=e;subst f;exact len_str (by lia) ⟨.int _,H,I.tok _,⟨_,rfl⟩,q⟩
 |byt y =>
  obtain⟨t,rfl⟩:=g;obtain⟨w,f⟩:y.size<=FS/\n=y.size:=e;subst f;exact PySem.W.len_bytes (by lia) ⟨.int _,H,I.tok _,⟨_,rfl⟩,q⟩
 |ref p =>
  cases g;have f:(∃d,FF X.K H p d/\n=d.length)\/∃d,GA X.K H p d/\n=d.length:=e;rcases f with⟨d,l,f⟩ | ⟨d,l,f⟩
  ·subst f;obtain⟨o,i,j,v⟩:=I.list l;have hlen:=i.length;exact Calls.call_len_list j.isList (by simp only[Zd];lia) ⟨.int d.length,H,I.tok _,⟨_,by simp only[Zd];rw[hlen]⟩,q⟩
  ·subst f;obtain⟨o,i,j,v⟩:=I.tuple l;have hlen:=i.length;exact len_tuple j (by simp only[Zd];lia) ⟨.int d.length,H,I.tok _,⟨_,by simp only[Zd];rw[hlen]⟩,q⟩
 |_=>exact(show False from e).elim
end
structure MK(h:SC)(x dx C:GM)(mA:X3):Prop where
 obj:h.get? x=some (PySem.W.instObj C dx)
 ns:h.Ns1 dx mA
 ne:dx≠x
def ur{h:SC}{g:GM}{d:X3}(n:h.Ns1 g d):∃b,h.get? g=O b/\∀name,PySem.W.lookIn name b=O (d name):=by
 obtain⟨o,f,s,j,hd,m,_,l⟩:=n;refine⟨o,j,λname=>?_⟩;have e:=l name;unfold nsFind findBy at e;rw[← Array.find?_toList]at e;unfold PySem.W.lookIn;rw[hd];dsimp only;split
 ·rename_i y q;rw[q]at e;exact congrArg O e
 ·rename_i q;rw[q]at e;have a:f.toList.any (·.refKey)=S:=by
   rw[List.any_eq_false];intro y i;obtain⟨z,t,r⟩:=m y (Array.mem_toList_iff.mp i);simp[DictEntry.refKey,r]
  have p:¬f.toList.any (·.refKey)=J:=by rw[a];exact Za
  rw[Zj p];exact congrArg O e
def MK.look{h:SC}{x d C:GM}{b:X3}(I:MK h x d C b):∃a,PySem.W.InstAt h x (PySem.W.instObj C d) C (O a)/\∀name,PySem.W.lookIn name a=O (b name) :=
 let ⟨a,e,f⟩:=ur I.ns
 ⟨a,⟨I.obj,rfl,rfl,e⟩,f⟩
def jJ.some_of{v:V}{o:Vj}(r:jJ (O v) o):∃u,o=O u/\RelV v u:=by
 cases o with
 |none=>exact(show False from r).elim
 |some u=>exact⟨u,rfl,r⟩
section
variable{P:PP}{w:SL}{H H':Hp}{h h':SC}{a C dx:GM}{fs fs':List (Str×V)}
def AB(g:Gn P w H h)(e:H a=O (.ins C dx fs)):∃b,MK h a dx C b/\(∀f,jJ (fs.lookup f) (b f))/\PySem.Within b (fs.map (·.1))/\fs.length<=1000/\H dx=O (.own a):=by
 obtain⟨d,z,ne,i,b,n,r,q⟩:=(show bg P w H h a (.ins C dx fs) from g a _ e)
 exact⟨b,⟨i,n,ne⟩,r,q,z,d⟩
end
structure SY(K:Xd)(C:GM):Prop where
 pg:PySem.W.plainGet K C Str.empty=true
 hd:PySem.W.hasDictIn K C=true
 po:PySem.W.plainOver K C=true
 sa:PySem.W.findIn K (.ref C) "__setattr__" = some (some (.builtin "object.__setattr__"))
def SY.get{K:Xd}{C:GM}(c:SY K C)(f:Str):PySem.W.plainGet K C f=J:=c.pg
section
variable{X:Cx}{pins:Yf}{Z:St}{H:Hp}{s:FB}{A:Pi}{E:Yu}{Q:Yu}{c:IR}{b:Bool}
inductive GP(K:Xd)(H:Hp):V->IR->Prop where
 |non:GP K H .non (.type "NoneType")
 |bl (x:Bool):GP K H (.bl x) (.type "bool")
 |int (i:Int):GP K H (.int i) (.type "int")
 |str (x:Str):GP K H (.str x) (.type "str")
 |flt (x:UInt64):GP K H (.flt x) (.type "float")
 |lst {a:GM} {xs:List V} (e:H a=some (.lst xs)):GP K H (.ref a) (.type "list")
 |frz {a:GM} {o:Obj} {xs:List V} (e:H a=some (.frz o (.lst xs))):GP K H (.ref a) (.type "list")
 |tup {a:GM} {xs:List V} (e:H a=some (.tup xs)):GP K H (.ref a) (.type "tuple")
 |dK {a:GM} {bt:List (Key×V)} (e:H a=some (.dK bt)):GP K H (.ref a) (.type "dict")
 |dT {a:GM} {bt:List (List Key×V)} (e:H a=some (.dT bt)):GP K H (.ref a) (.type "dict")
 |ins {a C dx:GM} {fs:List (Str×V)} (e:H a=some (.ins C dx fs)) (cl:SY K C) (ha:PySem.W.findIn K (.ref C) "__class__" = some (some (.builtin "object.__class__")))
   (hn:PySem.W.specialIn K (.builtin "object.__class__") "__get__" = some (some (.builtin "getset_descriptor.__get__"))) (TC:PySem.W.takesIn K (.builtin "object.__class__")=some true)
   (hm:PySem.W.mroIn K C (.type "object")=some true):GP K H (.ref a) (.ref C)
def ua{x:V}{u t:IR}(I:Inv X pins Z H s)(d:RelV x u)(r:GP X.K H x t)(e:PySem.W.kitOne X.K t c=some b)(h:∀v,Q (.bool b) { s with toks:=v }) :
  KB (FM X.prog X.w) A (call (.builtin "isinstance") [u,c]) Q E s:=by
 cases r with
 |non=>cases (show u=Value.none from d);exact YQ PySem.W.kitx_none I.Ii True.intro e (λz=>nomatch z) h
 |bl y=>cases (show u=Value.bool y from d);exact YQ PySem.W.kitx_bool I.Ii True.intro e (λz=>nomatch z) h
 |int i=>obtain⟨t,q⟩:=(show ∃t,u=Value.int i t from d);cases q;exact YQ PySem.W.kitx_int I.Ii True.intro e (λz=>nomatch z) h
 |str y=>obtain⟨t,q⟩:=(show ∃t,u=Value.str y t from d);cases q;exact YQ PySem.W.kitx_str I.Ii True.intro e (λz=>nomatch z) h
 |flt y=>obtain⟨t,q⟩:=(show ∃t,u=Value.float y t from d);cases q;exact YQ PySem.W.kitx_float I.Ii True.intro e (λz=>nomatch z) h
 |@lst a j f =>
  cases (show u=Value.ref a from d);obtain⟨_,_,n,_,g⟩:=(show bg X.prog X.w H s.heap a (.lst j) from I.xa a _ f)
  exact YQ PySem.W.kitx_list I.Ii ⟨_,g,rfl⟩ e (λz=>nomatch z) h
 |@frz a B j f =>
  cases (show u=Value.ref a from d);obtain⟨_,_,_,n,_,g⟩:=(show bg X.prog X.w H s.heap a (.frz B (.lst j)) from I.xa a _ f)
  exact YQ PySem.W.kitx_list I.Ii ⟨_,g,rfl⟩ e (λz=>nomatch z) h
 |@tup a j f =>
  cases (show u=Value.ref a from d);obtain⟨_,_,_,_,p⟩:=(show bg X.prog X.w H s.heap a (.tup j) from I.xa a _ f)
  obtain⟨o,g,l,_⟩:=p;exact YQ PySem.W.kitx_tuple I.Ii ⟨o,g,l⟩ e (λz=>nomatch z) h
 |@dK a m f =>
  cases (show u=Value.ref a from d);obtain⟨_,_,P,_,p⟩:=(show bg X.prog X.w H s.heap a (.dK m) from I.xa a _ f)
  obtain⟨o,L,M,g,l,_⟩:=p;exact YQ PySem.W.kitx_dict I.Ii ⟨o,g,l.1⟩ e (λz=>nomatch z) h
 |@dT a m f =>
  cases (show u=Value.ref a from d);obtain⟨_,_,j,_,o,L,M,g,l,_⟩:=(show bg X.prog X.w H s.heap a (.dT m) from I.xa a _ f)
  exact YQ PySem.W.kitx_dict I.Ii ⟨o,g,l.1⟩ e (λz=>nomatch z) h
 |@ins a C dx fs f cl G D N F =>
  cases (show u=Value.ref a from d);obtain⟨U,O,_⟩:=AB I.xa f;obtain⟨R,J,_⟩:=O.look;exact YQ (PySem.W.kitx_own (cl.get _) cl.hd G D N F) I.Ii J e (λz=>nomatch z) h
end
structure AU(k:Nat)(A:Pi):Prop where
 hd:A.handled=none
 dp:A.depth+3*k+5<recursionLimit
 un:A.units+16*k+200<cLine
def AU.mono{j k:Nat}{A:Pi}(r:AU k A)(h:j<=k):AU j A:=⟨r.hd,by have:=r.dp;lia,by have:=r.un;lia⟩
theorem AU.deeper{k:Nat}{A:Pi}(r:AU (k+1) A)(a:Env):AU k (A.deeper a) :=
 ⟨r.hd,by have:=r.dp;show A.depth+1+3*k+5<_;lia,by have:=r.un;show A.units+3+16*k+200<_;lia⟩
theorem AU.in1{k:Nat}{A:Pi}(r:AU (k+1) A):AU k A.in1 :=
 ⟨r.hd,by have:=r.dp;show A.depth+3*k+5<_;lia,by have:=r.un;show A.units+1+16*k+200<_;lia⟩
theorem AU.depth{k:Nat}{A:Pi}(r:AU k A):A.depth<recursionLimit:=by have:=r.dp;lia
theorem AU.units{k:Nat}{A:Pi}(r:AU k A):A.units+64<cLine:=by have:=r.un;lia
def EH:TA:=λ_ H Q=>Q [] H
def AY(d:TE)(b:TA):TA:=λZ H Q=>d Z H λx f=>b Z f λa e=>Q (x :: a) e
section
variable{X:Cx}{e:Expr}{es:List Expr}{te:TE}{t:TA}{pos:Pos}
def fJ:PA X [] EH:=λ_ _ _ _ H Q I h=>Calls.spliced_nil ⟨[],H,I,.nil,h⟩
def d5(l:PE X e te)(j:PA X es t)(i:K0 e es X:=by rfl):PA X (e :: es) (AY te t):=by
 intro pos a s Z H Q I h;rw[i];show KB _ _ (spliced ((S,eval e X.env) :: backTo pos (KM es X.env))) _ _ s;refine Calls.spliced_cons (thn (l a s Z H _ I h) λu d ⟨x,p,n,r1,g⟩=>?_);exact thn (j pos a d Z p _ n g) λq r ⟨b,o,m,r2,f⟩=>⟨x :: b,o,m,.cons r1 r2,f⟩
def EX(t:TA):TE:=λZ H Q=>t Z H λa b=>a.length<=FS/\∀p,b p=Y->Q (.ref p) (upd b p (.tup a))
def Ft(t:TA):TE:=λZ H Q=>t Z H λa b=>a.length<=FS/\∀p,b p=Y->Q (.ref p) (upd b p (.lst a))
def CS{x1}(h:PA X es t):PE X (.Tuple es x1 pos) (EX t):=by
 intro a s Z H Q I l;refine wpAny_Tuple_spliced (thn (h pos a s Z H _ I l) λj d ⟨i,g,f,r,z,q⟩=>⟨by rw[← r.length];exact z,?_⟩);have m:g d.heap.objs.size=Y:=f.xa.fresh (Zo _);refine⟨.ref d.heap.objs.size,upd g d.heap.objs.size (.tup i),f.laid (t':=d.toks) (λb u e=>Zt _ e) (Zo _) ?_,rfl,q _ m⟩;exact⟨z,j,r,Kp.of (Zc _ M) M,⟨_,Zc _ M,rfl,_,rfl⟩⟩
def nO(h:PA X es t):PE X (.List es pos) (Ft t):=by
 intro a s Z H Q I l;refine wpAny_List_spliced (thn (h pos a s Z H _ I l) λj d ⟨i,g,f,r,z,q⟩=>⟨by rw[← r.length];exact z,?_⟩);have m:g d.heap.objs.size=Y:=f.xa.fresh (Zo _);refine⟨.ref d.heap.objs.size,upd g d.heap.objs.size (.lst i),f.laid (t':=d.toks) (λb u e=>Zt _ e) (Zo _) ?_,rfl,q _ m⟩;exact⟨z,j,0,r,Zc _ M⟩
end
abbrev Sp:=List V->Hp->VK->XK->Prop
abbrev Kq:=List Env->Hp->FB->XK->Yu
structure Kf(P:PP)(w:SL)(K:Xd)(mg:X3)(base:SC)(A:Pi)(outer:List Env)(s:FB)(H:Hp):Prop where
 frames:A.frames=some outer
 mod:Mod K mg base
 tb:∀b q,Tb base b q->H b=some (.tbl q)
 bs:∀b o,base.get? b=some o->s.heap.get? b=some o/\H b=none
 Km:base.objs.size<=s.heap.objs.size
 G5:s.heap.FunFrames base outer
 Mu:∀b∈GV outer,H b=none
 xa:Gn P w H s.heap
 bare:AllBare s.gens
noncomputable def CE(a:List Env)(P:PP)(w:SL)(H:Hp)(s:FB)(Q:VK)(u:IR)(b:FB):Prop :=
 ∃v d,b.os=s.os/\AllBare b.gens/\Un (GV a) [] H d s.heap b.heap/\Gn P w d b.heap/\RelV v u/\Q v d
noncomputable def CR(d:Kq)(a:List Env)(P:PP)(w:SL)(H:Hp)(s:FB)(Q:VK)(E:XK)(r:Result)(b:FB):Prop :=
 match r with
 |.ok (.ret u)=>CE a P w H s Q u b
 |.ok _=>False
 |.error e=>d a H s E e b
structure FnOk(P:PP)(w:SL)(K:Xd)(mg:X3)(base:SC)(CX:Kq)(k:Nat)(f:GM)(fd:On)(ps:List Str)(sp:Sp):Prop where
 len:∀vs H Q E,sp vs H Q E->vs.length=ps.length
 run:∀(A:Pi)(outer:List Env)(s:FB)(H:Hp)(args:Args)(us:Ws)(vs:List V)(Q:VK)(E:XK),AU k A->Kf P w K mg base A outer s H->BindsTo s fd args (ps.zip us)->aT vs us->sp vs H Q E →
  codeAny (FM P w) A (.call (.ref f) args) (CR CX outer P w H s Q E) s
def FnOk.imp{P:PP}{w:SL}{K:Xd}{g:X3}{a:SC}{l:Kq}{k:Nat}{f:GM}{i:On}{e:List Str}{d j:Sp}(F:FnOk P w K g a l k f i e d)(h:∀b H Q E,j b H Q E->d b H Q E):FnOk P w K g a l k f i e j :=
 ⟨λb H Q E q=>F.len b H Q E (h _ _ _ _ q),λA outer s H args m b Q E p r t n o=>F.run A outer s H args m b Q E p r t n (h _ _ _ _ o)⟩
section
variable{X:Cx}{pins:Yf}{Z:St}{H:Hp}{s s':FB}
def Inv.Hy(I:Inv X pins Z H s):Kf X.prog X.w X.K X.mg X.base X.A X.stack s H :=
 ⟨I.ok.frames,I.ok.mod,I.tb,I.bs,ZU I.ok.Km I.sz,I.stack,I.HP,I.xa,I.bare⟩
def Inv.after{Q:VK}{u:IR}(I:Inv X pins Z H s)(h:CE X.stack X.prog X.w H s Q u s'):EP X pins Z Q u s':=by
 obtain⟨v,f,os,bare,un,xa,r,q⟩:=h;obtain⟨a,g,d,t,e⟩:=s';obtain rfl:e=s.os:=os;exact⟨v,f,I.call (h':=a) (g':=g) (d':=d) (t':=t) (ch:=[]) un xa bare (λb z=>absurd z (by simp)),r,q⟩
end
def Bi(b:Sp)(d:List V)(E:XK)(t:TA):TE:=λZ H Q=>t Z H λa e=>b (a++d) e Q E
def Binds(K:Xd)(d:On)(b:List Str)(ds:Ws):Prop :=
 ∀(s:FB)(a:Ws),K.In s.heap->(a++ds).length=b.length->BindsTo s d ⟨a,[]⟩ (b.zip (a++ds))
def Binds.all{K:Xd}{e:On}{b:List Str}(h:∀a:Ws,a.length=b.length->bindArgs e ⟨a,[]⟩=pure (b.zip a)):Binds K e b []:=λs a _ d=>by
 rw[ZP]at d ⊢;exact .of_eq (h a d)
def q0(d:Kq)(X:Cx)(E:XK):Prop:=∀(a:Yf)(Z:St)(H:Hp)(s:FB)(e:IR)(b:FB),Inv X a Z H s->d X.stack H s E e b->X.xe e b
section
variable{X:Cx}{CX:Kq}{k:Nat}{f C:GM}{fd:On}{ps:List Str}{sp:Sp}{Lw:List V}{ds:Ws}{E:XK}{x m:Str}{p pos apos:Pos}{e o:Expr}{es:List Expr}{ta:TE}{t:TA}
def CO{a:Yf}{Z:St}{H:Hp}{s:FB}{Q:VK}{b:Ws}{g:List V}(F:FnOk X.prog X.w X.K X.mg X.base CX k f fd ps sp)(l:AU k X.A)(v:Binds X.K fd ps ds)(q:aT Lw ds)(j:q0 CX X E)(I:Inv X a Z H s)(r:aT g b)(h:sp (g++Lw) H Q E):KB (FM X.prog X.w) X.A (call (.ref f) b) (EP X a Z Q) X.xe s:=by
 have r2:aT (g++Lw) (b++ds):=r.append q;have n:(b++ds).length=ps.length:=by rw[← r2.length];exact F.len _ _ _ _ h
 refine wpAny_call (WH (F.run X.A X.stack s H ⟨b,[]⟩ (b++ds) (g++Lw) Q E l I.Hy (v s b I.Ii n) r2 h) λr i d=>?_);cases r with
 |error e=>exact j a Z H s e i I d
 |ok fl =>
  cases fl with
  |ret u=>exact I.after d
  |next=>exact False.elim d
  |brk=>exact False.elim d
  |cont=>exact False.elim d
def Ag(F:FnOk X.prog X.w X.K X.mg X.base CX k f fd ps sp)(i:AU k X.A)(n:Gl X x)(j:X.mg x=O (.ref f))(l:PySem.W.keepIn X.K (.ref f)=J)(y:Binds X.K fd ps ds)(v:aT Lw ds)(g:q0 CX X E)(z:PA X (e :: es) t)(B:K2 x:=by decide)(u:K0 e es X:=by rfl)(b:K1 pos es X:=by rfl) :
  PE X (.Call (.Name x p) (e :: es) [] pos) (Bi sp Lw E t):=by
 intro a s Z H Q I h;refine Wz (sU I n j ?_ B);refine PySem.W.callWith_K (h₀:=X.base) I.ok.mod.OX l (thn (z pos a s Z H _ I h) λG L ⟨D,M,d,r,q⟩=>⟨d.Ii,?_⟩) u b;exact CO F i y v g d r q
end
def PK(X:Cx)(b:List Keyword)(t:TA):Prop :=
 ∀(pos:Pos)(a:Yf)(s:FB)(Z:St)(H:Hp)(Q:List V->Hp->Prop),Inv X a Z H s->t Z H Q->KB (FM X.prog X.w) X.A (evalAll ((backToKw pos (P3 b X.env)).map (·.2))) (AP X a Z Q) X.xe s
section
variable{X:Cx}{CX:Kq}{k:Nat}{f C:GM}{fd:On}{ps ks:List Str}{sp:Sp}{E:XK}{x m:Str}{p pos apos kpos:Pos}{e o:Expr}{es:List Expr}{NA:List Keyword}{te ta:TE}{t tk:TA}{nm:Option Str}
def xp:PK X [] EH:=λ_ _ _ _ H Q I h=>wpAny_evalAll_nil ⟨[],H,I,.nil,h⟩
def nz(l:PE X e te)(j:PK X NA t):PK X (⟨nm,e,kpos⟩ :: NA) (AY te t):=by
 intro pos a s Z H Q I h;show KB _ _ (evalAll ((do let v ← eval e X.env;standAt pos;pure v) :: (backToKw pos (P3 NA X.env)).map (·.2))) _ _ s;refine wpAny_evalAll_cons (Zz (thn (l a s Z H _ I h) λu d ⟨x,w,q,r1,i⟩=>Zz (wpAny_standAt (Zs ?_))));exact thn (j pos a d Z w _ q i) λy z ⟨b,r,n,r2,g⟩=>⟨x :: b,r,n,.cons r1 r2,g⟩
variable{g:Ws->Ws->Ws}{gV:List V->List V->List V}
end
structure tx(N P:List Str)(sc:Scope):Prop where
 kind:sc.kind=.function
 co:sc.isCoroutine=false
 gen:sc.isGenerator=false
 nd:N.Nodup
 pre:N.take P.length=P
 par:∀x∈P,sc.names.lookup x=some .local\/sc.names.lookup x=some .cell
 LW:∀y∈sc.names,y.2 ≠ .free
theorem mD{a:Str->Option NameKind}{x:Str}:∀{binds:List (Str×IR)}{m:X3},(∀v,(x,v)∉binds)->bindL a binds m x=m x
 |[],_,_=>rfl
 | (n,v) :: r,m,h=>by
  unfold bindL;rw[mD λw hw=>h w (Zw _ hw)];split
  ·have:x≠n:=by rintro rfl;exact h v Zx
   simp[this]
  ·rfl
theorem mL{a:Str->Option NameKind}{x:Str}:∀{binds:List (Str×IR)}{m:X3},(∀v,(x,v)∉binds)->bindC a binds m x=m x
 |[],_,_=>rfl
 | (n,v) :: r,m,h=>by
  unfold bindC;rw[mL λw hw=>h w (Zw _ hw)];split
  ·rfl
  ·have:x≠n:=by rintro rfl;exact h v Zx
   simp[this]
theorem mI{a:Str->Option NameKind}{x:Str}{v:IR}:∀{P:List Str}{b:Ws}{i:Nat}{m:X3},P.Nodup->P[i]?=O x->b[i]?=O v->a x=O .local →
  bindL a (P.zip b) m x=O v
 |[],_,_,_,_,h,_,_=>by simp at h
 |_ :: _,[],_,_,_,_,h,_=>by simp at h
 |p :: P,w :: b,0,m,nd,e,d,f=>by
  simp at e d;subst e;subst d;show bindL a ((p,w) :: P.zip b) m p=_;unfold bindL;rw[mD λv g=>(ZS.mp nd).1 (Vw g).1,Zn f];simp
 |p :: P,w :: b,i+1,m,nd,e,d,f=>by
  show bindL a ((p,w) :: P.zip b) m x=_;unfold bindL;exact mI (i:=i) (ZS.mp nd).2 (by simpa using e) (by simpa using d) f
theorem mS{a:Str->Option NameKind}{x:Str}{v:IR}:∀{P:List Str}{b:Ws}{i:Nat}{m:X3},P.Nodup->P[i]?=O x->b[i]?=O v->a x≠O .local →
  bindC a (P.zip b) m x=O v
 |[],_,_,_,_,h,_,_=>by simp at h
 |_ :: _,[],_,_,_,_,h,_=>by simp at h
 |p :: P,w :: b,0,m,nd,e,d,f=>by
  simp at e d;subst e;subst d;show bindC a ((p,w) :: P.zip b) m p=_;unfold bindC;rw[mL λv g=>(ZS.mp nd).1 (Vw g).1,Zj f];simp
 |p :: P,w :: b,i+1,m,nd,e,d,f=>by
  show bindC a ((p,w) :: P.zip b) m x=_;unfold bindC;exact mS (i:=i) (ZS.mp nd).2 (by simpa using e) (by simpa using d) f
def start(N:List Str)(a:List V):St:=a.map O++List.replicate (N.length-a.length) Y
noncomputable def mw(j:Kq)(P:PP)(w:SL)(K:Xd)(m:X3)(h:SC)(N:List Str)(d:Str)(a:Scope)(f:GM)(g:IR)(A:Pi)(b:List Env)(s:FB)(H:Hp)(E:XK):Cx where
 prog:=P
 w:=w
 K:=K
 mg:=m
 base:=h
 A:=A.deeper (envOfC d a s.heap.objs.size f g)
 N:=N
 s₀:=s
 H₀:=H
 env:=envOfC d a s.heap.objs.size f g
 outer:=b
 stack:=envOfC d a s.heap.objs.size f g :: b
 ex:=[]
 calm:=J
 fn:=λ_=>J
 pn:=[]
 xe:=λe l=>KB (FM P w) (A.deeper (envOfC d a s.heap.objs.size f g)) (leaving (envOfC d a s.heap.objs.size f g) e) (λ_ i=>j b H s E e i) (λn i=>j b H s E n i) l
def o8{a:Scope}{n:Nat}{x:Str}(h:a.names.lookup x=O .cell):∃c,(cellsFrom n a.names []).lookup x=O c:=by
 have q:=PySem.W.cellsFrom_some a.names n [] (.inl h);exact XE.mp q
def uU{CX:Kq}{P:PP}{w:SL}{K:Xd}{Q:X3}{o:SC}{N B:List Str}{j:Str}{d:Scope}{f:GM}{I:IR}{A:Pi}{g:List Env}{s U:FB}{H:Hp}{E:XK}{L:Ws}{t:List V}(S:tx N B d)(hd:A.handled=Y)(m:Kf P w K Q o A g s H)(hl:t.length=B.length)(r:aT t L)(x:InCallC s s.heap.objs.size (bindL (envOfC j d s.heap.objs.size f I).kindOf (B.zip L) λ_=>Y) (cellsFrom (s.heap.objs.size+1) d.names []) (bindC (envOfC j d s.heap.objs.size f I).kindOf (B.zip L) λ_=>Y) U) :
  Inv (mw CX P w K Q o N j d f I A g s H E) [] (start N t) H U:=by
 have hpl:B.length<=N.length:=by have:=congrArg List.length S.pre;rw[ZM]at this;lia
 obtain⟨G,tk,rfl,X⟩:=x.done;have R:∀b:GM,b∉(mw CX P w K Q o N j d f I A g s H E).ex:=λb z=>absurd (show b∈([]:X4) from z) (by simp);refine⟨⟨m.mod,S.kind,rfl,rfl,Zo _,λy z c G l=>?_,λy C=>?_,λy c _ h=>?_,λ_=>hd,Around.frames_deeper m.frames,.inr ⟨rfl,rfl⟩,λb z=>absurd z (R b),m.tb,m.bs,m.Km,λb _ _=>R b,λb z=>absurd z (R b),m.G5,m.Mu⟩,
  rfl,m.bare,Un.kept X,⟨_,x.toInCall.ns,λi y v G l h3=>?_⟩,λy c h=>⟨_,x.cell y c h⟩,m.xa.fresh (Zo _),λy c h=>?_,λp D=>absurd (show p∈([]:Yf) from D) (by simp),m.xa.kept X,?_⟩
 ·exact name_of_addr x.apart (XG G) (XG l)
 ·have C:d.names.lookup y=O .cell\/d.names.lookup y=O .free:=C;rcases C with C | C
  ·exact o8 C
  ·exact absurd M (S.LW _ (XG C))
 ·exact ZH (x.above y c (XG h))
 ·have F:i<t.length:=by
   unfold start at l;by_cases F:i<t.length
   ·exact F
   ·rw[JS (by simpa using F)]at l;rw[Xr]at l;split at l<;>cases l
  have ha:t[i]?=O v:=by
   unfold start at l;rw[Yp (by simpa using F),ZT]at l;cases e:t[i]? with
   |none=>rw[e]at l;cases l
   |some a=>rw[e]at l;cases l;rfl
  obtain⟨u,W,rv⟩:=r.get ha;have D:B[i]?=O y:=by
   rw[← S.pre,List.getElem?_take_of_lt (by lia)];exact G
  have Z:B.Nodup:=by rw[← S.pre];exact S.nd.sublist (List.take_sublist _ _)
  refine⟨u,rv,?_⟩;rcases S.par y (YX D) with k | k
  ·exact .inl ⟨k,mI Z D W k⟩
  ·obtain⟨c,e⟩:=o8 (n:=s.heap.objs.size+1) k;refine .inr ⟨.inl k,c,e,?_⟩;have q:=x.cell y c e;rw[mS Z D W (by show d.names.lookup y≠_;rw[k];decide)]at q;exact q
 ·exact m.xa.fresh (ZH (x.above y c (XG h)))
 ·unfold start;show _=N.length;rw[Zu,Zv,Y7];lia
def Bj{R:Kq}{P:PP}{w:SL}{K:Xd}{G:X3}{h:SC}{k:Nat}{f:GM}{l d:Str}{g:Arguments}{i:List Stmt}{a:Scope}{dV kV D pm p ct oc:IR}{an od:Option GM}{Ju:Array (Vj)}{N F:List Str}{U:Sp}(lk:K.lookup f=O ⟨oc,od,.func (PySem.W.fnOf l d g i a dV kV D pm an p ct),Ju⟩)(Gc:PySem.W.codeIn K p d=true)(S:tx N F a)(B:∀j H Q E,U j H Q E->j.length=F.length)(Hh:∀(A:Pi)(outer:List Env)(s:FB)(H:Hp)(j:List V)(Q:VK)(E:XK),AU k (A.deeper (envOfC d a s.heap.objs.size f p))->U j H Q E →
   ∃t,HJ (mw R P w K G h N d a f p A outer s H E) i t/\t { nx:=λ_ m=>Q .non m,rt:=Q } (start N j) H) :
  FnOk P w K G h R (k+1) f (PySem.W.fnOf l d g i a dV kV D pm an p ct) F U:=by
 refine⟨B,λA outer s H args us j Q E hr C hb r Kj=>?_⟩;have hl:=B _ _ _ _ Kj;have KX:K.In s.heap:=C.mod.OX.keeps λb o e=>(C.bs b o e).1;have lim:s.heap.NoLimit:=C.mod.nolimit.keeps λb o e=>(C.bs b o e).1;have Gy:∀y∈F.zip us,a.names.lookup y.1=O .local\/(a.names.lookup y.1=O .cell/\((cellsFrom (s.heap.objs.size+1) a.names []).lookup y.1).isSome=true):=λ⟨n,v⟩ hy=>by
  rcases S.par n (Vw hy).1 with q | q
  ·exact .inl q
  ·exact .inr ⟨q,PySem.W.cellsFrom_some _ _ _ (.inl q)⟩
 refine codeAny_call_function hr.depth (KX _ _ lk) M S.co S.gen M (PySem.W.codeRec_of KX Gc) (hb _ _ _ _ ?_);refine wpAny_newFunctionEnv_cells S.kind Gy λenv he s1 x=>?_;subst he;refine⟨lim.keeps x.toInCall.keep,codeAny_func ?_⟩;obtain⟨t,ht,hq⟩:=Hh A outer s H j Q E (hr.deeper _) Kj;have I:Inv (mw R P w K G h N d a f p A outer s H E) [] (start N j) H s1:=uU S hr.hd C hl r x;refine Yj (ht [] s1 (start N j) H _ I hq) (λfl X z=>?_) λe X z=>z;have fin:∀{L:St}{m:Hp}{v:V}{u:IR},Inv (mw R P w K G h N d a f p A outer s H E) [] L m X->RelV v u->Q v m->CE outer P w H s Q u X :=
  λ{L m v u} J Z q=>⟨v,m,J.os,J.bare,J.base,J.xa,Z,q⟩
 cases fl with
 |ret u =>
  obtain⟨v,L,m,J,Z,q⟩:=z;exact fin J Z q
 |next =>
  obtain⟨L,m,J,q⟩:=z;exact fin (v:=V.non) (u:=Value.none) J M q
 |brk =>
  obtain⟨_,_,_,q⟩:=z;exact False.elim q
 |cont =>
  obtain⟨_,_,_,q⟩:=z;exact False.elim q
section
variable{X:Cx}{x:Str}{p pos:Pos}{e:Expr}{es:List Expr}{t:TA}{id T:String}{r:List V->Hp->VK->Prop}
def S4(r:List V->Hp->VK->Prop)(t:TA):TE:=λZ H Q=>t Z H λa b=>r a b Q
def oZ(q:dI X (.builtin id) r)(n:Gl X x)(m:X.mg x=Y)(j:bootBuiltins x=O (.builtin id))(u:PA X (e :: es) t)(l:x ≠ "__name__" := by decide)(v:K2 x:=by decide)(o:K0 e es X:=by rfl)(b:K1 pos es X:=by rfl):PE X (.Call (.Name x p) (e :: es) [] pos) (S4 r t):=by
 intro a s Z H Q I h;refine Wz (gL I n m j ?_ l v);exact PyProof.Rows.callWith_builtin1 (thn (u pos a s Z H _ I h) λf g ⟨d,y,w,r1,i⟩=>q a g Z y d f Q w r1 i) o b
def uJ(q:dI X (.type T) r)(n:Gl X x)(m:X.mg x=Y)(j:bootBuiltins x=O (.type T))(u:PA X (e :: es) t)(l:x ≠ "__name__" := by decide)(v:K2 x:=by decide)(o:K0 e es X:=by rfl)(b:K1 pos es X:=by rfl):PE X (.Call (.Name x p) (e :: es) [] pos) (S4 r t):=by
 intro a s Z H Q I h;refine Wz (gL I n m j ?_ l v);exact Y1 (thn (u pos a s Z H _ I h) λf g ⟨d,y,w,r1,i⟩=>q a g Z y d f Q w r1 i) o b
end
end td
namespace HT
open PySem PyProof.Rows
section
variable{prog:PP}{w:SL}{A:Pi}{E:Yu}{s:FB}
def Gg(n d:Nat):Option Int->Nat
 |none=>d
 |some v=>if v<0 then (v+(n:Int)).toNat else min v.toNat n
end
end HT
namespace td
open PySem PySem.Spec PyProof.Rows
abbrev TO:=St->Hp->(Option Int->Hp->Prop)->Prop
def PO(X:Cx)(e:Option Expr)(t:TO):Prop :=
 ∀(a:Yf)(s:FB)(Z:St)(H:Hp)(Q:Option Int->Hp->Prop),Inv X a Z H s->t Z H Q →
  KB (FM X.prog X.w) X.A (evalPart e X.env) (λu d=>∃o b,Inv X a Z b d/\IsPart u o/\Q o b) X.xe s
def yK:TO:=λ_ H Q=>Q Y H
def Dd(t:TE):TO:=λZ H Q=>t Z H λx a=>∃i,x=.int i/\Q (O i) a
section
variable{X:Cx}{e:Expr}{te:TE}{lo hi:Option Expr}{tl th:TO}{pos p2:Pos}
def zp:PO X Y yK:=by
 intro a s Z H Q I h;rw[evalPart_none];exact Zs ⟨Y,H,I,.none,h⟩
def Af(h:PE X e te):PO X (O e) (Dd te):=by
 intro a s Z H Q I hw;rw[evalPart_some];refine thn (h a s Z H _ I hw) λu g ⟨x,f,d,r1,b⟩=>?_;obtain⟨i,rfl,q⟩:=b;obtain⟨t,rfl⟩:=r1;exact⟨O i,f,d,.int i t,q⟩
noncomputable def Lz(X:Cx)(r:V->Option Int->Option Int->Hp->VK->Prop):Prop :=
 ∀(a:Yf)(s:FB)(Z:St)(H:Hp)(x:V)(v d b:IR)(lo hi:Option Int)(f:GM)(Q:VK),Inv X a Z H s->RelV x v->s.heap.IsSliceOf f d b .none->IsPart d lo->IsPart b hi->r x lo hi H Q →
  ∃T id,typeLookup (.type T) "__getitem__" = pure (O (.builtin id))/\s.TypeIs v T/\KB (FM X.prog X.w) X.A (getItem v (.ref f)) (EP X a Z Q) X.xe s
def Lz.or{r i:V->Option Int->Option Int->Hp->VK->Prop}(h:Lz X r)(m:Lz X i):Lz X (λx lo hi H Q=>r x lo hi H Q\/i x lo hi H Q):=by
 intro a s Z H x v d b lo hi f Q I g l j pu q;rcases q with q | q
 ·exact h a s Z H x v d b lo hi f Q I g l j pu q
 ·exact m a s Z H x v d b lo hi f Q I g l j pu q
def UN(r:V->Option Int->Option Int->Hp->VK->Prop)(d:TE)(a b:TO):TE:=λZ H Q=>d Z H λx h=>a Z h λl g=>b Z g λu f=>r x l u f Q
def xr{r:V->Option Int->Option Int->Hp->VK->Prop}(B:Lz X r)(F:PE X e te)(C:PO X lo tl)(y:PO X hi th):PE X (.Subscript e (.Slice lo hi Y p2) pos) (UN r te tl th):=by
 intro a s Z H Q I h;refine Subscript_ (thn (F a s Z H _ I h) λv m ⟨x,U,P,r1,p⟩=>?_);refine wpAny_Slice (thn (C a m Z U _ P p) λg j ⟨l,R,N,t,o⟩=>thn (y a j Z R _ N o) λf d ⟨u,i,M,pu,n⟩=>?_);rw[evalPart_none];refine Zs ?_;have L:Inv X a Z i { d with heap:=d.heap.push { cls:=.type "slice",data:=.fields #[g,f,.none] } }:=M.kept (t':=d.toks) λb W q=>Zt _ q;obtain⟨T,id,G,z,D⟩:=B a { d with heap:=d.heap.push { cls:=.type "slice",data:=.fields #[g,f,.none] } } Z i x v g f l u d.heap.objs.size Q L r1 (Heap.IsSliceOf.new ..) t pu n;show KB (FM X.prog X.w) X.A (subscriptTail e (.Slice lo hi Y p2) v (.ref d.heap.objs.size)) (EP X a Z Q) X.xe { d with heap:=d.heap.push { cls:=.type "slice",data:=.fields #[g,f,.none] } };exact tail_any (ops:=[.ref d.heap.objs.size,v]) z G D (by with_unfolding_all rfl)
def uB(a:List V)(b d:Option Int):List V:=(a.drop (HT.Gg a.length 0 b)).take (HT.Gg a.length a.length d-HT.Gg a.length 0 b)
def pY(a:List V)(b d:Option Int):(uB a b d).length<=a.length:=by
 unfold uB;rw[ZM,ZE];lia
end
def L6(n:Nat)(i:Int):Option Nat:=if 0<=i then (if i<n then O i.toNat else Y) else if -(n:Int)<=i then O (i+n).toNat else Y
def MG{α:Type}(a:List α)(i:Int):Option α:=(L6 a.length i).bind λj=>a[j]?
def sH{n:Nat}{i:Int}{j:Nat}(h:L6 n i=O j):seqIndex? i n=O j/\j<n/\-(n:Int)<=i/\i<n:=by
 unfold L6 at h;by_cases b:0<=i
 ·rw[Zn b]at h;by_cases a:i<n
  ·rw[Zn a]at h;have e:i.toNat=j:=ZK h;exact⟨by rw[seqIndex_of b a,e],by lia,by lia,a⟩
  ·rw[Zj a]at h;cases h
 ·rw[Zj b]at h;by_cases a:-(n:Int)<=i
  ·rw[Zn a]at h;have e:(i+n).toNat=j:=ZK h;exact⟨by rw[seqIndex_neg (by lia) a,e],by lia,a,by lia⟩
  ·rw[Zj a]at h;cases h
def nU{α:Type}{a:List α}{i:Int}{v:α}(h:MG a i=O v):∃j,seqIndex? i a.length=O j/\a[j]?=O v/\j<a.length/\-(a.length:Int)<=i/\i<a.length:=by
 unfold MG at h;cases e:L6 a.length i with
 |none=>rw[e]at h;cases h
 |some j =>
  rw[e]at h;obtain⟨f,d,h3,b⟩:=sH e;exact⟨j,f,h,d,h3,b⟩
def kC(b:Expr):Prop:=∀o i,subscripted b S o i=operate [o,i] (getItem o i)
def JT(X:Cx)(r:R2):Prop :=
 ∀(value slice:Expr)(a:Yf)(s:FB)(Z:St)(H:Hp)(x y:V)(v u:IR)(Q:VK),Inv X a Z H s->RelV x v->RelV y u->r x y H Q →
  subscripted slice S v u=operate [v,u] (getItem v u)->KB (FM X.prog X.w) X.A (subscriptTail value slice v u) (EP X a Z Q) X.xe s
def OE(X:Cx)(e:String)(r:V->List V->Hp->VK->Prop):Prop :=
 ∀(a:Yf)(s:FB)(Z:St)(H:Hp)(x:V)(b:List V)(v:IR)(d:Ws)(Q:VK),Inv X a Z H s->RelV x v->aT b d->r x b H Q →
  KB (FM X.prog X.w) X.A (call (.builtin e) (v :: d)) (EP X a Z Q) X.xe s
section
variable{X:Cx}{a b:Expr}{ta tb:TE}{pos:Pos}
def JT.or{r g:R2}(h:JT X r)(j:JT X g):JT X (λx y H Q=>r x y H Q\/g x y H Q):=by
 intro value slice d s Z H x y v u Q I f e q i;rcases q with q | q
 ·exact h value slice d s Z H x y v u Q I f e q i
 ·exact j value slice d s Z H x y v u Q I f e q i
def xJ{r:R2}(j:JT X r)(m:PE X a ta)(l:PE X b tb)(i:kC b):PE X (.Subscript a b pos) (Ng r ta tb):=by
 intro d s Z H Q I h;exact Subscript_ (CK m l I h λv u e x y o n g f q=>j a b d e Z o x y v u Q n g f q (i _ _))
def Ej(K:Xd):R2:=λx y H Q=>∃p d i v,x=.ref p/\y=.int i/\FF K H p d/\MG d i=O v/\Q v H
def DH(K:Xd):R2:=λx y H Q=>∃p d i v,x=.ref p/\y=.int i/\GA K H p d/\MG d i=O v/\Q v H
def D7:R2:=λx y H Q=>∃z i c,x=.str z/\y=.int i/\z.length<=FS/\MG z.cps.toList i=O c/\Q (.str ⟨#[c]⟩) H
def AG:JT X (Ej X.K):=by
 intro value slice d s Z H x y v u Q I B A h l;obtain⟨p,R,i,z,rfl,rfl,D,G,q⟩:=h;cases B;obtain⟨t,rfl⟩:=A;obtain⟨C,r,f,U⟩:=I.list D;obtain⟨j,e,N,h3,M,L⟩:=nU G;obtain⟨w,n,P⟩:=r.get N;have F:=r.length;have W:=jV;have fin:EP X d Z Q w s:=⟨z,H,I,P,q⟩
 by_cases m:0<=i
 ·have g:i.toNat=j:=by
   rw[seqIndex_of m L]at e;exact ZK e
  exact item_listR f.isList m (by lia) (by rw[g];simpa using n) fin l
 ·have g:(i+(C.toArray.size:Int)).toNat=j:=by
   rw[seqIndex_neg (by lia) M]at e;rw[Zd,← F];exact ZK e
  exact subscriptTail_builtinR (x:=w) f.isList.typeIs slot_list_getitem.lookup
   (wpAny_getItem_list_neg (Q:=λr o=>r=w/\EP X d Z Q r o) f.isList (by lia) (by rw[Zd]<;>lia) (by lia) (by rw[g];simpa using n) ⟨rfl,fin⟩) l
def B4:JT X (DH X.K):=by
 intro value slice d s Z H x y v u Q I l g h m;obtain⟨p,G,i,z,rfl,rfl,n,A,q⟩:=h;cases l;obtain⟨t,rfl⟩:=g;obtain⟨L,r,e,M⟩:=I.tuple n;obtain⟨j,C,B,h3,R,P⟩:=nU A;obtain⟨w,D,F⟩:=r.get B;have o:=r.length;have N:=jV;have fin:EP X d Z Q w s:=⟨z,H,I,F,q⟩
 exact subscriptTail_builtinR (x:=w) e.typeIs slot_tuple_getitem.lookup
  (getItem_tuple (j:=j) (Q:=λr f=>r=w/\EP X d Z Q r f) e (by lia) (by lia) (by rw[Zd,← o];exact C) (by simpa using D) ⟨rfl,fin⟩) m
def Cy:JT X D7:=by
 intro value slice d s Z H x y v u Q I g f h l;obtain⟨z,i,c,rfl,rfl,A,n,q⟩:=h;obtain⟨t,rfl⟩:=g;obtain⟨w,rfl⟩:=f;obtain⟨j,e,r,h3,p,o⟩:=nU n;have m:z.cps.toList.length=z.length:=by simp[Str.length]
 rw[m]at e p o;have B:=jV;exact tail_any (typeIs_str s z t) slot_str_getitem.lookup (getItem_str (c:=c) (by
  have e1:decide (i < -(2 ^ 63:Int))=S:=ZJ (by lia);have e2:decide (i ≥ 2 ^ 63)=S:=ZJ (by lia);rw[e1,e2,Bool.or_false]) (by rw[e];simpa using r) ⟨.str ⟨#[c]⟩,H,I.tok _,⟨_,rfl⟩,q⟩) l
def PJ(K:Xd):R2:=λx y H Q=>Ej K x y H Q\/DH K x y H Q\/D7 x y H Q
def xE:JT X (PJ X.K):=AG.or (B4.or Cy)
def rA(d:Ws)(n j:Nat)(u:IR):Obj.mapSeq (·.setIfInBounds j u) { cls:=.type "list",data:=.seq d.toArray n }={ cls:=.type "list",data:=.seq (d.set j u).toArray n }:=by
 simp[Obj.mapSeq]
theorem Inv.lst{d:Yf}{Z:St}{H:Hp}{s:FB}{p:GM}{xs:List V}(I:Inv X d Z H s)(h:H p=O (.lst xs)) :
  ∃(f:Ws)(n:Nat),aT xs f/\s.heap.get? p=O { cls:=.type "list",data:=.seq f.toArray n }/\xs.length<=sizeLine:=by
 obtain⟨z,f,n,r,e⟩:=I.xa p _ h;exact⟨f,n,r,e,z⟩
def Inv.LX{g:Yf}{Z:St}{H:Hp}{s:FB}{p:GM}{o i:List V}{l d:Ws}{n j:Nat}{f:Obj->Obj}(I:Inv X g Z H s)(h:H p=O (.lst o))(w:s.heap.get? p=O { cls:=.type "list",data:=.seq l.toArray n })(m:f { cls:=.type "list",data:=.seq l.toArray n }={ cls:=.type "list",data:=.seq d.toArray j })(r:aT i d)(v:i.length<=FS)(t:Nat) :
  Inv X g Z (upd H p (.lst i)) { s with heap:=s.heap.update p f,toks:=t }:=by
 have e:(s.heap.update p f).get? p=O { cls:=.type "list",data:=.seq d.toArray j }:=by
  rw[Vf f w (by rw[m]<;>rfl),m]
 refine I.write (x:=p) (e:=p) (by rw[h];trivial) (.inl M) (λb u y q=>(XU _ _ (Y2 y)).trans q) ⟨_,e⟩ ?_;exact⟨v,d,j,r,e⟩
def Bf:V->V->V->Hp->(Hp->Prop)->Prop:=λo i v H Q=>∃p d k j,o=.ref p/\i=.int k/\H p=O (.lst d)/\L6 d.length k=O j/\Q (upd H p (.lst (d.set j v)))
def set_list:CA X Bf:=by
 intro d s Z H o i v L M u Q I C D B h;obtain⟨p,A,k,j,rfl,rfl,w,G,q⟩:=h;cases C;obtain⟨t,rfl⟩:=D;obtain⟨m,n,r,f,F⟩:=I.lst w;obtain⟨e,P,h3,x⟩:=sH G;have g:=r.length;have N:=jV;have z:Inv X d Z (upd H p (.lst (A.set j v))) { s with heap:=s.heap.update p (Obj.mapSeq (·.setIfInBounds j u)) } :=
  I.LX w f (rA m n j u) (r.set B j) (by rw[XB];exact F) s.toks
 by_cases y:0<=k
 ·have l:k.toNat=j:=by
   rw[seqIndex_of y x]at e;exact ZK e
  exact PySem.W.ki_setAt f y (by lia) (by rw[Zd,← g];exact x) (by rw[l];exact⟨_,z,q⟩)
 ·have l:(k+(m.toArray.size:Int)).toNat=j:=by
   rw[seqIndex_neg (by lia) h3]at e;rw[Zd,← g];exact ZK e
  exact PySem.W.ki_setBack f (by lia) (by rw[Zd,← g];exact h3) (by lia) (by rw[l];exact⟨_,z,q⟩)
def oC(d e:Option Int)(n:Nat):(sliceBounds d e Y n).1=((HT.Gg n 0 d:Nat):Int)/\(sliceBounds d e Y n).2.1=((HT.Gg n n e:Nat):Int)/\(sliceBounds d e Y n).2.2=1:=by
 refine⟨?_,?_,rfl⟩
 ·cases d with
  |none=>simp[sliceBounds,HT.Gg]
  |some i =>
   simp only[sliceBounds,HT.Gg,Option.getD_none,show (1:Int) > 0 by decide,if_true];by_cases h:i<0
   ·simp only[h,if_true]<;>lia
   ·simp only[h,if_false]<;>lia
 ·cases e with
  |none=>simp[sliceBounds,HT.Gg]
  |some i =>
   simp only[sliceBounds,HT.Gg,Option.getD_none,show (1:Int) > 0 by decide,if_true];by_cases h:i<0
   ·simp only[h,if_true]<;>lia
   ·simp only[h,if_false]<;>lia
def ma(d:Ws)(e f:Option Int):slicePick d.toArray e f Y=((d.drop (HT.Gg d.length 0 e)).take (HT.Gg d.length d.length f-HT.Gg d.length 0 e)).toArray:=by
 obtain⟨h,g,h3⟩:=oC e f d.toArray.size;unfold slicePick;rw[h,g,h3];simp only[sliceRange_one,pick_run,Zd]<;>rfl
def Dh(K:Xd):V->Option Int->Option Int->Hp->VK->Prop:=λx lo e H Q=>∃a d,x=.ref a/\FF K H a d/\∀p,H p=Y->Q (.ref p) (upd H p (.lst (uB d lo e)))
def Aq:Lz X (Dh X.K):=by
 intro f s Z H x v t p lo e u Q I i n j pu h;obtain⟨a,d,rfl,m,q⟩:=h;cases i;obtain⟨w,r,g,l⟩:=I.list m;have hlen:=r.length;refine⟨"list",_,slot_list_getitem.lookup,g.isList.typeIs,?_⟩;refine wpAny_getItem_list_slice g.isList n j pu .none (by simp) ?_ (by rw[Zd]<;>lia);rw[ma,← hlen];refine⟨.ref s.heap.objs.size,_,I.laid (t':=s.toks) (o:=.lst (uB d lo e)) (λb y q=>Zt _ q) (Zo _) ?_,rfl,q _ (I.xa.fresh (Zo _))⟩;exact⟨ZU (pY d lo e) l,_,0,(r.drop (HT.Gg d.length 0 lo)).take (HT.Gg d.length d.length e-HT.Gg d.length 0 lo),Zc _ M⟩
def fz:V->Bool
 |.non=>J
 |.bl _=>J
 |.int _=>J
 |.str _=>J
 |_=>S
def Kl:V->V->Bool
 |.non,.non=>J
 |.bl a,.bl b=>a==b
 |.bl a,.int b=>(if a then 1 else 0)==b
 |.int a,.bl b=>a==(if b then 1 else 0)
 |.int a,.int b=>a==b
 |.str a,.str b=>a==b
 |_,_=>S
def Cr{A:Pi}{s:FB}{y x:V}{u v:IR}(f:RelV y u)(d:RelV x v)(h:fz y=J)(g:fz x=J):SeqAt.EqAt A s u v (Kl y x):=by
 cases y with
 |non =>
  cases f;cases x with
  |non=>cases d;exact SeqAt.EqAt.same _
  |bl b=>cases d;exact SeqAt.EqAt.none_bool b
  |int b=>obtain⟨t,rfl⟩:=d;exact SeqAt.EqAt.none_int b t
  |str b=>obtain⟨t,rfl⟩:=d;exact SeqAt.EqAt.none_str b t
  |_=>exact absurd (show S=J from g) Za
 |bl a =>
  cases f;cases x with
  |non=>cases d;exact SeqAt.EqAt.bool_none a
  |bl b=>cases d;exact SeqAt.EqAt.bool_bool a b
  |int b=>obtain⟨t,rfl⟩:=d;exact SeqAt.EqAt.bool_int a b t
  |str b=>obtain⟨t,rfl⟩:=d;exact SeqAt.EqAt.bool_str a b t
  |_=>exact absurd (show S=J from g) Za
 |int a =>
  obtain⟨e,rfl⟩:=f;cases x with
  |non=>cases d;exact SeqAt.EqAt.int_none a e
  |bl b=>cases d;exact SeqAt.EqAt.int_bool a e b
  |int b=>obtain⟨t,rfl⟩:=d;exact SeqAt.EqAt.int_int a e b t
  |str b=>obtain⟨t,rfl⟩:=d;exact SeqAt.EqAt.int_str a e b t
  |_=>exact absurd (show S=J from g) Za
 |str a =>
  obtain⟨e,rfl⟩:=f;cases x with
  |non=>cases d;exact SeqAt.EqAt.str_none a e
  |bl b=>cases d;exact SeqAt.EqAt.str_bool a e b
  |int b=>obtain⟨t,rfl⟩:=d;exact SeqAt.EqAt.str_int a e b t
  |str b=>obtain⟨t,rfl⟩:=d;exact SeqAt.EqAt.str_str a e b t
  |_=>exact absurd (show S=J from g) Za
 |_=>exact absurd (show S=J from h) Za
def IV(x:V)(u:IR):Bool:=match u with
 |.none=>Kl .non x
 |.bool b=>Kl (.bl b) x
 |.int i _=>Kl (.int i) x
 |.str z _=>Kl (.str z) x
 |_=>S
def wZ{x y:V}{u:IR}(r:RelV y u)(f:fz y=J):IV x u=Kl y x:=by
 cases y with
 |non=>cases r;rfl
 |bl b=>cases r;rfl
 |int i=>obtain⟨t,rfl⟩:=r;rfl
 |str z=>obtain⟨t,rfl⟩:=r;rfl
 |_=>exact absurd (show S=J from f) Za
theorem i9{x:V}:∀{d:List V}{e:Ws},aT d e->d.all fz=J->e.any (IV x)=d.any λy=>Kl y x
 |_,_,.nil,_=>rfl
 |y :: d,u :: e,.cons r t,f=>by
  rw[WD,Yz]at f;rw[Xv,Xv,wZ r f.1,i9 t f.2]
theorem ik{A:Pi}{s:FB}{x:V}{v:IR}(h:RelV x v)(i:fz x=J):∀{e:List V}{g:Ws},aT e g->e.all fz=J->∀u∈g,SeqAt.EqAt A s u v (IV x u)
 |_,_,.nil,_=>λu d=>by cases d
 |y :: e,u :: g,.cons r t,f=>λj d=>by
  rw[WD,Yz]at f;rcases Zq.mp d with rfl | d
  ·rw[wZ r f.1];exact Cr r h f.1 i
  ·exact ik h i t f.2 j d
def ND(x:V)(d:List V):Bool:=d.any λy=>Kl y x
def ON(K:Xd)(e:Bool):R2:=λx y H Q=>∃p d,y=.ref p/\(FF K H p d\/GA K H p d)/\fz x=J/\d.all fz=J/\Q (.bl (if e then !ND x d else ND x d)) H
def uT:OpR X (SB .In) (ON X.K S):=by
 intro i s Z H x y v u Q I g l h;obtain⟨p,n,rfl,e,j,fs,q⟩:=h;cases l;rcases e with e | e
 ·obtain⟨d,r,f,m⟩:=I.list e;refine SeqAt.in_listAt (IV x) f.isList (λw hw=>ik g j r fs w (by simpa using hw)) ⟨.bl _,H,I,rfl,?_⟩;rw[show d.toArray.any (IV x)=d.any (IV x) by simp,i9 r fs];exact q
 ·obtain⟨d,r,f,m⟩:=I.tuple e;refine SeqAt.in_tupleAt (IV x) f (λw hw=>ik g j r fs w (by simpa using hw)) ⟨.bl _,H,I,rfl,?_⟩;rw[show d.toArray.any (IV x)=d.any (IV x) by simp,i9 r fs];exact q
def oD:OpR X (SB .NotIn) (ON X.K J):=by
 intro i s Z H x y v u Q I g l h;obtain⟨p,n,rfl,e,j,fs,q⟩:=h;cases l;rcases e with e | e
 ·obtain⟨d,r,f,m⟩:=I.list e;refine SeqAt.notIn_listAt (IV x) f.isList (λw hw=>ik g j r fs w (by simpa using hw)) ⟨.bl _,H,I,rfl,?_⟩;rw[show d.toArray.any (IV x)=d.any (IV x) by simp,i9 r fs];exact q
 ·obtain⟨d,r,f,m⟩:=I.tuple e;refine SeqAt.notIn_tupleAt (IV x) f (λw hw=>ik g j r fs w (by simpa using hw)) ⟨.bl _,H,I,rfl,?_⟩;rw[show d.toArray.any (IV x)=d.any (IV x) by simp,i9 r fs];exact q
def dI.or{f:IR}{r j:List V->Hp->VK->Prop}(h:dI X f r)(l:dI X f j):dI X f (λe H Q=>r e H Q\/j e H Q):=by
 intro d s Z H e g Q I i q;rcases q with q | q
 ·exact h d s Z H e g Q I i q
 ·exact l d s Z H e g Q I i q
def nG:dI X (.type "list") (λA H Q=>∃p g,A=[.ref p]/\(FF X.K H p g\/GA X.K H p g)/\∀l,H l=Y->Q (.ref l) (upd H l (.lst g))):=by
 intro m s Z H A D Q I r h;obtain⟨p,g,rfl,v,q⟩:=h;obtain⟨u,rfl,C⟩:=vals1 r;cases C;have fin:∀(f:Ws),aT g f->g.length<=FS->∀(d:SC)(j:Nat),(∀b B,s.heap.get? b=O B->d.get? b=O B) →
   d.get? s.heap.objs.size=O { cls:=.type "list",dict:=Y,data:=.seq f.toArray j,slots:=#[] }->EP X m Z Q (.ref s.heap.objs.size) { s with heap:=d }:=λf i t d j kp e =>
  ⟨.ref s.heap.objs.size,_,I.laid (t':=s.toks) kp (Zo _) (show bg X.prog X.w _ d _ (.lst g) from⟨t,f,j,i,e⟩),rfl,q _ (I.xa.fresh (Zo _))⟩
 rcases v with v | v
 ·obtain⟨f,i,x,t⟩:=I.list v;have hlen:=i.length;obtain⟨o,y,z,n,hd⟩:=x.isList;exact call_list_seq p (.inl M) y z hd (λd j kp e=>fin f i t d j kp e) (by simp only[Zd]<;>lia)
 ·obtain⟨f,i,x,t⟩:=I.tuple v;have hlen:=i.length;obtain⟨o,y,z,n,hd⟩:=x;exact call_list_seq p (.inr M) y z hd (λd j kp e=>fin f i t d j kp e) (by simp only[Zd]<;>lia)
def md:dI X (.type "tuple") (λt H Q=>∃p f,t=[.ref p]/\((FF X.K H p f/\∀l,H l=Y->Q (.ref l) (upd H l (.tup f)))\/(GA X.K H p f/\Q (.ref p) H))):=by
 intro d s Z H t A Q I r h;obtain⟨p,f,rfl,h⟩:=h;obtain⟨u,rfl,y⟩:=vals1 r;cases y;rcases h with⟨n,q⟩ | ⟨n,q⟩
 ·obtain⟨m,i,j,v⟩:=I.list n;have hlen:=i.length;refine call_tuple_list j.isList (λg kp=>?_) (by simp only[Zd]<;>lia);have x:Inv X d Z H { s with heap:=g }:=I.kept (t':=s.toks) kp;have z:Inv X d Z (upd H g.objs.size (.tup f)) { s with heap:=g.push { cls:=.type "tuple",data:=.seq m.toArray } } :=
   x.laid (t':=s.toks) (λb o e=>Zt _ e) (Zo _) (show bg X.prog X.w _ _ _ (.tup f) from⟨v,m,i,Kp.new _ _,IsTup.new _ _⟩)
  exact⟨.ref g.objs.size,_,z,rfl,q _ (x.xa.fresh (Zo _))⟩
 ·obtain⟨m,i,j,v⟩:=I.tuple n;exact call_tuple_same j ⟨.ref p,H,I,rfl,q⟩
def tyV(K:Xd)(T:String)(x:V)(H:Hp):Prop:=match x with
 |.str _=>T = "str"
 |.int _=>T = "int"
 |.ref p=>(T = "list" ∧ ∃e,FF K H p e)\/(T = "tuple" ∧ ∃o,K.lookup p=O o/\o.cls=.type "tuple" ∧ o.dict=Y) ∨
   (T = "dict" ∧ ((∃d,H p=O (.dK d))\/∃d,H p=O (.dT d)))\/(T = "set" ∧ ∃S n,H p=O (.set S n))
 |_=>False
def B5{f:Yf}{Z:St}{H:Hp}{s:FB}{T:String}{x:V}{v:IR}(I:Inv X f Z H s)(r:RelV x v)(g:tyV X.K T x H) :
  s.TypeIs v T/\∀a,v=.ref a->∃j,s.heap.get? a=O j/\j.dict=Y:=by
 cases x with
 |str z =>
  obtain⟨t,rfl⟩:=r;cases (show T = "str" from g);exact⟨typeIs_str s z t,λ_ e=>nomatch e⟩
 |int i =>
  obtain⟨t,rfl⟩:=r;cases (show T = "int" from g);exact⟨typeIs_int s i t,λ_ e=>nomatch e⟩
 |ref p =>
  cases r;rcases g with⟨rfl,w,l⟩ | ⟨rfl,o,d,m,hd⟩ | ⟨rfl,d⟩ | ⟨rfl,u,n,d⟩
  ·obtain⟨y,_,h,_⟩:=I.list l;refine⟨h.isList.typeIs,λa e=>?_⟩;cases e;obtain⟨o,n,e,c,hd,_⟩:=h;exact⟨o,e,hd⟩
  ·refine⟨⟨o,I.Ii p o d,m⟩,λa e=>?_⟩;cases e;exact⟨o,I.Ii _ o d,hd⟩
  ·have z:∃o,s.heap.get? p=O o/\o.ExactDict:=by
    rcases d with⟨q,d⟩ | ⟨q,d⟩
    ·obtain⟨_,_,_,_,o,_,_,e,ex,_⟩:=I.xa p _ d;exact⟨o,e,ex⟩
    ·obtain⟨_,_,_,_,o,_,_,e,ex,_⟩:=I.xa p _ d;exact⟨o,e,ex⟩
   obtain⟨o,e,ex⟩:=z;refine⟨⟨o,e,ex.1⟩,λa e2=>?_⟩;cases e2;exact⟨o,e,ex.2.1⟩
  ·obtain⟨o,_,_,_,e,ex,_⟩:=I.xa p _ d;refine⟨⟨o,e,ex.1⟩,λa e2=>?_⟩;cases e2;exact⟨o,e,ex.2.1⟩
 |_=>exact False.elim g
def UR(K:Xd)(T:String)(r:V->List V->Hp->VK->Prop)(f:TE)(t:TA):TE:=λZ H Q=>f Z H λx d=>tyV K T x d/\t Z d λe g=>r x e g Q
variable{o e:Expr}{es:List Expr}{to:TE}{t:TA}{name:Str}{apos xt:Pos}{T id:String}{r:V->List V->Hp->VK->Prop}
def rZ(u:PlainAttrs T)(f:Slot T name id)(D:typeOf (.builtin id)=pure (.type "method_descriptor"))(z:OE X id r)(y:PE X o to)(A:PA X (e :: es) t)(F:SZ o name X.env (eval o X.env)=eval o X.env:=by rfl)(G:((backTo xt (KM (e :: es) X.env)).all (λx=>!x.1)&&(backToKw xt (P3 [] X.env)).all (λx=>x.1.isSome)
   && decide ((e :: es).length+([]:List Keyword).length+(if ([]:List Keyword).isEmpty then 0 else 1)<30))=J:=by rfl)(N:(apos.endLine==xt.line)=J:=by rfl)(w:K0 e es X:=by rfl)(P:K1 xt es X:=by rfl) :
  PE X (.Call (.Attribute o name apos) (e :: es) [] xt) (UR X.K T r to t):=by
 intro d s Z H Q I h;refine wpAny_Call_method_late F G N M (thn (y d s Z H _ I h) λv n ⟨x,U,i,r1,ty,q⟩=>?_);obtain⟨C,B⟩:=B5 i r1 ty;refine⟨T,id,u,f,D,C,B,?_⟩;have g:=A xt d n Z U _ i q;rw[w]at g ⊢;refine Calls.callWith_builtin (by show (S||(backTo xt (KM es X.env)).any (·.1))=S;rw[P]<;>rfl) (Calls.evalArgs_plain ?_);exact thn g λl m ⟨j,R,L,r2,p⟩=>z d m Z R x j v l Q L r1 r2 p
end
def MtM(X:Cx)(e:String)(r:V->List V->Hp->VK->Prop):Prop :=
 ∀(a:Yf)(s:FB)(Z:St)(H:Hp)(x:V)(b:List V)(v:IR)(d:Ws)(Q:VK),Inv X a Z H s->RelV x v->aT b d->r x b H Q →
  KB (FM X.prog X.w) X.A (call (.builtin e) (v :: d)) (EP X a Z Q) X.xe s
def aT.nil_inv{a:Ws}(h:aT [] a):a=[]:=by
 cases h;rfl
def aT.cons_inv{x:V}{a:List V}{d:Ws}(h:aT (x :: a) d):∃u b,d=u :: b/\RelV x u/\aT a b:=by
 cases h with
 |cons r t=>exact⟨_,_,rfl,r,t⟩
def aT.one{x:V}{a:Ws}(h:aT [x] a):∃u,a=[u]/\RelV x u:=by
 obtain⟨u,vs,rfl,r,t⟩:=h.cons_inv;rw[t.nil_inv];exact⟨_,rfl,r⟩
def aT.two{x y:V}{a:Ws}(h:aT [x,y] a):∃u v,a=[u,v]/\RelV x u/\RelV y v:=by
 obtain⟨u,b,rfl,r,t⟩:=h.cons_inv;obtain⟨v,rfl,q⟩:=t.one;exact⟨_,_,rfl,r,q⟩
section
variable{X:Cx}{pins:Yf}{Z:St}{H:Hp}{s:FB}{l b:GM}{xs ys zs:List V}
def Inv.QE{a its':Ws}{n:Nat}{f:Array IR->Array IR}{d:Nat}(I:Inv X pins Z H s)(o:H l=O (.lst xs))(e:s.heap.get? l=O { cls:=.type "list",data:=.seq a.toArray n })(j:f a.toArray=its'.toArray)(h:aT ys its')(g:ys.length<=FS) :
  Inv X pins Z (upd H l (.lst ys)) { s with heap:=s.heap.update l (Obj.mapSeq f),toks:=d }:=by
 have q:=PySem.IsL.update e f;rw[j]at q;refine I.write (x:=l) (e:=l) (by rw[o];exact trivial) (.inl M) (λp u m i=>(XU s.heap (Obj.mapSeq f) (Y2 m)).trans i) ⟨_,q⟩ ?_;exact⟨g,its',_,h,q⟩
def Inv.QF{a:Ws}{t':Nat}(I:Inv X pins Z H s)(e:aT ys a)(d:ys.length<=FS) :
  Inv X pins Z (upd H s.heap.objs.size (.lst ys)) { s with heap:=s.heap.push { cls:=.type "list",data:=.seq a.toArray },toks:=t' } :=
 I.laid (λ_ _ q=>Zt _ q) (Zo _) ⟨d,a,0,e,Zc _ M⟩
theorem Inv.fresh(I:Inv X pins Z H s):H s.heap.objs.size=Y:=I.xa.fresh (Zo _)
def Inv.LY(I:Inv X pins Z H s)(d:H l=O (.lst xs)):xs.length<=FS/\∃(a:Ws)(n:Nat),aT xs a/\xs.length=a.length/\s.heap.get? l=O { cls:=.type "list",data:=.seq a.toArray n }:=by
 obtain⟨z,a,n,r,e⟩:=I.xa l _ d;exact⟨z,a,n,r,r.length,e⟩
end
section
variable{X:Cx}
def kg:V->List V->Hp->VK->Prop:=λx b H Q=>∃l a y,x=.ref l/\b=[y]/\H l=O (.lst a)/\a.length<FS/\Q .non (upd H l (.lst (a++[y])))
def iz:MtM X "list.append" kg:=by
 intro a s Z H x o v p Q I f g h;obtain⟨l,m,y,rfl,rfl,d,j,q⟩:=h;cases f;obtain⟨u,rfl,i⟩:=g.one;obtain⟨z,b,n,r,t,e⟩:=I.LY d;refine call_meets F.slot_list_append ⟨_,e,rfl⟩ F.entry_list_append (F.args_list_append_2 _ _) (PySem.list_append l b.toArray n u (by rw[Zd];lia)) ⟨e,?_⟩;refine⟨.non,_,I.QE (its':=b++[u]) d e (by simp) (r.append (.cons i .nil)) ?_,rfl,q⟩;rw[Zu,ZZ];exact WN j
def Eg:R2:=λx y H Q=>∃l b d a,x=.ref l/\y=.ref b/\H l=O (.lst d)/\H b=O (.lst a)/\d.length+a.length<=FS/\∀p,H p=Y->Q (.ref p) (upd H p (.lst (d++a)))
def BA:OpR X (binaryOp .Add) Eg:=by
 intro a s Z H x y v u Q I i g h;obtain⟨l,b,w,p,rfl,rfl,j,m,B,q⟩:=h;cases i;cases g;obtain⟨z,d,n,r,C,e⟩:=I.LY j;obtain⟨t,f,A,r2,D,e2⟩:=I.LY m;refine PySem.P.add_list e e2 ?_ (by rw[Zd,Zd];lia);have o:d.toArray++f.toArray=(d++f).toArray:=by simp
 rw[o];exact⟨.ref _,_,I.QF (t':=s.toks) (r.append r2) (by rw[Zu];omega),rfl,q _ I.fresh⟩
def len_rep{α:Type}(a:List α)(k:Nat):(List.replicate k a).flatten.length=k*a.length:=by
 induction k with
 |zero=>simp
 |succ k b=>rw[Wh,Zf,Zu,b,Nat.succ_mul,Nat.add_comm]
end
section
variable{prog:PP}{w:SL}{A:Pi}{E:Yu}{s:FB}
set_option maxRecDepth 100000 in
end
section
variable{κ:Type}[DecidableEq κ]
def cp(b:List (κ×V))(k:κ):Option V:=(b.find? λa=>decide (a.1=k)).map (·.2)
def putK(b:List (κ×V))(k:κ)(v:V):List (κ×V) :=
 if (b.any λa=>decide (a.1=k))=J then b.map (λa=>if a.1=k then (a.1,v) else a) else b++[(k,v)]
def bU{p:κ×V}{r:List (κ×V)}{k:κ}(e:p.1=k):cp (p :: r) k=O p.2:=by simp[cp,Yr,e]
def cQ{p:κ×V}{r:List (κ×V)}{k:κ}(e:¬p.1=k):cp (p :: r) k=cp r k:=by simp[cp,Yr,e]
theorem hU(k:κ):∀a:List (κ×V),(a.any λb=>decide (b.1=k))=(cp a k).isSome
 |[]=>rfl
 |p :: r=>by
  rw[Xv];by_cases e:p.1=k
  ·simp only[bU e,ZR e,Bool.true_or,Option.isSome_some]
  ·rw[cQ e,ZJ e,Bool.false_or];exact hU k r
theorem qG(k j:κ)(y:V):∀d:List (κ×V),cp (d.map λa=>if a.1=k then (a.1,y) else a) j=(cp d j).map λx=>if j=k then y else x
 |[]=>rfl
 |p :: r=>by
  have b:=qG k j y r;rw[Zp];by_cases h:p.1=k
  ·rw[Zn h];by_cases e:p.1=j
   ·rw[bU (p:=(p.1,y)) e,bU e,Ys,Zn (e.symm.trans h)]
   ·rw[cQ (p:=(p.1,y)) e,cQ e,b]
  ·rw[Zj h];by_cases e:p.1=j
   ·rw[bU (p:=p) e,bU e,Ys,Zj (λz=>h (e.trans z))]
   ·rw[cQ (p:=p) e,cQ e,b]
theorem mY(k j:κ)(y:V):∀b:List (κ×V),cp b k=Y->cp (b++[(k,y)]) j=if j=k then O y else cp b j
 |[],_=>by
  by_cases e:k=j
  ·rw[Zn e.symm];exact bU (p:=(k,y)) e
  ·rw[Zj (λz=>e z.symm)];exact cQ (p:=(k,y)) e
 |p :: r,a=>by
  rw[W7];have d:¬p.1=k:=λz=>by rw[bU z]at a;cases a
  rw[cQ d]at a;have f:=mY k j y r a;by_cases e:p.1=j
  ·rw[bU e,bU e,Zj (λz=>d (e.trans z))]
  ·rw[cQ e,cQ e,f]
def wI(b:List (κ×V))(k j:κ)(y:V):cp (putK b k y) j=if j=k then O y else cp b j:=by
 unfold putK;by_cases a:(b.any λd=>decide (d.1=k))=J
 ·rw[Zn a,qG];rw[hU]at a;by_cases e:j=k
  ·obtain⟨x,f⟩:=XE.mp a;rw[Zn e,e,f,Ys,Zn M]
  ·rw[Zj e];cases cp b j with
   |none=>rfl
   |some x=>rw[Ys,Zj e]
 ·rw[Zj a];refine mY k j y b ?_;rw[hU]at a;cases q:cp b k with
  |none=>rfl
  |some x=>rw[q]at a;exact(a M).elim
def eZ(a:List (κ×V))(k:κ)(v:V):(putK a k v).length<=a.length+1:=by
 unfold putK;split
 ·rw[Zv];exact ZI _ _
 ·rw[Zu,Zl,Ya];exact Zo _
def jJ.F6{o:Option V}{u:Vj}(r:jJ o u):o.isSome=u.isSome:=by
 cases o with
 |none=>cases u with
  |none=>rfl
  |some _=>exact(show False from r).elim
 |some _=>cases u with
  |none=>exact(show False from r).elim
  |some _=>rfl
def KV.val{i:List (κ×V)}{f:List (κ×IR)}(r:KV i f)(k:κ):jJ (cp i k) (valueAt f k):=by
 unfold KV at r
 induction r with
 |nil=>exact True.intro
 |@cons p q m a h t j =>
  obtain⟨g,l⟩:=h;by_cases e:p.1=k
  ·have d:q.1=k:=g.symm.trans e;have b:valueAt (q :: a) k=O q.2:=by simp[valueAt,Yr,d]
   rw[bU e,b];exact l
  ·have d:¬q.1=k:=λz=>e (g.trans z);have b:valueAt (q :: a) k=valueAt a k:=by simp[valueAt,Yr,d]
   rw[cQ e,b];exact j
theorem KV.any{d:List (κ×V)}{b:List (κ×IR)}(r:KV d b)(k:κ):(d.any λa=>decide (a.1=k))=b.any λa=>decide (a.1=k):=by
 unfold KV at r
 induction r with
 |nil=>rfl
 |cons h t e=>rw[Xv,Xv,e,h.1]
def KV.LQ{f:List (κ×V)}{d:List (κ×IR)}(r:KV f d)(k:κ){y:V}{u:IR}(g:RelV y u) :
  KV (f.map λa=>if a.1=k then (a.1,y) else a) (d.map λa=>if a.1=k then (a.1,u) else a):=by
 unfold KV at r ⊢
 induction r with
 |nil=>exact .nil
 |@cons p q m l h t i =>
  rw[Zp,Zp];refine .cons ?_ i;obtain⟨b,j⟩:=h;by_cases e:p.1=k
  ·rw[Zn e,Zn (b.symm.trans e)];exact⟨b,g⟩
  ·rw[Zj e,Zj (λz=>e (b.trans z))];exact⟨b,j⟩
def KV.put{d:List (κ×V)}{a:List (κ×IR)}(r:KV d a)(k:κ){y:V}{u:IR}(b:RelV y u):KV (putK d k y) (stored a k u):=by
 unfold putK stored;rw[r.any k];by_cases e:(a.any λf=>decide (f.1=k))=J
 ·rw[Zn e,Zn e];exact r.LQ k b
 ·rw[Zj e,Zj e];exact Paired.snoc r ⟨rfl,b⟩
def KV.keys{b:List (κ×V)}{a:List (κ×IR)}(r:KV b a):b.map (·.1)=a.map (·.1):=by
 unfold KV at r
 induction r with
 |nil=>rfl
 |cons h t d=>rw[Zp,Zp,d,h.1]
theorem KV.length{b:List (κ×V)}{a:List (κ×IR)}(r:KV b a):b.length=a.length:=Vu r
end
def jZ{P:PP}{w:SL}{k:Key}{u:IR}(r:RelV (kV k) u):(aN P w).is k u=J:=by
 cases k with
 |inl i=>obtain⟨t,e⟩:=(show ∃t,u=Value.int i t from r);subst e;exact pF P w i t
 |inr x=>obtain⟨t,e⟩:=(show ∃t,u=Value.str x t from r);subst e;exact pH P w x t
theorem jL{P:PP}{w:SL}:∀{a:List Key}{b:Ws},aT (a.map kV) b->ItemsAre (aN P w) a b
 |[],_,r=>by rw[YI]at r;cases r;exact .nil
 |k :: a,_,r=>by
  rw[Zp]at r;cases r with
  |cons h t=>exact .cons (jZ h) (jL t)
abbrev KT(H:Hp):List (List Key×V)->List (List Key×GM×IR)->Prop:=Paired λp q=>p.1=q.1/\H q.2.1=O (.tup (p.1.map kV))/\RelV p.2 q.2.2
def KT.val{H:Hp}{i:List (List Key×V)}{f:List (List Key×GM×IR)}(r:KT H i f)(k:List Key):jJ (cp i k) ((atKey f k).map (·.2)):=by
 induction r with
 |nil=>exact True.intro
 |@cons p q m a h t j =>
  obtain⟨g,_,l⟩:=h;by_cases e:p.1=k
  ·have d:q.1=k:=g.symm.trans e;have b:atKey (q :: a) k=O q.2:=by simp[atKey,Yr,d]
   rw[bU e,b];exact l
  ·have d:¬q.1=k:=λz=>e (g.trans z);have b:atKey (q :: a) k=atKey a k:=by simp[atKey,Yr,d]
   rw[cQ e,b];exact j
def KT.LQ{H:Hp}{g:List (List Key×V)}{d:List (List Key×GM×IR)}(r:KT H g d)(k:List Key){y:V}{u:IR}(i:RelV y u) :
  KT H (g.map λb=>if b.1=k then (b.1,y) else b) (d.map (putAt k u)):=by
 induction r with
 |nil=>exact .nil
 |@cons p q m l h t j =>
  rw[Zp,Zp];refine .cons ?_ j;obtain⟨a,f,h3⟩:=h;unfold putAt;by_cases e:p.1=k
  ·rw[Zn e,Zn (a.symm.trans e)];exact⟨a,f,i⟩
  ·rw[Zj e,Zj (λz=>e (a.trans z))];exact⟨a,f,h3⟩
def KT.put{H:Hp}{d:List (List Key×V)}{a:List (List Key×GM×IR)}(r:KT H d a)(k:List Key){b:GM}{y:V}{u:IR}(h:H b=O (.tup (k.map kV)))(f:RelV y u) :
  KT H (putK d k y) (storedH a k b u):=by
 have e:(d.any λg=>decide (g.1=k))=(atKey a k).isSome:=by
  rw[hU,(r.val k).F6,VZ]
 unfold putK storedH;rw[e];by_cases q:(atKey a k).isSome=J
 ·rw[Zn q,Zn q];exact r.LQ k f
 ·rw[Zj q,Zj q];exact Paired.snoc r ⟨rfl,h,f⟩
def KT.keeps{H f:Hp}{e:List (List Key×V)}{d:List (List Key×GM×IR)}(r:KT H e d)(g:∀b a,H b=O (.tup a)->f b=O (.tup a)):KT f e d :=
 Paired.KC r λ_ _ z=>⟨z.1,g _ _ z.2.1,z.2.2⟩
section
variable{P:PP}{w:SL}{H:Hp}{h:SC}{a:GM}
def Ba{u:HO}(b:Gn P w H h)(e:Rd H a u):bg P w H h a u:=e.ok b
def mE{b:List (Key×V)}(f:Gn P w H h)(e:Rd H a (.dK b)):b.length<=FS/\(a==sysModules)=S/\∃d,KV b d/\h.DictOf (aN P w) a d :=
 show bg P w H h a (.dK b) from Ba f e
def qA{b:List (Key×V)}(f:Gn P w H h)(e:H a=O (.dK b)):b.length<=FS/\(a==sysModules)=S/\∃d,KV b d/\h.DictOf (aN P w) a d:=mE f (.inl e)
def eB{b:List Key}(f:Gn P w H h)(e:H a=O (.tup (b.map kV))):(tupleKind (aN P w)).is h b a:=by
 obtain⟨_,d,r,_,o,i,g,n,h3⟩:=(show bg P w H h a (.tup (b.map kV)) from f a _ e)
 exact⟨o,d.toArray,n,i,g,h3,by simpa using jL r⟩
def qy{f:List (List Key×V)}(g:Gn P w H h)(e:Rd H a (.dT f)):f.length<=FS/\(a==sysModules)=S ∧
  ∃d,KT H f d/\h.DictOfH (tupleKind (aN P w)) a d:=by
 obtain⟨z,y,d,r,o,A,B,v,u,h3,s,n⟩:=(show bg P w H h a (.dT f) from Ba g e)
 refine⟨z,y,d,r,o,A,B,v,u,h3,s,λx b=>?_,n⟩;have all:∀{l:List (List Key×V)}{m:List (List Key×GM×IR)},KT H l m->∀x∈m,(tupleKind (aN P w)).is h x.1 x.2.1:=by
  intro l m q
  induction q with
  |nil=>intro x b;exact nomatch b
  |@cons p q D C i t j =>
   intro x b;rcases Zq.mp b with e | b
   ·subst e;exact eB g (by rw[← i.1];exact i.2.1)
   ·exact j x b
 exact all r x b
def DS{b:List (List Key×V)}(f:Gn P w H h)(e:H a=O (.dT b)):b.length<=FS/\(a==sysModules)=S ∧
  ∃d,KT H b d/\h.DictOfH (tupleKind (aN P w)) a d:=qy f (.inl e)
end
def iS(H:Hp)(a:GM)(y:V)(r:Option V):Prop :=
 (∃d k,Rd H a (.dK d)/\y=kV k/\r=cp d k)\/∃d k b,Rd H a (.dT d)/\y=.ref b/\H b=O (.tup (k.map kV))/\r=cp d k
def uj(H:Hp)(a:GM)(y v:V)(e:Hp):Prop :=
 (∃d k,H a=O (.dK d)/\y=kV k/\d.length<FS/\e=upd H a (.dK (putK d k v))) ∨
 ∃d k b,H a=O (.dT d)/\y=.ref b/\H b=O (.tup (k.map kV))/\d.length<FS/\e=upd H a (.dT (putK d k v))
theorem iS.k{H:Hp}{a:GM}{b:List (Key×V)}{k:Key}(e:H a=O (.dK b)):iS H a (kV k) (cp b k):=.inl ⟨b,k,.inl e,rfl,rfl⟩
theorem uj.k{H:Hp}{a:GM}{b:List (Key×V)}{k:Key}{v:V}(e:H a=O (.dK b))(d:b.length<FS):uj H a (kV k) v (upd H a (.dK (putK b k v))):=.inl ⟨b,k,e,rfl,d,rfl⟩
section
variable{X:Cx}{pins:Yf}{Z:St}{H:Hp}{s:FB}{a:GM}{y v:V}{u r:IR}{o:Option V}{A:Pi}{E:Yu}
def Inv.big(I:Inv X pins Z H s):sysModules<s.heap.objs.size:=by
 have h:mainGlobals<s.heap.objs.size:=(I.mod.glob.keeps I.bk).lt;exact Wd (by decide) h
def uH{Q:Yu}(x:A.units+1<cLine)(I:Inv X pins Z H s)(g:iS H a y (O v))(n:RelV y u)(h:∀d m,Inv X pins Z H m->RelV v d->Q d m) :
  KB (FM X.prog X.w) A (getItem (.ref a) u) Q E s:=by
 rcases g with⟨D,k,e,f,l⟩ | ⟨D,k,b,e,f,C,l⟩
 ·subst f;obtain⟨z,hd,t,rel,i⟩:=mE I.xa e;obtain⟨d,hw,j⟩:=jJ.some_of (v:=v) (o:=valueAt t k) (by rw[l];exact rel.val k);exact wpAny_getItem_of (jZ n) i.mapOf hw (h d _ (I.tok _) j)
 ·subst f;cases (show u=Value.ref b from n);obtain⟨z,hd,q,rel,i⟩:=qy I.xa e;obtain⟨d,hw,j⟩:=jJ.some_of (v:=v) (o:=(atKey q k).map (·.2)) (by rw[l];exact rel.val k);obtain⟨p,B,F⟩:=Zm.mp hw;refine wpAny_getItem_heap (WC x) (eB I.xa C) i B ?_;rw[F];exact h d _ (I.tok _) j
def E1{Q:Yu}(m:A.units+1<cLine)(I:Inv X pins Z H s)(g:iS H a y o)(j:RelV y u)(h:∀i,Inv X pins Z H i->Q (.bool o.isSome) i) :
  KB (FM X.prog X.w) A (SB .In u (.ref a)) Q E s:=by
 rcases g with⟨p,k,e,d,l⟩ | ⟨p,k,b,e,d,n,l⟩
 ·subst d;obtain⟨z,hd,x,rel,f⟩:=mE I.xa e;refine wpAny_in_of (jZ j) hd f.mapOf ?_;rw[← (rel.val k).F6,← l];exact h _ (I.tok _)
 ·subst d;cases (show u=Value.ref b from j);obtain⟨z,hd,t,rel,f⟩:=qy I.xa e;refine wpAny_in_heap (WC m) (eB I.xa n) hd f ?_;have q:=(rel.val k).F6;rw[VZ]at q;rw[← q,← l];exact h _ (I.tok _)
def zx{Q:Yu}(m:A.units+1<cLine)(I:Inv X pins Z H s)(g:iS H a y o)(j:RelV y u)(h:∀i,Inv X pins Z H i->Q (.bool (!o.isSome)) i) :
  KB (FM X.prog X.w) A (SB .NotIn u (.ref a)) Q E s:=by
 rcases g with⟨p,k,e,d,l⟩ | ⟨p,k,b,e,d,n,l⟩
 ·subst d;obtain⟨z,hd,x,rel,f⟩:=mE I.xa e;refine wpAny_notIn_of (jZ j) hd f.mapOf ?_;rw[← (rel.val k).F6,← l];exact h _ (I.tok _)
 ·subst d;cases (show u=Value.ref b from j);obtain⟨z,hd,t,rel,f⟩:=qy I.xa e;refine wpAny_notIn_heap (WC m) (eB I.xa n) hd f ?_;have q:=(rel.val k).F6;rw[VZ]at q;rw[← q,← l];exact h _ (I.tok _)
def iC{d:SC}{t':Nat}{f:HO}(I:Inv X pins Z H s)(h:FG (H a))(i:Heap.SameBut a s.heap d)(j:∃q,d.get? a=O q)(g:bg X.prog X.w (upd H a f) d a f) :
  Inv X pins Z (upd H a f) { s with heap:=d,toks:=t' } :=
 I.write (x:=a) (e:=a) h (.inl M) (λb q l z=>(i.2 b l).trans z) j g
def ox{P:PP}{w:SL}{i:Hp}{f:SC}{e:List (Key×V)}{b:List (Key×IR)}(z:e.length<=FS)(g:(a==sysModules)=S)(d:KV e b)(h:f.DictOf (aN P w) a b) :
  bg P w i f a (.dK e):=⟨z,g,b,d,h⟩
def uu{M:Hp}{Q:Unit->FB->Prop}(R:A.units+1<cLine)(I:Inv X pins Z H s)(g:uj H a y v M)(C:RelV y u)(D:RelV v r)(h:∀B,Inv X pins Z M B->Q () B) :
  KB (FM X.prog X.w) A (setItem (.ref a) u r) Q E s:=by
 rcases g with⟨d,k,e,p,l,t⟩ | ⟨d,k,b,e,p,L,l,t⟩
 ·subst p t;obtain⟨z,hd,P,rel,x⟩:=qA I.xa e;have j:P.length<=sizeLine:=by rw[← rel.length];exact z
  have n:(putK d k v).length<=sizeLine:=by have:=eZ d k v;lia
  refine wpAny_setItem_pairs (hsz:=j) (jZ C) x λF i m=>h _ ?_;have U:∃q,F.get? a=O q:=let ⟨q,_,_,f,_⟩:=i;⟨q,f⟩
  exact iC I (by rw[e];exact True.intro) m U (ox n hd (rel.put k D) i)
 ·subst p t;cases (show u=Value.ref b from C);obtain⟨z,hd,N,rel,x⟩:=DS I.xa e;have j:N.length<=sizeLine:=by rw[← Vu rel];exact z
  have n:(putK d k v).length<=sizeLine:=by have:=eZ d k v;lia
  refine wpAny_setItem_heap (hsz:=j) (WC R) (eB I.xa L) x λF i m=>h _ ?_;obtain⟨q,es,ep,f,h2,h3,h4,_,W⟩:=i;refine iC I (by rw[e];exact True.intro) m ⟨q,f⟩ ⟨n,hd,_,(rel.put k L D).keeps λc ys G=>?_,q,es,ep,f,h2,h3,h4,W⟩;rw[av (DJ G e (λz=>nomatch z))];exact G
end
section
variable{X:Cx}{pins:Yf}{Z:St}{H:Hp}{s:FB}{a:GM}{bt:List (Key×V)}{k:Key}{u:IR}{A:Pi}{E:Yu}
def DR{Q:Yu}(I:Inv X pins Z H s)(e:Rd H a (.dK bt))(h:∀t b,Inv X pins Z H b->Q (.int bt.length t) b):KB (FM X.prog X.w) A (call (.builtin "len") [.ref a]) Q E s:=by
 obtain⟨z,hd,f,rel,d⟩:=mE I.xa e;refine call_len_dict hd d (by rw[← rel.length];rw[Va]at z;lia) ?_;rw[← rel.length];exact h _ _ (I.tok _)
end
def pP{X:Cx}{d:Yf}{Z:St}{H:Hp}{s:FB}{a:GM}{y:V}{o:Option V}(I:Inv X d Z H s)(g:iS H a y o):s.TypeIs (.ref a) "dict" := by
 rcases g with⟨h,k,e,_,_⟩ | ⟨h,k,b,e,_,_,_⟩
 ·obtain⟨_,_,j,_,f⟩:=mE I.xa e;exact f.typeIs
 ·obtain⟨_,_,i,_,f⟩:=qy I.xa e;exact f.typeIs
def qD{P:PP}{w:SL}{H:Hp}(h:SC)(a:sysModules<h.objs.size):bg P w H (h.push { cls:=.type "dict",data:=.dict #[] }) h.objs.size (.dK []) :=
 ⟨ZN _,beq_eq_false_iff_ne.mpr (Y2 (ZV a)),[],.nil,Heap.DictOf.new h⟩
def Cc:TE:=λ_ H Q=>∀p,H p=Y->Q (.ref p) (upd H p (.dK []))
section
variable{X:Cx}{pos:Pos}
def vV:PE X (.Dict [] [] pos) Cc:=λb s Z H Q I h =>
 wpAny_Dict_empty ⟨.ref s.heap.objs.size,_,I.laid (a:=s.heap.objs.size) (o:=.dK []) (t':=s.toks) (λ_ _ q=>Zt _ q) (Zo _) (qD s.heap I.big),rfl,h _ (I.xa.fresh (Zo _))⟩
end
def qS:List (TE×TE)->St->Hp->(List (V×V)->Hp->Prop)->Prop
 |[],_,H,Q=>Q [] H
 | (b,a) :: r,Z,H,Q=>b Z H λx g=>a Z g λy f=>qS r Z f λd e=>Q ((x,y) :: d) e
abbrev VV:List (V×V)->List (IR×IR)->Prop:=Paired λp q=>RelV p.1 q.1/\RelV p.2 q.2
def PPs(X:Cx)(e:Pos)(d:List (Option Expr))(a:List Expr)(j:List (TE×TE)):Prop :=
 ∀(b:Yf)(s:FB)(Z:St)(H:Hp)(Q:List (V×V)->Hp->Prop),Inv X b Z H s->qS j Z H Q →
  KB (FM X.prog X.w) X.A (evalPairs (pairTrees d a X.env e)) (λh i=>∃f g,Inv X b Z g i/\VV f h/\Q f g) X.xe s
def Am{X:Cx}{a:Pos}:PPs X a [] [] []:=λb s Z H Q I h=>pairTrees_nil_walk ⟨[],H,I,.nil,h⟩
def xi{X:Cx}{b:Pos}{k v:Expr}{g:List (Option Expr)}{d:List Expr}{f e:TE}{i:List (TE×TE)}(z:PE X k f)(t:PE X v e)(w:PPs X b g d i) :
  PPs X b (O k :: g) (v :: d) ((f,e) :: i):=λa s Z H Q I h =>
 pairTrees_cons_walk (thn (z a s Z H _ I h) λu l ⟨x,G,C,n,q⟩=>thn (t a l Z G _ C q) λM j ⟨y,F,B,m,p⟩ =>
  thn (w a j Z F _ B p) λL N ⟨r,D,A,rel,o⟩=>⟨(x,y) :: r,D,A,.cons ⟨n,m⟩ rel,o⟩)
def jN(d a:List (Key×V)):List (Key×V):=a.foldl (λacc b=>putK acc b.1 b.2) d
def KV.merge:∀{more:List (Key×V)}{d:List (Key×IR)}{b:List (Key×V)}{a:List (Key×IR)},KV more d->KV b a->KV (jN b more) (merged a d):=by
 intro more d b a r;unfold KV at r
 induction r generalizing b a with
 |nil=>intro q;exact q
 |@cons p q j i h t g =>
  intro f;have e:KV (putK b p.1 p.2) (stored a q.1 q.2):=by
   have:=f.put p.1 h.2;rw[← h.1];exact this
  exact g e
theorem iI:∀(more a:List (Key×V)),(jN a more).length<=a.length+more.length
 |[],a=>by show a.length<=a.length+0;exact ZI _ _
 |p :: r,a=>by
  have d:=iI r (putK a p.1 p.2);have b:=eZ a p.1 p.2;show (jN (putK a p.1 p.2) r).length<=_;rw[Zl];lia
theorem lW{P:PP}{w:SL}:∀{e:List (Key×V)}{f:List (IR×IR)},VV (e.map λg=>(kV g.1,g.2)) f->∃d,Carries (aN P w) f d/\KV e d
 |[],_,r=>by rw[YI]at r;cases r;exact⟨[],True.intro,.nil⟩
 |p :: e,_,r=>by
  rw[Zp]at r;cases r with
  |@cons a b l bs h t =>
   obtain⟨d,c,q⟩:=lW (P:=P) (w:=w) t;obtain⟨j,i⟩:=b;exact⟨(p.1,i) :: d,⟨jZ h.1,rfl,c⟩,.cons ⟨rfl,h.2⟩ q⟩
def D3(f:List (TE×TE)):TE:=λZ H Q=>∀p,H p=Y->qS f Z (upd H p (.dK [])) λe d=>d p=O (.dK [])/\∃a:List (Key×V),e=a.map (λb=>(kV b.1,b.2))/\a.length<=15/\Q (.ref p) (upd d p (.dK (jN [] a)))
def Ae{X:Cx}{f:Pos}{b:List (Option Expr)}{d:List Expr}{l:List (TE×TE)}(h:PPs X f b d l)(N:b.all (·.isSome)=J)(B:b.length=d.length)(F:b≠[])(i:b.length<=15):PE X (.Dict b d f) (D3 l):=by
 intro g s Z H Q I q;have A:=I.xa.fresh (Zo s.heap.objs.size);have M:=I.laid (a:=s.heap.objs.size) (o:=.dK []) (h':=s.heap.push { cls:=.type "dict",data:=.dict #[] }) (t':=s.toks) (λ_ _ q=>Zt _ q) (Zo _) (qD s.heap I.big);refine wpAny_Dict_walk (knd:=aN X.prog X.w) N B F i (thn (h g _ Z _ _ M (q _ A)) λR U ⟨W,H2,n,rel,e,j,G,lk,u⟩=>?_);subst G;obtain⟨r,c,rk⟩:=lW (P:=X.prog) (w:=X.w) rel;obtain⟨z,hd,p,t,L⟩:=qA n.xa e;cases t;refine⟨r,c,L,λh' m x=>⟨.ref s.heap.objs.size,_,?_,rfl,u⟩⟩;have v:(jN [] j).length<=sizeLine:=by
  have D:=iI j [];rw[Ya]at D;rw[Va];lia
 have C:∃q,h'.get? s.heap.objs.size=O q:=let ⟨q,_,_,y,_⟩:=m;⟨q,y⟩
 exact iC n (by rw[e];exact True.intro) x C (ox v hd (rk.merge .nil) m)
end td
namespace Uz
open PySem PySem.W PySem.Calls PyProof.Rows
def j9{P:Params}{h:SC}:∀(ns:Vb)(d:Ws),WellAll P h d (ns.map WData.int)->IntsAre d ns:=by
 intro ns
 induction ns with
 |nil =>
  intro d w;rw[YI]at w;cases w;exact .nil
 |cons n ns e =>
  intro d w;rw[Zp]at w;cases w with
  |cons a b =>
   cases a;exact .cons _ _ (e _ b)
def ue{l:OpenLaw}{n:Nat}(v:l.most=O n){P:Params}{h:SC}{b:List WData}{e:Ws}(o:l.row.toRowW.claim.pre b=J)(y:WellAll P h e b) :
  ∃a j ns,e=[Value.ref a]/\b=[WData.list (ns.map WData.int)]/\h.get? a=O { cls:=.type "list",data:=.seq j.toArray }/\IntsAre j ns/\ns.length<=n:=by
 have i:WShape.hasAll [] b [.list .int]=J:=(pre_splitW o).1;have m:l.pre.holds [] { args:=b }=J:=(pre_splitW o).2;obtain⟨d,r,rfl,x,w⟩:=hasAllW_cons i;obtain rfl:=hasAllW_nil w;obtain⟨A,rfl,h3⟩:=hasW_list x;obtain⟨ns,rfl⟩:=items_int h3;have hlen:ns.length<=n:=by
  unfold OpenLaw.pre at m;have g:(WTm.not (.lt (.lit (.int (n:Int))) (.len (.arg 0)))).holds [] { args:=[.list (ns.map .int)] }=J:=by
   have g:=(holds_andW m).1;rw[v]at g;exact g
  have f:=condW_of g (w_not (w_lt w_lit (w_len_list (w_arg M))));rw[Zv]at f;refine Y5 λq=>?_;have t:(n:Int)<((ns.length:Nat):Int):=by omega
  first
   | (rw[ZR t]at f;exact absurd f (by decide))
   | (simp at f;omega)
 cases y with
 |cons s p =>
  cases p;cases s with
  |list u z=>exact⟨_,_,ns,rfl,rfl,u,j9 ns _ z,hlen⟩
def uL(l:OpenLaw)(a:List WData):l.row.toRowW.claim.post a (.bool J) a=J :=
 postW_of (r:=l.row.toRowW) (X:=(J==J))
  (show WShape.has [] (.bool J) .bool=J by first | rfl | decide | simp[WShape.has,WShape.arms,WShape.armsAll])
  (show (WTm.eq .res (.lit (.bool J))).value [] { args:=a,res:=O (.bool J),after:=a }=O (.bool (J==J)) from w_eq_bool (w_res M) w_lit) M
def oM{l:OpenLaw}{n:Nat}{q:PP}{e:List Str}{x:(X3)->SC->Prop}{v:SL->SC->Prop}{d:DefRec}(B:l.most=O n)(Q:d.params.defaults=[])(i:∀(w:SL)(m b:FB)(mg p:X3)(h:GM)(o:Obj)(pm cd doc:IR)(a:GM)(g:Ws)(ns:Vb),
   Ground q e [] x w m mg p b.heap->v w b.heap →
   b.heap.get? h=O o->o.data=.func (docDef d.name d.params d.body d.scope pm cd doc)->b.heap.CodeRec cd d.name->mg d.name=O (.ref h) →
   b.heap.get? a=O { cls:=.type "list",data:=.seq g.toArray }->IntsAre g ns->ns.length<=n->b.gens=#[] →
   codeAny (FM l.prog w) callerA (.call (.ref h) ⟨[.ref a],[]⟩) (λr j=>r=.ok (.ret (.bool J))/\OldK b.heap j.heap/\j.os=b.os/\AllBare j.gens) b) :
  WalkO q e x v l.row.toRowW d [] (λf g=>PySem.call f g):=by
 intro w m b mg p G Y h o pm cd doc L kV A hd R u s F args vals U P t y M D;obtain rfl:L=.none:=Dflts.none u Q;obtain rfl:kV=.none:=Dflts.noKw u;obtain⟨a,g,ns,rfl,rfl,N,hints,hlen⟩:=ue B P M;refine enter_call (WH (i w m b mg p h o pm cd doc a g ns G Y A (fd_plain hd) R s N hints hlen F) λr j z=>?_);obtain⟨rfl,I,h3,H⟩:=z;exact⟨.inl ⟨.bool J,.bool J,[],rfl,λ_=>rfl,.bool J,uL l _,λ_=>⟨List.Pairwise.nil,λ_ C=>(nomatch C)⟩⟩,I,h3,H⟩
end Uz
namespace td
open PySem PySem.Spec PyProof.Rows
theorem mW:∀{a:Ws}{ns:Vb},IntsAre a ns->aT (ns.map V.int) a
 |_,_,.nil=>.nil
 |_,_,.cons n t h=>.cons ⟨t,rfl⟩ (mW h)
def bh(s:Stmt):Arguments:=match s with
 |.FunctionDef _ a _ _ _ _ _ _ _ _=>a
 |_=>{ posonlyargs:=[],args:=[],vararg:=Y,kwonlyargs:=[],kw_defaults:=[],kwarg:=Y,defaults:=[] }
def aU(s:Stmt):List Stmt:=match s with
 |.FunctionDef _ _ b _ _ _ _ _ _ _=>b
 |_=>[]
def ao(s:Stmt):Scope:=match s with
 |.FunctionDef _ _ _ _ _ _ sc _ _ _=>sc
 |_=>{ kind:=.function,names:=[],isGenerator:=S,isCoroutine:=S }
abbrev HK:Kq:=λ_ _ _ _ _ _=>False
abbrev E0:XK:=λ_ _ _=>False
def Du{X:Cx}:q0 HK X E0:=λ_ _ _ _ _ _ _ h=>h.elim
structure GQ(K:Xd)(x qual:Str)(st:Stmt)(f:GM)(fd:On):Prop where
 ex:∃(oc:IR)(od:Option GM)(kV doc pm:IR)(an:Option GM)(FL ct:IR)(Ju:Array (Vj)),
  fd=PySem.W.fnOf x qual (bh st) (aU st) (ao st) .none kV doc pm an FL ct/\K.lookup f=some ⟨oc,od,.func fd,Ju⟩/\PySem.W.codeIn K FL qual=true
 kp:PySem.W.keepIn K (.ref f)=true
section
variable{P:PP}{w:SL}{K:Xd}{mg:X3}{base:SC}
def GQ.ok{x a:Str}{d:Stmt}{f:GM}{l:On}{N i:List Str}{k:Nat}{g:Sp}(F:GQ K x a d f l)(S:tx N i (ao d))(j:∀b H Q E,g b H Q E->b.length=i.length)(p:∀(e:IR)(A:Pi)(outer:List Env)(s:FB)(H:Hp)(b:List V)(Q:VK)(E:XK),AU k (A.deeper (envOfC a (ao d) s.heap.objs.size f e))->g b H Q E →
   ∃t,HJ (mw HK P w K mg base N a (ao d) f e A outer s H E).Kz (aU d) t/\t { nx:=λ_ r=>Q .non r,rt:=Q } (start N b) H):FnOk P w K mg base HK (k+1) f l i g:=by
 obtain⟨y,v,kV,doc,pm,an,e,ct,z,rfl,m,u⟩:=F.ex;refine Bj m u S j λA outer s H b Q E n o=>?_;obtain⟨t,h,q⟩:=p e A outer s H b Q E n o;exact⟨t,h.Kz,q⟩
def GQ.binds{x a:Str}{b:Stmt}{f:GM}{i:On}{e:List Str}(F:GQ K x a b f i)(h:∀(kV doc pm:IR)(an:Option GM)(g ct:IR)(d:Ws),d.length=e.length->bindArgs (PySem.W.fnOf x a (bh b) (aU b) (ao b) .none kV doc pm an g ct) ⟨d,[]⟩=pure (e.zip d)):Binds K i e []:=by
 obtain⟨l,j,kV,doc,pm,an,g,ct,n,rfl,m,o⟩:=F.ex;exact .all (h kV doc pm an g ct)
def b8{x a:Str}{st:Stmt}{f:GM}{m:IR}{j i:Option GM}{n:Array (Vj)}{g b e d h:IR}(l:K.lookup f=O ⟨m,j,.func (PySem.W.fnOf x a (bh st) (aU st) (ao st) .none g b e i d h),n⟩)(c:PySem.W.codeIn K d a=J)(k:PySem.W.keepIn K (.ref f)=J):GQ K x a st f (PySem.W.fnOf x a (bh st) (aU st) (ao st) .none g b e i d h):=⟨⟨m,j,g,b,e,i,d,h,n,rfl,l,c⟩,k⟩
end
def oH{A:Pi}{k:Nat}(a:AU k A):A.units+1<cLine:=WX (Nat.add_le_add_left (by decide:1<=64) _) a.units
section
variable{X:Cx}
def pv(i:Nat){x:Str}{a:Pos}(e:X.N[i]?=O x:=by rfl)(b:Ik X.env.scope x:=by first | exact Or.inl M | exact Or.inr (Or.inl M) | exact Or.inr (Or.inr M))(d:K2 x:=by decide)(f:K3 x:=by decide):PE X (.Name x a) (zo i):=fF e b d f
end
def xC{A B:Prop}(h:B):if S=J then A else B:=by
 rw[Zj Za];exact h
def xy{A B:Prop}(h:A):if J=J then A else B:=by
 rw[Zn M];exact h
def aO(H a:Hp):Prop:=∀b o,H b=O o->a b=O o
def aO.refl(H:Hp):aO H H:=λ_ _ h=>h
def aO.trans{H e d:Hp}(a:aO H e)(b:aO e d):aO H d:=λc o h=>b c o (a c o h)
def aO.free{H a:Hp}(e:aO H a){l:GM}(h:a l=Y):H l=Y:=by
 cases q:H l with
 |none=>rfl
 |some o =>
  rw[e l o q]at h;cases h
end td
end
section
namespace NK
open PySem PySem.Spec PyProof.Rows
variable{prog:PP}{w:SL}{K:Type}[DecidableEq K]{knd:KeyKind prog w K}{A:Pi}{E:Yu}{s:FB}
inductive GB(knd:KeyKind prog w K)(h:SC):List (List K)->Ws->Prop
 |nil:GB knd h [] []
 |cons {k:List K} {b:GM} {ks:List (List K)} {vs:Ws}:IsTupleKey knd h k b->GB knd h ks vs->GB knd h (k :: ks) (.ref b :: vs)
def Il(b:KeyKind prog w K)(h:SC)(d:List (List K))(a:GM):Prop:=∃o items n,h.get? a=O o/\o.cls=.type "tuple" ∧ o.data=.seq items n/\GB b h d items.toList
def GB.fn{h:SC}{x y:List (List K)}{b:Ws}(e:GB knd h x b):GB knd h y b->x=y:=by
 induction e generalizing y with
 |nil=>intro a;cases a;rfl
 |cons g _ d =>
  intro a;cases a with
  |cons f t=>rw[g.inj f,d t]
def Il.ty{b:List (List K)}{a:GM}(x:Il knd s.heap b a):s.TypeIs (.ref a) "tuple" := let ⟨o,_,_,g,c,_⟩:=x;⟨o,g,c⟩
theorem Il.fn{h:SC}{a:GM}{x y:List (List K)}(m:Il knd h x a)(l:Il knd h y a):x=y:=by
 obtain⟨o,p,n,g,_,d,i⟩:=m;obtain⟨q,b,r,e,_,f,j⟩:=l;rw[g]at e;cases e;rw[d]at f;cases f;exact i.fn j
theorem GB.keeps{h e:SC}{b:List (List K)}{a:Ws}{d:GM}{o:Obj}{es ep}(x:GB knd h b a)(i:h.get? d=O o)(j:o.data=.dict es ep)(g:Heap.SameBut d h e):GB knd e b a:=by
 induction x with
 |nil=>exact .nil
 |cons l _ f=>exact .cons (l.keeps i j g) f
theorem Il.keeps{h m:SC}{e:List (List K)}{a d:GM}{o:Obj}{es ep}(x:Il knd h e a)(j:h.get? d=O o)(l:o.data=.dict es ep)(f:Heap.SameBut d h m):Il knd m e a:=by
 obtain⟨q,p,n,g,c,b,i⟩:=x;refine⟨q,p,n,(f.2 a λz=>?_).trans g,c,b,i.keeps j l f⟩;subst z;rw[j]at g;cases g;rw[l]at b;cases b
def wM(a:KeyKind prog w K)(b:List (List K)):Int:=reduceHash (Builtin.Tuple.tupleHashOf (b.map (tupleKeyHash a)))
def rC(a:List (List K)):Nat:=(a.map λk=>k.length+1).sum+1
def zS{e:List (List K)}{a:GM}{Q:Int->FB->Prop}(l:A.units+1<cLine)(r:Il knd s.heap e a)(q:Q (wM knd e) { s with toks:=s.toks+rC e }):KB (FM prog w) A (pyHash (.ref a)) Q E s:=by
 have ty:=r.ty;obtain⟨o,C,n,g,_,d,i⟩:=r;unfold pyHash
 first | unfold pyHashByItsType | skip
 first | refine Zz (wpAny_cRoomFor_or (.inr (Xb l)) ?_) | skip
 refine Zz (X8 ty Vv.lookup ?_);refine(show KB _ _ (if (O (Value.builtin "tuple.__hash__")==O Value.none)=J then _ else _) Q E s from ?_);rw[Zj (λz=>by rw[beq_builtin_none]at z;cases z)];refine Zz (X8 ty Vv.lookup (Zz (wpAny_callSpecialIfBoundUnlessNone?_slot ty Vv (Y8 Vv ty F.entry_tuple_hash (Zz (m:=Builtin.Tuple.tupleItemsOf (.ref a)) (wpAny_tupleItemsOf g d (Zz ?_))) (F.args_tuple_hash_1 _)))));rw[← X0];refine Xk _ (λrest (b:Array Int) h=>∃x y,e=x++y/\GB knd s.heap y rest/\b.toList=x.map (tupleKeyHash knd)/\h={ s with toks:=s.toks+(x.map λk=>k.length+1).sum }) _ ?turn ?fin _ _ ⟨[],e,rfl,i,rfl,rfl⟩
 case turn =>
  rintro v rest b h ⟨x,y,rfl,j,f,rfl⟩;cases j with
  |@cons k c u _ B t =>
   refine Zz (wpAny_pyHash_tuple (s:={ s with toks:=s.toks+(x.map λk=>k.length+1).sum }) (by show A.in1.units<cLine;exact l) B ?_)
   first
    |exact Zs ⟨x++[k],u,by simp,t,by simp[f],by simp[Xf]⟩
    |exact Zz (Zs (Zs ⟨x++[k],u,by simp,t,by simp[f],by simp[Xf]⟩))
 case fin =>
  rintro b h ⟨x,y,rfl,j,f,rfl⟩;cases j;rw[ZP]at q;refine(show KB _ _ (retInt (Builtin.Tuple.tupleHashOf b.toList)) _ _ _ from ?_);rw[f];refine wpAny_ret_mkInt ?_;unfold wM reduceHash rC at q;refine(show KB _ _ (if (decide (-(2:Int) ^ 63<=Builtin.Tuple.tupleHashOf (x.map (tupleKeyHash knd)))&&decide (Builtin.Tuple.tupleHashOf (x.map (tupleKeyHash knd))<2 ^ 63))=J then _ else _) Q E _ from ?_);by_cases p:(decide (-(2:Int) ^ 63<=Builtin.Tuple.tupleHashOf (x.map (tupleKeyHash knd)))&&decide (Builtin.Tuple.tupleHashOf (x.map (tupleKeyHash knd))<2 ^ 63))=J
  ·rw[Zn p]at q ⊢;exact Zs (by simpa[Xf] using q)
  ·rw[Zj p]at q ⊢;exact Zz (XW (Zs (by simpa[Xf] using q)))
def yD{x y:List (List K)}{a b:GM}{P:PySem.Fin->FB->Prop}(L:A.units<cLine)(I:Il knd s.heap x a)(C:Il knd s.heap y b)(q:P (.done (.ret (.bool (decide (x=y))))) s):KB (FM prog w) A (Builtin.«tuple.__eq__» ⟨[.ref a,.ref b],[]⟩) P E s:=by
 have ty:=C.ty;obtain⟨oa,i,na,ga,_,U,H⟩:=I;obtain⟨ob,g,nb,gb,_,db,G⟩:=C;refine(show KB _ _ (isInstance (.ref b) (.type "tuple")>>=_) _ _ s from Zz (Wf ty Vk ?_));simp only[Wu,Ij,↓reduceIte];refine Zz (wpAny_tupleItemsOf ga U (Zz (wpAny_tupleItemsOf gb db (Zz ?_))));refine Xk _ (λrest r l=>r.1=Y/\l=s/\∃j h e f,rest=List.zip e f/\GB knd s.heap j e/\GB knd s.heap h f/\decide (j=h)=decide (x=y)/\(e.length==f.length)=(i.size==g.size)) _ ?turn ?fin _ _ ⟨rfl,rfl,x,y,i.toList,g.toList,rfl,H,G,rfl,by simp⟩
 case turn =>
  rintro⟨u,v⟩ rest r l ⟨p,rfl,j,h,e,f,d,z,m,n,hlen⟩;cases z with
  |nil=>simp at d
  |@cons k1 c1 x2 W R F =>
   cases m with
   |nil=>simp at d
   |@cons k2 c2 B X Q D =>
    simp only[ZA,YE,Prod.mk.injEq]at d;obtain⟨⟨rfl,rfl⟩,rfl⟩:=d;refine Zz (wpAny_eqBool_tuple L R Q ?_);by_cases t:k1=k2
    ·subst t;rw[ZR M];simp only[Wu,Ij,↓reduceIte];refine Zs ⟨rfl,rfl,x2,B,W,X,rfl,F,D,?_,by simpa using hlen⟩;rw[← n];by_cases o:x2=B<;>simp[o]
    ·rw[ZJ t];simp only[Bool.not_false,↓reduceIte];have N:decide (x=y)=S:=by rw[← n];simp[t]
     rw[N]at q;exact Zz (Zs (Zs (Zs q)))
 case fin =>
  rintro⟨r1,r2⟩ l ⟨p,rfl,j,h,e,f,d,z,m,n,hlen⟩;simp only at p;subst p;have Z:(i.size==g.size)=decide (x=y):=by
   rw[← n,← hlen];cases z with
   |nil=>cases m<;>simp
   |cons _ _ =>
    cases m with
    |nil=>simp
    |cons _ _=>simp at d
  refine Zs (show P (.done (.ret (.bool (i.size==g.size)))) l from ?_);rw[Z];exact q
def Dq{x y:List (List K)}{a b:GM}{Q:Bool->FB->Prop}(h:A.units+1<cLine)(d:Il knd s.heap x a)(f:Il knd s.heap y b)(q:Q (decide (x=y)) s):KB (FM prog w) A (eqBool (.ref a) (.ref b)) Q E s:=by
 unfold eqBool
 try with_reducible refine YU ?_
 refine(show KB _ _ (if (Value.ref a==Value.ref b)=J then _ else _) Q E s from ?_);by_cases g:(Value.ref a==Value.ref b)=J
 ·rw[Zn g];have e:a=b:=by have:=eq_of_beq g;injection this
  subst e;obtain rfl:=d.fn f;exact Zz (XW (Zs (by simpa using q)))
 ·rw[Zj g];exact Zz (wpAny_richCompare_same_room (op:=.Eq) d.ty f.ty Vm (Y8 Vm d.ty F.entry_tuple_eq (yD (by show A.in1.units<cLine;exact h) d f ⟨_,rfl,(λe=>nomatch e),Y4 q⟩) (F.args_tuple_eq_2 _ _)) (Xb h))
def ux{l:List K}{n:Nat}{a:GM}{Q:Bool->FB->Prop}(f:IsTupleKey knd s.heap l a)(q:Q J s):KB (FM prog w) A (eqIsQuiet (n+1) (.ref a)) Q E s:=by
 have ty:=f.typeIs;obtain⟨o,j,m,g,_,d,i⟩:=f;unfold eqIsQuiet;refine Zz (X8 ty Vm.lookup (show KB _ _ (isInstance (.ref a) (.type "tuple")>>=_) _ _ s from Zz (Wf ty Vk ?_)));simp only[Wu,Ij,↓reduceIte];refine Zz (Xl g d (Zz (show KB _ _ (forIn j _ _) _ _ s from ?_)));rw[← X0];refine Xk _ (λrest r b=>r.1=Y/\b=s/\∀v∈rest,carriedByValue v=J) _ ?turn ?fin _ _ ⟨rfl,rfl,i.byValue⟩
 case turn =>
  rintro v rest r b ⟨e,rfl,h⟩;rw[eqIsQuiet_byValue _ (h v Zx)];refine Zz (Zs ?_);simp only[Wu,Ij,↓reduceIte];exact Zs ⟨rfl,rfl,λu p=>h u (Zw _ p)⟩
 case fin =>
  rintro⟨r1,r2⟩ b ⟨e,rfl,_⟩;simp only at e;subst e;exact Zs q
def xM{f:List (List K)}{a:GM}{Q:Bool->FB->Prop}(h:Il knd s.heap f a)(q:Q J s):KB (FM prog w) A (eqIsQuiet 8 (.ref a)) Q E s:=by
 have ty:=h.ty;obtain⟨o,l,m,g,_,d,i⟩:=h;unfold eqIsQuiet;refine Zz (X8 ty Vm.lookup (show KB _ _ (isInstance (.ref a) (.type "tuple")>>=_) _ _ s from Zz (Wf ty Vk ?_)));simp only[Wu,Ij,↓reduceIte];refine Zz (Xl g d (Zz (show KB _ _ (forIn l _ _) _ _ s from ?_)));rw[← X0];refine Xk _ (λrest r b=>r.1=Y/\b=s/\∃j,GB knd s.heap j rest) _ ?turn ?fin _ _ ⟨rfl,rfl,f,i⟩
 case turn =>
  rintro v rest r b ⟨e,rfl,j,n⟩;cases n with
  |cons t p =>
   refine Zz (ux t ?_);simp only[Wu,Ij,↓reduceIte];exact Zs ⟨rfl,rfl,_,p⟩
 case fin =>
  rintro⟨r1,r2⟩ b ⟨e,rfl,_⟩;simp only at e;subst e;exact Zs q
def nest(a:KeyKind prog w K):HeapKind prog w (List (List K)) where
 is:=Il a
 hash:=wM a
 draws:=rC
 room:=λA=>A.units+1<cLine
 inj:=λd b=>d.fn b
 keeps:=λx h hd g=>x.keeps h hd g
 pyHash:=λe f q=>zS e f q
 eqBool:=λe d b q=>Dq e d b q
 quiet:=λf q=>xM f q
end NK
end
section
namespace td
open PySem PySem.Spec PyProof.Rows
abbrev bu:=List (List Key)
def hN(w:SL)(k:bu):Int:=reduceHash (Builtin.Tuple.tupleHashOf (k.map λx=>reduceHash (Builtin.Tuple.tupleHashOf (x.map (EF w)))))
def Ed(w:SL)(x:bu×GM×IR):DictEntry:=⟨hN w x.1,.ref x.2.1,x.2.2⟩
abbrev KN:List (bu×GM×V)->List (bu×GM×IR)->Prop:=Paired λp q=>p.1=q.1/\p.2.1=q.2.1/\RelV p.2.2 q.2.2
def DN(a:GM)(e:List (bu×GM×V)):HO:=.ext λw h=>e.length<=FS/\(a==sysModules)=S/\∃b:List (bu×GM×IR),KN e b ∧
 ∃o d f,h.get? a=O o/\o.ExactDict/\o.data=.dict d f/\d.toList=b.map (Ed w)/\(b.map (·.1)).Nodup
def Hz(H:Hp)(k:bu)(b:GM):Prop:=∃a:X4,H b=O (.tup (a.map V.ref))/\Paired (λ(x:List Key) (c:GM)=>H c=O (.tup (x.map kV))) k a
def Hz.mono{H e:Hp}{k:bu}{b:GM}(x:Hz H k b)(t:∀a d,H a=O (.tup d)->e a=O (.tup d)):Hz e k b:=by
 obtain⟨f,h,r⟩:=x;exact⟨f,t _ _ h,Paired.KC r λ_ _ z=>t _ _ z⟩
section
variable{P:PP}{w:SL}{H:Hp}{h:SC}{a b:GM}
def Hz.is{k:bu}(f:Gn P w H h)(x:Hz H k b):NK.Il (aN P w) h k b:=by
 obtain⟨C,e,r⟩:=x;obtain⟨z0,d,v,_,o,i,g,n,h3⟩:=(show bg P w H h b (.tup (C.map V.ref)) from f b _ e)
 refine⟨o,d.toArray,n,i,g,h3,?_⟩;rw[List.toList_toArray];clear e i g h3 z0
 induction r generalizing d with
 |nil =>
  rw[YI]at v;cases v;exact .nil
 |@cons x c F B q _ p =>
  rw[Zp]at v;cases v with
  |@cons _ u _ _ s t =>
   obtain rfl:=(show u=Value.ref c from s)
   obtain⟨_,D,j,_,l,A,z,m,y⟩:=(show bg P w H h c (.tup (x.map kV)) from f c _ q)
   exact .cons ⟨l,D.toArray,m,A,z,y,by simpa using jL j⟩ (p _ t)
def Dm{f:List (bu×GM×V)}(i:Gn P w H h)(e:H a=O (DN a f))(s:∀p∈f,Hz H p.1 p.2.1):f.length<=FS/\(a==sysModules)=S ∧
  ∃g,KN f g/\h.DictOfH (NK.nest (aN P w)) a g:=by
 obtain⟨⟨z,y,g,r,o,F,G,D,C,h3,B,A⟩,_⟩:=(show bg P w H h a (DN a f) from i a _ e)
 refine⟨z,y,g,r,o,F,G,D,C,h3,B,λx d=>?_,A⟩;have all:∀{l:List (bu×GM×V)}{m:List (bu×GM×IR)},KN l m->(∀p∈l,Hz H p.1 p.2.1)->∀x∈m,NK.Il (aN P w) h x.1 x.2.1:=by
  intro l m q
  induction q with
  |nil=>intro _ x d;exact nomatch d
  |@cons p q L I j t u =>
   intro n x d;rcases Zq.mp d with e | d
   ·subst e;rw[← j.1,← j.2.1];exact(n p Zx).is i
   ·exact u (λp v=>n p (Zw _ v)) x d
 exact all r s x d
def xm{r:Hp}{p:SC}{n:List (bu×GM×V)}{xs:List (bu×GM×IR)}(z:n.length<=FS)(f:(a==sysModules)=S)(d:KN n xs)(q:p.DictOfH (NK.nest (aN P w)) a xs) :
  bg P w r p a (DN a n):=by
 obtain⟨o,l,m,e,j,h3,i,_,g⟩:=q;refine⟨⟨z,f,xs,d,o,l,m,e,j,h3,i,g⟩,⟨o,e⟩,?_⟩;rintro t s ⟨z,f,xs,d,o,l,m,e,j,h3,i,g⟩ k;exact⟨z,f,xs,d,o,l,m,k _ e,j,h3,i,g⟩
theorem KN.length{l:List (bu×GM×V)}{m:List (bu×GM×IR)}(r:KN l m):l.length=m.length:=Vu r
def Ie(d:List (bu×GM×V))(k:bu):Option V:=(d.find? λx=>decide (x.1=k)).map (·.2.2)
def KN.at{l:List (bu×GM×V)}{m:List (bu×GM×IR)}(r:KN l m)(k:bu):jJ (Ie l k) ((atKey m k).map (·.2)):=by
 unfold Ie atKey
 induction r with
 |nil=>exact(show jJ Y Y from trivial)
 |@cons p q i g d t f =>
  rw[Yr,Yr,← d.1];by_cases e:p.1=k
  ·simp only[e,decide_true,Ys];exact d.2.2
  ·simp only[e,decide_false];exact f
def KN.add{l:List (bu×GM×V)}{m:List (bu×GM×IR)}(r:KN l m){p:bu×GM×V}{q:bu×GM×IR}(x:p.1=q.1/\p.2.1=q.2.1/\RelV p.2.2 q.2.2):KN (l++[p]) (m++[q]):=by
 induction r with
 |nil=>exact .cons x .nil
 |cons h _ d=>exact .cons h d
end
section
variable{prog:PP}{w:SL}{K:Type}[DecidableEq K]{knd:HeapKind prog w K}{A:Pi}{E:Yu}{s:FB}
def qJ{d a:GM}{f:List (K×GM×IR)}{k:K}{v:IR}{Q:Yu}(r:knd.room A)(n:knd.is s.heap k a)(F:s.heap.DictOfH knd d f)(D:f.length<=FS)(C:∀p,atKey f k=O p->Q p.2 { s with toks:=s.toks+knd.draws k })(B:atKey f k=Y->∀l,l.DictOfH knd d (f++[(k,a,v)])->Heap.SameBut d s.heap l->Q v { s with heap:=l,toks:=s.toks+knd.draws k }) :
  KB (FM prog w) A (dictSetDefault d (.ref a) v) Q E s:=by
 obtain⟨o,L,H,g,G,hd,h,u,i⟩:=F;unfold dictSetDefault
 try with_reducible refine YU ?_
 refine Zz (knd.pyHash r n (Zz (wpAny_dictFind_heap (s:={ s with toks:=s.toks+knd.draws k }) r n g hd h u i (λz=>?_) λj p t=>?_)))
 ·have m:=atKey_none_of_get z;have I:k∉f.map (·.1):=not_mem_keys_of_get z;refine Zz (XW (Zz (wpAny_updateDictKeys (hz:=by have e:=size_of_entries h;lia) (s:={ s with toks:=s.toks+knd.draws k }) g hd (Zs (B m _ ⟨_,_,H+1,Vf _ g (Obj.isFreed_of_dict (Obj.data_mapDictKeys hd _)),
   G.mapDictKeys _,Obj.data_mapDictKeys hd _,by simp[h,entryOfKey],λx b=>?_,?_⟩ (WI ..))))))
  ·rcases Zb.mp b with b | b
   ·exact knd.keeps (u x b) g hd (WI ..)
   ·obtain rfl:=Zh.mp b;exact knd.keeps n g hd (WI ..)
  ·rw[Yy,ZG];refine⟨i,by simp,λx b y q e=>I ?_⟩;simp only[Zp,YI,Zh]at q;exact q ▸ e ▸ b
 ·refine Zz (wpAny_dictEntries (s:={ s with toks:=s.toks+knd.draws k }) g hd ?_);rw[entry_at h j,t];exact Zz (XW (Zs (C p (atKey_of_get i t))))
def nL(b:HeapKind prog w K){k:K}{a:GM}(d:GM)(q:(d==sysModules)=S)(v:IR) :
  MeetsIn prog w (Builtin.«dict.setdefault» ⟨[.ref d,.ref a,v],[]⟩) (λA R s=>b.room A.in1/\b.is s.heap k a/\∃e,s.heap.DictOfH b d e/\e.length<=FS ∧
   (∀p,atKey e k=O p->R (.ok (.ret p.2)) { s with toks:=s.toks+b.draws k }) ∧
   (atKey e k=Y->∀f,f.DictOfH b d (e++[(k,a,v)])->Heap.SameBut d s.heap f->R (.ok (.ret v)) { s with heap:=f,toks:=s.toks+b.draws k })) :=
 .of_wp λA R s m=>by
  obtain⟨l,u,e,g,j,i,h⟩:=m;unfold Builtin.«dict.setdefault»;refine Zz ?_;unfold Builtin.Dict.keyAndDefault;refine Zz (wpAny_notOrdered_dict g.typeIs (show KB _ _ (pure (d,Value.ref a,O v)) _ _ s from Zs ?_));show KB _ _ (if (d==sysModules)=J then _ else (dictSetDefault d (.ref a) v>>=_)) _ _ s;rw[Zj (by rw[q];simp)];exact Zz (qJ l u g j (λp n=>Zs ⟨_,rfl,i p n⟩) λo f r t=>Zs ⟨_,rfl,h o f r t⟩)
end
section
variable{X:Cx}
def vP:V->List V->Hp->VK->Prop:=λx e H Q=>∃(a b:GM)(d:List (bu×GM×V))(k:bu)(y:V),x=.ref a/\e=[.ref b,y]/\H a=O (DN a d)/\(∀p∈d,Hz H p.1 p.2.1)/\Hz H k b/\d.length<FS ∧
 (∀v,Ie d k=O v->Q v H)/\(Ie d k=Y->Q y (upd H a (DN a (d++[(k,b,y)]))))
def rg(hu:X.A.units+2<cLine):OE X "dict.setdefault" vP:=by
 intro j s Z H x vs v us Q I r t h;obtain⟨a,b,g,k,y,rfl,rfl,e,Jz,U,R,D,C⟩:=h;cases r;obtain⟨u,o,rfl,B,m⟩:=t.two;obtain rfl:=(show u=Value.ref b from B)
 obtain⟨z,hd,i,rel,l⟩:=Dm I.xa e Jz;have G:i.length<=sizeLine:=by rw[← rel.length];exact z
 have d:=rel.at k;refine call_meetsIn Xi l.typeIs PySem.F.entry_dict_setdefault (VP _ _ _) (nL (NK.nest (aN X.prog X.w)) (k:=k) (a:=b) a hd o) ⟨by show X.A.in1.units+1<cLine;show X.A.units+1+1<cLine;omega,U.is I.xa,i,l,G,λp L=>?_,λP h' n M=>?_⟩
 ·rw[L]at d;cases f:Ie g k with
  |none=>rw[f]at d;cases d
  |some w =>
   rw[f]at d;exact⟨w,H,I.tok _,d,D w f⟩
 ·rw[P]at d;have f:Ie g k=Y:=by
   cases f:Ie g k with
   |none=>rfl
   |some w=>rw[f]at d;cases d
  have W:∃q,h'.get? a=O q:=let ⟨q,_,_,N,_⟩:=n;⟨q,N⟩
  exact⟨y,_,iC I (by rw[e];exact True.intro) M W (xm (by rw[Zu];exact R) hd (rel.add ⟨rfl,rfl,m⟩) n),m,C f⟩
end
end td
end
section
namespace VS
open PySem PySem.Spec PyProof.Rows td
def sx(s:Tx):Str:=⟨s.toArray⟩
def iE(s:Tx):Prop:=s.length<=fC/\∀c∈s,c<1114112
abbrev Me:=Nat->Option V
structure Gx where
 K:Xd
 ct:Nat->GM×(Nat->Str)
 me:Me:=λ_=>none
def Gx.at(G:Gx)(m:Me):Gx:=⟨G.K,G.ct,m⟩
def aK:Key->T
 |.inl i=>.int i
 |.inr x=>.str x.cps.toList
def FP(k:bu):T:=.tup (k.map λx=>T.tup (x.map aK))
def jb(K:Xd)(H:Hp)(a:GM)(d:Vb):Prop :=
 (∃o,H a=O (.frz o (.lst (d.map V.int)))) ∨
  ∃(o:Obj)(b:Array IR)(n:Nat),K.lookup a=O o/\o.cls=.type "list" ∧ o.dict=Y/\o.data=.seq b n/\b.size<=FS/\aT (d.map V.int) b.toList
mutual
inductive Rp(G:Gx)(H:Hp):V->T->X4->Prop
 |non:Rp G H .non .non []
 |bl (b:Bool):Rp G H (.bl b) (.bl b) []
 |int (i:Int):Rp G H (.int i) (.int i) []
 |str (s:Tx):iE s->Rp G H (.str (sx s)) (.str s) []
 |scr {a:GM} {ns:Vb}:jb G.K H a ns->Rp G H (.ref a) (.scr ns) []
 |tup {a:GM} {vs:List V} {ts:V4} {Fs:Yd}:H a=some (.tup vs)->xh G H vs ts Fs->Rp G H (.ref a) (.tup ts) Fs.flatten
 |lst {a:GM} {vs:List V} {ts:V4} {Fs:Yd}:H a=some (.lst vs)->xh G H vs ts Fs->Rp G H (.ref a) (.lst ts) (a :: Fs.flatten)
 |dct {a:GM} {ks:List Key} {vs:List V} {ts:V4} {Fs:Yd}:H a=some (.dK (ks.zip vs))->ks.length=vs.length->xh G H vs ts Fs->Rp G H (.ref a) (.dct 0 ((ks.map aK).zip ts)) (a :: Fs.flatten)
 |dctT {a:GM} {ks:List (List Key)} {vs:List V} {ts:V4} {Fs:Yd}:H a=some (.dT (ks.zip vs))->ks.length=vs.length->xh G H vs ts Fs->Rp G H (.ref a) (.dct 1 ((ks.map λk=>T.tup (k.map aK)).zip ts)) (a :: Fs.flatten)
 |dctN {a:GM} {ks:List (bu×GM)} {vs:List V} {ts:V4} {Fs:Yd}:H a=some (DN a ((ks.zip vs).map λp=>(p.1.1,p.1.2,p.2)))->ks.length=vs.length->(∀p∈ks,Hz H p.1 p.2)->xh G H vs ts Fs->Rp G H (.ref a) (.dct 2 ((ks.map λp=>FP p.1).zip ts)) (a :: Fs.flatten)
 |dctZ {a:GM} {o:Obj} {ks:List Key} {vs:List V} {ts:V4} {Fs:Yd}:H a=some (.frz o (.dK (ks.zip vs)))->ks.length=vs.length->xh G H vs ts Fs->Rp G H (.ref a) (.dct 3 ((ks.map aK).zip ts)) Fs.flatten
 |exc {c:Nat} {a:GM} {o:Obj}:H a=some (.frz o (.own a))->(o.cls=.ref (G.ct c).1/\o.dict=none/\∃vs,o.data=.fields vs)->Rp G H (.ref a) (.obj c []) []
 |ins {c:Nat} {a dx:GM} {b:Bool} {ks:Vi} {vs:List V} {ts:V4} {Fs:Yd}:H a=some (.ins (G.ct (c+1)).1 dx ((ks.map (G.ct (c+1)).2).zip vs))->ks.length=vs.length->(b=true->G.me 0=some (.ref a))->xh G H vs ts Fs->Rp G H (.ref a) (.obj (c+1) ((0,.bl b) :: ks.zip ts)) (a :: Fs.flatten)
 |mk {m:Nat} {a:GM} {t:T} {F:X4}:G.me m=some (.ref a)->Rp G H (.ref a) t F->Rp G H (.ref a) (.obj 0 [(0,.bl true),(m,t)]) F
inductive xh(G:Gx)(H:Hp):List V->V4->Yd->Prop
 |nil:xh G H [] [] []
 |cons {v:V} {t:T} {F:X4} {vs:List V} {ts:V4} {Fs:Yd}:Rp G H v t F->xh G H vs ts Fs->xh G H (v :: vs) (t :: ts) (F :: Fs)
end
structure Kept(H H':Hp):Prop where
 tup:∀a xs,H a=some (.tup xs)->H' a=some (.tup xs)
 frz:∀a o u,H a=some (.frz o u)->H' a=some (.frz o u)
def Kept.refl(H:Hp):Kept H H:=⟨λ_ _ h=>h,λ_ _ _ h=>h⟩
def Kept.trans{H e d:Hp}(a:Kept H e)(b:Kept e d):Kept H d:=⟨λc x h=>b.tup c x (a.tup c x h),λc o u h=>b.frz c o u (a.frz c o u h)⟩
def Kept.of{H b:Hp}(e:aO H b):Kept H b:=⟨λa _ h=>e a _ h,λa _ _ h=>e a _ h⟩
theorem Kept.upd{H:Hp}{a:GM}{o:HO}(d:FG (H a)\/H a=Y):Kept H (upd H a o):=by
 have ne:∀b u,H b=O u->¬FG (O u)->b≠a:=λb u h nm e=>by
  subst e;rcases d with m | m
  ·rw[h]at m;exact nm m
  ·rw[h]at m;cases m
 exact⟨λb f h=>by rw[av (ne b _ h λz=>z)];exact h,λb o u h=>by rw[av (ne b _ h λz=>z)];exact h⟩
def jb.kept{K:Xd}{H d:Hp}{a:GM}{b:Vb}(h:jb K H a b)(k:Kept H d):jb K d a b:=by
 rcases h with⟨o,e⟩ | h
 ·exact .inl ⟨o,k.frz _ _ _ e⟩
 ·exact .inr h
def jb.seq{K:Xd}{H:Hp}{a:GM}{b:Vb}(h:jb K H a b):FF K H a (b.map V.int):=by
 rcases h with⟨o,e⟩ | h
 ·exact .inl (.inr ⟨o,e⟩)
 ·exact .inr h
def qx{H d:Hp}{a:GM}{F:X4}(f:∀b∈a :: F,∀o,H b=O o->d b=O o):∀b∈F,∀o,H b=O o->d b=O o:=λb m=>f b (Zw _ m)
def sC{H a:Hp}{F:X4}{d:Yd}(f:∀b∈(F :: d).flatten,∀o,H b=O o->a b=O o):(∀b∈F,∀o,H b=O o->a b=O o)/\∀b∈d.flatten,∀o,H b=O o->a b=O o:=by
 rw[Zf]at f;exact⟨λb m=>f b (Xy _ m),λb m=>f b (Jc _ m)⟩
def Rp.keep{G:Gx}{H e:Hp}(k:Kept H e){v:V}{t:T}{F:X4}(r:Rp G H v t F):(∀a∈F,∀o,H a=O o->e a=O o)->Rp G e v t F :=
 Rp.rec (motive_1:=λv t F _=>(∀a∈F,∀o,H a=O o->e a=O o)->Rp G e v t F) (motive_2:=λj q g _=>(∀a∈g.flatten,∀o,H a=O o->e a=O o)->xh G e j q g)
  (λ_=>.non) (λb _=>.bl b) (λi _=>.int i) (λs h _=>.str s h) (λh _=>.scr (h.kept k)) (λh _ d f=>.tup (k.tup _ _ h) (d f)) (λh _ d f=>.lst (f _ Zx _ h) (d (qx f))) (λh l _ d f=>.dct (f _ Zx _ h) l (d (qx f))) (λh l _ d f=>.dctT (f _ Zx _ h) l (d (qx f)))
  (λh l n _ d f=>.dctN (f _ Zx _ h) l (λp m=>(n p m).mono k.tup) (d (qx f))) (λh l _ d f=>.dctZ (k.frz _ _ _ h) l (d f)) (λh x _=>.exc (k.frz _ _ _ h) x) (λh l m _ d f=>.ins (f _ Zx _ h) l m (d (qx f))) (λh _ d f=>.mk h (d f)) (λ_=>.nil) (λ_ _ w u f=>.cons (w (sC f).1) (u (sC f).2)) r
theorem xh.keep{G:Gx}{H b:Hp}(k:Kept H b):∀{e:List V}{g:V4}{d:Yd},xh G H e g d->(∀a∈d.flatten,∀o,H a=O o->b a=O o)->xh G b e g d
 |_,_,_,.nil,_=>.nil
 |_,_,_,.cons r q,f=>.cons (r.keep k (sC f).1) (xh.keep k q (sC f).2)
def Rp.same{G:Gx}{H b:Hp}(e:aO H b){v:V}{t:T}{F:X4}(r:Rp G H v t F):Rp G b v t F:=r.keep (Kept.of e) λa _ o h=>e a o h
def xh.same{G:Gx}{H b:Hp}(e:aO H b){v:List V}{t:V4}{F:Yd}(r:xh G H v t F):xh G b v t F:=r.keep (Kept.of e) λa _ o h=>e a o h
def yi{H:Hp}{a:GM}{F:X4}(h:FG (H a))(d:∀b∈F,FG (H b)):∀b∈a :: F,FG (H b):=λb m=>(Zq.mp m).elim (λe=>e ▸ h) (d b)
def wc{H:Hp}{a:GM}{o:HO}(h:H a=O o)(m:FG (O o)):FG (H a):=by rw[h];exact m
def Dv{H:Hp}{F:X4}{a:Yd}(e:∀b∈F,FG (H b))(d:∀b∈a.flatten,FG (H b)):∀b∈(F :: a).flatten,FG (H b):=λb m=>by
 rw[Zf]at m;exact(Zb.mp m).elim (e b) (d b)
def Rp.F0{G:Gx}{H:Hp}{v:V}{t:T}{F:X4}(r:Rp G H v t F):∀a∈F,FG (H a) :=
 Rp.rec (motive_1:=λv t F _=>∀a∈F,FG (H a)) (motive_2:=λg i f _=>∀a∈f.flatten,FG (H a))
  (λ_ m=>nomatch m) (λ_ _ m=>nomatch m) (λ_ _ m=>nomatch m) (λ_ _ _ m=>nomatch m) (λ_ _ m=>nomatch m) (λ_ _ b=>b) (λh _ b=>yi (wc h True.intro) b) (λh _ _ b=>yi (wc h True.intro) b) (λh _ _ b=>yi (wc h True.intro) b)
  (λh _ _ _ b=>yi (wc h True.intro) b) (λ_ _ _ b=>b) (λ_ _ _ m=>nomatch m) (λh _ _ _ b=>yi (wc h True.intro) b) (λ_ _ b=>b) (λ_ m=>nomatch m) (λ_ _ e d=>Dv e d) r
theorem xh.F0{G:Gx}{H:Hp}:∀{d:List V}{e:V4}{b:Yd},xh G H d e b->∀a∈b.flatten,FG (H a)
 |_,_,_,.nil=>λ_ m=>nomatch m
 |_,_,_,.cons r q=>Dv r.F0 (xh.F0 q)
def FG.xb{o:Option HO}(m:FG o):o≠Y:=λe=>by subst e;exact m
def Ez{F:X4}{b:Yd}{t:T}{a:V4}(e:VS.FY t=J->F=[])(d:VS.fA a=J->b.flatten=[])(i:VS.fA (t :: a)=J):(F :: b).flatten=[]:=by
 simp only[VS.fA,Yz]at i;rw[Zf,e i.1,d i.2];rfl
theorem Rp.FY{G:Gx}{H:Hp}{v:V}{t:T}{F:X4}(r:Rp G H v t F):VS.FY t=J->F=[] :=
 Rp.rec (motive_1:=λv t F _=>VS.FY t=J->F=[]) (motive_2:=λg a f _=>VS.fA a=J->f.flatten=[])
  (λ_=>rfl) (λ_ _=>rfl) (λ_ _=>rfl) (λ_ _ _=>rfl) (λ_ _=>rfl) (λ_ _ b i=>b (by simpa[VS.FY] using i)) (λ_ _ _ i=>absurd (show S=J from i) Za) (λ_ _ _ _ i=>absurd (show S=J from i) Za) (λ_ _ _ _ i=>absurd (show S=J from i) Za)
  (λ_ _ _ _ _ i=>absurd (show S=J from i) Za) (λ_ _ _ _ i=>absurd (show S=J from i) Za) (λ_ _ _=>rfl) (λ_ _ _ _ _ i=>absurd (show S=J from i) Za) (λ_ _ _ i=>absurd (show S=J from i) Za) (λ_=>rfl) (λ_ _ e d i=>Ez e d i) r
theorem xh.FY{G:Gx}{H:Hp}:∀{d:List V}{a:V4}{b:Yd},xh G H d a b->VS.fA a=J->b.flatten=[]
 |_,_,_,.nil,_=>rfl
 |_,_,_,.cons r q,i=>Ez r.FY (xh.FY q) i
theorem xh.len{G:Gx}{H:Hp}:∀{b:List V}{a:V4}{d:Yd},xh G H b a d->b.length=a.length/\d.length=a.length
 |_,_,_,.nil=>⟨rfl,rfl⟩
 |_,_,_,.cons _ q=>by
  have:=xh.len q;simp only[Zl];lia
theorem xh.get{G:Gx}{H:Hp}:∀{a:List V}{b:V4}{d:Yd}(i:Nat){t:T},xh G H a b d->b[i]?=O t->∃v F,a[i]?=O v/\d[i]?=O F/\Rp G H v t F
 |_,_,_,_,_,.nil,e=>by simp at e
 |_,_,_,0,_,.cons r _,e=>by
  simp at e;subst e;exact⟨_,_,rfl,rfl,r⟩
 |_,_,_,i+1,_,.cons _ q,e=>by
  obtain⟨v,F,g,f,h3⟩:=xh.get i q (by simpa using e);exact⟨v,F,by simpa using g,by simpa using f,h3⟩
theorem xh.append{G:Gx}{H:Hp}:∀{a:List V}{d:V4}{g:Yd}{b:List V}{e:V4}{f:Yd},xh G H a d g->xh G H b e f->xh G H (a++b) (d++e) (g++f)
 |_,_,_,_,_,_,.nil,s=>s
 |_,_,_,_,_,_,.cons r q,s=>.cons r (xh.append q s)
theorem xh.take{G:Gx}{H:Hp}:∀{a:List V}{b:V4}{d:Yd}(n:Nat),xh G H a b d->xh G H (a.take n) (b.take n) (d.take n)
 |_,_,_,0,_=>by simpa using xh.nil
 |_,_,_,n+1,.nil=>.nil
 |_,_,_,n+1,.cons r q=>.cons r (xh.take n q)
theorem xh.drop{G:Gx}{H:Hp}:∀{a:List V}{b:V4}{d:Yd}(n:Nat),xh G H a b d->xh G H (a.drop n) (b.drop n) (d.drop n)
 |_,_,_,0,q=>q
 |_,_,_,n+1,.nil=>.nil
 |_,_,_,n+1,.cons r q=>xh.drop n q
def j1:Cell->T
 |.pu t=>t
 |.ow t=>t
abbrev FH:=Nat->X4
structure SR(G:Gx)(L:FH)(U:VS.Env)(Z:td.St)(H:Hp):Prop where
 len:U.length=Z.length
 rp:∀i c,U[i]?=some (some c)->∃v,Z[i]?=some (some v)/\Rp G H v (j1 c) (L i)
 nd:∀i t,U[i]?=some (some (.ow t))->(L i).Nodup
 sep:∀i j t c,U[i]?=some (some (.ow t))->U[j]?=some (some c)->i≠j->∀a∈L i,a∉L j
def dw(L:FH)(U:VS.Env)(a:GM):Prop:=∃j t,U[j]?=O (O (.pu t))/\a∈L j
def bW(L:FH)(U:VS.Env)(a:GM):Prop:=∃j t,U[j]?=O (O (.ow t))/\a∈L j
def Fp(L:FH)(U:VS.Env)(H:Hp):Md->X4->Prop
 |.fr,F=>F.Nodup/\∀a∈F,H a=Y
 |.pu,F=>∀a∈F,H a=Y\/dw L U a
 |.bo,F=>∀a∈F,H a=Y\/dw L U a\/bW L U a
theorem SR.same{G:Gx}{L:FH}{U:VS.Env}{Z:td.St}{H a:Hp}(s:SR G L U Z H)(e:aO H a):SR G L U Z a :=
 ⟨s.len,λi c h=>let ⟨v,d,b⟩:=s.rp i c h;⟨v,d,b.same e⟩,s.nd,s.sep⟩
def SR.JX{G:Gx}{L:FH}{U:VS.Env}{Z:td.St}{H:Hp}{a:GM}(s:SR G L U Z H)(h:dw L U a):FG (H a):=by
 obtain⟨j,t,d,b⟩:=h;obtain⟨v,_,r⟩:=s.rp j _ d;exact r.F0 a b
def SR.GU{G:Gx}{L:FH}{U:VS.Env}{Z:td.St}{H:Hp}{a:GM}(s:SR G L U Z H)(h:bW L U a):FG (H a):=by
 obtain⟨j,t,d,b⟩:=h;obtain⟨v,_,r⟩:=s.rp j _ d;exact r.F0 a b
def Fp.nil{L:FH}{U:VS.Env}{H:Hp}{m:Md}:Fp L U H m []:=by
 cases m
 ·exact⟨List.nodup_nil,λa h=>by simp at h⟩
 ·exact λa h=>by simp at h
 ·exact λa h=>by simp at h
theorem Fp.bo{L:FH}{U:VS.Env}{H:Hp}{F:X4}:∀{m:Md},Fp L U H m F->Fp L U H .bo F
 |.fr,h=>λa m=>.inl (h.2 a m)
 |.pu,h=>λa m=>(h a m).elim .inl λz=>.inr (.inl z)
 |.bo,h=>h
theorem Fp.pu{L:FH}{U:VS.Env}{H:Hp}{F:X4}:∀{m:Md},m ≠ .bo->Fp L U H m F->Fp L U H .pu F
 |.fr,_,h=>λa m=>.inl (h.2 a m)
 |.pu,_,h=>h
 |.bo,n,_=>absurd M n
theorem Fp.back{L:FH}{U:VS.Env}{H b:Hp}(e:aO H b){F:X4}:∀{m:Md},Fp L U b m F->Fp L U H m F
 |.fr,h=>⟨h.1,λa m=>e.free (h.2 a m)⟩
 |.pu,h=>λa m=>(h a m).imp e.free id
 |.bo,h=>λa m=>(h a m).imp e.free id
theorem Fp.up{G:Gx}{L:FH}{U:VS.Env}{H a:Hp}{m:Md}{v:V}{t:T}{F:X4}(f:Fp L U H m F)(r:Rp G a v t F):Fp L U H (VS.up m t).1 F:=by
 unfold VS.up;by_cases h:VS.FY t=J
 ·rw[r.FY h];exact Fp.nil
 ·simp only[h,if_false,Ij];exact f
def tE(G:Gx)(c:Ex):TE:=λZ H Q=>∃L U m r,SR G L U Z H/\c U=O (m,r)/\∀v a F,aO H a->Rp G a v r F->Fp L U H m F->Q v a
def PV(G:Gx)(X:Cx)(e:Expr)(c:Ex):Prop:=PE X e (tE G c)
def PE.weak{X:Cx}{e:Expr}{t b:TE}(h:PE X e t)(w:∀Z H Q,b Z H Q->t Z H Q):PE X e b:=λa s Z H Q I q=>h a s Z H Q I (w Z H Q q)
def PT.weak{X:Cx}{e:Expr}{t b:TT}(h:PT X e t)(w:∀Z H Q,b Z H Q->t Z H Q):PT X e b:=λa s Z H Q I q=>h a s Z H Q I (w Z H Q q)
def PA.weak{X:Cx}{e:List Expr}{t b:TA}(h:PA X e t)(w:∀Z H Q,b Z H Q->t Z H Q):PA X e b:=λpos a s Z H Q I q=>h pos a s Z H Q I (w Z H Q q)
def tT(G:Gx)(c:Ex):TT:=λZ H Q=>∃L U m r b,SR G L U Z H/\c U=O (m,r)/\Ks r=O b/\∀a,aO H a->Q b a
def IH(G:Gx)(X:Cx)(e:Expr)(c:Ex):Prop:=PT X e (tT G c)
def GV(l:V2)(a:Yd):X4:=match l,a with
 |v :: l,F :: a=>match v.1 with
  |.fr=>F++GV l a
  |_=>GV l a
 |_,_=>[]
structure Ph(L:FH)(U:VS.Env)(H:Hp)(l:V2)(Fs:Yd):Prop where
 each:∀(i:Nat) v F,l[i]?=some v->Fs[i]?=some F->Fp L U H v.1 F
 nd:(GV l Fs).Nodup
def Nh(G:Gx)(c:Gd):TA:=λZ H Q=>∃L U l,SR G L U Z H/\c U=O l/\∀b a d,aO H a->xh G a b (trees l) d->Ph L U H l d->Q b a
def Ho(G:Gx)(X:Cx)(a:List Expr)(c:Gd):Prop:=PA X a (Nh G c)
section
variable{G:Gx}{X:Cx}{a b c:Expr}{ca cb cc:Ex}{pos:Pos}
def ag{i j pos}:PV G X (.Constant (.int i) j pos) (Q3 i):=PE.weak wg λZ H Q d=>by
 obtain⟨L,U,m,r,s,e,k⟩:=d;cases (show O (Md.fr,T.int i)=O (m,r) from e);exact k _ _ _ (aO.refl _) (.int i) Fp.nil
def A9{i j pos}:PV G X (.Constant (.bool i) j pos) (eC (.bl i)):=PE.weak DV λZ H Q d=>by
 obtain⟨L,U,m,r,s,e,k⟩:=d;cases (show O (Md.fr,T.bl i)=O (m,r) from e);exact k _ _ _ (aO.refl _) (.bl i) Fp.nil
def rG{j pos}:PV G X (.Constant .none j pos) (eC .non):=PE.weak Bx λZ H Q d=>by
 obtain⟨L,U,m,r,s,e,k⟩:=d;cases (show O (Md.fr,T.non)=O (m,r) from e);exact k _ _ _ (aO.refl _) .non Fp.nil
def gZ{x:Str}{t:Tx}{j pos}(h:x=sx t:=by decide +kernel)(f:iE t:=by decide):PV G X (.Constant (.str x) j pos) (eC (.str t)):=PE.weak wA λZ H Q d=>by
 obtain⟨L,U,m,r,s,e,k⟩:=d;cases (show O (Md.fr,T.str t)=O (m,r) from e);subst h;exact k _ _ _ (aO.refl _) (.str t f) Fp.nil
def gw(i:Nat){x:Str}{g:Pos}(u:X.N[i]?=O x:=by rfl)(o:Ik X.env.scope x:=by first | exact Or.inl M | exact Or.inr (Or.inl M) | exact Or.inr (Or.inr M))(q:K2 x:=by decide)(y:K3 x:=by decide):PV G X (.Name x g) (ae i):=PE.weak (fF u o q y) λZ H Q p=>by
 obtain⟨L,U,m,r,s,e,k⟩:=p;unfold ae at e;split at e
 ·rename_i t h;obtain⟨v,l,d⟩:=s.rp _ _ h;have n:VS.up .pu t=(m,r):=ZK e;have w:t=r:=congrArg Prod.snd n;have em:(VS.up .pu t).1=m:=congrArg Prod.fst n;rw[← w,← em]at k;refine⟨v,l,k v H (L i) (aO.refl _) d ?_⟩;have f:Fp L U H .pu (L i):=λa j=>.inr ⟨i,_,h,j⟩;exact f.up d
 ·rename_i t h;obtain⟨v,l,d⟩:=s.rp _ _ h;cases e;exact⟨v,l,k v H (L i) (aO.refl _) d λa j=>.inr (.inr ⟨i,_,h,j⟩)⟩
 ·cases e
structure OB(G:Gx)(L:FH)(U:VS.Env)(H0 H:Hp)(x y:Val)(u w:V)(F1 F2:X4):Prop where
 same:aO H0 H
 r1:Rp G H u x.2 F1
 r2:Rp G H w y.2 F2
 f1:Fp L U H0 x.1 F1
 f2:Fp L U H0 y.1 F2
 nd:x.1=.fr->y.1=.fr->(F1++F2).Nodup
def gU(G:Gx)(r:R2)(f:Val->Val->V3):Prop:=∀(L:FH)(U:VS.Env)(e H:Hp)(x y:Val)(u w:V)(h g:X4)(m:Md)(t:T)(Q:VK),OB G L U e H x y u w h g->f x y=O (m,t) →
 (∀v d F,aO H d->Rp G d v t F->Fp L U e m F->Q v d)->r u w H Q
def C3{Z:td.St}{H:Hp}{Q:V->V->Hp->Prop}{L:FH}{U:VS.Env}{x y:Val}(s:SR G L U Z H)(n:ca U=O x)(m:cb U=O y)(k:∀u w d f e,OB G L U H d x y u w f e->Q u w d):tE G ca Z H λu g=>tE G cb Z g λw d=>Q u w d:=by
 refine⟨L,U,x.1,x.2,s,n,λu g f e1 r1 f1=>⟨L,U,y.1,y.2,s.same e1,m,λw d e e2 r2 f2=>k u w d f e ⟨e1.trans e2,r1.same e2,r2,f1,f2.back e1,λi h=>?_⟩⟩⟩;rw[i]at f1;rw[h]at f2;refine ZG.mpr ⟨f1.1,f2.1,λa l b j z=>?_⟩;subst z;exact FG.xb (r1.F0 a l) (f2.2 a j)
def kR{r:R2}{f:Val->Val->V3}(g:gU G r f){Z:td.St}{H:Hp}{Q:VK}(h:tE G (e2 f ca cb) Z H Q):Ng r (tE G ca) (tE G cb) Z H Q:=by
 obtain⟨L,U,m,t,s,e,k⟩:=h;unfold e2 at e;obtain⟨x,j,e⟩:=Zy.mp e;obtain⟨y,i,e⟩:=Zy.mp e;exact C3 s j i λu w l p o d=>g L U H l x y u w p o m t Q d e λv n F e1 r1 f1=>k v n F (d.same.trans e1) r1 f1
def iK{d:Operator}{r:R2}{f:Val->Val->V3}(g:OpR X (binaryOp d) r)(e:gU G r f)(j:PV G X a ca)(i:PV G X b cb):PV G X (.BinOp a d b pos) (e2 f ca cb) :=
 PE.weak (DE g j i) λZ H Q h=>kR e h
def vk{d:CmpOp}{r:R2}{f:Val->Val->V3}(g:OpR X (SB d) r)(e:gU G r f)(l:PV G X a ca)(j:PV G X b cb)(i:behindInMarks d b=S):PV G X (.Compare a [d] [b] pos) (e2 f ca cb) :=
 PE.weak (yN g l j i) λZ H Q h=>kR e h
def Tells(f:Val->Val->V3):Prop:=∀x y m t,f x y=O (m,t)->∃b,t=.bl b
def Rp.GD{H:Hp}{v:V}{b:Bool}{F:X4}(r:Rp G H v (.bl b) F):v=.bl b:=by cases r;rfl
def Rp.int_inv{H:Hp}{v:V}{b:Int}{F:X4}(r:Rp G H v (.int b) F):v=.int b:=by cases r;rfl
def Rp.str_inv{H:Hp}{v:V}{b:Tx}{F:X4}(r:Rp G H v (.str b) F):v=.str (sx b)/\iE b:=by cases r with | str _ h=>exact⟨rfl,h⟩
def xK{c:Ex}{t:TE}{Z:td.St}{H:Hp}{Q:Bool->Hp->Prop}(h:tT G c Z H Q)(f:∀U m r,c U=O (m,r)->∃b,r=.bl b)(w:∀Q,tE G c Z H Q->t Z H Q):A8 t Z H Q:=by
 obtain⟨L,U,m,r,b,s,e,d,k⟩:=h;refine w _ ⟨L,U,m,r,s,e,λv j F e1 r1 f1=>?_⟩;obtain⟨i,g⟩:=f U m r e;rw[g]at d r1;cases (show O i=O b from d);exact⟨_,r1.GD,k j e1⟩
def gp{d:CmpOp}{r:R2}{f:Val->Val->V3}(j:OpR X (SB d) r)(g:gU G r f)(i:Tells f)(o:PV G X a ca)(n:PV G X b cb)(l:behindInMarks d b=S):IH G X (.Compare a [d] [b] pos) (e2 f ca cb) :=
 PT.weak (zb j o n l) λZ H Q h=>xK h (λU m r e=>by
  unfold e2 at e;obtain⟨x,_,e⟩:=Zy.mp e;obtain⟨y,_,e⟩:=Zy.mp e;exact i x y m r e) λQ h=>kR g h
def bC{L:FH}{U:VS.Env}{e H:Hp}{m:Md}{t:T}{v:V}{Q:VK}(k:∀v d F,aO H d->Rp G d v t F->Fp L U e m F->Q v d)(r:Rp G H v t []):Q v H:=k v H [] (aO.refl _) r Fp.nil
def bT{H:Hp}{p:GM}{o:HO}(h:H p=Y):aO H (upd H p o):=λb d e=>by rw[av (aQ e h)];exact e
theorem Fp.new{L:FH}{U:VS.Env}{g:Hp}{p:GM}{F:X4}(d:g p=Y)(h:p∉F):∀{m:Md},Fp L U g m F->Fp L U g m (p :: F)
 |.fr,f=>⟨ZS.mpr ⟨h,f.1⟩,λa m=>(Zq.mp m).elim (λe=>by rw[e];exact d) (f.2 a)⟩
 |.pu,f=>λa m=>(Zq.mp m).elim (λe=>by rw[e];exact .inl d) (f a)
 |.bo,f=>λa m=>(Zq.mp m).elim (λe=>by rw[e];exact .inl d) (f a)
def nu{d m:Md}{l:V4}{t:T}(e:Hw d l=O (m,t)):t=.lst l/\l.length<=fC/\m=(if fA l then .fr else d):=by
 unfold Hw at e;split at e
 ·rename_i h;cases e;exact⟨rfl,h,rfl⟩
 ·cases e
def iy{L:FH}{U:VS.Env}{i H:Hp}{q m:Md}{l:V4}{t:T}{o:List V}{n:Yd}{Q:VK}(d:aO i H)(e:Hw q l=O (m,t))(r:xh G H o l n)(f:Fp L U i q n.flatten)(k:∀v j F,aO H j->Rp G j v t F->Fp L U i m F->Q v j):∀p,H p=Y->Q (.ref p) (upd H p (.lst o)):=by
 intro p g;obtain⟨rfl,s,rfl⟩:=nu e;refine k _ _ _ (bT g) (.lst aw (r.same (bT g))) ?_;have np:p∉n.flatten:=λm=>FG.xb (r.F0 p m) g;by_cases h:fA l=J
 ·rw[h,Zn M];rw[r.FY h]at np ⊢;exact Fp.nil.new (d.free g) np
 ·rw[Zj h];exact f.new (d.free g) np
theorem OB.join{L:FH}{U:VS.Env}{h H:Hp}{x y:Val}{u w:V}{f e:X4}(i:OB G L U h H x y u w f e){F:X4}(g:F.Sublist (f++e)):Fp L U h (x.1.join y.1) F:=by
 obtain⟨same,r1,r2,f1,f2,nd⟩:=i;have split:∀a∈F,a∈f\/a∈e:=λa d=>Zb.mp (g.subset d);obtain⟨l,x⟩:=x;obtain⟨j,y⟩:=y;have both:∀{P:GM->Prop},(∀a∈f,P a)->(∀a∈e,P a)->∀a∈F,P a:=λn m a d=>(split a d).elim (n a) (m a);cases l<;>cases j
 ·exact⟨(nd M M).sublist g,both f1.2 f2.2⟩
 ·exact both (λa d=>.inl (f1.2 a d)) f2
 ·exact both (λa d=>.inl (f1.2 a d)) f2
 ·exact both f1 (λa d=>.inl (f2.2 a d))
 ·exact both f1 f2
 ·exact both (f1.bo) f2
 ·exact both f1 (λa d=>.inl (f2.2 a d))
 ·exact both f1 (f2.bo)
 ·exact both f1 f2
def gq:fC=sizeLine:=rfl
def fq(s:Tx):(sx s).length=s.length:=rfl
def B8(s t:Tx):sx s++sx t=sx (s++t):=by
 show Str.append (sx s) (sx t)=_;simp[sx,Str.append]
def Rp.lst_inv{H:Hp}{v:V}{l:V4}{F:X4}(r:Rp G H v (.lst l) F):∃a d e,v=.ref a/\F=a :: e.flatten/\H a=O (.lst d)/\xh G H d l e:=by
 cases r with
 |lst h q=>exact⟨_,_,_,rfl,rfl,h,q⟩
def Rp.GK{H:Hp}{v:V}{l:V4}{F:X4}(r:Rp G H v (.tup l) F):∃a d e,v=.ref a/\F=e.flatten/\H a=O (.tup d)/\xh G H d l e:=by
 cases r with
 |tup h q=>exact⟨_,_,_,rfl,rfl,h,q⟩
def Rp.Kx{H:Hp}{v:V}{l:Vb}{F:X4}(r:Rp G H v (.scr l) F):∃a,v=.ref a/\F=[]/\jb G.K H a l:=by
 cases r with
 |scr h=>exact⟨_,rfl,rfl,h⟩
end
section
variable{G:Gx}{X:Cx}
def Di:R2:=λx y H Q=>JL (λi j=>.int (i+j)) x y H Q\/(∃i j,x=.str i/\y=.str j/\i.length+j.length<=FS/\Q (.str (i++j)) H)\/Eg x y H Q
def zX:OpR X (binaryOp .Add) Di:=Br.or (rN.or BA)
def B0:gU G Di bq:=by
 intro L U I H x y u w B A m t Q f e k;have q:=λ{F:X4} (h:List.Sublist F (B++A))=>f.join h;obtain⟨D,x⟩:=x;obtain⟨C,y⟩:=y;obtain⟨same,r1,r2,f1,f2,nd⟩:=f;unfold bq at e;split at e
 ·rename_i i _ j e1 e2;cases e1;cases e2;cases e;exact .inl ⟨_,_,r1.int_inv,r2.int_inv,bC k (.int _)⟩
 ·rename_i s _ p e1 e2;cases e1;cases e2;split at e
  ·rename_i d;cases e;refine .inr (.inl ⟨_,_,r1.str_inv.1,r2.str_inv.1,by rw[fq,fq,← gq];exact d,?_⟩);rw[B8];exact bC k (.str _ ⟨by rw[Zu];exact d,λc r=>(Zb.mp r).elim (r1.str_inv.2.2 c) (r2.str_inv.2.2 c)⟩)
  ·cases e
 ·rename_i s _ p e1 e2;cases e1;cases e2;obtain⟨a,n,N,rfl,rfl,z,l⟩:=r1.lst_inv;obtain⟨b,o,M,rfl,rfl,v,g⟩:=r2.lst_inv;obtain⟨_,d,_⟩:=nu e;refine .inr (.inr ⟨a,b,n,o,rfl,rfl,z,v,?_,iy same e (l.append g) (q ?_) k⟩)
  ·rw[Zu]at d;rw[l.len.1,g.len.1,← gq];exact d
  ·rw[IG];exact(YJ _ _).append (YJ _ _)
 ·cases e
def kQ:gU G (JL λi j=>.int (i-j)) rD:=by
 intro L U f H x y u w h g m t Q a e k;obtain⟨d,x⟩:=x;obtain⟨b,y⟩:=y;obtain⟨same,r1,r2,f1,f2,nd⟩:=a;unfold rD at e;split at e
 ·rename_i e1 e2;cases e1;cases e2;cases e;exact⟨_,_,r1.int_inv,r2.int_inv,bC k (.int _)⟩
 ·cases e
def yH:gU G (rI DC λi j=>.int (i/j)) fN:=by
 intro L U f H x y u w l g m t Q a e k;obtain⟨d,x⟩:=x;obtain⟨b,y⟩:=y;obtain⟨same,r1,r2,f1,f2,nd⟩:=a;unfold fN at e;split at e
 ·rename_i e1 e2;cases e1;cases e2;split at e
  ·rename_i h;cases e;exact⟨_,_,r1.int_inv,r2.int_inv,h,bC k (.int _)⟩
  ·cases e
 ·cases e
def CT:gU G (rI (λ_ j=>0<j) λi j=>.int (i%j)) oMod:=by
 intro L U f H x y u w l g m t Q a e k;obtain⟨d,x⟩:=x;obtain⟨b,y⟩:=y;obtain⟨same,r1,r2,f1,f2,nd⟩:=a;unfold oMod at e;split at e
 ·rename_i e1 e2;cases e1;cases e2;split at e
  ·rename_i h;cases e;exact⟨_,_,r1.int_inv,r2.int_inv,h,bC k (.int _)⟩
  ·cases e
 ·cases e
theorem jA:∀(s t:Tx),GY s t=decide (s<t)
 |[],[]=>by simp[GY]
 |[],_ :: _=>by simp[GY]
 |_ :: _,[]=>by simp[GY]
 |a :: s,b :: t=>by
  unfold GY;rw[jA s t];by_cases e:a<b
  ·simp[e,Vs]
  ·by_cases d:b<a
   ·have:¬a=b:=by exact We d
    simp[e,d,Vs,this]
   ·have:a=b:=by lia
    subst this;simp[Vs]
def S7:R2:=λx y H Q=>JL (λi j=>.bl (decide (i<j))) x y H Q\/(∃i j,x=.str i/\y=.str j/\Q (.bl (decide (i.cps.toList<j.cps.toList))) H)
def xU:OpR X (SB .Lt) S7:=Eb.or uQ
def AS:gU G S7 oLt:=by
 intro L U g H x y u w i h m t Q b e k;obtain⟨f,x⟩:=x;obtain⟨d,y⟩:=y;obtain⟨same,r1,r2,f1,f2,nd⟩:=b;unfold oLt at e;split at e
 ·rename_i e1 e2;cases e1;cases e2;cases e;exact .inl ⟨_,_,r1.int_inv,r2.int_inv,bC k (.bl _)⟩
 ·rename_i s _ a e1 e2;cases e1;cases e2;cases e;refine .inr ⟨_,_,r1.str_inv.1,r2.str_inv.1,?_⟩;have:decide ((sx s).cps.toList<(sx a).cps.toList)=GY s a:=by rw[jA];exact decide_eq_decide.mpr (by simp[sx])
  rw[this];exact bC k (.bl _)
 ·cases e
def lN:Tells oLt:=by
 intro x y m t e;unfold oLt at e;split at e<;>first | (cases e;exact⟨_,rfl⟩) | cases e
def Bu:OH=2 ^ 64:=rfl
def C0:gU G (rI Av λi j=>.int (i*j)) fu:=by
 intro L U f H x y u w l g m t Q a e k;obtain⟨d,x⟩:=x;obtain⟨b,y⟩:=y;obtain⟨same,r1,r2,f1,f2,nd⟩:=a;unfold fu at e;split at e
 ·rename_i e1 e2;cases e1;cases e2;split at e
  ·rename_i h;cases e;refine⟨_,_,r1.int_inv,r2.int_inv,?_,bC k (.int _)⟩;rw[Bu]at h;exact h
  ·cases e
 ·cases e
def xN:Tells oLe:=by
 intro x y m t e;unfold oLe at e;split at e<;>first | (cases e;exact⟨_,rfl⟩) | cases e
def vq{n:Nat}{i:Int}:GF n i=L6 n i:=by
 unfold GF L6;by_cases h:0<=i
 ·rw[Zn h,Zn h]
 ·rw[Zj h,Zj h];by_cases a:0<=i+n
  ·rw[Zn a,Zn (by lia)]
  ·rw[Zj a,Zj (by lia)]
def nZ{α:Type}{l:List α}{i:Int}{k:Nat}{x:α}(b:GF l.length i=O k)(a:l[k]?=O x):MG l i=O x:=by
 unfold MG;rw[← vq,b];exact a
def gD{a:Yd}{F:X4}{i:Nat}(h:a[i]?=O F):F.Sublist a.flatten:=by
 obtain⟨b,rfl⟩:=ZW.mp h;exact List.sublist_flatten_of_mem (Xs b)
theorem Fp.sub{L:FH}{U:VS.Env}{H:Hp}{F d:X4}(h:F.Sublist d):∀{m:Md},Fp L U H m d->Fp L U H m F
 |.fr,f=>⟨f.1.sublist h,λa b=>f.2 a (h.subset b)⟩
 |.pu,f=>λa b=>f a (h.subset b)
 |.bo,f=>λa b=>f a (h.subset b)
def yh:gU G (PJ G.K) aF:=by
 intro L U N H x y u w R P m t Q B e k;obtain⟨M,x⟩:=x;obtain⟨I,y⟩:=y;obtain⟨same,r1,r2,f1,f2,nd⟩:=B;unfold aF at e;split at e
 ·rename_i p l o i e1 e2;cases e1;cases e2;obtain⟨j,d,e⟩:=Zy.mp e;obtain⟨x,b,e⟩:=Zm.mp e;obtain⟨a,n,D,rfl,rfl,q,h⟩:=r1.lst_inv;obtain⟨v,F,s,r,g⟩:=h.get j b;refine .inl ⟨a,n,i,v,rfl,r2.int_inv,FF.of q,nZ (by rw[h.len.1];exact d) s,?_⟩;have f:=((f1.sub (YJ _ _)).sub (gD r)).up g;unfold VS.sub at e;rw[e]at f;have z:x=t:=congrArg Prod.snd e;rw[z]at g;exact k v H F (aO.refl _) g f
 ·rename_i p l o i e1 e2;cases e1;cases e2;obtain⟨j,d,e⟩:=Zy.mp e;obtain⟨x,b,e⟩:=Zm.mp e;obtain⟨a,n,D,rfl,rfl,q,h⟩:=r1.GK;obtain⟨v,F,s,r,g⟩:=h.get j b;refine .inr (.inl ⟨a,n,i,v,rfl,r2.int_inv,GA.of q,nZ (by rw[h.len.1];exact d) s,?_⟩);have f:=(f1.sub (gD r)).up g;unfold VS.sub at e;rw[e]at f;have z:x=t:=congrArg Prod.snd e;rw[z]at g;exact k v H F (aO.refl _) g f
 ·rename_i p l o i e1 e2;cases e1;cases e2;obtain⟨j,d,e⟩:=Zy.mp e;obtain⟨x,b,e⟩:=Zm.mp e;cases e;obtain⟨a,rfl,rfl,sa⟩:=r1.Kx;refine .inl ⟨a,l.map V.int,i,.int x,rfl,r2.int_inv,sa.seq,nZ (by rw[Zv];exact d) (by rw[ZT,b];rfl),bC k (.int _)⟩
 ·rename_i p l o i e1 e2;cases e1;cases e2;obtain⟨j,d,e⟩:=Zy.mp e;obtain⟨x,b,e⟩:=Zm.mp e;cases e;obtain⟨rfl,A⟩:=r1.str_inv;refine .inr (.inr ⟨sx l,i,x,rfl,r2.int_inv,by rw[fq,← gq];exact A.1,nZ (k:=j) (by simpa[sx] using d) (by simpa[sx] using b),?_⟩);exact bC k (.str [x] ⟨by show 1<=fC;decide,λc C=>by rw[Zh.mp C];exact A.2 x (YX b)⟩)
 ·cases e
end
section
variable{G:Gx}{X:Cx}{a b c e:Expr}{es:List Expr}{ca cb cc:Ex}{cs:Gd}{pos p:Pos}
theorem sV{x:GM}:∀{l:V2}{d:Yd},x∈GV l d->∃(i:Nat)(v:Val)(F:X4),l[i]?=O v/\v.1=.fr/\d[i]?=O F/\x∈F
 |[],_,h=>by simp[GV]at h
 |_ :: _,[],h=>by simp[GV]at h
 |v :: l,F :: d,h=>by
  have go:x∈GV l d->∃(i:Nat)(u:Val)(f:X4),(v :: l)[i]?=O u/\u.1=.fr/\(F :: d)[i]?=O f/\x∈f:=λm=>by
   obtain⟨i,u,f,o,n,h3,j⟩:=sV m;exact⟨i+1,u,f,by simpa using o,n,by simpa using h3,j⟩
  unfold GV at h;split at h
  ·rename_i g;rcases Zb.mp h with h | h
   ·exact⟨0,v,F,rfl,g,rfl,h⟩
   ·exact go h
  ·exact go h
def aj:Ho G X [] aA:=PA.weak fJ λZ H Q d=>by
 obtain⟨L,U,l,s,e,k⟩:=d;cases (show O ([]:V2)=O l from e);exact k [] H [] (aO.refl _) .nil ⟨λi v F h=>by simp at h,by simp[GV]⟩
def aa(B:PV G X e ca)(w:Ho G X es cs)(t:K0 e es X:=by rfl):Ho G X (e :: es) (af ca cs):=PA.weak (d5 B w t) λZ H Q A=>by
 obtain⟨L,U,l,s,e,k⟩:=A;unfold af at e;obtain⟨x,I,e⟩:=Zy.mp e;obtain⟨j,D,e⟩:=Zy.mp e;cases e;refine⟨L,U,x.1,x.2,s,I,λv P F e1 r1 f1=>⟨L,U,j,s.same e1,D,λm M N e2 r2 f2=>k (v :: m) M (F :: N) (e1.trans e2) (.cons (r1.same e2) r2) ⟨λi u h g d=>?_,?_⟩⟩⟩
 ·cases i with
  |zero =>
   cases (show O x=O u from g);cases (show O F=O h from d);exact f1
  |succ i=>exact(f2.each i u h (by simpa using g) (by simpa using d)).back e1
 ·unfold GV;split
  ·rename_i r;rw[r]at f1;refine ZG.mpr ⟨f1.1,f2.nd,λy o z n q=>?_⟩;subst q;obtain⟨i,u,h,g,d,h3,C⟩:=sV n;have f:=f2.each i u h g h3;rw[d]at f;exact FG.xb (r1.F0 y o) (f.2 y C)
  ·exact f2.nd
theorem jh:∀{l:V2},bQ l=.fr->∀v∈l,v.1=.fr
 |[],_,v,h=>by simp at h
 | (m,t) :: r,e,v,h=>by
  have d:m.join (bQ r)=.fr:=e;have g:m=.fr:=by
   revert d;cases m<;>cases bQ r<;>simp[Md.join]
  have f:bQ r=.fr:=by
   revert d;cases m<;>cases bQ r<;>simp[Md.join]
  rcases Zq.mp h with rfl | h
  ·exact g
  ·exact jh f v h
theorem iX:∀{l:V2},bQ l ≠ .bo->∀v∈l,v.1 ≠ .bo
 |[],_,v,h=>by simp at h
 | (m,t) :: r,e,v,h=>by
  have d:m.join (bQ r) ≠ .bo:=e;have g:m ≠ .bo:=by
   revert d;cases m<;>cases bQ r<;>simp[Md.join]
  have f:bQ r ≠ .bo:=by
   revert d;cases m<;>cases bQ r<;>simp[Md.join]
  rcases Zq.mp h with rfl | h
  ·exact g
  ·exact iX f v h
theorem se:∀{l:V2}{d:Yd},l.length=d.length->(∀v∈l,v.1=.fr)->GV l d=d.flatten
 |[],[],_,_=>rfl
 |[],_ :: _,h,_=>by simp at h
 |_ :: _,[],h,_=>by simp at h
 |v :: l,F :: d,h,q=>by
  unfold GV;rw[q v Zx,se (by simpa using h) λu f=>q u (Zw _ f)];rfl
def fS{x:GM}{d:Yd}(h:x∈d.flatten):∃(i:Nat)(F:X4),d[i]?=O F/\x∈F:=by
 obtain⟨F,j,f⟩:=W2.mp h;obtain⟨i,g⟩:=List.mem_iff_getElem?.mp j;exact⟨i,F,g,f⟩
def Ph.join{L:FH}{U:VS.Env}{H:Hp}{l:V2}{j:Yd}(f:Ph L U H l j)(n:l.length=j.length):Fp L U H (bQ l) j.flatten:=by
 have at':∀x∈j.flatten,∃v F,v∈l/\x∈F/\Fp L U H v.1 F:=λx d=>by
  obtain⟨i,F,m,g⟩:=fS d;have:i<l.length:=by
   have:=(ZW.mp m).1;lia
  exact⟨l[i],F,Xs this,g,f.each i _ F (Zi this) m⟩
 cases e:bQ l with
 |fr =>
  have al:=jh e;refine⟨by rw[← se n al];exact f.nd,λx d=>?_⟩;obtain⟨v,F,h,g,q⟩:=at' x d;rw[al v h]at q;exact q.2 x g
 |pu =>
  have al:=iX (l:=l) (by rw[e];decide);intro x d;obtain⟨v,F,h,g,q⟩:=at' x d;exact Fp.pu (al v h) q x g
 |bo =>
  intro x d;obtain⟨v,F,h,g,q⟩:=at' x d;exact q.bo x g
structure Args(G:Gx)(L:FH)(U:VS.Env)(H0 H:Hp)(l:V2)(vs:List V)(Fs:Yd):Prop where
 same:aO H0 H
 rp:xh G H vs (trees l) Fs
 fp:Ph L U H0 l Fs
theorem Args.len{L:FH}{U:VS.Env}{g H:Hp}{l:V2}{f:List V}{d:Yd}(A:Args G L U g H l f d):l.length=d.length:=by
 have:=A.rp.len.2;simp[trees]at this;exact Eq.symm this
def fE(G:Gx)(r:List V->Hp->VK->Prop)(f:V2->V3):Prop:=∀(L:FH)(U:VS.Env)(h H:Hp)(l:V2)(g:List V)(i:Yd)(m:Md)(t:T)(Q:VK),Args G L U h H l g i->f l=O (m,t) →
 (∀v d F,aO H d->Rp G d v t F->Fp L U h m F->Q v d)->r g H Q
def Bd{r:List V->Hp->VK->Prop}{f:V2->V3}(h:fE G r f){Z:td.St}{H:Hp}{Q:VK}{U:VS.Env}{L:FH}{l:V2}{m:Md}{t:T}(s:SR G L U Z H)(i:cs U=O l)(e:f l=O (m,t))(k:∀v d F,aO H d->Rp G d v t F->Fp L U H m F->Q v d):Nh G cs Z H λg n=>r g n Q :=
 ⟨L,U,l,s,i,λg d o e1 r1 f1=>h L U H d l g o m t Q ⟨e1,r1,f1⟩ e λv j F e2 r2 f2=>k v j F (e1.trans e2) r2 f2⟩
def i4{r:List V->Hp->VK->Prop}{f:V2->V3}{d:String}{x:Str}(q:dI X (.builtin d) r)(g:fE G r f)(o:Gl X x)(n:X.mg x=Y)(h:bootBuiltins x=O (.builtin d))(u:Ho G X (e :: es) cs)(j:x ≠ "__name__" := by decide)(w:K2 x:=by decide)(he:K0 e es X:=by rfl)(hpl:K1 pos es X:=by rfl):PV G X (.Call (.Name x p) (e :: es) [] pos) (eN f cs) :=
 PE.weak (oZ q o n h u j w he hpl) λZ H Q i=>by
  obtain⟨L,U,m,t,s,e,k⟩:=i;unfold eN at e;obtain⟨l,v,e⟩:=Zy.mp e;exact Bd g s v e k
def jW{r:List V->Hp->VK->Prop}{f:V2->V3}{Ty:String}{x:Str}(o:dI X (.type Ty) r)(d:fE G r f)(n:Gl X x)(j:X.mg x=Y)(g:bootBuiltins x=O (.type Ty))(q:Ho G X (e :: es) cs)(i:x ≠ "__name__" := by decide)(v:K2 x:=by decide)(he:K0 e es X:=by rfl)(hpl:K1 pos es X:=by rfl):PV G X (.Call (.Name x p) (e :: es) [] pos) (eN f cs) :=
 PE.weak (uJ o n j g q i v he hpl) λZ H Q h=>by
  obtain⟨L,U,m,t,s,e,k⟩:=h;unfold eN at e;obtain⟨l,u,e⟩:=Zy.mp e;exact Bd d s u e k
def fI(h:Ho G X es cs):PV G X (.List es pos) (gP cs):=PE.weak (nO h) λZ H Q f=>by
 obtain⟨L,U,m,t,s,e,k⟩:=f;unfold gP at e;obtain⟨l,i,e⟩:=Zy.mp e;refine⟨L,U,l,s,i,λd n o e1 r1 f1=>?_⟩;have A:Args G L U H n l d o:=⟨e1,r1,f1⟩
 obtain⟨_,g,_⟩:=nu e;refine⟨by rw[r1.len.1,← gq];exact g,iy e1 e r1 (f1.join A.len) λv j F e2 r2 f2=>k v j F (e1.trans e2) r2 f2⟩
def oo{x1}(h:Ho G X es cs):PV G X (.Tuple es x1 pos) (rL cs):=PE.weak (CS h) λZ H Q d=>by
 obtain⟨L,U,m,t,s,e,k⟩:=d;unfold rL at e;obtain⟨l,n,e⟩:=Zy.mp e;refine⟨L,U,l,s,n,λf g i e1 r1 f1=>?_⟩;have A:Args G L U H g l f i:=⟨e1,r1,f1⟩
 unfold qb at e;split at e
 ·rename_i j;cases e;refine⟨by rw[r1.len.1,← gq,trees,Zv];exact j,λq d=>?_⟩;have r2:Rp G (upd g q (.tup f)) (.ref q) (.tup (trees l)) i.flatten:=.tup aw (r1.same (bT d));exact k _ _ _ (e1.trans (bT d)) r2 (Fp.up (f1.join A.len) r2)
 ·cases e
def zU{H:Hp}{v:V}{t:T}{F:X4}{k:Bool}(r:Rp G H v t F)(h:Ks t=O k):BV G.K v H k:=by
 cases r with
 |non=>cases h;rfl
 |bl b=>cases h;rfl
 |int i=>cases h;rfl
 |str s j =>
  cases h;refine⟨by rw[fq,← gq];exact j.1,?_⟩;rw[fq];cases s with
  |nil=>rfl
  |cons a r =>
   have:((List.length (a :: r):Int) != 0)=J:=by simp;lia
   rw[this];rfl
 |scr d=>cases h
 |tup d q =>
  cases h;refine .inr (.inl ⟨_,GA.of d,?_⟩);have:=q.len.1;rename_i f g _;cases f<;>cases g<;>simp_all
 |lst d q =>
  cases h;refine .inl ⟨_,FF.of d,?_⟩;have:=q.len.1;rename_i f g _;cases f<;>cases g<;>simp_all
 |dct d j q =>
  cases h;refine .inr (.inr ⟨_,d,?_⟩);have:=q.len.1;rename_i l f g _;cases l<;>cases f<;>cases g<;>simp_all
 |dctT d j q=>cases h
 |dctN d j n q=>cases h
 |dctZ _ _ _=>cases h
 |exc _ _=>cases h
 |ins _ _ _ _=>cases h
 |mk _ _=>cases h
def yQ(h:PV G X a ca)(f:X.K=G.K:=by rfl)(d:∀whole,isTrue a X.env whole=(do let v ← whole;standAt a.pos;holding [v] (truthy v)):=by intro _;rfl):IH G X a ca :=
 PT.weak (yj h d) λZ H Q ⟨L,U,m,r,b,s,e,g,k⟩=>⟨L,U,m,r,s,e,λv i F e1 r1 f1=>⟨b,by rw[f];exact zU r1 g,k i e1⟩⟩
def Kn(G:Gx)(X:Cx)(e:Expr)(c:Ex):Prop:=PW X e (tT G c)
def PW.weak{X:Cx}{e:Expr}{t f:TT}(h:PW X e t)(w:∀Z H Q,f Z H Q->t Z H Q):PW X e f:=λg d s Z H Q I q=>h g d s Z H Q I (w Z H Q q)
def Kn.OO(h:Kn G X e ca):IH G X e ca:=PW.pt h
variable{rest:List Expr}
def oT{U:VS.Env}{m:Md}{r:T}(e:iV ca cb U=O (m,r)):(∃n,ca U=O (n,.bl J)/\cb U=O (m,r))\/(∃n,ca U=O (n,.bl S)/\m=.fr/\r=.bl S):=by
 unfold iV at e;obtain⟨⟨n,x⟩,d,e⟩:=Zy.mp e;split at e
 ·rename_i h;cases (show x=.bl J from h);exact .inl ⟨n,d,e⟩
 ·rename_i h;cases (show x=.bl S from h);cases e;exact .inr ⟨n,d,rfl,rfl⟩
 ·cases e
def zi{U:VS.Env}{m:Md}{r:T}(e:M3 ca cb U=O (m,r)):(∃n,ca U=O (n,.bl S)/\cb U=O (m,r))\/(∃n,ca U=O (n,.bl J)/\m=.fr/\r=.bl J):=by
 unfold M3 at e;obtain⟨⟨n,x⟩,d,e⟩:=Zy.mp e;split at e
 ·rename_i h;cases (show x=.bl J from h);cases e;exact .inr ⟨n,d,rfl,rfl⟩
 ·rename_i h;cases (show x=.bl S from h);exact .inl ⟨n,d,e⟩
 ·cases e
def kB(j:IH G X a ca)(i:Kn G X (.BoolOp .And (b :: rest) pos) cb):Kn G X (.BoolOp .And (a :: b :: rest) pos) (iV ca cb) :=
 PW.weak (Ct j i) λZ H Q h=>by
  obtain⟨L,U,m,r,k,s,e,f,q⟩:=h;rcases oT e with⟨n,d,e2⟩ | ⟨n,d,rfl,rfl⟩
  ·refine⟨L,U,n,_,J,s,d,rfl,λg e1=>?_⟩;refine xy ?_;exact⟨L,U,m,r,k,s.same e1,e2,f,λl e2=>q l (e1.trans e2)⟩
  ·refine⟨L,U,n,_,S,s,d,rfl,λg e1=>?_⟩;refine xC ?_;cases f;exact q g e1
def B3(j:IH G X a ca)(i:Kn G X (.BoolOp .Or (b :: rest) pos) cb):Kn G X (.BoolOp .Or (a :: b :: rest) pos) (M3 ca cb) :=
 PW.weak (De j i) λZ H Q h=>by
  obtain⟨L,U,m,r,k,s,e,f,q⟩:=h;rcases zi e with⟨n,d,e2⟩ | ⟨n,d,rfl,rfl⟩
  ·refine⟨L,U,n,_,S,s,d,rfl,λg e1=>?_⟩;refine xC ?_;exact⟨L,U,m,r,k,s.same e1,e2,f,λl e2=>q l (e1.trans e2)⟩
  ·refine⟨L,U,n,_,J,s,d,rfl,λg e1=>?_⟩;refine xy ?_;cases f;exact q g e1
def pd{U:VS.Env}{m:Md}{r:T}(e:pW ca U=O (m,r)):∃n b,ca U=O (n,.bl b)/\m=.fr/\r=.bl (!b):=by
 unfold pW at e;obtain⟨⟨n,x⟩,d,e⟩:=Zy.mp e;split at e
 ·rename_i b h;cases (show x=.bl b from h);cases e;exact⟨n,b,d,rfl,rfl⟩
 ·cases e
def zz(f:IH G X a ca):IH G X (.UnaryOp .Not a pos) (pW ca):=PT.weak (BK f) λZ H Q d=>by
 obtain⟨L,U,m,r,k,s,e,g,q⟩:=d;obtain⟨n,b,h,rfl,rfl⟩:=pd e;cases g;exact⟨L,U,n,_,b,s,h,rfl,λi e1=>q i e1⟩
def BI(f:PV G X a ca):PV G X (.UnaryOp .Not a pos) (pW ca):=PE.weak (Cm f) λZ H Q d=>by
 obtain⟨L,U,m,r,s,e,q⟩:=d;obtain⟨n,b,g,rfl,rfl⟩:=pd e;exact⟨L,U,n,_,s,g,λv h F e1 r1 f1=>⟨b,r1.GD,q _ h _ e1 (.bl _) Fp.nil⟩⟩
def vF{op}(h:PV G X a ca):PV G X (.BoolOp op [a] pos) ca:=BS h
def qX(i:PV G X a ca)(h:PV G X (.BoolOp .And (b :: rest) pos) cb):PV G X (.BoolOp .And (a :: b :: rest) pos) (iV ca cb) :=
 PE.weak (BM i h) λZ H Q g=>by
  obtain⟨L,U,m,r,s,e,q⟩:=g;rcases oT e with⟨n,d,e2⟩ | ⟨n,d,rfl,rfl⟩
  ·refine⟨L,U,n,_,s,d,λv f F e1 r1 f1=>⟨J,r1.GD,?_⟩⟩;refine xy ?_;exact⟨L,U,m,r,s.same e1,e2,λv j F e2 r2 f2=>q v j F (e1.trans e2) r2 (f2.back e1)⟩
  ·refine⟨L,U,n,_,s,d,λv f F e1 r1 f1=>⟨S,r1.GD,?_⟩⟩;refine xC ?_;exact q _ f _ e1 (.bl _) Fp.nil
def DM(g:IH G X c cc)(i:PV G X a ca)(h:PV G X b cb):PV G X (.IfExp c a b pos) (Lv cc ca cb) :=
 PE.weak (v9 g i h) λZ H Q f=>by
  obtain⟨L,U,m,r,s,e,q⟩:=f;unfold Lv at e;obtain⟨⟨n,x⟩,l,e⟩:=Zy.mp e;obtain⟨k,j,e⟩:=Zy.mp e;refine⟨L,U,n,x,k,s,l,j,λo e1=>?_⟩;cases k with
  |true =>
   rw[Zn M]at e;refine xy ?_;exact⟨L,U,m,r,s.same e1,e,λv d F e2 r2 f2=>q v d F (e1.trans e2) r2 (f2.back e1)⟩
  |false =>
   rw[Zj Za]at e;refine xC ?_;exact⟨L,U,m,r,s.same e1,e,λv d F e2 r2 f2=>q v d F (e1.trans e2) r2 (f2.back e1)⟩
def tM{H:Hp}{v:V}{t:T}{F:X4}(r:Rp G H v t F):decide (v=.non)=isN t:=by
 cases r<;>simp[isN]
def Cn{j pos'}(g:PV G X a ca):PV G X (.Compare a [.Is] [.Constant .none j pos'] pos) (mz ca):=PE.weak (Bv (wa g)) λZ H Q f=>by
 obtain⟨L,U,m,r,s,e,q⟩:=f;unfold mz at e;obtain⟨⟨n,x⟩,h,e⟩:=Zy.mp e;cases e;refine⟨L,U,n,x,s,h,λv d F e1 r1 f1=>?_⟩;show Q (.bl (decide (v=.non))) d;rw[tM r1];exact q _ d _ e1 (.bl _) Fp.nil
def Dz{t:TE}{c:Ex}{Z:td.St}{H:Hp}{Q:Bool->Hp->Prop}(h:tT G c Z H Q)(f:∀U m r,c U=O (m,r)->∃b,r=.bl b)(w:∀Q,tE G c Z H Q->t Z H Q):tB t Z H Q:=by
 obtain⟨L,U,m,r,b,s,e,d,k⟩:=h;refine w _ ⟨L,U,m,r,s,e,λv j F e1 r1 f1=>?_⟩;obtain⟨i,g⟩:=f U m r e;rw[g]at d r1;cases (show O i=O b from d);exact⟨_,r1.GD,k j e1⟩
end
section
variable{G:Gx}{X:Cx}{a b c e:Expr}{es:List Expr}{ca cb cc:Ex}{cs:Gd}{pos p:Pos}
def xh.one{H:Hp}{vs:List V}{t:T}{Fs:Yd}(r:xh G H vs [t] Fs):∃v F,vs=[v]/\Fs=[F]/\Rp G H v t F:=by
 cases r with
 |cons r q=>cases q;exact⟨_,_,rfl,rfl,r⟩
def xh.two{H:Hp}{g:List V}{t h:T}{i:Yd}(r:xh G H g [t,h] i):∃v d F f,g=[v,d]/\i=[F,f]/\Rp G H v t F/\Rp G H d h f:=by
 cases r with
 |cons r q =>
  obtain⟨d,f,rfl,rfl,j⟩:=q.one;exact⟨_,_,_,_,rfl,rfl,r,j⟩
def EC(K:Xd):List V->Hp->VK->Prop:=λd H Q=>(∃x n,d=[x]/\D9 K x H n/\Q (.int n) H)\/(∃a f,d=[V.ref a]/\H a=O (.dK f)/\Q (.int f.length) H)
def rj:dI X (.builtin "len") (λf H Q=>∃a d,f=[V.ref a]/\H a=O (.dK d)/\Q (.int d.length) H):=by
 intro g s Z H f m Q I r h;obtain⟨a,d,rfl,j,q⟩:=h;obtain⟨u,rfl,i⟩:=vals1 r;cases i;exact DR I (.inl j) λt n l=>⟨.int d.length,H,l,⟨t,rfl⟩,q⟩
def u4:dI X (.builtin "len") (EC X.K):=vS.or rj
def BW:fE G (EC G.K) dh:=by
 intro L U C H l j o m t Q A e k;refine td.gg λB f=>?_;unfold dh at e;split at e
 ·rename_i x;obtain⟨y,x⟩:=x;obtain⟨n,d,e⟩:=Zm.mp e;cases e;obtain⟨v,F,rfl,rfl,r⟩:=(show xh G H j [x] o from A.rp).one;have fin:Q (.int (n:Int)) H:=bC k (.int _);cases r with
  |non=>cases d
  |bl b=>cases d
  |int i=>cases d
  |str s g =>
   cases d;refine f ?_;exact .inl ⟨_,_,rfl,⟨by rw[fq,← gq];exact g.1,rfl⟩,by rw[fq];exact fin⟩
  |scr h =>
   cases d;refine f ?_;refine .inl ⟨_,_,rfl,.inl ⟨_,h.seq,rfl⟩,?_⟩;rw[Zv];exact fin
  |tup h q =>
   cases d;refine f ?_;refine .inl ⟨_,_,rfl,.inr ⟨_,GA.of h,rfl⟩,?_⟩;rw[q.len.1];exact fin
  |lst h q =>
   cases d;refine f ?_;refine .inl ⟨_,_,rfl,.inl ⟨_,FF.of h,rfl⟩,?_⟩;rw[q.len.1];exact fin
  |dct h g q =>
   cases d;refine f ?_;refine .inr ⟨_,_,rfl,h,?_⟩;rename_i z u w _;have e1:=q.len.1;rw[Yx,Zv]at fin;rw[Yx,e1];exact fin
  |dctT h g q=>cases d
  |dctN h g n q=>cases d
  |dctZ _ _ _=>cases d
  |exc _ _=>cases d
  |ins _ _ _ _=>cases d
  |mk _ _=>cases d
 ·cases e
def Ah:fE G (λd H Q=>∃i j,d=[.int i,.int j]/\Q (.int (if j<i then j else i)) H) pC:=by
 intro L U o H l f h m t Q A e k;unfold pC at e;split at e
 ·rename_i _ i _ j;cases e;obtain⟨v,n,F,q,rfl,rfl,r,g⟩:=(show xh G H f [.int i,.int j] h from A.rp).two;exact⟨i,j,by rw[r.int_inv,g.int_inv],bC k (.int _)⟩
 ·cases e
def Bc(K:Xd):List V->Hp->VK->Prop:=λf H Q=>∃p d,f=[.ref p]/\(FF K H p d\/GA K H p d)/\∀l,H l=Y->Q (.ref l) (upd H l (.lst d))
def sL:fE G (Bc G.K) AZ:=by
 intro L U r H l j n m t Q A e k;unfold AZ at e;split at e
 ·rename_i o x;obtain⟨v,F,rfl,rfl,g⟩:=(show xh G H j [.lst x] n from A.rp).one;obtain⟨a,d,q,rfl,rfl,i,h⟩:=g.lst_inv;have f:=A.fp.each 0 _ _ M M;exact⟨a,d,rfl,.inl (FF.of i),iy A.same e h (f.sub (YJ _ _)) k⟩
 ·rename_i o x;obtain⟨v,F,rfl,rfl,g⟩:=(show xh G H j [.tup x] n from A.rp).one;obtain⟨a,d,q,rfl,rfl,i,h⟩:=g.GK;have f:=A.fp.each 0 _ _ M M;exact⟨a,d,rfl,.inr (GA.of i),iy A.same e h f k⟩
 ·cases e
def tO(G:Gx)(c:Option Ex):TO:=λZ H Q=>∃L U o,SR G L U Z H/\j4 c U=O o/\∀d,aO H d->Q o d
def MH(G:Gx)(X:Cx)(e:Option Expr)(c:Option Ex):Prop:=PO X e (tO G c)
def PO.weak{X:Cx}{e:Option Expr}{t f:TO}(h:PO X e t)(w:∀Z H Q,f Z H Q->t Z H Q):PO X e f:=λd s Z H Q I q=>h d s Z H Q I (w Z H Q q)
def dk:MH G X Y Y:=PO.weak zp λZ H Q d=>by
 obtain⟨L,U,o,s,e,k⟩:=d;cases (show O (Y:Option Int)=O o from e);exact k H (aO.refl _)
def bG(h:PV G X a ca):MH G X (O a) (O ca):=PO.weak (Af h) λZ H Q f=>by
 obtain⟨L,U,o,s,e,k⟩:=f;obtain⟨⟨m,y⟩,g,e⟩:=Zy.mp (show (ca U).bind (λy=>(int? y.2).map O)=O o from e);obtain⟨i,d,e⟩:=Zm.mp e;cases e;refine⟨L,U,m,y,s,g,λv l F e1 r1 f1=>?_⟩;cases y with
 |int j =>
  cases d;exact⟨_,r1.int_inv,k l e1⟩
 |_=>cases d
def jE{α:Type}(l:List α)(d f:Option Int):cut l d f=(l.drop (HT.Gg l.length 0 d)).take (HT.Gg l.length l.length f-HT.Gg l.length 0 d):=by
 unfold cut;cases d<;>cases f<;>rfl
def wo(d f:Option Int)(n:Nat):Builtin.Str.strSliceIndices d f 1 n=Builtin.Str.strSliceIndices (O ((min (HT.Gg n 0 d) n:Nat):Int)) (O ((min (HT.Gg n n f) n:Nat):Int)) 1 n:=by
 have e1:∀k:Nat,¬((k:Int)<0):=λk=>by lia
 unfold Builtin.Str.strSliceIndices;simp only[show (1:Int) > 0 by decide,if_true,e1,if_false];congr 1
 ·cases d with
  |none=>simp only[HT.Gg];lia
  |some i =>
   simp only[HT.Gg];by_cases h:i<0
   ·simp only[h,if_true];lia
   ·simp only[h,if_false];lia
 ·cases f with
  |none=>simp only[HT.Gg];lia
  |some i =>
   simp only[HT.Gg];by_cases h:i<0
   ·simp only[h,if_true];lia
   ·simp only[h,if_false];lia
def mq(s:Tx)(d f:Option Int):PySem.StrLaws.sliceText (sx s) d f=sx (cut s d f):=by
 have key:PySem.StrLaws.sliceText (sx s) d f=PySem.StrLaws.sliceText (sx s) (O ((min (HT.Gg s.length 0 d) s.length:Nat):Int)) (O ((min (HT.Gg s.length s.length f) s.length:Nat):Int)):=by
  unfold PySem.StrLaws.sliceText;rw[fq,wo]
 rw[key];have hd:∀a:Nat,s.drop (min a s.length)=s.drop a:=λa=>by
  by_cases h:a<=s.length
  ·rw[Ym h]
  ·rw[WA (by exact XM h),Xm (Zo _),Xm (by exact XM h)]
 by_cases h:min (HT.Gg s.length 0 d) s.length<=min (HT.Gg s.length s.length f) s.length
 ·rw[PySem.StrLaws.sliceText_nat (sx s) h (by rw[fq];exact Nat.min_le_right _ _),jE];show (⟨_⟩:Str)=⟨_⟩;congr 2;show ((sx s).cps.toList.drop _).take _=_;have:(sx s).cps.toList=s:=rfl;rw[this,hd];by_cases g:HT.Gg s.length 0 d<=s.length
  ·rw[Ym g];by_cases h3:HT.Gg s.length s.length f<=s.length
   ·rw[Ym h3]
   ·rw[WA (by exact XM h3),Jd (by rw[ZE];exact Zo _),Jd (by rw[ZE];lia)]
  ·rw[Xm (by exact XM g)];simp
 ·have i:cut s d f=[]:=by
   rw[jE];have:HT.Gg s.length s.length f-HT.Gg s.length 0 d=0:=by omega
   rw[this,List.take_zero]
  rw[i];unfold PySem.StrLaws.sliceText;have e2:Builtin.Str.strSliceIndices (O ((min (HT.Gg s.length 0 d) s.length:Nat):Int)) (O ((min (HT.Gg s.length s.length f) s.length:Nat):Int)) 1 (sx s).length=[]:=by
   have e1:∀k:Nat,¬((k:Int)<0):=λk=>by lia
   unfold Builtin.Str.strSliceIndices sliceRange;simp only[show (1:Int) > 0 by decide,if_true,e1,if_false,fq];rw[Zj (by omega)];rfl
  rw[e2];have:¬((1:Int)==1&&([]:Vi).length==(sx s).length)=J:=by
   rw[fq];simp;lia
  rw[Zj this];rfl
def DA:V->Option Int->Option Int->Hp->VK->Prop:=λx lo d H Q=>∃z,x=.str z/\z.length<=FS/\Q (.str (PySem.StrLaws.sliceText z lo d)) H
def part_of{v:IR}{o:Option Int}(h:IsPart v o):∃q:Option (Int×Tok),v=partValue q/\o=q.map (·.1):=by
 cases h with
 |none=>exact⟨Y,rfl,rfl⟩
 |int i t=>exact⟨O (i,t),rfl,rfl⟩
def oz{α β:Type}(f:α->Option β)(l:List α):(l.filterMap f).length<=l.length:=List.length_filterMap_le f l
def zF(d f:Option Int)(n:Nat):(Builtin.Str.strSliceIndices d f 1 n).length<=n:=by
 rw[wo];by_cases h:min (HT.Gg n 0 d) n<=min (HT.Gg n n f) n
 ·rw[PySem.StrLaws.strSliceIndices_plain h (by exact Nat.min_le_right _ _),Zv,IA];lia
 ·have e1:∀k:Nat,¬((k:Int)<0):=λk=>by lia
  unfold Builtin.Str.strSliceIndices sliceRange;simp only[show (1:Int) > 0 by decide,if_true,e1,if_false];rw[Zj (by omega)];simp
def BQ:Lz X DA:=by
 intro f s Z H x v o n lo w r Q I g m i pu h;obtain⟨z,rfl,j,q⟩:=h;obtain⟨t,rfl⟩:=g;obtain⟨l,rfl,rfl⟩:=part_of i;obtain⟨u,rfl,rfl⟩:=part_of pu;refine⟨"str",_,F.slot_str_getitem.lookup,typeIs_str s z t,wpAny_getItem_str_slice (l:=l) (u:=u) (st:=Y) m M ?_⟩;unfold sliceMade;split
 ·rename_i d;refine⟨.str z,H,I,⟨t,rfl⟩,?_⟩;have e:PySem.StrLaws.sliceText z (l.map (·.1)) (u.map (·.1))=z:=by
   unfold PySem.StrLaws.sliceText;exact Zn d
  rw[e]at q;exact q
 ·rename_i d;refine⟨ZU ?_ j,.str _,H,I.tok _,⟨_,rfl⟩,?_⟩
  ·show (List.filterMap _ _).toArray.size<=_;rw[Zd];exact ZU (oz _ _) (zF _ _ _)
  ·have e:PySem.StrLaws.sliceText z (l.map (·.1)) (u.map (·.1))=⟨((slicePicked z l u Y).filterMap (z.cps[·]?)).toArray⟩:=by
    unfold PySem.StrLaws.sliceText;exact Zj d
   rw[e]at q;exact q
def VB(K:Xd):V->Option Int->Option Int->Hp->VK->Prop:=λx lo d H Q=>DA x lo d H Q\/Dh K x lo d H Q
def Fl:Lz X (VB X.K):=BQ.or Aq
def iA{α:Type}(l:List α)(d f:Option Int):(cut l d f).length<=l.length:=by
 rw[jE,ZM,ZE];lia
theorem xh.cut{H:Hp}{g:List V}{i:V4}{j:Yd}(r:xh G H g i j)(d f:Option Int):xh G H (uB g d f) (VS.cut i d f) (VS.cut j d f):=by
 have h:=r.len;rw[jE,jE,h.2];unfold uB;rw[h.1];exact(r.drop _).take _
def sF{α:Type}(l:List α)(d f:Option Int):(VS.cut l d f).Sublist l:=by
 rw[jE];exact(List.take_sublist _ _).trans (List.drop_sublist _ _)
def yg{F G:Yd}(h:F.Sublist G):F.flatten.Sublist G.flatten:=by
 induction h with
 |slnil=>exact WJ _
 |cons a _ d=>rw[Zf];exact d.trans (List.sublist_append_right _ _)
 |cons_cons a _ d=>rw[Zf,Zf];exact(WJ _).append d
def cJ{j n:Option Expr}{u w:Option Ex}{I:Pos}(ha:PV G X a ca)(d:MH G X j u)(R:MH G X n w)(hK:X.K=G.K:=by rfl):PV G X (.Subscript a (.Slice j n Y I) pos) (Hk ca u w) :=
 PE.weak (xr Fl ha d R) λZ H Q P=>by
  obtain⟨L,U,m,t,s,e,k⟩:=P;unfold Hk at e;obtain⟨⟨M,x⟩,ea,r⟩:=Zy.mp e;obtain⟨l,el,y⟩:=Zy.mp r;obtain⟨h,eh,f⟩:=Zy.mp y;clear e r y;refine⟨L,U,M,x,s,ea,λv H1 F e1 r1 f1=>⟨L,U,l,s.same e1,el,λH2 e2=>⟨L,U,h,(s.same e1).same e2,eh,λA o=>?_⟩⟩⟩;have g:aO H A:=(e1.trans e2).trans o;have i:=(r1.same e2).same o;unfold Tj at f;split at f
  ·rename_i N z q;cases q;cases f;obtain⟨rfl,d⟩:=i.str_inv;refine .inl ⟨_,rfl,by rw[fq,← gq];exact d.1,?_⟩;rw[mq];exact k _ A _ g (.str _ ⟨ZU (iA _ _ _) d.1,λc W=>d.2 c ((sF _ _ _).subset W)⟩) Fp.nil
  ·rename_i N z q;cases q;obtain⟨a',B,Fs,rfl,rfl,Gq,C⟩:=i.lst_inv;refine .inr ⟨a',B,rfl,by rw[hK];exact FF.of Gq,iy g f (C.cut l h) ((f1.sub (YJ _ _)).sub (yg (sF _ _ _))) λv H4 F e5 D f4=>k v H4 F (g.trans e5) D f4⟩
  ·cases f
def JJ:Ty->String
 |.int => "int"
 |.str => "str"
 |.bool => "bool"
 |.list => "list"
 |.tuple => "tuple"
 |.dict => "dict"
def VC(K:Xd):List V->Hp->VK->Prop:=λd H Q=>∃x c t b,d=[x,.ty c]/\GP K H x t/\PySem.W.kitOne K t (.type c)=O b/\Q (.bl b) H
def yU:dI X (.builtin "isinstance") (VC X.K):=by
 intro d s Z H f i Q I r h;obtain⟨x,c,t,b,rfl,ty,e,q⟩:=h;obtain⟨u,g,rfl,r1,r2⟩:=vals2 r;cases r2;exact ua I r1 ty e λj=>⟨.bl b,H,I.tok _,rfl,q⟩
def zI(K:Xd)(d:Ty):(PySem.W.kitOne K (.type "NoneType") (.type (JJ d))=O S)/\(PySem.W.kitOne K (.type "bool") (.type (JJ d))=O (oV d (.bl J)))/\(PySem.W.kitOne K (.type "int") (.type (JJ d))=O (oV d (.int 0))) ∧
  (PySem.W.kitOne K (.type "str") (.type (JJ d))=O (oV d (.str [])))/\(PySem.W.kitOne K (.type "list") (.type (JJ d))=O (oV d (.lst [])))/\(PySem.W.kitOne K (.type "tuple") (.type (JJ d))=O (oV d (.tup [])))/\(PySem.W.kitOne K (.type "dict") (.type (JJ d))=O (oV d (.dct 0 []))):=by
 cases d<;>refine⟨?_,?_,?_,?_,?_,?_,?_⟩<;>kernel_rfl
def Eh{H:Hp}{v:V}{t:T}{F:X4}(d:Ty)(r:Rp G H v t F)(h:tN t=J):∃g,GP G.K H v g/\PySem.W.kitOne G.K g (.type (JJ d))=O (oV d t):=by
 obtain⟨k1,k2,k3,k4,k5,k6,k7⟩:=zI G.K d;cases r with
 |non=>exact⟨_,.non,by rw[k1];cases d<;>rfl⟩
 |bl b=>exact⟨_,.bl b,by rw[k2];cases d<;>rfl⟩
 |int i=>exact⟨_,.int i,by rw[k3];cases d<;>rfl⟩
 |str s _=>exact⟨_,.str _,by rw[k4];cases d<;>rfl⟩
 |scr _=>cases h
 |tup f q=>exact⟨_,.tup f,by rw[k6];cases d<;>rfl⟩
 |lst f q=>exact⟨_,.lst f,by rw[k5];cases d<;>rfl⟩
 |dct f l q=>exact⟨_,.dK f,by rw[k7];cases d<;>rfl⟩
 |dctT f l q=>exact⟨_,.dT f,by rw[k7];cases d<;>rfl⟩
 |dctN f l n q=>simp at h
 |dctZ _ _ _=>cases h
 |exc _ _=>cases h
 |ins _ _ _ _=>cases h
 |mk _ _=>cases h
def DI(f:Ty){x:Str}{n d:Pos}(B:PV G X a ca)(A:Gl X "isinstance")(w:X.mg "isinstance" = Y)(N:Gl X x)(P:X.mg x=Y)(q:bootBuiltins x=O (.type (JJ f)))(j:X.K=G.K:=by rfl)(u:x ≠ "__name__" := by decide)(R:K2 x:=by decide)(i:KM [a,.Name x d] X.env=(S,eval a X.env) :: KM [.Name x d] X.env:=by rfl)(G4:KM [.Name x d] X.env=(S,eval (.Name x d) X.env) :: KM [] X.env:=by rfl)(g:(backTo pos (KM [Expr.Name x d] X.env)).any (·.1)=S:=by rfl) :
  PV G X (.Call (.Name "isinstance" n) [a,.Name x d] [] pos) (Mx f ca) :=
 PE.weak (oZ yU A w boot_isinstance (d5 B (d5 (zg (v:=.ty (JJ f)) N P q M u R) fJ G4) i) (by decide) M i g) λZ H Q r=>by
  obtain⟨L,U,m,t,s,e,k⟩:=r;unfold Mx at e;obtain⟨⟨o,y⟩,I,h⟩:=Zy.mp e;split at h
  ·rename_i z;cases h;refine⟨L,U,o,y,s,I,λv W F e1 r1 f1=>?_⟩;obtain⟨l,D,C⟩:=Eh f r1 z;exact⟨v,JJ f,l,_,rfl,by rw[j];exact D,by rw[j];exact C,k _ W _ e1 (.bl _) Fp.nil⟩
  ·cases h
end
section
variable{G:Gx}{X:Cx}{a b c e:Expr}{es:List Expr}{ca cb cc:Ex}{cs:Gd}{pos p:Pos}
theorem sN{H:Hp}:∀{d:List V}{l:V4}{g:Yd}{f:List Tx},xh G H d l g->strs? l=O f->d=f.map λs=>V.str (sx s)
 |_,_,_,_,.nil,e=>by cases e;rfl
 |_,_,_,_,.cons (t:=t) r q,e=>by
  cases t with
  |str s =>
   simp only[strs?]at e;obtain⟨h,e1,e2⟩:=Zm.mp e;subst e2;rw[sN q e1,r.str_inv.1];rfl
  |_=>cases e
end
end VS
end
section
namespace VS
@[simp] def Jv(x y:Val):V3:=match x.2 with
 |.dct 0 l=>if gG y.2 then (bO l y.2).map (sub x.1) else Y
 |_=>aF x y
def flat:T->Bool
 |.non=>J
 |.bl _=>J
 |.int _=>J
 |.str _=>J
 |_=>S
@[simp] def lZ(x y:Val):V3:=match y.2 with
 |.dct 0 l=>if gG x.2 then O (.fr,.bl (bO l x.2).isSome) else Y
 |.lst l=>if flat x.2&&l.all flat then O (.fr,.bl (l.any λy=>eqT y x.2)) else Y
 |.tup l=>if flat x.2&&l.all flat then O (.fr,.bl (l.any λy=>eqT y x.2)) else Y
 |_=>Y
@[simp] def eT(x y:Val):V3:=match lZ x y with
 |some (_,.bl b)=>O (.fr,.bl (!b))
 |_=>Y
noncomputable def pm{α:Type}(f:T->Option (T×α)):List Ky->T->Option (T×α)
 |[],t=>f t
 |.fld k :: r,t=>match t with
  |.obj (c+1) (q :: fs)=>(fs.findIdx? λp=>p.1==k).bind λi=>(fs[i]?).bind λp=>(pm f r p.2).map λz=>(.obj (c+1) (q :: fs.set i (p.1,z.1)),z.2)
  |_=>Y
 |.un :: r,t=>match t with
  |.obj 0 [(0,.bl true),(m,x)]=>(pm f r x).map λz=>(.obj 0 [(0,.bl J),(m,z.1)],z.2)
  |_=>Y
 |.at k :: r,t=>match t with
  |.lst l=>match k with
   |.int i=>(GF l.length i).bind λj=>(l[j]?).bind λx=>(pm f r x).map λz=>(.lst (l.set j z.1),z.2)
   |_=>Y
  |.dct 0 l=>if gG k then (l.findIdx? λp=>eqT p.1 k).bind λi=>(l[i]?).bind λp=>(pm f r p.2).map λz=>(.dct 0 (l.set i (p.1,z.1)),z.2) else Y
  |_=>Y
end VS
end
section
namespace VS
open PySem PySem.Spec PyProof.Rows td
section
variable{G:Gx}{X:Cx}{a b c e:Expr}{es:List Expr}{ca cb cc:Ex}{cs:Gd}{pos p:Pos}
mutual
def Ht:T->PyData
 |.non=>.none
 |.bl b=>.bool b
 |.int i=>.int i
 |.str s=>.str (sx s)
 |.tup l=>.tuple (lG l)
 |.lst l=>.list (lG l)
 |_=>.none
def lG:V4->List PyData
 |[]=>[]
 |t :: r=>Ht t :: lG r
end
def C7{s:Tx}(h:iE s):PyData.strOk (sx s)=J:=by
 unfold PyData.strOk sx;simp only[Array.all_eq_true,decide_eq_true_eq];intro i a;have:s.toArray[i]∈s:=by simp
 have:=h.2 _ this;simpa using this
def wL{s t:Tx}:(sx s==sx t)=(s==t):=by
 rw[Wj,beq_iff_eq,beq_iff_eq];constructor
 ·intro h;have:(sx s).cps=(sx t).cps:=by rw[h]
  simpa[sx] using this
 ·intro h;rw[h]
mutual
theorem nE:∀(n k:Nat)(t u:T),GN n t=J->GN k u=J->PyData.eqv (Ht t) (Ht u)=eqT t u
 |n,k,t,u,b,a=>by
  cases t with
  |scr _=>cases n<;>simp at b
  |dct _ _=>cases n<;>simp at b
  |obj _ _=>cases n<;>simp at b
  |tup l =>
   cases n with
   |zero=>simp at b
   |succ n =>
    cases u with
    |tup r =>
     cases k with
     |zero=>simp at a
     |succ k =>
      simp only[Ht,PyData.eqv,eqT];exact kM n k l r (by simpa using b) (by simpa using a)
    |scr _=>cases k<;>simp at a
    |dct _ _=>cases k<;>simp at a
    |obj _ _=>cases k<;>simp at a
    |_=>simp[Ht,PyData.eqv,eqT]
  |lst l =>
   cases n with
   |zero=>simp at b
   |succ n =>
    cases u with
    |lst r =>
     cases k with
     |zero=>simp at a
     |succ k =>
      simp only[Ht,PyData.eqv,eqT];exact kM n k l r (by simpa using b) (by simpa using a)
    |scr _=>cases k<;>simp at a
    |dct _ _=>cases k<;>simp at a
    |obj _ _=>cases k<;>simp at a
    |_=>simp[Ht,PyData.eqv,eqT]
  |str s =>
   cases u with
   |str r=>simp only[Ht,PyData.eqv,eqT];exact wL
   |scr _=>cases k<;>simp at a
   |dct _ _=>cases k<;>simp at a
   |obj _ _=>cases k<;>simp at a
   |_=>simp[Ht,PyData.eqv,eqT]
  |_ =>
   cases u with
   |scr _=>cases k<;>simp at a
   |dct _ _=>cases k<;>simp at a
   |obj _ _=>cases k<;>simp at a
   |_=>simp[Ht,PyData.eqv,eqT]
theorem kM:∀(n k:Nat)(l r:V4),(∀t∈l,GN n t=J)->(∀t∈r,GN k t=J)->PyData.eqvAll (lG l) (lG r)=iR l r
 |_,_,[],[],_,_=>rfl
 |_,_,[],_ :: _,_,_=>rfl
 |_,_,_ :: _,[],_,_=>rfl
 |n,k,t :: l,u :: r,d,b=>by
  simp only[lG,PyData.eqvAll,iR];rw[nE n k t u (d t Zx) (b u Zx),kM n k l r (λx a=>d x (Zw _ a)) λx a=>b x (Zw _ a)]
end
def Rp.JV{H:Hp}{v:V}{d:V4}{F:X4}(r:Rp G H v (.tup d) F):∃b a e,v=.ref b/\H b=O (.tup a)/\xh G H a d e:=by
 cases r with
 |tup h q=>exact⟨_,_,_,rfl,h,q⟩
def Rp.J2{H:Hp}{v:V}{d:V4}{F:X4}(r:Rp G H v (.lst d) F):∃b a e,v=.ref b/\H b=O (.lst a)/\xh G H a d e:=by
 cases r with
 |lst h q=>exact⟨_,_,_,rfl,h,q⟩
theorem jG{H:Hp}{s:FB}{n:Nat}(f:∀{v:V}{t:T}{F:X4}{u:IR},Rp G H v t F->RelV v u->GN n t=J->∃b,Reads s.heap u (Ht t) b/\(Ht t).canLay0=J/\(Ht t).depth<=n):∀{d:List V}{a:V4}{o:Yd}{e:Ws},xh G H d a o->aT d e->(∀t∈a,GN n t=J) →
  ∃b,ReadsAll s.heap e (lG a) b/\PyData.canLayAll0 (lG a)=J/\PyData.depthAll (lG a)<=n
 |_,_,_,_,.nil,r,_=>by cases r;exact⟨_,.nil,rfl,ZN _⟩
 |_,_,_,_,.cons p q,r,h=>by
  cases r with
  |cons r1 r2 =>
   obtain⟨b,j,i,h3⟩:=f p r1 (h _ Zx);obtain⟨bs,m,l,w⟩:=jG f q r2 λt g=>h t (Zw _ g);exact⟨_,.cons j m,by simp only[lG,PyData.canLayAll0,i,l,Bool.and_self],by simp only[lG,PyData.depthAll];lia⟩
def lH{h:SC}{H:Hp}{v:V}{t:T}{F:X4}{u:IR}{n:Nat}(r:Rp G H v t F)(a:RelV v u)(d:flat t=J):∃e,Reads h u (Ht t) e/\(Ht t).canLay0=J/\(Ht t).depth<=n:=by
 cases r with
 |non=>cases a;exact⟨_,.none,rfl,ZN _⟩
 |bl b=>cases a;exact⟨_,.bool b,rfl,ZN _⟩
 |int i=>obtain⟨t,rfl⟩:=a;exact⟨_,.int i t,rfl,ZN _⟩
 |str s h=>obtain⟨t,rfl⟩:=a;exact⟨_,.str _ t,C7 h,ZN _⟩
 |_=>cases d
def jl{H:Hp}{d:Yf}{Z:td.St}{s:FB}(I:Inv X d Z H s)(n:Nat):∀{v:V}{t:T}{F:X4}{u:IR},Rp G H v t F->RelV v u->GN n t=J->∃p,Reads s.heap u (Ht t) p/\(Ht t).canLay0=J/\(Ht t).depth<=n:=by
 induction n with
 |zero =>
  intro v t F u r a h;refine lH r a ?_;cases t<;>first | rfl | exact h
 |succ n w =>
  intro v t F u r a h;cases t with
  |tup l =>
   obtain⟨b,x,D,rfl,e,q⟩:=Rp.JV r;cases a;obtain⟨A,f,y,C⟩:=I.tuple (GA.of e);obtain⟨p,m,j,h3⟩:=jG w q f (by simpa using h);obtain⟨o,g,i,B,hd⟩:=y;exact⟨_,.tuple g i hd (by simpa using m),j,by simp only[Ht,PyData.depth];exact YO h3⟩
  |lst l =>
   obtain⟨b,x,D,rfl,e,q⟩:=Rp.J2 r;cases a;obtain⟨A,f,z,C⟩:=I.list (FF.of e);obtain⟨p,m,j,h3⟩:=jG w q f (by simpa using h);obtain⟨o,g,i,B,hd⟩:=z.isList;exact⟨_,.list g i hd (by simpa using m),j,by simp only[Ht,PyData.depth];exact YO h3⟩
  |scr _=>simp at h
  |dct _ _=>simp at h
  |obj _ _=>simp at h
  |_=>exact lH r a M
def yE(G:Gx)(a:Bool):R2:=λx y H Q=>∃t u F b,Rp G H x t F/\Rp G H y u b/\GN 60 t=J/\GN 60 u=J/\Q (.bl (if a then !eqT t u else eqT t u)) H
def iB{d:PyData}(h:d.canLay0=J)(a:d.depth<=60):SeqAt.shaped d=J:=by
 unfold SeqAt.shaped;rw[h,Vl];exact ZR (by lia)
def rB(g:X.A.units+64<cLine):OpR X (SB .Eq) (yE G S):=by
 intro a s Z H x y v u Q I f e h;obtain⟨t,w,F,n,r1,r2,d,b,q⟩:=h;obtain⟨m,a1,a2,a3⟩:=jl I 60 r1 f d;obtain⟨bs,l,j,i⟩:=jl I 60 r2 e b;refine eq_dataH a1 l (iB a2 a3) (iB j i) g ⟨.bl _,H,I,rfl,?_⟩;rw[nE 60 60 t w d b];exact q
def Cd(g:X.A.units+64<cLine):OpR X (SB .NotEq) (yE G J):=by
 intro a s Z H x y v u Q I f e h;obtain⟨t,w,F,n,r1,r2,d,b,q⟩:=h;obtain⟨m,a1,a2,a3⟩:=jl I 60 r1 f d;obtain⟨bs,l,j,i⟩:=jl I 60 r2 e b;refine ne_dataH a1 l (iB a2 a3) (iB j i) g ⟨.bl _,H,I,rfl,?_⟩;rw[nE 60 60 t w d b];exact q
def wJ:gU G (yE G S) oEq:=by
 intro L U b H x y u w f d m t Q a e k;unfold oEq at e;split at e
 ·rename_i h;cases e;exact⟨_,_,_,_,a.r1,a.r2,h.1,h.2,bC k (.bl _)⟩
 ·cases e
def C8:gU G (yE G J) LU:=by
 intro L U b H x y u w f d m t Q a e k;unfold LU at e;split at e
 ·rename_i h;cases e;exact⟨_,_,_,_,a.r1,a.r2,h.1,h.2,bC k (.bl _)⟩
 ·cases e
def tells_eq:Tells oEq:=by
 intro x y m t e;unfold oEq at e;split at e<;>first | (cases e;exact⟨_,rfl⟩) | cases e
def wO:Tells LU:=by
 intro x y m t e;unfold LU at e;split at e<;>first | (cases e;exact⟨_,rfl⟩) | cases e
end
structure GG(L:FH)(U:VS.Env)(H:Hp)(L':FH)(U':VS.Env)(H':Hp):Prop where
 keep:∀a o,H a=some o->¬bW L U a->H' a=some o/\¬bW L' U' a
 F0:∀a,H a≠none->H' a≠none
 ow:∀a,bW L' U' a->bW L U a\/H a=none
 pu:∀a,dw L' U' a->dw L U a\/bW L U a\/H a=none
 kept:Kept H H'
theorem GG.refl(L:FH)(U:VS.Env)(H:Hp):GG L U H L U H:=⟨λa o h n=>⟨h,n⟩,λ_ h=>h,λ_ h=>.inl h,λ_ h=>.inl h,Kept.refl H⟩
theorem GG.none{L g:FH}{U d:VS.Env}{H b:Hp}(f:GG L U H g d b){a:GM}(h:b a=Y):H a=Y:=by
 cases e:H a with
 |none=>rfl
 |some o=>exact absurd h (f.F0 a (by rw[e];exact λz=>nomatch z))
theorem GG.trans{L i e:FH}{U d b:VS.Env}{H l j:Hp}(f:GG L U H i d l)(g:GG i d l e b j):GG L U H e b j where
 keep:=λa o h n=>let ⟨p,m⟩:=f.keep a o h n;g.keep a o p m
 F0:=λa h=>g.F0 a (f.F0 a h)
 ow:=λa h=>by
  rcases g.ow a h with h | h
  ·exact f.ow a h
  ·exact .inr (f.none h)
 pu:=λa h=>by
  rcases g.pu a h with h | h | h
  ·exact f.pu a h
  ·rcases f.ow a h with h | h
   ·exact .inr (.inl h)
   ·exact .inr (.inr h)
  ·exact .inr (.inr (f.none h))
 kept:=f.kept.trans g.kept
def GG.same{L:FH}{U:VS.Env}{H b:Hp}(e:aO H b):GG L U H L U b :=
 ⟨λa o h n=>⟨e a o h,n⟩,λa h z=>h (e.free z),λ_ h=>.inl h,λ_ h=>.inl h,Kept.of e⟩
def pU(L:FH)(U:VS.Env)(H:Hp):Md->X4->Prop
 |.fr,F=>F.Nodup/\∀a∈F,H a=Y\/bW L U a
 |_,F=>∀a∈F,H a=Y\/dw L U a\/bW L U a
theorem pU.back{L e:FH}{U d:VS.Env}{H g:Hp}(f:GG L U H e d g){F:X4}:∀{m:Md},pU e d g m F->pU L U H m F
 |.fr,h=>⟨h.1,λa b=>(h.2 a b).elim (λz=>.inl (f.none z)) λz=>(f.ow a z).elim .inr .inl⟩
 |.pu,h=>λa b=>by
  rcases h a b with z | z | z
  ·exact .inl (f.none z)
  ·rcases f.pu a z with z | z | z
   ·exact .inr (.inl z)
   ·exact .inr (.inr z)
   ·exact .inl z
  ·exact(f.ow a z).elim (λz=>.inr (.inr z)) .inl
 |.bo,h=>λa b=>by
  rcases h a b with z | z | z
  ·exact .inl (f.none z)
  ·rcases f.pu a z with z | z | z
   ·exact .inr (.inl z)
   ·exact .inr (.inr z)
   ·exact .inl z
  ·exact(f.ow a z).elim (λz=>.inr (.inr z)) .inl
def Nx(G:Gx)(L:FH)(U:VS.Env)(H:Hp)(d:VS.Env)(k:td.St->Hp->Prop):Prop:=∀e b a,SR G e d b a->GG L U H e d a->k b a
def r9(G:Gx)(L:FH)(U:VS.Env)(H:Hp)(D:Ends):Out->Prop
 |.nx a=>Nx G L U H a D.nx
 |.bk a=>Nx G L U H a D.bk
 |.ct a=>Nx G L U H a D.ct
 |.rt v a=>∀u b F d e,SR G d a e b->GG L U H d a b->Rp G b u v.2 F->pU L U H v.1 F->D.rt u b
def tS(G:Gx)(c:Sx):TS:=λD Z H=>∃L U o,SR G L U Z H/\c U=O o/\r9 G L U H D o
def PSV(G:Gx)(X:Cx)(a:Stmt)(c:Sx):Prop:=PS X a (tS G c)
def ka(G:Gx)(X:Cx)(a:List Stmt)(c:Sx):Prop:=HJ X a (tS G c)
def PS.weak{X:Cx}{e:Stmt}{t b:TS}(h:PS X e t)(w:∀D Z H,b D Z H->t D Z H):PS X e b:=λa s Z H D I q=>h a s Z H D I (w D Z H q)
def HJ.weak{X:Cx}{e:List Stmt}{t b:TS}(h:HJ X e t)(w:∀D Z H,b D Z H->t D Z H):HJ X e b:=λa s Z H D I q=>h a s Z H D I (w D Z H q)
theorem r9.back{G:Gx}{L j:FH}{U i:VS.Env}{H l:Hp}{D:Ends}(f:GG L U H j i l):∀{o:Out},r9 G L U H D o->r9 G j i l D o
 |.nx e,h=>λb a d s g=>h b a d s (f.trans g)
 |.bk e,h=>λb a d s g=>h b a d s (f.trans g)
 |.ct e,h=>λb a d s g=>h b a d s (f.trans g)
 |.rt v e,h=>λu d F b a s g r q=>h u d F b a s (f.trans g) r (q.back f)
section
variable{G:Gx}{X:Cx}{st:Stmt}{Nj:List Stmt}{c c1 c2:Sx}{pos:Pos}{e:Expr}{ce:Ex}
def cV:ka G X [] iu:=HJ.weak zT λD Z H a=>by
 obtain⟨L,U,o,s,e,k⟩:=a;cases (show O (Out.nx U)=O o from e);exact k L Z H s (GG.refl _ _ _)
def ah(i:PSV G X st c1)(h:ka G X Nj c2):ka G X (st :: Nj) (aq c1 c2):=HJ.weak (vD i h) λD Z H g=>by
 obtain⟨L,U,o,s,e,k⟩:=g;unfold aq at e;obtain⟨b,e1,e2⟩:=Zy.mp e;refine⟨L,U,b,s,e1,?_⟩;cases b with
 |nx a=>exact λj l m d f=>⟨j,a,o,d,e2,k.back f⟩
 |rt v a=>cases e2;exact k
 |bk a=>cases e2;exact k
 |ct a=>cases e2;exact k
def d7{t:Expr}{f:Ex}{a b:List Stmt}(i:IH G X t f)(l:ka G X a c1)(j:ka G X b c2):PSV G X (.If t a b pos) (sIf f c1 c2):=PS.weak (D8 i l j) λD Z H h=>by
 obtain⟨L,U,o,s,e,k⟩:=h;unfold sIf at e;obtain⟨⟨m,x⟩,n,e1⟩:=Zy.mp e;obtain⟨g,p,e2⟩:=Zy.mp e1;refine⟨L,U,m,x,g,s,n,p,λq d=>?_⟩;cases g with
 |true =>
  rw[Zn M]at e2;exact xy ⟨L,U,o,s.same d,e2,k.back (GG.same d)⟩
 |false =>
  rw[Zj Za]at e2;exact xC ⟨L,U,o,s.same d,e2,k.back (GG.same d)⟩
theorem Fp.ret{L:FH}{U:VS.Env}{H:Hp}{F:X4}:∀{m:Md},Fp L U H m F->pU L U H (match m with | .bo=>.pu | m=>m) F
 |.fr,f=>⟨f.1,λa b=>.inl (f.2 a b)⟩
 |.pu,f=>λa b=>(f a b).elim .inl λz=>.inr (.inl z)
 |.bo,f=>f
def bH(b:PV G X e ce):PSV G X (.Return (O e) pos) (d8 ce):=PS.weak (qW b) λD Z H a=>by
 obtain⟨L,U,o,s,e,k⟩:=a;unfold d8 at e;obtain⟨⟨m,x⟩,d,e1⟩:=Zy.mp e;cases e1;exact⟨L,U,m,x,s,d,λv f F e1 r1 f1=>k v f F L Z (s.same e1) (GG.same e1) r1 f1.ret⟩
def bX{U:VS.Env}{i j:Nat}{c:Cell}(h:(U.set i Y)[j]?=O (O c)):j≠i/\U[j]?=O (O c):=by
 rw[VU]at h;split at h
 ·split at h<;>cases h
 ·rename_i n;exact⟨λz=>n z.symm,h⟩
def SR.drop{L:FH}{U:VS.Env}{Z:td.St}{H:Hp}(s:SR G L U Z H)(i:Nat):SR G L (U.set i Y) Z H :=
 ⟨by rw[XB];exact s.len,λj c h=>s.rp j c (bX h).2,λj t h=>s.nd j t (bX h).2,λj k t c b a n=>s.sep j k t c (bX b).2 (bX a).2 n⟩
def GG.drop{L:FH}{U:VS.Env}{H:Hp}(i:Nat):GG L U H L (U.set i Y) H :=
 ⟨λa o h n=>⟨h,λ⟨j,t,d,b⟩=>n ⟨j,t,(bX d).2,b⟩⟩,λ_ h=>h,λa ⟨j,t,d,b⟩=>.inl ⟨j,t,(bX d).2,b⟩,λa ⟨j,t,d,b⟩=>.inl ⟨j,t,(bX d).2,b⟩,Kept.refl H⟩
def fP(i:Nat){x:Str}{p:Pos}(r:X.N[i]?=O x:=by rfl)(j:Ik X.env.scope x:=by first | exact Or.inl M | exact Or.inr (Or.inl M) | exact Or.inr (Or.inr M))(n:K2 x:=by decide)(u:K3 x:=by decide):PSV G X (.Return (O (.Name x p)) pos) (ir i):=PS.weak (qW (fF r j n u)) λD Z H l=>by
 obtain⟨L,U,o,s,e,k⟩:=l;unfold ir at e;split at e
 ·rename_i t h;obtain⟨v,g,b⟩:=s.rp _ _ h;cases e;exact⟨v,g,k v H (L i) L Z (s.drop i) (GG.drop i) b ⟨s.nd i t h,λa d=>.inr ⟨i,t,h,d⟩⟩⟩
 ·rename_i t h;obtain⟨v,g,b⟩:=s.rp _ _ h;cases e;refine⟨v,g,k v H (L i) L Z s (GG.refl _ _ _) b ?_⟩;have f:Fp L U H .pu (L i):=λa d=>.inr ⟨i,t,h,d⟩;have f2:=(f.up b).ret;have:(match (VS.up .pu (j1 (.pu t))).1 with | .bo=>Md.pu | m=>m)=(VS.up .pu t).1:=by
   show (match (VS.up .pu t).1 with | .bo=>Md.pu | m=>m)=_;unfold VS.up;split<;>(rename_i q;revert q;split<;>simp)
  rw[this]at f2;exact f2
 ·cases e
def iH(L:FH)(i:Nat)(F:X4):FH:=λj=>if j=i then F else L j
def fZ{L:FH}{i:Nat}{F:X4}:iH L i F i=F:=Zn M
def fW{L:FH}{i j:Nat}{F:X4}(h:j≠i):iH L i F j=L j:=Zj h
def gS{U:VS.Env}{i j:Nat}{c a:Cell}(h:(U.set i (O c))[j]?=O (O a)):(j=i/\a=c)\/(j≠i/\U[j]?=O (O a)):=by
 rw[VU]at h;split at h
 ·rename_i e;split at h
  ·exact .inl ⟨e.symm,(ZK (ZK h)).symm⟩
  ·cases h
 ·rename_i n;exact .inr ⟨λz=>n z.symm,h⟩
def SR.put{L:FH}{U:VS.Env}{Z:td.St}{H H':Hp}{i:Nat}{v:V}{c:Cell}{F:X4}(s:SR G L U Z H)(u:i<U.length)(r:Rp G H' v (j1 c) F)(q:∀j b,j≠i->U[j]?=O (O b)->∀w,Rp G H w (j1 b) (L j)->Rp G H' w (j1 b) (L j))(x:∀t,c=.ow t->F.Nodup)(y:∀t,c=.ow t->∀j b,j≠i->U[j]?=O (O b)->∀a∈F,a∉L j)(l:∀j t,j≠i->U[j]?=O (O (.ow t))->∀a∈L j,a∉F) :
  SR G (iH L i F) (U.set i (O c)) (Z.set i (O v)) H' where
 len:=by rw[XB,XB];exact s.len
 rp:=λj b h=>by
  rcases gS h with⟨rfl,rfl⟩ | ⟨n,h⟩
  ·exact⟨v,by rw[Xn (by rw[← s.len];exact u)],by rw[fZ];exact r⟩
  ·obtain⟨w,m,f⟩:=s.rp j b h;exact⟨w,by rw[XT (Y2 n)];exact m,by rw[fW n];exact q j b n h w f⟩
 nd:=λj t h=>by
  rcases gS h with⟨rfl,e⟩ | ⟨n,h⟩
  ·rw[fZ];exact x t e.symm
  ·rw[fW n];exact s.nd j t h
 sep:=λj k t b m f n=>by
  rcases gS m with⟨rfl,e⟩ | ⟨g,p⟩
  ·rcases gS f with⟨rfl,e2⟩ | ⟨d,o⟩
   ·exact absurd M n
   ·rw[fZ,fW d];exact y t e.symm k b d o
  ·rcases gS f with⟨rfl,e2⟩ | ⟨d,o⟩
   ·rw[fZ,fW g];exact l j t g p
   ·rw[fW g,fW d];exact s.sep j k t b p o n
def lC{L:FH}{U:VS.Env}{i:Nat}{c:Cell}{F:X4}{a:GM}(h:bW (iH L i F) (U.set i (O c)) a):(∃t,c=.ow t/\a∈F)\/bW L U a:=by
 obtain⟨j,t,d,b⟩:=h;rcases gS d with⟨rfl,e⟩ | ⟨n,d⟩
 ·rw[fZ]at b;exact .inl ⟨t,e.symm,b⟩
 ·rw[fW n]at b;exact .inr ⟨j,t,d,b⟩
def qP{L:FH}{U:VS.Env}{i:Nat}{c:Cell}{F:X4}{a:GM}(h:dw (iH L i F) (U.set i (O c)) a):(∃t,c=.pu t/\a∈F)\/dw L U a:=by
 obtain⟨j,t,d,b⟩:=h;rcases gS d with⟨rfl,e⟩ | ⟨n,d⟩
 ·rw[fZ]at b;exact .inl ⟨t,e.symm,b⟩
 ·rw[fW n]at b;exact .inr ⟨j,t,d,b⟩
def SR.JY{L:FH}{U:VS.Env}{Z:td.St}{H:Hp}(s:SR G L U Z H){a:GM}(h:bW L U a)(g:dw L U a):False:=by
 obtain⟨j,t,d,f⟩:=h;obtain⟨k,u,b,i⟩:=g;have n:j≠k:=λe=>by subst e;rw[d]at b;cases b
 exact s.sep j k t _ d b n a f i
def SR.val{L:FH}{U:VS.Env}{Z:td.St}{H y:Hp}{i:Nat}{v:V}{t:T}{m:Md}{F:X4}{c:Cell}(s:SR G L U Z H)(B:i<U.length)(e:aO H y)(r:Rp G y v t F)(f:Fp L U H m F)(p:(c=.pu t/\m ≠ .bo)\/(c=.ow t/\m=.fr)):SR G (iH L i F) (U.set i (O c)) (Z.set i (O v)) y/\GG L U H (iH L i F) (U.set i (O c)) y:=by
 have F0:∀{a},H a=Y->∀j x,U[j]?=O (O x)->a∉L j:=λ{a} h j x g b=>by
  obtain⟨w,_,q⟩:=s.rp j x g;exact FG.xb (q.F0 a b) h
 have ct:j1 c=t:=by rcases p with⟨rfl,_⟩ | ⟨rfl,_⟩<;>rfl
 have A:∀a∈F,H a=Y\/dw L U a:=λa b=>by
  rcases p with⟨_,n⟩ | ⟨_,n⟩
  ·exact f.pu n a b
  ·rw[n]at f;exact .inl (f.2 a b)
 constructor
 ·refine s.put B (by rw[ct];exact r) (λj x n g w q=>q.same e) (λu d=>?_) (λu d j x n g a b=>?_) λj u n g a b C=>?_
  ·rcases p with⟨h,_⟩ | ⟨_,h⟩
   ·rw[h]at d;cases d
   ·rw[h]at f;exact f.1
  ·rcases p with⟨h,_⟩ | ⟨_,h⟩
   ·rw[h]at d;cases d
   ·rw[h]at f;exact F0 (f.2 a b) j x g
  ·rcases A a C with z | z
   ·exact F0 z j _ g b
   ·exact s.JY ⟨j,u,g,b⟩ z
 ·refine⟨λa o h n=>⟨e a o h,λz=>?_⟩,λa h z=>h (e.free z),λa h=>?_,λa h=>?_,Kept.of e⟩
  ·rcases lC z with⟨u,d,b⟩ | z
   ·rcases p with⟨l,_⟩ | ⟨_,l⟩
    ·rw[l]at d;cases d
    ·rw[l]at f;rw[f.2 a b]at h;cases h
   ·exact n z
  ·rcases lC h with⟨u,d,b⟩ | z
   ·rcases p with⟨l,_⟩ | ⟨_,l⟩
    ·rw[l]at d;cases d
    ·rw[l]at f;exact .inr (f.2 a b)
   ·exact .inl z
  ·rcases qP h with⟨u,d,b⟩ | z
   ·exact(A a b).elim (λz=>.inr (.inr z)) .inl
   ·exact .inl z
def eQ{i:Nat}{x:Str}{a:Pos}(q:PV G X e ce)(r:X.N.Nodup)(n:X.N[i]?=O x:=by rfl)(g:Loc X.env.scope x:=by first | exact Or.inl M | exact Or.inr M)(h:swapsWith e (O (.Name x a)) pos.line X.env=pure S:=by rfl)(p:X.fn x=J\/X.env.scope.names.lookup x=O .local:=by first | exact .inl M | exact .inr M) :
  PSV G X (.Assign [.Name x a] e pos) (iF i ce):=PS.weak (vC r n g q h p) λD Z H j=>by
 obtain⟨L,U,o,s,e,k⟩:=j;unfold iF at e;obtain⟨⟨m,t⟩,w,e1⟩:=Zy.mp e;obtain⟨c,eC,e2⟩:=Zy.mp e1;split at e2
 ·rename_i l;cases e2;refine⟨L,U,m,t,s,w,λv z F y b u=>?_⟩;obtain⟨f,d⟩:=s.val (c:=c) l y b u (by
   unfold cellOf at eC;cases m with
   |fr =>
    simp only[Option.some.injEq]at eC;split at eC
    ·exact .inr ⟨eC.symm,rfl⟩
    ·exact .inl ⟨eC.symm,by decide⟩
   |pu=>cases eC;exact .inl ⟨rfl,by decide⟩
   |bo=>cases eC)
  exact k _ _ z f d
 ·cases e2
def au{i:Nat}{x:Str}{a:Pos}(r:PV G X e ce)(u:X.N.Nodup)(p:X.N[i]?=O x:=by rfl)(g:Loc X.env.scope x:=by first | exact Or.inl M | exact Or.inr M)(h:swapsWith e (O (.Name x a)) pos.line X.env=pure S:=by rfl)(q:X.fn x=J\/X.env.scope.names.lookup x=O .local:=by first | exact .inl M | exact .inr M) :
  PSV G X (.Assign [.Name x a] e pos) (aL i ce):=PS.weak (vC u p g r h q) λD Z H j=>by
 obtain⟨L,U,o,s,e,k⟩:=j;unfold aL at e;obtain⟨⟨m,t⟩,y,e1⟩:=Zy.mp e;split at e1
 ·cases e1
 ·rename_i l;split at e1
  ·rename_i n;cases e1;refine⟨L,U,m,t,s,y,λv A F z b w=>?_⟩;obtain⟨f,d⟩:=s.val (c:=.pu t) n z b w (.inl ⟨rfl,l⟩);exact k _ _ A f d
  ·cases e1
def SR.frz{L:FH}{U:VS.Env}{Z:td.St}{H:Hp}{i:Nat}{t:T}(s:SR G L U Z H)(h:U[i]?=O (O (.ow t))):SR G L (U.set i (O (.pu t))) Z H/\GG L U H L (U.set i (O (.pu t))) H:=by
 have back:∀{j c},(U.set i (O (.pu t)))[j]?=O (O c)->∃l,U[j]?=O (O l)/\j1 l=j1 c/\∀u,c=.ow u->l=.ow u:=λ{j c} g=>by
  rcases gS g with⟨rfl,rfl⟩ | ⟨n,g⟩
  ·exact⟨.ow t,h,rfl,λu p=>nomatch p⟩
  ·exact⟨c,g,rfl,λu p=>p⟩
 refine⟨⟨by rw[XB];exact s.len,λj c g=>?_,λj u g=>?_,λj k u c b d n=>?_⟩,⟨λa o q n=>⟨q,λ⟨j,u,b,d⟩=>?_⟩,λ_ h=>h,λa ⟨j,u,b,d⟩=>?_,λa ⟨j,u,b,d⟩=>?_,Kept.refl H⟩⟩
 ·obtain⟨l,b,d,_⟩:=back g;obtain⟨v,f,r⟩:=s.rp j l b;exact⟨v,f,by rw[← d];exact r⟩
 ·obtain⟨l,b,_,h3⟩:=back g;rw[h3 u M]at b;exact s.nd j u b
 ·obtain⟨c1,f,_,m⟩:=back b;obtain⟨c2,k1,_,_⟩:=back d;rw[m u M]at f;exact s.sep j k u c2 f k1 n
 ·obtain⟨c1,f,_,m⟩:=back b;rw[m u M]at f;exact n ⟨j,u,f,d⟩
 ·obtain⟨c1,f,_,m⟩:=back b;rw[m u M]at f;exact .inl ⟨j,u,f,d⟩
 ·rcases gS b with⟨rfl,_⟩ | ⟨n,b⟩
  ·exact .inr (.inl ⟨j,t,h,d⟩)
  ·exact .inl ⟨j,u,b,d⟩
def nR(i:Nat)(h:ka G X Nj c):ka G X Nj (aq (wj i) c):=HJ.weak h λD Z H f=>by
 obtain⟨L,U,o,s,e,k⟩:=f;unfold aq at e;obtain⟨g,e1,e2⟩:=Zy.mp e;unfold wj at e1;split at e1
 ·rename_i t d;cases e1;obtain⟨b,a⟩:=s.frz d;exact⟨L,_,o,b,e2,k.back a⟩
 ·cases e1;exact⟨L,U,o,s,e2,k⟩
 ·cases e1
end
section
variable{G:Gx}{X:Cx}{st:Stmt}{Nj:List Stmt}{c c1 c2:Sx}{pos:Pos}{e:Expr}{es:List Expr}{ce:Ex}{cs:Gd}
structure G6(G:Gx)(H:Hp)(v:V)(F:X4)(t':T)(H2:Hp)(F':X4):Prop where
 kept:Kept H H2
 keep:∀b o,b∉F->H b=some o->H2 b=some o
 F0:∀b,H b≠none->H2 b≠none
 rp:Rp G H2 v t' F'
 nd:F'.Nodup
 sub:∀a∈F',a∈F\/H a=none
def SR.mut{L:FH}{U:VS.Env}{Z:td.St}{H x:Hp}{i:Nat}{v:V}{t r:T}{p:X4}(s:SR G L U Z H)(m:U[i]?=O (O (.ow t)))(A:Z[i]?=O (O v))(g:G6 G H v (L i) r x p) :
  SR G (iH L i p) (U.set i (O (.ow r))) Z x/\GG L U H (iH L i p) (U.set i (O (.ow r))) x:=by
 have C:i<U.length:=(ZW.mp m).1;have off:∀j d,j≠i->U[j]?=O (O d)->∀a∈L j,a∉L i:=λj d n f a b l=>s.sep i j t d m f (Y2 n) a l b;have es:Z.set i (O v)=Z:=by
  obtain⟨h,e⟩:=ZW.mp A;rw[← e];exact List.set_getElem_self h
 have new:∀a∈p,∀j d,j≠i->U[j]?=O (O d)->a∉L j:=λa b j d n f l=>by
  rcases g.sub a b with z | z
  ·exact off j d n f a l z
  ·obtain⟨w,_,q⟩:=s.rp j d f;exact FG.xb (q.F0 a l) z
 constructor
 ·have:=s.put (c:=.ow r) (F:=p) (H':=x) (v:=v) C g.rp (λj d n f w q=>q.keep g.kept λa b o B=>g.keep a o (off j d n f a b) B) (λ_ _=>g.nd) (λu y j d n f a b=>new a b j d n f) λj u n f a b l=>new a l j _ n f b;rw[es]at this;exact this
 ·refine⟨λa o h n=>⟨g.keep a o (λz=>n ⟨i,t,m,z⟩) h,λz=>?_⟩,g.F0,λa h=>?_,λa h=>?_,g.kept⟩
  ·rcases lC z with⟨u,_,b⟩ | z
   ·rcases g.sub a b with z | z
    ·exact n ⟨i,t,m,z⟩
    ·rw[z]at h;cases h
   ·exact n z
  ·rcases lC h with⟨u,_,b⟩ | z
   ·rcases g.sub a b with z | z
    ·exact .inl ⟨i,t,m,z⟩
    ·exact .inr z
   ·exact .inl z
  ·rcases qP h with⟨u,y,b⟩ | z
   ·cases y
   ·exact .inl z
def Bo(G:Gx)(r:V->List V->Hp->VK->Prop)(f:T->V2->Option (T×Val)):Prop:=∀(L:FH)(U:VS.Env)(H g:Hp)(v:V)(t b:T)(F:X4)(l:V2)(a:List V)(h:Yd)(x:Val)(Q:VK),
 Rp G H v t F->F.Nodup->Args G L U H g l a h->f t l=O (b,x)->(∀u d i,G6 G H v F b d i->Q u d)->r v a g Q
def vH{p m:String}{a x:Str}{r:V->List V->Hp->VK->Prop}{f:T->V2->Option (T×Val)}{b d j:Pos}(i:Nat)(pa:PlainAttrs p)(h:Slot p a m)(NH:typeOf (.builtin m)=pure (.type "method_descriptor"))(hm:OE X m r)(ok:Bo G r f)(hT:∀H v t F l z,Rp G H v t F->f t l=O z->tyV G.K p v H)(ha:Ho G X (e :: es) cs)(hK:X.K=G.K:=by rfl)(hN:X.N[i]?=O x:=by rfl)(hv:Ik X.env.scope x:=by first | exact Or.inl M | exact Or.inr (Or.inl M) | exact Or.inr (Or.inr M))(hd:K2 x:=by decide)(Gc:K3 x:=by decide)(Iw:SZ (.Name x j) a X.env (eval (.Name x j) X.env)=eval (.Name x j) X.env:=by rfl)(IQ:((backTo d (KM (e :: es) X.env)).all (λx=>!x.1)&&(backToKw d (P3 [] X.env)).all (λx=>x.1.isSome)
   && decide ((e :: es).length+([]:List Keyword).length+(if ([]:List Keyword).isEmpty then 0 else 1)<30))=J:=by rfl)(Hg:(b.endLine==d.line)=J:=by rfl)(hs:K0 e es X:=by rfl)(Hf:K1 d es X:=by rfl)(NI:swapsWith (.Call (.Attribute (.Name x j) a b) (e :: es) [] d) Y pos.line X.env=pure S:=by rfl) :
  PSV G X (.Expr (.Call (.Attribute (.Name x j) a b) (e :: es) [] d) pos) (sX (mm i [] f cs)) :=
 PS.weak (ny (rZ pa h NH hm (fF hN hv hd Gc) ha Iw IQ Hg hs Hf) NI) λD Z H hq=>by
  obtain⟨L,U,o,s,e,k⟩:=hq;unfold sX mm at e;obtain⟨⟨q,U'⟩,e1,e2⟩:=Zm.mp e;split at e1
  ·rename_i t n;obtain⟨ks,ek,e3⟩:=Zy.mp e1;cases (show O ([]:List Ky)=O ks from ek);obtain⟨l,el,e4⟩:=Zy.mp e3;obtain⟨⟨w,x2⟩,e5,e6⟩:=Zm.mp e4;cases e6;cases e2;obtain⟨v,A,y⟩:=s.rp _ _ n;have B:f t l=O (w,q):=e5;refine⟨v,A,by rw[hK];exact hT H v t _ l _ y B,L,U,l,s,el,λP H' Fs W R Q=>?_⟩;refine ok L U H H' v t w (L i) l P Fs q _ y (s.nd i t n) ⟨W,R,Q⟩ B λu H2 F' g=>?_;obtain⟨I,C⟩:=s.mut n A g;exact k _ Z H2 I C
  ·cases e1
theorem G6.upd{H d:Hp}{v:V}{F:X4}{a:GM}{o:HO}{t':T}{f:X4}(e:aO H d)(n:a∈F)(l:FG (d a))(r:Rp G (upd d a o) v t' f)(j:f.Nodup)(g:∀a∈f,a∈F\/H a=Y):G6 G H v F t' (upd d a o) f :=
 ⟨(Kept.of e).trans (Kept.upd (.inl l)),λb i m h=>by rw[av (λz=>m (by rw[z];exact n))];exact e b i h,
  λb h z=>by
   by_cases q:b=a
   ·subst q;rw[aw]at z;cases z
   ·rw[av q]at z;exact h (e.free z),r,j,g⟩
def xh.off{H:Hp}{f:List V}{g:V4}{d:Yd}{a:GM}{o:HO}(r:xh G H f g d)(j:FG (H a))(h:a∉d.flatten):xh G (upd H a o) f g d :=
 r.keep (Kept.upd (.inl j)) λb l m i=>by rw[av (λz=>h (by rw[← z];exact l))];exact i
def sM{v:Val}{t:T}(h:fit v=O t):v=(.fr,t):=by
 obtain⟨m,x⟩:=v;unfold fit at h;cases m<;>first | (cases h;rfl) | cases h
def jR:Bo G kg bz:=by
 intro L U H n v t Z F l u R x Q r nd A e k;unfold bz at e;split at e
 ·rename_i W y;obtain⟨z,I,e1⟩:=Zy.mp e;have N:=sM I;subst N;split at e1
  ·rename_i C;cases e1;obtain⟨a,q,p,rfl,rfl,j,h⟩:=r.lst_inv;obtain⟨w,g,rfl,rfl,P⟩:=(show xh G n u [z] R from A.rp).one;have f:Fp L U H .fr g:=A.fp.each 0 _ _ M M;have s:n a=O (.lst q):=A.same a _ j;have i:FG (n a):=by rw[s];exact True.intro
   have na:a∉p.flatten:=(ZS.mp nd).1;have nw:a∉g:=λz=>by rw[f.2 a z]at j;cases j
   refine⟨a,q,w,rfl,rfl,s,by rw[h.len.1];exact C,k _ _ (a :: (p++[g]).flatten) ?_⟩;have off:∀b∈p.flatten,b∉g:=λb d hw=>FG.xb (h.F0 b d) (f.2 b hw);refine G6.upd A.same Zx i (.lst aw (((h.same A.same).off i na).append (.cons (P.keep (Kept.upd (.inl i)) λb d o B=>by rw[av (λz=>nw (by rw[← z];exact d))];exact B) .nil))) ?_ ?_
   ·rw[IG];refine ZS.mpr ⟨λm=>?_,ZG.mpr ⟨(ZS.mp nd).2,by simpa using f.1,λb d c D z=>?_⟩⟩
    ·rcases Zb.mp m with m | m
     ·exact na m
     ·exact nw (by simpa using m)
    ·subst z;exact off b d (by simpa using D)
   ·intro b d;rcases Zq.mp d with rfl | d
    ·exact .inl Zx
    ·rw[IG]at d;rcases Zb.mp d with d | d
     ·exact .inl (Zw _ d)
     ·exact .inr (f.2 b (by simpa using d))
  ·cases e1
 ·cases e
def wx{H:Hp}{v:V}{b:V4}{F:X4}(r:Rp G H v (.lst b) F):tyV G.K "list" v H:=by
 obtain⟨a,f,h,rfl,rfl,d,g⟩:=r.lst_inv;exact .inl ⟨rfl,_,FF.of d⟩
def hJ{H:Hp}{v:V}{t:T}{F:X4}{l:V2}{z:T×Val}(r:Rp G H v t F)(h:bz t l=O z):tyV G.K "list" v H:=by
 unfold bz at h;split at h
 ·exact wx r
 ·cases h
end
structure IC(G:Gx)(J:It)(l:V4)(C:X4)(H:Hp):Prop where
 run:∀H2,Kept H H2->(∀a∈C,∀o,H a=some o->H2 a=some o) →
  (∀(i:Nat)(t:T),l[i]?=some t->J.go i H2/\∀x H3,J.OI i H2 x H3->aO H2 H3/\∃F,Rp G H3 x t F/\∀a∈F,a∈C\/H2 a=none)/\∀(i:Nat),l.length<=i->J.stop i H2
 F0:∀a∈C,H a≠none
def Uw(L:FH)(U:VS.Env)(H:Hp)(m:Md)(C:X4):Prop:=∀a∈C,H a=Y\/dw L U a\/(m=.bo/\bW L U a)
theorem Fp.c{L:FH}{U:VS.Env}{H:Hp}{F:X4}:∀{m:Md},Fp L U H m F->Uw L U H m F
 |.fr,f=>λa b=>.inl (f.2 a b)
 |.pu,f=>λa b=>(f a b).imp id .inl
 |.bo,f=>λa b=>(f a b).imp id λz=>z.imp id λz=>⟨rfl,z⟩
def tI(G:Gx)(c:GB):TI:=λZ H R=>∃L U m l,SR G L U Z H/\c U=O (m,l)/\∀J a C,aO H a->IC G J l C a->Uw L U H m C->R J a
def PVI(G:Gx)(X:Cx)(b a:Expr)(c:GB):Prop:=PI X b a (tI G c)
def PI.weak{X:Cx}{b e:Expr}{t d:TI}(h:PI X b e t)(w:∀Z H Q,d Z H Q->t Z H Q):PI X b e d:=λa s Z H Q I q=>h a s Z H Q I (w Z H Q q)
section
variable{G:Gx}{X:Cx}{tg e a b:Expr}{es:List Expr}{ca cb:Ex}{cs:Gd}{pos p:Pos}
def yc(H:Hp)(d:Int)(n:Nat):IC G (Pf d n) (rng d n) [] H:=by
 refine⟨λq _ _=>⟨λi t h=>?_,λi h=>(by simpa[rng] using h:n<=i)⟩,λa h=>by simp at h⟩;unfold rng at h;rw[ZT]at h;obtain⟨k,g,e⟩:=Zm.mp h;obtain⟨f,e2⟩:=ZW.mp g;rw[IA]at f;have j:i=k:=by simpa using e2
 subst j;refine⟨f,λx o ⟨m,l⟩=>?_⟩;subst m;subst l;rw[← e];exact⟨aO.refl _,[],.int _,λa h=>by simp at h⟩
def cH(u:PV G X a ca)(t:Gl X "range")(r:X.mg "range" = Y)(o:K0 a [] X:=by rfl)(z:KM [a] X.env=[(S,eval a X.env)]:=by rfl):PVI G X tg (.Call (.Name "range" p) [a] [] pos) (cF ca) :=
 PI.weak (uS t r (d5 u fJ o) z) λZ H R q=>by
  obtain⟨L,U,m,l,s,e,k⟩:=q;unfold cF at e;obtain⟨⟨n,x⟩,w,e1⟩:=Zy.mp e;obtain⟨j,f,e2⟩:=Zy.mp e1;split at e2
  ·rename_i d;cases e2;refine⟨L,U,n,x,s,w,λv g F y i B=>?_⟩;cases x with
   |int A =>
    cases f;refine⟨j,by rw[i.int_inv],?_,?_,k _ g [] y (yc g 0 j.toNat) λa h=>by simp at h⟩
    ·have:=d.1;unfold MM at this;lia
    ·have:=d.2;unfold MM at this;lia
   |_=>cases f
  ·cases e2
def dA{d:Yd}{i:Nat}{F:X4}(h:d[i]?=O F){a:GM}(f:a∈F):a∈d.flatten:=(gD h).subset f
def tZ{H:Hp}{a:GM}{d:List V}{g:V4}{l:Yd}(K:Xd)(m:H a=O (.lst d))(r:xh G H d g l):IC G (Pg K a) g (a :: l.flatten) H:=by
 refine⟨λq k c=>?_,λb f=>?_⟩
 ·have j:q a=O (.lst d):=c a Zx _ m;have r2:xh G q d g l:=r.keep k λb f o s=>c b (Zw _ f) o s;refine⟨λi t h=>?_,λi h=>⟨d,FF.of j,by rw[r.len.1];exact h⟩⟩;obtain⟨v,F,n,u,h3⟩:=r2.get i h;refine⟨⟨d,v,FF.of j,n⟩,λx w ⟨e1,e2⟩=>?_⟩;subst e1;have ex:=e2 d (FF.of j);rw[n]at ex;cases ex;exact⟨aO.refl _,F,h3,λb f=>.inl (Zw _ (dA u f))⟩
 ·rcases Zq.mp f with rfl | f
  ·rw[m];exact λz=>nomatch z
  ·exact FG.xb (r.F0 b f)
def BZ{H:Hp}{a:GM}{d:List V}{g:V4}{l:Yd}(K:Xd)(s:H a=O (.tup d))(r:xh G H d g l):IC G (SU K a) g l.flatten H:=by
 refine⟨λn k c=>?_,λb f=>FG.xb (r.F0 b f)⟩;have j:n a=O (.tup d):=k.tup a _ s;have r2:xh G n d g l:=r.keep k λb f o q=>c b f o q;refine⟨λi t h=>?_,λi h=>⟨d,GA.of j,by rw[r.len.1];exact h⟩⟩;obtain⟨v,F,m,u,h3⟩:=r2.get i h;refine⟨⟨d,v,GA.of j,m⟩,λx w ⟨e1,e2⟩=>?_⟩;subst e1;have ex:=e2 d (GA.of j);rw[m]at ex;cases ex;exact⟨aO.refl _,F,h3,λb f=>.inl (dA u f)⟩
def tG(G:Gx)(g:Tg):TG:=λv Z H Q=>∃L U t F d,SR G L U Z H/\Rp G H v t F/\(∀a∈F,¬bW L U a)/\g t U=O d ∧
 ∀f h,SR G f d h H->(∀a,bW f d a->bW L U a)->(∀a,dw f d a->dw L U a\/a∈F)->Q h H
def UQ(G:Gx)(l:List Tg):KY:=λj Z H Q=>∃L U h g d,SR G L U Z H/\xh G H j h g/\(∀a∈g.flatten,¬bW L U a)/\rn l h U=O d ∧
 ∀f i,SR G f d i H->(∀a,bW f d a->bW L U a)->(∀a,dw f d a->dw L U a\/a∈g.flatten)->Q i H
def MJ(G:Gx)(X:Cx)(e:Expr)(g:Tg):Prop:=PG X e (tG G g)
def AA(G:Gx)(X:Cx)(e:List Expr)(g:List Tg):Prop:=Ko X e (UQ G g)
def PG.weak{X:Cx}{e:Expr}{t f:TG}(h:PG X e t)(w:∀v Z H Q,f v Z H Q->t v Z H Q):PG X e f:=λd s Z H v u Q I r q=>h d s Z H v u Q I r (w v Z H Q q)
def Ko.weak{X:Cx}{e:List Expr}{t f:KY}(h:Ko X e t)(w:∀v Z H Q,f v Z H Q->t v Z H Q):Ko X e f:=λd s Z H v u Q I r q=>h d s Z H v u Q I r (w v Z H Q q)
def aS(i:Nat){x:Str}(B:X.N.Nodup)(y:X.N[i]?=O x:=by rfl)(l:Loc X.env.scope x:=by first | exact Or.inl M | exact Or.inr M)(A:X.fn x=J\/X.env.scope.names.lookup x=O .local:=by first | exact .inl M | exact .inr rfl):MJ G X (.Name x pos) (aZ i):=PG.weak (sZ B y l A) λv Z H Q m=>by
 obtain⟨L,U,t,F,I,s,r,no,e,k⟩:=m;unfold aZ at e;split at e
 ·rename_i o;cases e;refine k (iH L i F) (Z.set i (O v)) (s.put (c:=.pu t) o r (λj D n g w q=>q) (λu d=>nomatch d) (λu d=>nomatch d) λj u n g a f C=>no a C ⟨j,u,g,f⟩) (λa h=>?_) λa h=>?_
  ·rcases lC h with⟨u,d,_⟩ | z
   ·cases d
   ·exact z
  ·rcases qP h with⟨u,d,f⟩ | z
   ·exact .inr f
   ·exact .inl z
 ·cases e
def jt:AA G X [] []:=Ko.weak yG λv Z H Q f=>by
 obtain⟨L,U,g,i,d,s,r,no,e,k⟩:=f;cases r with
 |nil =>
  cases (show O U=O d from e);exact⟨rfl,k L Z s (λ_ h=>h) λ_ h=>.inl h⟩
 |cons r q=>cases (show (Y:Option VS.Env)=O d from e)
def dM{g:Tg}{i:List Tg}(A:MJ G X e g)(y:AA G X es i)(w:(assignEach (e :: es) X.env).map (·.2)=assign e X.env :: (assignEach es X.env).map (·.2):=by rfl):AA G X (e :: es) (g :: i) :=
 Ko.weak (xu A y w) λv Z H Q x=>by
  obtain⟨L,U,I,Fs,l,s,r,no,e,k⟩:=x;cases r with
  |nil=>cases (show (Y:Option VS.Env)=O l from e)
  |cons r q =>
   rename_i F M F' P W R;obtain⟨j,e1,e2⟩:=Zy.mp e;refine⟨_,_,rfl,L,U,_,_,j,s,r,λa d=>no a (by rw[Zf];exact Xy _ d),e1,λD N n f t=>?_⟩;refine⟨D,j,_,_,l,n,q,λa d z=>no a (by rw[Zf];exact Jc _ d) (f a z),e2,λC B m u o=>k C B m (λa h=>f a (u a h)) λa h=>?_⟩;rcases o a h with h | h
   ·rcases t a h with h | h
    ·exact .inl h
    ·exact .inr (by rw[Zf];exact Xy _ h)
   ·exact .inr (by rw[Zf];exact Jc _ h)
theorem pJ:∀{i:List Tg}{f:V4}{U d:VS.Env},rn i f U=O d->f.length=i.length
 |[],[],_,_,_=>rfl
 |[],_ :: _,_,_,h=>by simp[rn]at h
 |_ :: _,[],_,_,h=>by simp[rn]at h
 |g :: i,t :: f,U,d,h=>by
  obtain⟨j,_,e2⟩:=Zy.mp (show (g t U).bind (λd=>rn i f d)=O d from h);simp[pJ e2]
def kj{d:List Tg}{k:Nat}(m:X.calm=J)(h:AA G X es d)(j:(assignEach es X.env).length=d.length:=by rfl)(w:(assignEach es X.env).findIdx? (·.1)=Y:=by rfl)(z:X.K=G.K:=by rfl):MJ G X (.Tuple es k pos) (iN d) :=
 PG.weak (BP (n:=d.length) m h j w) λv Z H Q i=>by
  obtain⟨L,U,t,F,u,s,r,no,e,q⟩:=i;unfold iN at e;split at e
  ·rename_i l;obtain⟨o,g,y,rfl,rfl,x,f⟩:=r.GK;exact⟨o,g,rfl,GA.of x,by rw[f.len.1];exact pJ e,L,U,l,y,u,s,f,no,e,q⟩
  ·cases e
def nh{tgt:Tg}{body:Sx}{l:V4}{U:VS.Env}{i:Nat}{t:T}(h:l[i]?=O t):l.drop i=t :: l.drop (i+1):=by
 obtain⟨d,e⟩:=ZW.mp h;rw[← e];exact YD d
def vK{ci:GB}{g:Tg}{cb:Sx}{D:Ends}{Z:td.St}{H:Hp}(hq:tS G (dS g ci cb) D Z H):BU (tI G ci) (tG G g) (tS G cb) D Z H:=by
 obtain⟨L,U,o,s,e,k⟩:=hq;unfold dS at e;obtain⟨⟨m,l⟩,el,e1⟩:=Zy.mp e;dsimp only at e1;split at e1
 ·rename_i hm;have NR:m ≠ .bo:=λz=>by rw[z]at hm;cases hm
  refine⟨L,U,m,l,s,el,λJ Q C e2 ok fc=>?_⟩;have cno:∀a∈C,¬bW L U a:=λa A z=>by
   rcases fc a A with q | q | q
   ·exact FG.xb (s.GU z) q
   ·exact s.JY z q
   ·exact NR q.1
  refine⟨λi n Z2 P=>n=l.length-i/\∃N d,SR G N d Z2 P/\GG L U H N d P/\Kept Q P/\(∀a∈C,∀o,Q a=O o->P a=O o/\¬bW N d a)/\forL g cb (l.drop i) d=O o,
   ⟨l.length-0,rfl,L,U,s.same e2,GG.same e2,Kept.refl _,λa A y B=>⟨B,cno a A⟩,by rw[X7];exact e1⟩,?_⟩
  rintro i n Z2 P ⟨rfl,N,d,s2,f2,kp,con,e3⟩;obtain⟨go,stop⟩:=ok.run P kp λa A y B=>(con a A y B).1;cases hit:l[i]? with
  |none =>
   have hl:l.length<=i:=Yq.mp hit;left;rw[Xm hl]at e3;cases (show O (Out.nx d)=O o from e3);exact⟨stop i hl,k N Z2 P s2 f2⟩
  |some t =>
   have hl:i<l.length:=(ZW.mp hit).1;right;obtain⟨g1,y1⟩:=go i t hit;rw[nh (tgt:=g) (body:=cb) (U:=d) hit]at e3;obtain⟨U3,e4,e5⟩:=Zy.mp (show (g t d).bind (λU1=>(cb U1).bind λo=>match o with
    |.nx d=>forL g cb (l.drop (i+1)) d
    |.ct d=>forL g cb (l.drop (i+1)) d
    |.bk d=>O (.nx d)
    |.rt v d=>O (.rt v d))=O o from e3)
   obtain⟨y,e6,e7⟩:=Zy.mp e5;refine⟨g1,λI r=>∃j f,SR G j f I r/\GG L U H j f r/\Kept Q r/\(∀a∈C,∀o,Q a=O o->r a=O o/\¬bW j f a)/\forL g cb (l.drop (i+1)) f=O o,λI r ⟨j,f,q⟩=>⟨l.length-(i+1),by omega,rfl,j,f,q⟩,λx H3 yl=>?_⟩;obtain⟨R,F,rF,hF⟩:=y1 x H3 yl;have s3:=s2.same R;have noF:∀a∈F,¬bW N d a:=λa A z=>by
    rcases hF a A with q | q
    ·have Jm:=ok.F0 a q;cases B:Q a with
     |none=>exact Jm B
     |some o''=>exact(con a q o'' B).2 z
    ·exact FG.xb (s2.GU z) q
   refine⟨N,d,t,F,U3,s3,rF,noF,e4,λL3 Z3 s4 o3 p3=>?_⟩;have W:GG L U H L3 U3 H3:=⟨λa y h n=>let ⟨h1,n1⟩:=f2.keep a y h n;⟨R a y h1,λz=>n1 (o3 a z)⟩,λa h z=>f2.F0 a h (R.free z),λa h=>f2.ow a (o3 a h),λa h=>by
    rcases p3 a h with h | h
    ·exact f2.pu a h
    ·rcases hF a h with q | q
     ·rcases fc a q with q | q | q
      ·exact .inr (.inr q)
      ·exact .inl q
      ·exact .inr (.inl q.2)
     ·exact .inr (.inr (f2.none q)),f2.kept.trans (Kept.of R)⟩
   have next:∀{j f r},GG L3 U3 H3 j f r->Kept Q r/\∀a∈C,∀o,Q a=O o->r a=O o/\¬bW j f a:=λw =>
    ⟨(kp.trans (Kept.of R)).trans w.kept,λa A y B=>by
     obtain⟨h1,n1⟩:=con a A y B;exact w.keep a y (R a y h1) λz=>n1 (o3 a z)⟩
   refine⟨L3,U3,y,s4,e6,?_⟩;cases y with
   |nx f=>exact λj I r M w=>⟨j,f,M,W.trans w,(next w).1,(next w).2,e7⟩
   |ct f=>exact λj I r M w=>⟨j,f,M,W.trans w,(next w).1,(next w).2,e7⟩
   |bk f =>
    cases (show O (Out.nx f)=O o from e7);exact λj I r M w=>k j I r M (W.trans w)
   |rt v f =>
    cases (show O (Out.rt v f)=O o from e7);exact λu r F4 j I M w r5 q5=>k u r F4 j I M (W.trans w) r5 (q5.back W)
 ·cases e1
def bM{d:Expr}{f:List Stmt}{h:GB}{g:Tg}{i:Sx}(m:PassesOwn (FM X.prog X.w) X.A X.env X.xe)(q:X.calm=J)(n:PVI G X tg d h)(o:MJ G X tg g)(r:ka G X f i)(j:∀x,UF d X.env x=pure x:=by intro _;rfl):PSV G X (.For tg d f [] pos) (dS g h i):=PS.weak (vY m q n o r j) λD Z H l=>vK l
end
def FA(H:Hp)(b:Yd):Md->X4->Prop
 |.fr,F=>F.Nodup/\∀a∈F,H a=Y
 |_,F=>∀a∈F,H a=Y\/a∈b.flatten
def Js(G:Gx)(g:Fn):Sp:=λe H Q _=>∃b d m r,xh G H e b d/\g b=O (m,r)/\∀v a F,aO H a->Rp G a v r F->FA H d m F->Q v a
section
variable{G:Gx}{X:Cx}{k:Nat}{f:GM}{fd:On}{ps:List Str}{x:Str}{p pos:Pos}{e:Expr}{es:List Expr}{cs:Gd}{g:Fn}
def call_of{Z:td.St}{H:Hp}{Q:VK}{E:XK}(h:tE G (aP g cs) Z H Q):Bi (Js G g) [] E (Nh G cs) Z H Q:=by
 obtain⟨L,U,m,t,s,e,u⟩:=h;unfold aP at e;obtain⟨l,P,e1⟩:=Zy.mp e;obtain⟨⟨n,r⟩,N,e2⟩:=Zy.mp e1;refine⟨L,U,l,s,P,λD y C b M I=>?_⟩;have A:Args G L U H y l D C:=⟨b,M,I⟩
 have i:=I.join A.len;show Js G g (D++[]) y Q E;rw[ZP];refine⟨trees l,C,n,r,M,N,λv B F q o j=>?_⟩;have wide:(∀a∈F,y a=Y\/a∈C.flatten)->Fp L U H ((Md.pu).join (bQ l)) F:=λh=>by
  cases w:bQ l with
  |fr =>
   rw[w]at i;exact λa d=>.inl ((h a d).elim b.free (i.2 a))
  |pu =>
   rw[w]at i;exact λa d=>(h a d).elim (λz=>.inl (b.free z)) (i a)
  |bo =>
   rw[w]at i;exact λa d=>(h a d).elim (λz=>.inl (b.free z)) (i a)
 cases n with
 |fr =>
  cases e2;exact u v B F (b.trans q) o ⟨j.1,λa d=>b.free (j.2 a d)⟩
 |pu =>
  cases e2;exact u v B F (b.trans q) o (wide j)
 |bo =>
  cases e2;exact u v B F (b.trans q) o (wide j)
def Aa(F:FnOk X.prog X.w X.K X.mg X.base HK k f fd ps (Js G g))(b:AU k X.A)(j:Gl X x)(d:X.mg x=O (.ref f))(i:PySem.W.keepIn X.K (.ref f)=J)(m:Binds X.K fd ps [])(n:Ho G X (e :: es) cs)(o:K2 x:=by decide)(l:K0 e es X:=by rfl)(a:K1 pos es X:=by rfl) :
  PV G X (.Call (.Name x p) (e :: es) [] pos) (aP g cs) :=
 PE.weak (Ag F b j d i m .nil Du n o l a) λZ H Q h=>call_of h
def vA{H:Hp}{d:List V}{a:V4}{m:Yd}(r:xh G H d a m)(n o:Nat)(w:o=d.length):SR G (λi=>m.getD i []) (a.map (λt=>O (.pu t))++List.replicate (n-a.length) Y) (d.map O++List.replicate (n-o) Y) H:=by
 subst w;have A:=r.len;have back:∀{i:Nat}{c:Cell},(a.map (λt=>O (Cell.pu t))++List.replicate (n-a.length) Y)[i]?=O (O c)->∃t,a[i]?=O t/\c=.pu t:=λ{i c} h=>by
  by_cases q:i<a.length
  ·rw[Yp (by rw[Zv];exact q),ZT]at h;obtain⟨t,l,b⟩:=Zm.mp h;exact⟨t,l,(ZK b).symm⟩
  ·rw[JS (by rw[Zv];exact Y5 q),Xr]at h;split at h<;>cases h
 refine⟨by simp;lia,λi c h=>?_,λi t h=>?_,λi j t c h=>?_⟩
 ·obtain⟨t,l,rfl⟩:=back h;obtain⟨v,F,s,z,y⟩:=r.get i l;refine⟨v,?_,?_⟩
  ·have:i<d.length:=(ZW.mp s).1;rw[Yp (by rw[Zv];exact this),ZT,s];rfl
  ·show Rp G H v t (m.getD i []);rw[ZO,z];exact y
 ·obtain⟨u,_,b⟩:=back h;cases b
 ·obtain⟨u,_,b⟩:=back h;cases b
def g7{b:V4}{n:Nat}{L:FH}{a:GM}:¬bW L (b.map (λt=>O (Cell.pu t))++List.replicate n Y) a:=by
 rintro⟨i,t,h,_⟩;by_cases d:i<b.length
 ·rw[Yp (by rw[Zv];exact d),ZT]at h;obtain⟨l,_,j⟩:=Zm.mp h;cases j
 ·rw[JS (by rw[Zv];exact Y5 d),Xr]at h;split at h<;>cases h
def pV{H:Hp}{vs:List V}{j:V4}{d:Yd}{n:Nat}{a:GM}(h:dw (λi=>d.getD i []) (j.map (λt=>O (Cell.pu t))++List.replicate n Y) a):a∈d.flatten:=by
 obtain⟨i,t,_,b⟩:=h;simp only[ZO]at b;cases e:d[i]? with
 |none=>rw[e]at b;simp at b
 |some F=>rw[e]at b;exact dA e b
end
section
variable{G:Gx}{P:PP}{w:SL}{K:Xd}{mg:X3}{base:SC}
def vI{e f:Nat}{c:Sx}{d:List Str}(g:d.length=e){b:List V}{H:Hp}{Q:VK}{E:XK}(h:Js G (fn e f c) b H Q E):b.length=d.length:=by
 obtain⟨l,n,m,r,j,a,_⟩:=h;unfold fn at a;split at a
 ·rename_i i;rw[j.len.1,i,g]
 ·cases a
def xA{p f:Nat}{c:Sx}{N:List Str}(s:N.length=f){vs:List V}{H:Hp}{Q:VK}{E:XK}(h:Js G (fn p f c) vs H Q E):tS G c { nx:=λ_ d=>Q .non d,rt:=Q } (td.start N vs) H:=by
 obtain⟨D,F,m,r,x,g,q⟩:=h;unfold fn at g;split at g
 ·rename_i t;obtain⟨o,e1,e2⟩:=Zy.mp g;have j:=vA x f vs.length M;rw[t]at j;have y:td.start N vs=vs.map O++List.replicate (f-vs.length) Y:=by
   unfold td.start;rw[s]
  rw[y];refine⟨_,_,o,j,e1,?_⟩;cases o with
  |nx i =>
   cases e2;intro B A d l fr;exact q .non d [] (λa o h=>(fr.keep a o h g7).1) .non ⟨List.nodup_nil,λa h=>by simp at h⟩
  |rt v i =>
   cases e2;intro u d C B A l fr n e;refine q u d C (λa o h=>(fr.keep a o h g7).1) n ?_;cases m with
   |fr=>exact⟨e.1,λa b=>(e.2 a b).elim id λz=>absurd z g7⟩
   |pu=>exact λa b=>(e a b).elim .inl λz=>z.elim (λz=>.inr (pV (H:=H) (vs:=vs) z)) λz=>absurd z g7
   |bo=>exact λa b=>(e a b).elim .inl λz=>z.elim (λz=>.inr (pV (H:=H) (vs:=vs) z)) λz=>absurd z g7
  |bk i=>cases e2
  |ct i=>cases e2
 ·cases g
def T9{x a:Str}{b:Stmt}{f:GM}{j:On}{N e:List Str}{k g i:Nat}{c:Sx}(F:GQ K x a b f j)(S:tx N e (ao b))(n:e.length=g)(o:N.length=i)(p:∀(d:IR)(A:Pi)(outer:List PySem.Env)(s:FB)(H:Hp)(E:XK),AU k (A.deeper (envOfC a (ao b) s.heap.objs.size f d))->ka G (mw HK P w K mg base N a (ao b) f d A outer s H E).Kz (aU b) c) :
  FnOk P w K mg base HK (k+1) f j e (Js G (fn g i c)) :=
 F.ok S (λl H Q E h=>vI n h) λd A outer s H l Q E m h=>⟨_,p d A outer s H E m,xA o h⟩
end
end VS
end
section
namespace td
open PySem PySem.Spec PyProof.Rows
theorem jS(b:Env):∀(l:List (Str×NameKind))(acc:List (Str×GM)),(∀y∈l,y.2=.free->∃c,b.cells.lookup y.1=O c)->(∀x c,acc.lookup x=O c->b.cells.lookup x=O c) →
  ∃cl,(forIn l acc (λx r=>if (x.snd==NameKind.free)=J then (do let a ← cellOf b x.fst;pure (ForInStep.yield ((x.fst,a) :: r))) else pure (ForInStep.yield r)):Sem (List (Str×GM)))=pure cl ∧
   (∀x c,cl.lookup x=O c->b.cells.lookup x=O c)/\(∀x c,acc.lookup x=O c->∃e,cl.lookup x=O e)/\∀y∈l,y.2=.free->∃c,cl.lookup y.1=O c
 |[],acc,_,g=>⟨acc,rfl,g,λx c h=>⟨c,h⟩,λy d=>nomatch d⟩
 | (n,k) :: l,acc,m,g=>by
  by_cases j:k=.free
  ·subst j;obtain⟨c,o⟩:=m (n,.free) Zx M;have t:cellOf b n=pure c:=by unfold cellOf;dsimp only at o;rw[o]
   have u:∀x e,((n,c) :: acc).lookup x=O e->b.cells.lookup x=O e:=λx e h=>by
    rw[Y6]at h;split at h
    ·rename_i f;have:x=n:=by simpa using f
     rw[this,← h];exact o
    ·exact g x e h
   obtain⟨cl,s,q,h3,p⟩:=jS b l ((n,c) :: acc) (λy d=>m y (Zw _ d)) u;refine⟨cl,?_,q,λx e h=>?_,λy d i=>?_⟩
   ·rw[Wl];dsimp only;rw[Zn (show (NameKind.free==NameKind.free)=J from rfl),t,pure_bind,pure_bind];exact s
   ·by_cases f:x=n
    ·exact h3 x c (by rw[Y6,f];simp)
    ·refine h3 x e ?_;rw[Y6];have:(x==n)=S:=by simpa using f
     rw[this];exact h
   ·rcases Zq.mp d with rfl | d
    ·exact h3 n c (by rw[Y6];simp)
    ·exact p y d i
  ·obtain⟨cl,s,q,h3,p⟩:=jS b l acc (λy d=>m y (Zw _ d)) g;refine⟨cl,?_,q,h3,λy d i=>?_⟩
   ·rw[Wl];dsimp only;rw[Zj (by simpa using j),pure_bind];exact s
   ·rcases Zq.mp d with rfl | d
    ·exact absurd i j
    ·exact p y d i
def r6{sc:Scope}{env:Env}(a:∀y∈sc.names,y.2=.free->∃c,env.cells.lookup y.1=O c) :
  ∃cl,closureFor sc env=pure cl/\(∀x c,cl.lookup x=O c->env.cells.lookup x=O c)/\∀y∈sc.names,y.2=.free->∃c,cl.lookup y.1=O c:=by
 obtain⟨cl,e,d,_,b⟩:=jS env sc.names [] a (λx c h=>nomatch h);refine⟨cl,?_,d,b⟩;simp only[closureFor];rw[e];rfl
def bY{l:List (Str×NameKind)}{x:Str}{k:NameKind}(h:l.lookup x=O k):(x,k)∈l:=by
 induction l with
 |nil=>cases h
 |cons p l a =>
  rw[Y6]at h;split at h
  ·rename_i b;have e:x=p.1:=by simpa using b
   cases h;rw[e];exact Zx
  ·exact Zw _ (a h)
theorem cU{a:Env}{x:Str}{k:NameKind}:∀{l:List (Str×NameKind)},(l.map λ(n,k)=>if (k==NameKind.free&&a.scope.kind == .function&&a.kindOf n==O .cell) then (n,NameKind.cell) else (n,k)).lookup x=O k →
  ∃k0,l.lookup x=O k0/\(k=k0\/(k0=.free/\k=.cell))
 |[],h=>nomatch h
 | (n,k1) :: l,h=>by
  rw[Zp,Y6]at h;by_cases d:(k1==NameKind.free&&a.scope.kind == .function&&a.kindOf n==O .cell)=J
  ·simp only[d,if_true]at h;rw[Y6];cases b:x==n with
   |true =>
    rw[b]at h;have:k1=.free:=by
     have:=(Wo.mp (Wo.mp d).1).1;simpa using this
    exact⟨k1,rfl,.inr ⟨this,(ZK h).symm⟩⟩
   |false=>rw[b]at h;exact cU h
  ·simp only[d,if_false,Ij]at h;rw[Y6];cases b:x==n with
   |true=>rw[b]at h;exact⟨k1,rfl,.inl (ZK h).symm⟩
   |false=>rw[b]at h;exact cU h
def cN(X:Cx)(N:List Str)(a:Scope)(d:List (Str×GM))(C:GM)(s:FB)(H:Hp)(b:X4):Cx :=
 { X with N:=N,s₀:=s,H₀:=H,env:=compEnvC a d C X.env,outer:=X.stack,ex:=b,fn:=λ_=>false,pn:=[],xe:=λ_ _=>False }
def iQ(env:Env)(sc:Scope):Bool:=sc.kind == .function&&sc.names.all λy=>match y.2 with
 |.cell=>S
 |.local=>sc.names.lookup y.1==O .local
 |.free=>env.kindOf y.1==O .cell||env.kindOf y.1==O .free
 |_=>J
def i6(d:Scope):List Str->List Str->Bool
 |[],[]=>J
 |a :: e,b :: bs=>((a==b&&d.names.lookup a==O .free)||d.names.lookup a==Y||d.names.lookup a==O .globalImplicit)&&i6 d e bs
 |_,_=>S
theorem nI{d:Scope}:∀{f bs:List Str},i6 d f bs=J->f.length=bs.length/\∀(i:Nat)(x:Str),f[i]?=O x->(bs[i]?=O x/\d.names.lookup x=O .free)\/d.names.lookup x=Y\/d.names.lookup x=O .globalImplicit
 |[],[],_=>⟨rfl,λi x h=>by simp at h⟩
 |a :: f,b :: bs,h=>by
  simp only[i6,Yz]at h;obtain⟨g,n⟩:=h;obtain⟨l,r⟩:=nI n;refine⟨by simp[l],λi x e=>?_⟩;cases i with
  |zero =>
   have:a=x:=by simpa using e
   subst this;simp only[Bool.or_eq_true,Yz]at g;rcases g with (⟨m,j⟩ | z) | z
   ·exact .inl ⟨by simpa using(by simpa using m:a=b).symm,by simpa using j⟩
   ·exact .inr (.inl (by simpa using z))
   ·exact .inr (.inr (by simpa using z))
  |succ i=>simpa using r i x (by simpa using e)
 |[],_ :: _,h=>by simp[i6]at h
 |_ :: _,[],h=>by simp[i6]at h
section
variable{X:Cx}{pins:Yf}{Z:St}{H:Hp}{s:FB}
def Inv.block{N:List Str}{sc:Scope}{cl:List (Str×GM)}{C D:GM}{fp:X4}{k:Nat}{F:SC}{t:Nat}{m:X3}(I:Inv X pins Z H s)(W:iQ X.env sc=J)(Iv:i6 sc (N.drop k) X.N=J)(Kd:k<=N.length)(n:∀x c,cl.lookup x=O c->X.env.cells.lookup x=O c)(Ka:∀y∈sc.names,y.2=.free->∃c,cl.lookup y.1=O c)(L:∀b∈fp,fU X pins H b)(B:s.heap.objs.size<=D)(hC:s.heap.objs.size<=C)(O9:D≠C)(O8:C∉fp)(d:∀b u,s.heap.get? b=O u->F.get? b=O u)(Lj:F.Ns C m)(RT:F.get? D=O { cls:=.type "list",data:=.seq ([]:Ws).toArray 0 }) :
  Inv (cN X N sc cl C s H fp) [] (List.replicate k Y++Z) (upd H D (.lst [])) { s with heap:=F,toks:=t }:=by
 unfold iQ at W;rw[Yz,ZD]at W;obtain⟨hk,Gp⟩:=W;have Gy:sc.kind=.function:=by simpa using hk
 obtain⟨hlen,Jn⟩:=nI Iv;have G1:∀y∈sc.names,y.2 ≠ .cell:=λy hy e=>by have:=Gp y hy;rw[e]at this;cases this
 have frees:∀x a,(relabel sc X.env).names.lookup x=O a->a=.cell\/a=.free->sc.names.lookup x=O .free:=λx a h TQ=>by
  obtain⟨k0,f,P⟩:=cU h;rcases P with e | ⟨e,_⟩
  ·subst e;rcases TQ with e | e
   ·subst e;exact absurd M (G1 _ (bY f))
   ·subst e;exact f
  ·subst e;exact f
 have KQ:H D=Y:=I.xa.fresh B;have Q:H C=Y:=I.xa.fresh hC;refine⟨⟨I.mod,Gy,I.ok.glob,I.ok.blt,hC,λx y c e1 e2=>I.ok.inj x y c (n x c e1) (n y c e2),λx hx=>?_,λx c e=>(nomatch e),I.ok.hd,I.ok.frames,.inl M,λb j=>⟨λ(e:b=C)=>O8 (e ▸ j),λx c e=>(L b j).2.2.2.2.1 x c (n x c e)⟩,
  I.tb,I.bs,ZU I.ok.Km I.sz,λb o e j=>?_,λb j g=>?_,I.stack,I.HP⟩,rfl,I.bare,Un.laid d B KQ,⟨m,Lj,λi x v e1 e2 R=>?_⟩,λx c e=>?_,?_,λx c e=>?_,λp hp=>(nomatch hp),I.xa.laid d B ?_,?_⟩
 ·have h:∃a,(relabel sc X.env).names.lookup x=O a/\(a=.cell\/a=.free):=by
   rcases hx with e | e
   ·exact⟨_,e,.inl M⟩
   ·exact⟨_,e,.inr M⟩
  obtain⟨a,G,U⟩:=h;exact Ka _ (bY (frees x a G U)) M
 ·have g:b∈fp:=j;rcases (L b g).2.2.2.1 with z | z
  ·exact I.ok.J1 b o e z
  ·exact absurd (ZC (ZY e) (ZU I.ok.Km z)) (YZ _)
 ·have Mn:b∈GV X.stack:=g;rcases Zq.mp (I.GS b Mn) with z | z
  ·exact(L b j).2.1 z
  ·exact(L b j).2.2.1 z
 ·
  have Ln:k<=i:=by
   rcases Wc i k with z | z
   ·rw[Yp (by simpa using z),Xr]at e2;split at e2<;>cases e2
   ·exact z
  rw[JS (by simpa using Ln),Y7]at e2;have Of:(N.drop k)[i-k]?=O x:=by
   rw[List.getElem?_drop,show k+(i-k)=i by exact VW Ln];exact e1
  have UH:sc.names.lookup x=O .free->∃a,(relabel sc X.env).names.lookup x=O a/\(a=.cell\/a=.free):=λf=>by
   have A:Ik (relabel sc X.env) x:=R;rcases A with z | z | z
   ·obtain⟨k0,G,U⟩:=cU z;rw[f]at G;cases G;rcases U with q | ⟨_,q⟩<;>cases q
   ·exact⟨_,z,.inl M⟩
   ·exact⟨_,z,.inr M⟩
  have no:∀k0,sc.names.lookup x=O k0->∃a,(relabel sc X.env).names.lookup x=O a->True:=λ_ _=>⟨.local,λ_=>trivial⟩
  rcases Jn _ x Of with⟨hX,f⟩ | f | f
  ·obtain⟨a,MW,KI⟩:=UH f;have hf:=Gp _ (bY f);have NX:X.env.kindOf x=O .cell\/X.env.kindOf x=O .free:=by
    simpa using hf
   obtain⟨mX,hnX,Rq⟩:=I.loc;have Pp:Ik X.env.scope x:=NX.elim (λz=>.inr (.inl z)) λz=>.inr (.inr z);obtain⟨u,r,l⟩:=Rq _ x v hX e2 Pp;refine⟨u,r,.inr ⟨?_,?_⟩⟩
   ·rcases KI with z | z
    ·subst z;exact .inl MW
    ·subst z;exact .inr MW
   ·obtain⟨c,hc⟩:=Ka _ (bY f) M;refine⟨c,hc,?_⟩;rcases l with⟨z,_⟩ | ⟨_,c',GC,IU⟩
    ·rcases NX with q | q<;>(rw[z]at q;cases q)
    ·have:=n x c hc;rw[GC]at this;cases this;exact IU.keeps d
  ·have A:Ik (relabel sc X.env) x:=R;rcases A with z | z | z<;>(obtain⟨k0,w,_⟩:=cU z;rw[f]at w;cases w)
  ·have A:Ik (relabel sc X.env) x:=R;rcases A with z | z | z<;>(obtain⟨k0,w,z2⟩:=cU z;rw[f]at w;cases w;rcases z2 with q | ⟨q,_⟩<;>cases q)
 ·obtain⟨v,z⟩:=I.cell x c (n x c e);exact⟨v,z.keeps d⟩
 ·show upd H D (.lst []) C=Y;rw[av (Y2 O9)];exact Q
 ·obtain⟨v,z⟩:=I.cell x c (n x c e);rw[av (ZV (ZC z.lt B))];exact I.Gk x c (n x c e)
 ·exact⟨ZN _,[],0,.nil,RT⟩
 ·show (List.replicate k Y++Z).length=N.length;rw[Zu,Y7,I.len,← hlen,ZE];exact VW Kd
def za(X:Cx)(a:List Expr)(t:TT):Prop :=
 ∀(pins:Yf)(s:FB)(Z:St)(H:Hp)(Q:Bool->Hp->Prop),Inv X pins Z H s->t Z H Q →
  KB (FM X.prog X.w) X.A (forIn a J λc r=>if r=J then (do let ok ← isTrue c X.env (eval c X.env);pure (ForInStep.yield ok)) else pure (ForInStep.yield r)) (TP X pins Z Q) X.xe s
def pD:za X [] (λZ H Q=>Q J H):=λpins s Z H Q I q=>Zs ⟨H,I,q⟩
def wX{c:Expr}{t:TT}(h:PT X c t):za X [c] t:=λpins s Z H Q I q=>by
 rw[Wl,Zn M];refine Zz (Zz (thn (h pins s Z H Q I q) λb d a=>Zs ?_));exact Zs a
section
variable{prog:PP}{w:SL}{A:Pi}{R:Result->FB->Prop}
def p7{i a f:Expr}{g:List Expr}{d:Scope}{l:Pos}{o j:IR}{b:Env}{s:FB}(I:Nat->FB->Prop)(turn:∀n s,I n s->KB (FM prog w) A (pyNext o) (λr q=>match r with
   |none=>R (.ok .next) q
   |some v=>KB (FM prog w) A (letOwnedTupleGo a o v) (λ_ B=>KB (FM prog w) A (assign a b v) (λ_ z =>
     KB (FM prog w) A (forIn g J λc r=>if r=J then (do let ok ← isTrue c b (eval c b);pure (ForInStep.yield ok)) else pure (ForInStep.yield r)) (λok p =>
      if ok=J then KB (FM prog w) A (eval i b) (λx y =>
       KB (FM prog w) A (call (.builtin "list.append") [j,x]) (λ_ u=>∃m,m<n/\I m u) (λ_ _=>False) y) (λ_ _=>False) p
      else ∃m,m<n/\I m p) (λ_ _=>False) z) (λ_ _=>False) B) (λ_ _=>False) q) (λ_ _=>False) s)(n:Nat)(h:I n s) :
  codeAny (FM prog w) A (.compLoop (.ListComp i [⟨a,f,g,0⟩] d l) 0 o j b) R s:=by
 refine codeAny_loop M I (λn s L=>?_) n h;show KB _ A ((compTurn (.ListComp i [⟨a,f,g,0⟩] d l) 0 o j b).onRaise (λx=>do noteFrame x b;theTreesLotGoes x)) _ _ s;refine wpAny_noted ?_;rw[compTurn_list];refine Zz (wpAny_standAt (Zz (Yj (turn n s L) (λr q C=>?_) λ_ _ e=>e.elim)));cases r with
 |none=>exact Zs C
 |some v =>
  refine Zz (Yj C (λ_ B h₀=>?_) λ_ _ e=>e.elim);refine Zz (Yj h₀ (λ_ z G=>Zz (Yj G (λok p t=>?_) λ_ _ e=>e.elim)) λ_ _ e=>e.elim);cases ok with
  |false=>exact Zs ⟨rfl,t⟩
  |true =>
   rw[Zn M]at t;exact Zz (Zz (Yj t (λx y F=>Zz (Yj F (λ_ u D=>Zs (Zs ⟨rfl,D⟩)) λ_ _ e=>e.elim)) λ_ _ e=>e.elim))
end
noncomputable def vW(k:Nat)(p:TI)(g:TG)(r:TT)(q:TE)(Z:St)(H:Hp)(Q:VK):Prop:=p Z H λJ o=>∀D,o D=Y->∃W:Nat->Nat->St->Hp->Prop,
 (∃m,W 0 m (List.replicate k Y++Z) (upd o D (.lst [])))/\∀i m h d,W i m h d->(J.stop i d/\Q (.ref D) d)\/(J.go i d/\∀x n,J.OI i d x n->g x h n λe t=>r e t λb l =>
  if b=true then q e l λy j=>∃f,j D=O (.lst f)/\f.length<FS/\∃a,a<m/\W (i+1) a e (upd j D (.lst (f++[y]))) else ∃a,a<m/\W (i+1) a e l)
def u7{G tg j:Expr}{B:List Expr}{sc:Scope}{pos pos':Pos}{N:List Str}{k:Nat}{wi:TI}{g:TG}{tc:TT}{te:TE}{use:Option (IR->Sem Unit)}{QQ:Yu}{Q:VK}(Gz:X.calm=true)(hi:PI X tg j wi)(G0:iQ X.env sc=true)(Iv:i6 sc (N.drop k) X.N=true)(Kd:k<=N.length)(Gb:∀cl C s H fp,PG (cN X N sc cl C s H fp) tg g/\za (cN X N sc cl C s H fp) B tc/\PE (cN X N sc cl C s H fp) G te)(hs:∀x,UF j X.env x=pure x)(I:Inv X pins Z H s)(h:vW k wi g tc te Z H Q)(hq:∀s' l D C m,Inv X pins Z l s'->Q (.ref D) l->s'.heap.Ns C m->fU X pins l C->compPost (FM X.prog X.w) X.A X.xe use QQ (.ref D) C (.ok .next) s') :
  KB (FM X.prog X.w) X.A (comprehension (.ListComp G [⟨tg,j,B,0⟩] sc pos) sc X.env pos' (newList []) S (eval j X.env) use) QQ X.xe s:=by
 have G3:=G0;unfold iQ at G3;rw[Yz,ZD]at G3;obtain⟨hk,Gp⟩:=G3;have Gy:sc.kind=.function:=by simpa using hk
 have G1:∀y∈sc.names,y.2 ≠ .cell:=λy F e=>by have:=Gp y F;rw[e]at this;cases this
 have Mi:∀y∈sc.names,y.2=.local->sc.names.lookup y.1=O .local:=λy F e=>by
  have:=Gp y F;rw[e]at this;simpa using this
 obtain⟨cl,KL,HG,Ka⟩:=r6 (sc:=sc) (env:=X.env) λy F e=>I.ok.has y.1 (by
  have:=Gp y F;rw[e]at this;simpa using this)
 refine wpAny_comprehension_free (use:=use) M hs KL Gy Mi (thn (hi pins s Z H _ I h) λv s1 h1=>thn h1 λQU f h2=>?_);obtain⟨it,fp,tn,J,H2,e,I2,T,F9,f2,hW⟩:=h2;subst e;refine Wt (wpAny_newFunctionEnv G1 (by intro y F;simp at F) (λh₁ IM HU=>?_) Gy);dsimp only at IM HU ⊢;generalize hP:f.heap.push { cls:=.type "list",dict:=none,data:=.seq ([]:Ws).toArray }=P at IM HU ⊢;have RV:P.objs.size=f.heap.objs.size+1:=by rw[← hP,Xg]
 have old:∀b o,f.heap.get? b=O o->h₁.get? b=O o:=λb o e =>
  HU.extBut b o (by rw[RV];exact ZV (Xc (ZY e))) (Zt _ (hP ▸ Zt _ e))
 have O9:f.heap.objs.size≠P.objs.size:=by rw[RV];exact ZV (Nat.lt_succ_self _)
 have RT:h₁.get? f.heap.objs.size=O { cls:=.type "list",data:=.seq ([]:Ws).toArray 0 }:=HU.extBut _ _ O9 (Zt _ (hP ▸ Zc _ M));have Ms:f.heap.objs.size<=P.objs.size:=by rw[RV];exact Nat.le_succ _
 have Le:∀b∈fp,b<f.heap.objs.size:=λb a=>let ⟨o,ho,_⟩:=T.obj 0 _ F9 b a;ZY ho
 have O8:P.objs.size∉fp:=λa=>absurd (ZC (Le _ a) Ms) (YZ _);have IY:=I2.block (N:=N) (sc:=sc) (cl:=cl) (C:=P.objs.size) (D:=f.heap.objs.size) (fp:=fp) (k:=k) (t:=f.toks+([]:List (Str×IR)).length) G0 Iv Kd HG Ka f2 (Zo _) Ms O9 O8 old IM RT;obtain⟨hG,hT,hE⟩:=Gb cl P.objs.size f H2 fp;generalize hY:cN X N sc cl P.objs.size f H2 fp=Y at IY hG hT hE;have hYm:Y.prog=X.prog/\Y.w=X.w/\Y.K=X.K/\Y.A=X.A/\Y.env=compEnvC sc cl P.objs.size X.env/\Y.calm=X.calm/\(Y.xe=λ_ _=>False):=by rw[← hY];exact⟨rfl,rfl,rfl,rfl,rfl,rfl,rfl⟩
 obtain⟨U,R,y3,L,y5,y6,y7⟩:=hYm;have II:∀{l:Hp},(∀b∈fp,l b=none)->∀b∈fp,fU Y [] l b:=λ{l} hn b a=>by
  rw[← hY];refine⟨hn b a,λ(e:b=P.objs.size)=>O8 (e ▸ a),λhb'=>?_,.inl a,λx c e=>(f2 b a).2.2.2.2.1 x c (HG x c e),λp hp=>(nomatch hp)⟩;rcases Zq.mp (I2.GS b hb') with z | z
  ·exact(f2 b a).2.1 z
  ·exact(f2 b a).2.2.1 z
 obtain⟨W,⟨m0,w0⟩,turn⟩:=hW f.heap.objs.size (I2.xa.fresh (Zo _));have RA:∀b∈fp,upd H2 f.heap.objs.size (.lst []) b=none:=λb a=>by rw[av (ZV (Le b a))];exact(f2 b a).1
 have HQ:tn 0 h₁:=T.keep _ _ _ F9 λb _ o e=>old b o e;have loop:codeAny (FM X.prog X.w) X.A (.compLoop (.ListComp G [⟨tg,j,B,0⟩] sc pos) 0 (.ref it) (.ref f.heap.objs.size) (compEnvC sc cl P.objs.size X.env)) (compPost (FM X.prog X.w) X.A X.xe use QQ (.ref f.heap.objs.size) P.objs.size)
   { f with heap:=h₁,toks:=f.toks+([]:List (Str×IR)).length }:=by
  refine p7 (λn s'=>∃i Z' l,Inv Y [] Z' l s'/\tn i s'.heap/\(∀b∈fp,l b=none)/\W i n Z' l) ?_ m0 ⟨0,_,_,IY,HQ,RA,w0⟩;rintro n s3 ⟨i,Z3,H3,I3,HQ,Oe,w3⟩;rcases turn i n Z3 H3 w3 with⟨stop,qn⟩ | ⟨go,step⟩
  ·have q:=T.done Y U R y3 (y6.trans Gz) i [] s3 Z3 H3 (λ_ _=>False) I3 (II Oe) HQ stop;rw[L]at q;refine thn q λr s4 ⟨hr,I4⟩=>?_;subst hr;have IX:Inv X pins Z H3 s4:=by
    have b4:=I4.base;have o4:=I4.os;have k4:=I4.xa;rw[← hY]at b4 o4 k4;refine I2.Ov (ch:=fp) o4 b4 k4 I4.bare λb a=>?_;exact⟨(f2 b a).2.2.2.1,(f2 b a).2.1,(f2 b a).2.2.2.2.1,(f2 b a).2.2.2.2.2⟩
   obtain⟨mC,TL,_⟩:=I4.loc;have f4:=I4.free;rw[y5]at TL f4;exact hq s4 H3 _ P.objs.size mC IX qn TL (I2.Hj Ms f4)
  ·have q:=T.item Y U R y3 (y6.trans Gz) i [] s3 Z3 H3 (λ_ _=>False) I3 (II Oe) HQ go;rw[L]at q;refine thn q λr s4 ⟨u,hr,h4⟩=>?_;subst hr;refine thn h4 λ_ s5 ⟨x,H5,I5,r5,UB,LN,RX⟩=>?_;have SW:=I5.pinned (II RX) (T.obj _ _ LN);have again:∀{Z7:St}{H7:Hp}{s7:FB}{m:Nat},Inv Y ([]++lO fp s5.heap) Z7 H7 s7->W (i+1) m Z7 H7->∃i Z' l,Inv Y [] Z' l s7/\tn i s7.heap/\(∀b∈fp,l b=none)/\W i m Z' l:=λ{Z7 H7 s7 m} I7 w7=>by
    refine⟨i+1,Z7,H7,I7.GH,T.keep _ _ _ LN λb a o e=>(I7.pin (b,o) (Jc _ (Jc _ (gO a e)))).1,λb a=>?_,w7⟩;obtain⟨o,e,d⟩:=T.obj _ _ LN b a;exact(I7.pin (b,o) (Jc _ (Jc _ (gO a e)))).2.1
   have qa:=hG _ s5 Z3 H5 x u _ SW r5 (step x H5 UB);rw[U,R,L,y5,y7]at qa;refine thn qa λ_ s6 ⟨Z6,H6,I6,q6⟩=>?_;have qt:=hT _ s6 Z6 H6 _ I6 q6;rw[U,R,L,y5,y7]at qt;refine thn qt λb s7 ⟨H7,I7,q7⟩=>?_;cases b with
   |false =>
    rw[Zj Za]at q7 ⊢;obtain⟨m',hm,w7⟩:=q7;exact⟨m',hm,again I7 w7⟩
   |true =>
    rw[Zn M]at q7 ⊢;have qe:=hE _ s7 Z6 H7 _ I7 q7;rw[U,R,L,y5,y7]at qe;refine thn qe λyv s8 ⟨y,H8,I8,r8,ys,hD8,hl8,m',hm,w8⟩=>?_;have qp:=iz (X:=Y) _ s8 Z6 H8 (.ref f.heap.objs.size) [y] (.ref f.heap.objs.size) [yv] (λ_ H9=>W (i+1) m' Z6 H9) I8 M (.cons r8 .nil) ⟨_,ys,y,rfl,rfl,hD8,hl8,w8⟩;rw[U,R,L,y7]at qp;refine thn qp λ_ s9 ⟨_,H9,I9,_,w9⟩=>?_;exact⟨m',hm,again I9 w9⟩
 exact codeAny_compStart_list loop (T.self _ 0 _ _ _ HQ loop)
def nS{j l a:Expr}{i:List Expr}{d:Scope}{n:Pos}{N:List Str}{k:Nat}{p:TI}{g:TG}{t:TT}{r:TE}(M:X.calm=J)(y:PI X l a p)(R:iQ X.env d=J)(B:i6 d (N.drop k) X.N=J)(A:k<=N.length)(P:∀cl C s H fp,PG (cN X N d cl C s H fp) l g/\za (cN X N d cl C s H fp) i t/\PE (cN X N d cl C s H fp) j r)(v:∀x,UF a X.env x=pure x:=by intro _;rfl):PE X (.ListComp j [⟨l,a,i,0⟩] d n) (vW k p g t r):=by
 intro pins s Z H Q I h;rw[eval_ListComp];refine u7 (use:=Y) M y R B A P v I h λu L D C m G q w f=>⟨m,w,λU F=>?_⟩
 exact⟨.ref D,L,G.turned (it:=C) (t':=u.toks) (λb o z e=>F.extBut b o z e) f.1 f.2.1 f.2.2.2.1 f.2.2.2.2.1 f.2.2.2.2.2,rfl,q⟩
end
end td
end
section
namespace VS
open PySem PySem.Spec PyProof.Rows td
def Ax(k:Nat)(g:Tg):Prop:=∀t U a,g t U=O a->a.length=U.length/\∀i,k<=i->a[i]?=U[i]?
def km{k i:Nat}(h:i<k:=by decide):Ax k (aZ i):=λt U b e=>by
 unfold aZ at e;split at e
 ·cases e;exact⟨by simp,λj a=>by rw[XT (by lia)]⟩
 ·cases e
theorem sA:∀(l:V4){i:Nat}{t:T},fA l=J->l[i]?=O t->FY t=J
 |[],_,_,_,h=>by simp at h
 |x :: l,0,t,h,e=>by
  simp only[fA,Yz]at h;simp at e;rw[← e];exact h.1
 |x :: l,i+1,t,h,e=>by
  simp only[fA,Yz]at h;exact sA l h.2 (by simpa using e)
def tC(G:Gx):Option Ex->TT
 |none=>λZ H Q=>Q J H
 |some c=>tT G c
section
variable{G:Gx}{L:FH}{U:VS.Env}{Z:td.St}{H:Hp}{k:Nat}
def jg{i:Nat}{c:Cell}:(List.replicate k Y++U)[i]?=O (O c)↔k<=i/\U[i-k]?=O (O c):=by
 rcases Wc i k with h | h
 ·rw[Yp (by simpa using h),Xr];constructor
  ·intro e;split at e<;>cases e
  ·intro ⟨e,_⟩;lia
 ·rw[JS (by simpa using h),Y7];exact⟨λe=>⟨h,e⟩,λe=>e.2⟩
def xY{a:GM}:bW (λi=>L (i-k)) (List.replicate k Y++U) a↔bW L U a:=by
 constructor
 ·rintro⟨j,t,d,b⟩;exact⟨j-k,t,(jg.mp d).2,b⟩
 ·rintro⟨j,t,d,b⟩;refine⟨j+k,t,jg.mpr ⟨Xh _ _,by rw[WW];exact d⟩,?_⟩;show a∈L (j+k-k);rw[WW];exact b
def vt{a:GM}:dw (λi=>L (i-k)) (List.replicate k Y++U) a↔dw L U a:=by
 constructor
 ·rintro⟨j,t,d,b⟩;exact⟨j-k,t,(jg.mp d).2,b⟩
 ·rintro⟨j,t,d,b⟩;refine⟨j+k,t,jg.mpr ⟨Xh _ _,by rw[WW];exact d⟩,?_⟩;show a∈L (j+k-k);rw[WW];exact b
def SR.sh(s:SR G L U Z H):SR G (λi=>L (i-k)) (List.replicate k Y++U) (List.replicate k Y++Z) H:=by
 refine⟨by simp[s.len],λi c h=>?_,λi t h=>?_,λi j t c b a n=>?_⟩
 ·obtain⟨b,a⟩:=jg.mp h;obtain⟨v,e,d⟩:=s.rp _ c a;refine⟨v,?_,d⟩;rw[JS (by simpa using b),Y7];exact e
 ·exact s.nd _ t (jg.mp h).2
 ·obtain⟨a1,a2⟩:=jg.mp b;obtain⟨g,f⟩:=jg.mp a;exact s.sep _ _ t c a2 f (by lia)
def SR.less{a:VS.Env}(s:SR G L a Z H)(b:U.length=a.length)(h:∀(i:Nat) c,U[i]?=O (O c)->a[i]?=O (O c)):SR G L U Z H :=
 ⟨b.trans s.len,λi c e=>s.rp i c (h i c e),λi t e=>s.nd i t (h i _ e),λi j t c e1 e2 n=>s.sep i j t c (h i _ e1) (h j _ e2) n⟩
def SR.off{D:GM}{o:HO}(s:SR G L U Z H)(m:FG (H D)\/H D=Y)(f:¬dw L U D)(d:¬bW L U D):SR G L U Z (upd H D o):=by
 refine⟨s.len,λi c e=>?_,s.nd,s.sep⟩;obtain⟨v,j,h⟩:=s.rp i c e;refine⟨v,j,h.keep (Kept.upd m) λb a l g=>?_⟩;rw[av λz=>?_]
 ·exact g
 ·subst z;cases c with
  |pu t=>exact f ⟨i,t,e,a⟩
  |ow t=>exact d ⟨i,t,e,a⟩
theorem lA:∀(l:V2)(v:Val),bQ (l++[v])=(bQ l).join v.1
 |[],(m,t)=>by cases m<;>rfl
 | (m,t) :: l,v=>by
  show m.join (bQ (l++[v]))=(m.join (bQ l)).join v.1;rw[lA l v];generalize bQ l=q;generalize v.1=r;cases m<;>cases q<;>cases r<;>rfl
def Fp.NC{m n:Md}{F j:X4}(f:Fp L U H m F)(g:Fp L U H n j)(d:n=.fr->∀a∈F,a∉j):Fp L U H (m.join n) (F++j):=by
 have both:∀{P:GM->Prop},(∀a∈F,P a)->(∀a∈j,P a)->∀a∈F++j,P a:=λp q a h=>(Zb.mp h).elim (p a) (q a);cases m<;>cases n
 ·exact⟨ZG.mpr ⟨f.1,g.1,λa i b l e=>d M a i (e ▸ l)⟩,both f.2 g.2⟩
 ·exact both (λa i=>.inl (f.2 a i)) g
 ·exact both (λa i=>.inl (f.2 a i)) g
 ·exact both f λa i=>.inl (g.2 a i)
 ·exact both f g
 ·exact both (λa i=>(f a i).imp id .inl) g
 ·exact both f λa i=>.inl (g.2 a i)
 ·exact both f λa i=>(g a i).imp id .inl
 ·exact both f g
def Fp.Oi{m:Md}{F:X4}{D:GM}(f:Fp L U H m F)(h:H D=Y)(d:D∉F):Fp L U H m (D :: F):=by
 have all:∀{P:GM->Prop},P D->(∀a∈F,P a)->∀a∈D :: F,P a:=λp q a b=>(Zq.mp b).elim (λe=>e ▸ p) (q a);cases m
 ·exact⟨ZS.mpr ⟨d,f.1⟩,all h f.2⟩
 ·exact all (.inl h) f
 ·exact all (.inl h) f
end
section
variable{G:Gx}{k:Nat}{tg:Tg}{ci:GB}{cond:Option Ex}{ce:Ex}
noncomputable def CI(G:Gx)(L:FH)(U b:VS.Env)(H p:Hp)(D:GM)(l:V4)(h:V2)(q:Tg)(d:Option Ex)(r:Ex)(i n:Nat)(s:td.St)(f:Hp):Prop:=n=l.length-i/\∃e g j m rest,SR G e b s f/\(∀a,bW e b a->bW L U a)/\(∀a,dw e b a->H a=Y\/dw L U a)/\¬dw e b D/\¬bW e b D/\Kept p f ∧
     (∀a o,a≠D->p a=O o->f a=O o)/\f D=O (.lst m)/\xh G f m (trees g) j/\D∉j.flatten/\Fp L U H (bQ g) j.flatten/\iJ q d r b (l.drop i)=O rest/\g++rest=h
def tY{Z:td.St}{H:Hp}{Q:VK}(Gb:Ax k tg)(h:tE G (eX k tg ci cond ce) Z H Q):vW k (tI G ci) (tG G tg) (tC G cond) (tE G ce) Z H Q:=by
 refine td.gg λP_ R=>?_;obtain⟨L,U,m,r,s,e,kq⟩:=h;unfold eX at e;obtain⟨⟨mi,l⟩,el,e1⟩:=Zy.mp e;dsimp only at e1;split at e1
 ·rename_i xa;obtain⟨all,ea,e2⟩:=Zy.mp e1;unfold Hw at e2;split at e2
  ·rename_i hlen;cases e2;refine R ?_;refine⟨L,U,mi,l,s,el,λJ H1 C e3 ok fc D hD=>?_⟩;have KQ:H D=Y:=e3.free hD;let X:VS.Env:=List.replicate k Y++U
   have good:∀{t:T}{i:Nat}{N H2:Hp}{v:V}{F:X4},l[i]?=O t->Rp G H2 v t F->(∀a,H1 a≠Y->N a≠Y)->(∀a∈F,a∈C\/N a=Y)->∀a∈F,(H a=Y\/dw L U a)/\¬bW L U a:=λ{t i N H2 v F} hi rF keep hF a d=>by
    have F0:∀{b},H b≠Y->N b≠Y:=λ{b} hb=>keep b λz=>hb (e3.free z);rcases hF a d with z | z
    ·rcases fc a z with q | q | ⟨q,w⟩
     ·exact⟨.inl q,λw=>FG.xb (s.GU w) q⟩
     ·exact⟨.inr q,λw=>s.JY w q⟩
     ·subst q;have:FY t=true:=by
       exact sA l xa hi
      rw[rF.FY this]at d;simp at d
    ·have hz:H a=Y:=Classical.byContradiction λq=>F0 q z;exact⟨.inl hz,λw=>FG.xb (s.GU w) hz⟩
   refine⟨CI G L U X H H1 D l all tg cond ce,?_,?_⟩
   ·refine⟨l.length-0,rfl,λi=>L (i-k),[],[],[],all,?_,λa h=>xY.mp h,λa h=>.inr (vt.mp h),λh=>?_,λh=>?_,Kept.upd (.inr hD),λa o n h=>by rw[av n];exact h,aw,.nil,by simp,Fp.nil,by rw[X7];exact ea,rfl⟩
    ·exact((s.same e3).sh).off (.inr hD) (λh=>FG.xb (s.JX (vt.mp h)) KQ) λh=>FG.xb (s.GU (xY.mp h)) KQ
    ·exact FG.xb (s.JX (vt.mp h)) KQ
    ·exact FG.xb (s.GU (xY.mp h)) KQ
   ·intro i n Z' N hh_;refine td.gg λP_ R=>?_;obtain⟨rfl,L1,P,Fs,xs,rest,s1,Te,VD,np1,no1,kp,old,MY,rp,nD,fp,er,ev⟩:=hh_;refine R ?_;have Jj:∀a,H1 a≠Y->N a≠Y:=λa d z=>by
     by_cases q:a=D
     ·subst q;rw[MY]at z;cases z
     ·cases e:H1 a with
      |none=>exact d e
      |some o=>rw[old a o q e]at z;cases z
    refine td.gg λP_ R=>?_;obtain⟨go,stop⟩:=ok.run N kp λa d o ho=>old a o (λz=>ok.F0 a d (z ▸ hD)) ho;cases hit:l[i]? with
    |none =>
     have hl:l.length<=i:=Yq.mp hit;refine R ?_;left;refine⟨stop i hl,?_⟩;rw[Xm hl]at er;cases (show O ([]:V2)=O rest from er);rw[ZP]at ev;subst ev;refine kq (.ref D) N (D :: Fs.flatten) (λa o h=>old a o (λz=>by rw[z,KQ]at h;cases h) (e3 a o h)) (.lst MY rp) ?_;by_cases hi:fA (trees P)=true
     ·rw[Zn hi,rp.FY hi];exact⟨by simp,λa d=>by rw[Zh.mp d];exact KQ⟩
     ·rw[Zj hi];exact fp.Oi KQ nD
    |some t =>
     have hl:i<l.length:=(ZW.mp hit).1;obtain⟨g1,y1⟩:=go i t hit;refine R ?_;right;refine⟨g1,λx H2 yl=>?_⟩;refine td.gg λP_ R=>?_;obtain⟨B,F,rF,hF⟩:=y1 x H2 yl;rw[nh (tgt:=tg) (body:=iu) (U:=U) hit]at er;rw[iJ]at er;obtain⟨p,e4,e5⟩:=Zy.mp er;obtain⟨b,eb,e6⟩:=Zy.mp e5;have gd:=good hit rF Jj hF;have s2:=s1.same B;have DF:D∉F:=λh=>by
      rcases hF D h with z | z
      ·exact ok.F0 D z hD
      ·rw[MY]at z;cases z
     refine R ?_;refine⟨L1,X,t,F,p,s2,rF,λa d z=>(gd a d).2 (Te a z),e4,λg Z3 s3 o3 p3=>?_⟩;obtain⟨tl,Nc⟩:=Gb t X p e4;have low:∀j c,X[j]?=O (O c)->p[j]?=O (O c):=λj c h=>by rw[Nc j (jg.mp h).1];exact h
     have OQ:∀a,dw g p a->H a=Y\/dw L U a:=λa h=>(p3 a h).elim (VD a) λh=>(gd a h).1;have P0:∀a,bW g p a->bW L U a:=λa h=>Te a (o3 a h);have Nt:¬dw g p D:=λh=>(p3 D h).elim np1 DF;have OT:¬bW g p D:=λh=>no1 (o3 D h);have OP:∀a,dw g X a->dw g p a:=λa ⟨j,u,h1,h2⟩=>⟨j,u,low j _ h1,h2⟩
     have OR:∀a,bW g X a->bW g p a:=λa ⟨j,u,h1,h2⟩=>⟨j,u,low j _ h1,h2⟩
     have K6:∀A,aO H2 A->(if b=true then tE G ce Z3 A λy I=>∃ys,I D=O (.lst ys)/\ys.length<FS/\∃m',m'<l.length-i/\CI G L U X H H1 D l all tg cond ce (i+1) m' Z3 (upd I D (.lst (ys++[y]))) else ∃m',m'<l.length-i/\CI G L U X H H1 D l all tg cond ce (i+1) m' Z3 A):=λA f=>by
      have eo:∀{I},aO A I->∀a o,N a=O o->I a=O o:=λ{I} M4 a o h=>M4 a o (f a o (B a o h));cases b with
      |false =>
       rw[Zj Za]at e6 ⊢;have same:=eo (aO.refl A);exact⟨_,by lia,rfl,g,P,Fs,xs,rest,(s3.same f).less (by rw[tl]) low,λa h=>P0 a (OR a h),λa h=>OQ a (OP a h),λh=>Nt (OP D h),λh=>OT (OR D h),kp.trans ((Kept.of B).trans (Kept.of f)),λa o n h=>same a o (old a o n h),same D _ MY,rp.same (aO.trans B f),nD,fp,e6,ev⟩
      |true =>
       rw[Zn M]at e6 ⊢;obtain⟨⟨mv,tv⟩,ece,e7⟩:=Zy.mp e6;obtain⟨Np,er1,G2⟩:=Zm.mp e7;refine⟨g,p,mv,tv,s3.same f,ece,λy I Fy M4 ry W=>?_⟩;have same:=eo M4;have T3:=same D _ MY;have OW:FG (I D):=by rw[T3];exact True.intro
       have RU:A D=O (.lst xs):=f D _ (B D _ MY);have J0:∀a,A a=Y->H a=Y:=λa h=>Classical.byContradiction λq=>Jj a (λz=>q (e3.free z)) (B.free (f.free h));have fyo:Fp L U H mv Fy:=by
        cases mv with
        |fr=>exact⟨W.1,λa d=>J0 a (W.2 a d)⟩
        |pu=>exact λa d=>(W a d).elim (λz=>.inl (J0 a z)) (OQ a)
        |bo=>exact λa d=>(W a d).elim (λz=>.inl (J0 a z)) λz=>z.elim (λz=>(OQ a z).imp id .inl) λz=>.inr (.inr (P0 a z))
       have Uy:D∉Fy:=λh=>by
        cases mv with
        |fr=>have:=W.2 D h;rw[RU]at this;cases this
        |pu=>exact(W D h).elim (λz=>by rw[RU]at z;cases z) Nt
        |bo=>exact(W D h).elim (λz=>by rw[RU]at z;cases z) λz=>z.elim Nt OT
       have VA:xh G I xs (trees P) Fs:=rp.same ((B.trans f).trans M4);have lenx:xs.length=P.length:=by rw[rp.len.1];simp
       have lenv:P.length<all.length:=by rw[← ev,← G2];simp
       refine⟨xs,T3,?_,_,by lia,rfl,g,P++[(mv,tv)],Fs++[Fy],xs++[y],Np,(((s3.same f).same M4).off (.inl OW) Nt OT).less (by rw[tl]) low,λa h=>P0 a (OR a h),λa h=>OQ a (OP a h),λh=>Nt (OP D h),λh=>OT (OR D h),?_,λa o n h=>?_,aw,?_,?_,?_,er1,?_⟩
       ·have TM:all.length<=fC:=by simpa using hlen
        have:FS=fC:=rfl;lia
       ·exact(kp.trans ((Kept.of B).trans ((Kept.of f).trans (Kept.of M4)))).trans (Kept.upd (.inl OW))
       ·rw[av n];exact same a o (old a o n h)
       ·have:trees (P++[(mv,tv)])=trees P++[tv]:=by simp
        rw[this];exact(VA.off OW nD).append (.cons (ry.keep (Kept.upd (.inl OW)) λb hb o ho=>by rw[av (λz=>Uy (by rw[← z];exact hb))];exact ho) .nil)
       ·rw[IG];intro h;rcases Zb.mp h with z | z
        ·exact nD z
        ·exact Uy (by simpa using z)
       ·rw[IG,lA];have:([Fy]:Yd).flatten=Fy:=by simp
        rw[this];refine fp.NC fyo λhm a d hb=>?_;subst hm;have h4:=W.2 a hb;have:FG (A a):=(rp.same (B.trans f)).F0 a d;rw[h4]at this;exact this
       ·rw[Zk,← ev,← G2];rfl
     cases cond with
     |none =>
      cases (show O true=O b from eb);exact K6 H2 (aO.refl H2)
     |some c =>
      obtain⟨⟨mc,xc⟩,ec1,ec2⟩:=Zy.mp eb;exact⟨g,p,mc,xc,b,s3,ec1,ec2,λA f=>K6 A f⟩
  ·cases e2
 ·cases e1
end
section
variable{G:Gx}{X:Cx}{elt tg iter c:Expr}{sc:Scope}{pos pos' Nk:Pos}{N:List Str}{k i:Nat}{x:Str}{ci:GB}{g:Tg}{cc ce:Ex}
def nj(k:Nat)(N:List Str)(l:X.calm=J)(b:PVI G X tg iter ci)(m:Ax k g)(d:∀cl C s H fp,MJ G (cN X N sc cl C s H fp) tg g)(e:∀cl C s H fp,PV G (cN X N sc cl C s H fp) elt ce)(n:iQ X.env sc=J:=by rfl)(j:i6 sc (N.drop k) X.N=J:=by rfl)(f:k<=N.length:=by decide)(a:∀x,UF iter X.env x=pure x:=by intro _;rfl) :
  PV G X (.ListComp elt [⟨tg,iter,[],0⟩] sc pos) (eX k g ci Y ce) :=
 PE.weak (nS l b n j f (λcl C s H fp=>⟨d cl C s H fp,pD,e cl C s H fp⟩) a) λZ H Q h=>tY (cond:=Y) m h
def uP(k:Nat)(N:List Str)(m:X.calm=J)(b:PVI G X tg iter ci)(n:Ax k g)(d:∀cl C s H fp,MJ G (cN X N sc cl C s H fp) tg g)(f:∀cl C s H fp,IH G (cN X N sc cl C s H fp) c cc)(e:∀cl C s H fp,PV G (cN X N sc cl C s H fp) elt ce)(o:iQ X.env sc=J:=by rfl)(l:i6 sc (N.drop k) X.N=J:=by rfl)(j:k<=N.length:=by decide)(a:∀x,UF iter X.env x=pure x:=by intro _;rfl) :
  PV G X (.ListComp elt [⟨tg,iter,[c],0⟩] sc pos) (eX k g ci (O cc) ce) :=
 PE.weak (nS m b o l j (λcl C s H fp=>⟨d cl C s H fp,wX (f cl C s H fp),e cl C s H fp⟩) a) λZ H Q h=>tY (cond:=O cc) n h
end
end VS
end
section
namespace td
open PySem PySem.Spec PyProof.Rows
def SV(K:Xd)(a:GM):It :=
 ⟨λi H=>∃b x,FF K H a b/\b[i]?=O x,λi H v d=>∃p x,H p=Y/\v=.ref p/\d=upd H p (.tup [.int i,x])/\∀b,FF K H a b->b[i]?=O x,λi H=>∃b,FF K H a b/\b.length<=i⟩
def uD{P:PP}{w:SL}{K:Xd}{D:List Expr}{n:Nat}{N:Pos}(a e g:GM)(Jm:e≠g):Turn P w K (.Tuple D n N) (SV K a) [e,g] e (λi h=>(∃old,IsEnum h e g i old)/\h.IsListIter g a i) where
 mem:=by simp
 obj:=λi h st b f=>by
  obtain⟨⟨old,j⟩,o,R,c,d⟩:=st;rcases Zq.mp f with rfl | f
  ·exact⟨_,j,λv z=>by cases (show Data.fields _=Data.cell v from z)⟩
  ·rw[Zh.mp f];exact⟨o,R,λv z=>by rw[d]at z;cases z⟩
 keep:=λi h h' st k=>⟨let ⟨old,j⟩:=st.1;⟨old,k e (by simp) _ j⟩,st.2.at λo x=>k g (by simp) o x⟩
 item:=by
  intro X W hw hK hc i l s Z H E I A st U;subst W hw hK;obtain⟨xs,x,G,Q⟩:=U;obtain⟨p0,L,p,hz⟩:=I.list G;obtain⟨u,hu,ru⟩:=L.get Q;obtain⟨⟨old,j⟩,hit⟩:=st;refine wpAny_pyNext_enum_item j hit p.isList (x:=u) (by simpa using hu) Jm λh1 R Rv hT hsz hk=>⟨_,rfl,?_⟩
  refine wpAny_letOwnedTupleGo_enum R λC RG F=>?_;have F:Heap.SameBut e h1 C:=F;have Ts:e<s.heap.objs.size:=ZY j;have ltI:g<s.heap.objs.size:=let ⟨_,z,_⟩:=hit;ZY z
  have N8:H s.heap.objs.size=Y:=I.xa.fresh (Zo _);have B:∀b o,b∉[e,g]->s.heap.get? b=O o->C.get? b=O o:=λb o f q=>by
   have T5:b≠e:=λz=>f (by simp[z]);have h2b:b≠g:=λz=>f (by simp[z]);exact(F.2 b T5).trans (hk b o T5 h2b q)
  have N3:C.get? s.heap.objs.size=O { cls:=.type "tuple",data:=.seq #[.int i s.toks,u] }:=(F.2 _ (We Ts)).trans hT;have Nw:∀b o,H b=O o->b∉[e,g]:=λb o q f=>by rw[(A b f).1]at q;cases q
  have lt:∀b o,s.heap.get? b=O o->b≠s.heap.objs.size:=λb o q=>ZV (ZY q);have up:∀b o,H b=O o->upd H s.heap.objs.size (.tup [.int i,x]) b=O o:=λb o q=>by rw[av (aQ q N8)];exact q
  have Mf:Gn X.prog X.w (upd H s.heap.objs.size (.tup [.int i,x])) C:=λb ob q=>by
   by_cases f:b=s.heap.objs.size
   ·subst f;rw[aw]at q;cases q;exact⟨by show 2<=FS;decide,[.int i s.toks,u],.cons ⟨_,rfl⟩ (.cons ru .nil),Kp.of N3 M,⟨_,N3,rfl,_,rfl⟩⟩
   ·rw[av f]at q;refine(I.xa b ob q).Hv (λc v t r=>B c v ?_ r) (λc r=>up c _ r) (λc ys r=>up c _ r) λc _ _ r=>up c _ r;rcases t with z | z
    ·rw[z];exact Nw b ob q
    ·exact Nw c _ z
  refine⟨.ref s.heap.objs.size,upd H s.heap.objs.size (.tup [.int i,x]),?_,rfl,⟨_,x,N8,rfl,rfl,λys hy=>by rw[I.Hc hy G];exact Q⟩,⟨⟨u,by simpa using RG⟩,Rv.at λo y=>(F.2 g Jm.symm).trans y⟩,λb f=>?_⟩
  ·show Inv X l Z _ { s with heap:=C,gens:=s.gens,drawn:=s.drawn,toks:=s.toks+1 };refine I.step (g':=s.gens) (d':=s.drawn) (t':=s.toks+1) (ch:=[e,g]) (λb f=>?_) (λb o _ _ t q _=>B b o t q) (λb o _ _ t q _=>⟨o.slots,B b o t q⟩) (λb o _ q r=>by rw[av (lt b o q)];exact r) (λb o t q=>⟨o,B b o t q⟩)
    (λb ys q=>up b _ q) (λb o v q=>up b _ q) (λb _ q=>up b _ q) (λm hm=>?_) Mf I.bare
   ·obtain⟨f0,f1,f2,f3,f4,f5⟩:=A b f;exact⟨f3,f1,f4,f5⟩
   ·obtain⟨o,es,ep,Jy,r⟩:=hm;refine⟨o,es,ep,B _ o (λz=>?_) Jy,r⟩;exact(A _ z).2.1 M
  ·have:b≠s.heap.objs.size:=by
    rcases Zq.mp f with rfl | f
    ·exact ZV Ts
    ·rw[Zh.mp f];exact ZV ltI
   rw[av this];exact(A b f).1
 done:=by
  intro X W hw hK hc i l s Z H E I A st U;subst W hw hK;obtain⟨xs,G,Q⟩:=U;obtain⟨p0,L,p,hz⟩:=I.list G;obtain⟨⟨old,j⟩,hit⟩:=st;obtain⟨f0,f1,f2,f3,f4,f5⟩:=A g (by simp);have hl:=L.length;exact wpAny_pyNext_enum_end (I.ok.hd hc) j hit p.isList (by simp;lia) λh' eb=>⟨rfl,I.turned (t':=s.toks) (λb o f q=>eb b o f q) f0 f1 f3 f4 f5⟩
 self:=λ_ _ _ _ _ st h=>let ⟨_,j⟩:=st.1;wpAny_pyIter_enum j h
section
variable{X:Cx}{tg a:Expr}{ta:TA}{p pos:Pos}
def EV(K:Xd)(f:TA):TI:=λZ H R=>f Z H λe b=>∃l,e=[.ref l]/\(∃d,FF K b l d)/\R (SV K l) b
def AR{g:List Expr}{n:Nat}{D:Pos}(B:Gl X "enumerate")(z:X.mg "enumerate" = Y)(C:PA X [a] ta)(x:KM [a] X.env=[(S,eval a X.env)]:=by rfl):PI X (.Tuple g n D) (.Call (.Name "enumerate" p) [a] [] pos) (EV X.K ta):=by
 intro d s Z H R I h;refine Call_ (gL I B z boot_enumerate (Y1 (thn (C pos d s Z H _ I h) λN i ⟨L,F,j,r1,u⟩=>?_) x M));obtain⟨l,e,⟨G,y⟩,q⟩:=u;subst e;cases r1 with
 |cons r t =>
  cases t;cases r;obtain⟨Q,P,v,U⟩:=j.list y;refine call_enumerate_list v.isList λW o hit w A=>?_;refine wpAny_pyIter_enum o ?_;refine⟨_,_,_,_,F,rfl,j.kept (t':=i.toks) A,uD l (i.heap.objs.size+1) i.heap.objs.size (Nat.succ_ne_self _),⟨⟨_,o⟩,hit⟩,λb m=>?_,q⟩;have f:i.heap.objs.size<=b:=by
   rcases Zq.mp m with rfl | m
   ·exact ZI _ _
   ·rw[Zh.mp m];exact Zo _
  exact j.Hj f (j.xa.fresh f)
end
end td
namespace VS
open PySem PySem.Spec PyProof.Rows td
section
variable{G:Gx}{X:Cx}{a:Expr}{ca:Ex}{pos p Ip:Pos}{elts:List Expr}{n:Nat}
theorem pE:∀(l:V4)(k i:Nat){t:T},(d9 k l)[i]?=O t->∃x,l[i]?=O x/\t=.tup [.int ((k+i:Nat):Int),x]
 |[],_,_,_,h=>by simp[d9]at h
 |x :: l,k,0,t,h=>by
  simp[d9]at h;exact⟨x,rfl,by rw[← h];rfl⟩
 |x :: l,k,i+1,t,h=>by
  obtain⟨y,d,b⟩:=pE l (k+1) i (by simpa[d9] using h);refine⟨y,by simpa using d,?_⟩;rw[b,show k+1+i=k+(i+1) by lia]
theorem nc:∀(l:V4)(k:Nat),(d9 k l).length=l.length
 |[],_=>rfl
 |x :: l,k=>by simp[d9,nc l (k+1)]
def AI{H:Hp}{a:GM}{d:List V}{f:V4}{l:Yd}(K:Xd)(s:H a=O (.lst d))(r:xh G H d f l):IC G (SV K a) (d9 0 f) (a :: l.flatten) H:=by
 refine⟨λg k c=>?_,λb e=>?_⟩
 ·have j:g a=O (.lst d):=c a Zx _ s;have r2:xh G g d f l:=r.keep k λb e o C=>c b (Zw _ e) o C;refine⟨λi t h=>?_,λi h=>⟨d,FF.of j,by rw[nc]at h;rw[r.len.1];exact h⟩⟩;obtain⟨y,A,w⟩:=pE f 0 i h;rw[Y3]at w;obtain⟨v,F,u,D,h3⟩:=r2.get i A;refine⟨⟨d,v,FF.of j,u⟩,λx L ⟨p,z,B,e1,e2,I⟩=>?_⟩;subst e1 e2;have ex:=I d (FF.of j);rw[u]at ex;cases ex;have m:aO g (upd g p (.tup [.int i,v])):=λb o q=>by rw[av (aQ q B)];exact q
  refine⟨m,F,?_,λb e=>.inl (Zw _ (dA D e))⟩;rw[w];have:F=([[],F]:Yd).flatten:=by simp
  rw[this];exact .tup aw (.cons (.int _) (.cons (h3.same m) .nil))
 ·rcases Zq.mp e with rfl | e
  ·rw[s];exact λz=>nomatch z
  ·exact FG.xb (r.F0 b e)
def kS(r:PV G X a ca)(q:Gl X "enumerate")(o:X.mg "enumerate" = Y)(i:K0 a [] X:=by rfl)(z:KM [a] X.env=[(S,eval a X.env)]:=by rfl) :
  PVI G X (.Tuple elts n Ip) (.Call (.Name "enumerate" p) [a] [] pos) (m9 ca) :=
 PI.weak (AR q o (d5 r fJ i) z) λZ H R j=>by
  obtain⟨L,U,m,l,s,e,k⟩:=j;unfold m9 at e;obtain⟨⟨h,x⟩,u,e1⟩:=Zy.mp e;refine⟨L,U,h,x,s,u,λv A F w g t=>?_⟩;cases x with
  |lst B =>
   cases e1;obtain⟨y,d,C,rfl,rfl,b,f⟩:=g.lst_inv;exact⟨y,rfl,⟨d,FF.of b⟩,k _ A _ w (AI X.K b f) t.c⟩
  |_=>cases e1
end
instance {s:Tx}:Decidable (iE s):=inferInstanceAs (Decidable (_/\_))
section
variable{G:Gx}{X:Cx}{a b c e:Expr}{es:List Expr}{ca cb cc:Ex}{cs:Gd}{pos p p1 p2 apos xt:Pos}{k k':Nat}
def w_add(f:PV G X a ca)(d:PV G X b cb):PV G X (.BinOp a .Add b pos) (e2 bq ca cb):=iK zX B0 f d
def w_mul(f:PV G X a ca)(d:PV G X b cb):PV G X (.BinOp a .Mult b pos) (e2 fu ca cb):=iK CV C0 f d
def gy(f:PV G X a ca)(d:PV G X b cb):PV G X (.BinOp a .FloorDiv b pos) (e2 fN ca cb):=iK zQ yH f d
def w_mod(f:PV G X a ca)(d:PV G X b cb):PV G X (.BinOp a .Mod b pos) (e2 oMod ca cb):=iK BH CT f d
def ng(d:AU k X.A)(g:PV G X a ca)(f:PV G X b cb):IH G X (.Compare a [.Eq] [b] pos) (e2 oEq ca cb):=gp (rB d.units) wJ tells_eq g f (ig _)
def bj(g:PV G X a ca)(f:PV G X b cb)(d:kC b:=by intro _ _;rfl)(i:X.K=G.K:=by rfl):PV G X (.Subscript a b pos) (e2 aF ca cb) :=
 PE.weak (xJ xE g f d) λZ H Q h=>by rw[i];exact kR yh h
def ff(d:X.mg "len" = Y)(g:Ho G X [e] cs)(f:Gl X "len" := by rfl)(h:X.K=G.K:=by rfl)(he:K0 e [] X:=by rfl):PV G X (.Call (.Name "len" p) [e] [] pos) (eN dh cs) :=
 i4 (h ▸ u4) BW f d PySem.boot_len g (he:=he) (hpl:=rfl)
def CZ:bootBuiltins ("min" : Str)=O (.builtin "min"):=by decide +kernel
def zO:bootBuiltins ("list" : Str)=O (.type "list"):=by decide +kernel
def wF(d:X.mg "min" = Y)(h:Ho G X [a,b] cs)(g:X.calm=J:=by rfl)(f:Gl X "min" := by rfl)(he:KM [a,b] X.env=(S,eval a X.env) :: KM [b] X.env:=by rfl)(hpl:(backTo pos (KM [b] X.env)).any (·.1)=S:=by rfl):PV G X (.Call (.Name "min" p) [a,b] [] pos) (eN pC cs) :=
 i4 (va g) Ah f d CZ h (he:=he) (hpl:=hpl)
def KZ:Ty->Str
 |.int => "int" |.str => "str" |.bool => "bool" |.list => "list" |.tuple => "tuple" |.dict => "dict"
def DB(t:Ty):bootBuiltins (KZ t)=O (.type (JJ t)):=by cases t<;>decide +kernel
def w_is(t:Ty)(f:X.mg "isinstance" = Y)(l:X.mg (KZ t)=Y)(h:PV G X a ca)(g:Gl X "isinstance" := by rfl)(j:Gl X (KZ t):=by rfl)(i:X.K=G.K:=by rfl)(d:KM [a,.Name (KZ t) p2] X.env=(S,eval a X.env) :: KM [.Name (KZ t) p2] X.env:=by rfl):PV G X (.Call (.Name "isinstance" p1) [a,.Name (KZ t) p2] [] pos) (Mx t ca) :=
 DI t h g f j l (DB t) i (by cases t<;>decide) (by cases t<;>decide) d M M
def gE(i:Nat){x:Str}(j:Ho G X [e] cs)(n:X.K=G.K:=by rfl)(m:X.N[i]?=O x:=by rfl)(d:Ik X.env.scope x:=by first | exact Or.inl M | exact Or.inr (Or.inl M) | exact Or.inr (Or.inr M))(g:K2 x:=by decide)(s:K3 x:=by decide)(o:((backTo xt (KM [e] X.env)).all (λx=>!x.1)&&(backToKw xt (P3 [] X.env)).all (λx=>x.1.isSome)
   && decide ([e].length+([]:List Keyword).length+(if ([]:List Keyword).isEmpty then 0 else 1)<30))=J:=by rfl)(q:(apos.endLine==xt.line)=J:=by rfl)(f:K0 e [] X:=by rfl) :
  PSV G X (.Expr (.Call (.Attribute (.Name x p1) "append" apos) [e] [] xt) pos) (sX (mm i [] bz cs)) :=
 vH i WB WE WG iz jR (λH v t F l z r h=>hJ r h) j n m d g s M o q f M M
end
structure FnAt(P:PP)(w:SL)(K:Xd)(mg:X3)(base:SC)(k:Nat)(x:Str)(ps:List Str)(G:Gx)(g:Fn):Prop where
 ex:∃f fd,FnOk P w K mg base HK k f fd ps (Js G g)/\mg x=some (.ref f)/\PySem.W.keepIn K (.ref f)=true/\Binds K fd ps []
section
variable{G:Gx}{X:Cx}{e:Expr}{es:List Expr}{cs:Gd}{pos p:Pos}{k k':Nat}{x:Str}{ps:List Str}{g:Fn}
def aW(F:FnAt X.prog X.w X.K X.mg X.base k x ps G g)(b:AU k' X.A)(j:Ho G X (e :: es) cs)(d:k<=k':=by decide)(h:Gl X x:=by rfl)(o:K2 x:=by decide)(i:K0 e es X:=by rfl)(a:K1 pos es X:=by rfl) :
  PV G X (.Call (.Name x p) (e :: es) [] pos) (aP g cs):=by
 obtain⟨f,fd,n,m,h3,l⟩:=F.ex;exact Aa n (b.mono d) h m h3 l j o i a
end
section
variable{G:Gx}{P:PP}{w:SL}{K:Xd}{mg:X3}{base:SC}
def eV{x:Str}{a:Stmt}{f:GM}{i:On}{N b:List Str}{k g h:Nat}{c:Sx}(F:GQ K x x a f i)(m:mg x=O (.ref f))(S:tx N b (ao a))(j:b.length=g)(l:N.length=h)(o:∀(kV doc pm:IR)(an:Option GM)(d ct:IR)(e:Ws),e.length=b.length->bindArgs (PySem.W.fnOf x x (bh a) (aU a) (ao a) .none kV doc pm an d ct) ⟨e,[]⟩=pure (b.zip e))(n:∀(d:IR)(A:Pi)(outer:List PySem.Env)(s:FB)(H:Hp)(E:XK),AU k (A.deeper (envOfC x (ao a) s.heap.objs.size f d))->ka G (mw HK P w K mg base N x (ao a) f d A outer s H E).Kz (aU a) c) :
  FnAt P w K mg base (k+1) x b G (fn g h c) :=
 ⟨f,i,T9 F S j l n,m,F.kp,F.binds o⟩
end
end VS
end
section
namespace td
open PySem PySem.Spec PyProof.Rows
def GB(x:Str):It:=⟨λi _=>i<x.cps.size,λi H v a=>a=H/\∃c,x.cps[i]?=O c/\v=.str ⟨#[c]⟩,λi _=>x.cps.size<=i⟩
def mP{P:PP}{w:SL}{K:Xd}{M:Expr}(x:Str)(t:Tok)(a:GM)(l:String)(hn:["enumerate", "zip", "dict_itemiterator", "dict_reverseitemiterator", "odict_iterator", "itertools.zip_longest", "itertools.pairwise"].contains l=S)(W:∀A:Pi,A.handled=Y->Walks P w A a [a] [a] x.cps.size (λi v=>∃c u,x.cps[i]?=O c/\v=.str ⟨#[c]⟩ u) (λi h=>h.IsStrIter a l x t i))(IS:∀(A:Pi),A.handled=Y->∀(i:Nat)(s:FB)(Q:Vj->FB->Prop)(E:Yu),s.heap.IsStrIter a l x t i->x.cps[i]?=Y->(∀j,Heap.ExtBut a s.heap j->Q Y { s with heap:=j })->KB (FM P w) A (pyNext (.ref a)) Q E s)(NJ:∀(A:Pi)(i:Nat)(s:FB)(Q:Yu)(E:Yu),s.heap.IsStrIter a l x t i->Q (.ref a) s->KB (FM P w) A (pyIter (.ref a)) Q E s) :
  Turn P w K M (GB x) [a] a (λi h=>h.IsStrIter a l x t i) where
 mem:=by simp
 obj:=λi h st b g=>by
  rw[Zh.mp g];obtain⟨o,e,c,d⟩:=st;exact⟨o,e,λv z=>by rw[d]at z;cases z⟩
 keep:=λi h j st k=>let ⟨o,e,r⟩:=st;⟨o,k a (by simp) o e,r⟩
 item:=by
  intro X q hw y p i f s Z H E I m st n;subst q hw y;obtain⟨F,f1,f2,D,C,B⟩:=m a (by simp);refine(W X.A (I.ok.hd p)).item i s _ _ n st λv j G U L N=>?_;obtain⟨c,u,GC,rfl⟩:=U;have I1:Inv X f Z H { s with heap:=j,toks:=G }:=I.turned (λb o g e=>N b o (by simpa using g) e) F f1 D C B;obtain⟨o,e,c1,d⟩:=id L;exact⟨_,rfl,qN (s:={ s with heap:=j,toks:=G }) e c1 d hn ⟨.str ⟨#[c]⟩,H,I1,⟨u,rfl⟩,⟨rfl,c,GC,rfl⟩,L,λb g=>(m b g).1⟩⟩
 done:=by
  intro X q hw y p i f s Z H E I m st n;subst q hw y;obtain⟨F,f1,f2,D,C,B⟩:=m a (by simp);have R:x.cps.size<=i:=n;exact IS X.A (I.ok.hd p) i s _ _ st (by simp[R]) λj eb=>⟨rfl,I.turned (t':=s.toks) (λb o g e=>eb b o g e) F f1 D C B⟩
 self:=λA i s Q E st h=>NJ A i s Q E st h
def yd{P:PP}{w:SL}{K:Xd}{g:Expr}(x:Str)(t:Tok)(a:GM):Turn P w K g (GB x) [a] a (λi h=>h.IsStrIter a (strIterType x) x t i):=by
 cases f:x.cps.all (· < 128)
 ·have e:strIterType x = "str_iterator" := by simp[strIterType,f]
  rw[e];exact mP x t a "str_iterator" rfl (λA b=>Walks.strWide b a x t) (λA b i s Q E st d q=>wpAny_pyNext_wide_end b st d q) λA i s Q E st q=>wpAny_pyIter_striter_wide st q
 ·have e:strIterType x = "str_ascii_iterator" := by simp[strIterType,f]
  rw[e];exact mP x t a "str_ascii_iterator" rfl (λA b=>Walks.strAscii b a x t) (λA b i s Q E st d q=>wpAny_pyNext_ascii_end b st d q) λA i s Q E st q=>wpAny_pyIter_striter_ascii st q
section
variable{X:Cx}{tg l a b c:Expr}{tl ta tb tc:TE}{pos:Pos}
def C5(K:Xd)(f:TE):TI:=λZ H R=>f Z H λx d=>(∃a,x=.ref a/\(∃e,FF K d a e)/\R (Pg K a) d)\/(∃a,x=.ref a/\(∃e,GA K d a e)/\R (SU K a) d)\/∃z,x=.str z/\R (GB z) d
def zC(A:PE X l tl):PI X tg l (C5 X.K tl):=by
 intro f s Z H R I h;refine thn (A f s Z H _ I h) λv d ⟨x,i,g,r1,w⟩=>?_;have m:∀b∈[d.heap.objs.size],fU X f i b:=λb B=>by
  rw[Zh.mp B];exact g.Hj (Zo _) (g.xa.fresh (Zo _))
 rcases w with⟨a,e,⟨r,j⟩,q⟩ | ⟨a,e,⟨r,j⟩,q⟩ | ⟨z,e,q⟩
 ·subst e;cases r1;obtain⟨n,u,p,y⟩:=g.list j;exact Vx p.isList ⟨d.heap.objs.size,[d.heap.objs.size],_,_,i,rfl,g.kept (t':=d.toks) λb o e=>Zt _ e,mK a _,⟨_,Zc _ M,rfl,rfl⟩,m,q⟩
 ·subst e;cases r1;obtain⟨n,u,p,y⟩:=g.tuple j;exact wpAny_pyIter_tuple (show d.heap.IsTuple a n.toArray from p) ⟨d.heap.objs.size,[d.heap.objs.size],_,_,i,rfl,g.kept (t':=d.toks) λb o e=>Zt _ e,rO a _,⟨_,Zc _ M,rfl,rfl⟩,m,q⟩
 ·subst e;obtain⟨t,rfl⟩:=r1;exact wpAny_pyIter_strU ⟨d.heap.objs.size,[d.heap.objs.size],_,_,i,rfl,g.kept (t':=d.toks) λb o e=>Zt _ e,yd z t _,⟨_,Zc _ M,rfl,rfl⟩,m,q⟩
def zJ{s:FB}{d:SC}{o:Obj}(g:∀b x,b∉[s.heap.objs.size]->(s.heap.push o).get? b=O x->d.get? b=O x)(b:GM)(x:Obj)(e:s.heap.get? b=O x):d.get? b=O x :=
 g b x (λf=>YZ _ (by have:=ZY e;rw[Zh.mp f]at this;exact this)) (Zt _ e)
def vm(L:X.calm=J):dI X (.builtin "sum") (λw H Q=>∃p,∃ns:Vb,w=[.ref p]/\FF X.K H p (ns.map V.int)/\Q (.int ns.sum) H):=by
 intro y s Z H w P Q I C h;obtain⟨p,ns,rfl,G,q⟩:=h;obtain⟨u,rfl,j⟩:=C.one;cases j;obtain⟨d,g,m,U⟩:=I.list G;have z:p<s.heap.objs.size:=by obtain⟨_,e,_⟩:=m.isList;exact ZY e
 refine call_sum_walkG (Vx m.isList ⟨s.heap.objs.size,[s.heap.objs.size,p],[s.heap.objs.size],d.toArray.size,_,_,λi=>(ns[i]?).getD 0,rfl,Walks.list (A:=X.A.in1) (I.ok.hd L) _ p (ZV z) d.toArray,
  ⟨⟨_,Zc _ M,rfl,rfl⟩,m.isList.push _⟩,λb r=>?_,λi v N=>?_,λW R B o=>⟨.int ns.sum,H,I.kept (zJ o),⟨B,?_⟩,q⟩⟩)
 ·rw[Xg];rcases Zq.mp r with rfl | r
  ·exact Nat.lt_succ_self _
  ·rw[Zh.mp r];exact Xc z
 ·have f:d[i]?=O v:=by simpa using N
  cases e:ns[i]? with
  |none =>
   have:=g.none_of (i:=i) (by rw[ZT,e];rfl);rw[this]at f;cases f
  |some n =>
   obtain⟨u,F,j⟩:=g.get (i:=i) (x:=.int n) (by rw[ZT,e];rfl);rw[F]at f;cases f;obtain⟨t,rfl⟩:=j;exact⟨t,by simp[e]⟩
 ·have hlen:d.toArray.size=ns.length:=by have:=g.length;simp at this ⊢;exact Eq.symm this
  have:∀k,k<=ns.length->preSum (λi=>(ns[i]?).getD 0) k=(ns.take k).sum:=λk=>by
   induction k with
   |zero=>intro _;simp[preSum]
   |succ k D =>
    intro o;rw[List.take_succ,List.sum_append,preSum,D (by exact Xa o)];cases e:ns[k]? <;> simp
  rw[hlen,this _ (Zo _),List.take_length]
def uZ:OpR X (SB .Gt) (λx y H Q=>∃i j,x=.str i/\y=.str j/\Q (.bl (decide (j.cps.toList<i.cps.toList))) H):=by
 intro d s Z H x y v u Q I f e h;obtain⟨i,j,rfl,rfl,q⟩:=h;obtain⟨t,rfl⟩:=f;obtain⟨g,rfl⟩:=e;exact PySem.P.gt_str ⟨.bl _,H,I,rfl,q⟩
def ub:OpR X (SB .GtE) (λx y H Q=>∃i j,x=.str i/\y=.str j/\Q (.bl (!decide (i.cps.toList<j.cps.toList))) H):=by
 intro d s Z H x y v u Q I f e h;obtain⟨i,j,rfl,rfl,q⟩:=h;obtain⟨t,rfl⟩:=f;obtain⟨g,rfl⟩:=e;exact PySem.P.ge_str ⟨.bl _,H,I,rfl,q⟩
end
end td
end
section
namespace VS
open PySem PySem.Spec PyProof.Rows td
section
variable{G:Gx}{X:Cx}{a b c e tg:Expr}{es:List Expr}{ca cb cc:Ex}{cs:Gd}{pos p p1 p2 apos xt:Pos}{k k':Nat}
def Ci(H:Hp)(s:Tx)(l:iE s):IC G (td.GB (sx s)) (s.map λc=>T.str [c]) [] H:=by
 have sz:(sx s).cps.size=s.length:=rfl;refine⟨λo _ _=>⟨λi t h=>?_,λi h=>(by rw[Zv]at h;show (sx s).cps.size<=i;lia)⟩,λa h=>by simp at h⟩;rw[ZT]at h;obtain⟨c,f,rfl⟩:=Zm.mp h;refine⟨(by show i<(sx s).cps.size;have:=(ZW.mp f).1;lia),λx n ⟨e1,g,j,e2⟩=>?_⟩;subst e1;have:g=c:=by
  have m:(sx s).cps[i]?=O c:=by simp[sx,f]
  rw[m]at j;exact(ZK j).symm
 subst this;rw[e2];exact⟨aO.refl _,[],.str [g] ⟨(by show 1<=fC;decide),λd hd=>by rw[Zh.mp hd];exact l.2 g (YX f)⟩,λa h=>by simp at h⟩
def fD(w:PV G X a ca)(B:X.K=G.K:=by rfl):PVI G X tg a (fT ca) :=
 PI.weak (zC w) λZ H R u=>by
  obtain⟨L,U,m,l,s,e,k⟩:=u;unfold fT at e;obtain⟨⟨t,x⟩,y,e1⟩:=Zy.mp e;refine⟨L,U,t,x,s,y,λv f F n j q=>?_⟩;cases x with
  |lst r =>
   cases e1;obtain⟨o,g,A,rfl,rfl,d,i⟩:=j.lst_inv;exact .inl ⟨o,rfl,⟨g,FF.of d⟩,k _ f _ n (tZ X.K d i) q.c⟩
  |tup r =>
   cases e1;obtain⟨o,g,A,rfl,rfl,d,i⟩:=j.GK;exact .inr (.inl ⟨o,rfl,⟨g,GA.of d⟩,k _ f _ n (BZ X.K d i) q.c⟩)
  |str z =>
   cases e1;obtain⟨rfl,ok⟩:=j.str_inv;exact .inr (.inr ⟨_,rfl,k _ f [] n (Ci f z ok) λa h=>by simp at h⟩)
  |_=>cases e1
theorem sQ{H:Hp}:∀{d:List V}{l:V4}{g:Yd}{f:Vb},xh G H d l g->j3 l=O f->d=f.map V.int
 |_,_,_,_,.nil,e=>by cases e;rfl
 |_,_,_,_,.cons (t:=t) r q,e=>by
  cases t with
  |int s =>
   simp only[j3]at e;obtain⟨h,e1,e2⟩:=Zm.mp e;subst e2;rw[sQ q e1,r.int_inv];rfl
  |_=>cases e
def CH:fE G (λd H Q=>∃p,∃ns:Vb,d=[.ref p]/\FF G.K H p (ns.map V.int)/\Q (.int ns.sum) H) rY:=by
 intro L U q H l f j m t Q A e k;unfold rY at e;split at e
 ·rename_i o x;obtain⟨is,e1,e2⟩:=Zy.mp e;cases e2;obtain⟨v,F,rfl,rfl,g⟩:=(show xh G H f [.lst x] j from A.rp).one;obtain⟨a,n,r,rfl,rfl,i,h⟩:=g.lst_inv;exact⟨a,is,rfl,by rw[← sQ h e1];exact FF.of i,bC k (.int _)⟩
 ·cases e
def CF:bootBuiltins ("sum" : Str)=O (.builtin "sum"):=by decide +kernel
def xk:bootBuiltins ("tuple" : Str)=O (.type "tuple"):=by decide +kernel
def w_sum(d:X.mg "sum" = Y)(h:Ho G X [e] cs)(f:Gl X "sum" := by rfl)(i:X.K=G.K:=by rfl)(g:X.calm=J:=by rfl)(he:K0 e [] X:=by rfl):PV G X (.Call (.Name "sum" p) [e] [] pos) (eN rY cs) :=
 i4 (vm g) (i ▸ CH) f d CF h (he:=he) (hpl:=rfl)
def ya:fE G (λh H Q=>∃p d,h=[.ref p]/\((FF G.K H p d/\∀l,H l=Y->Q (.ref l) (upd H l (.tup d)))\/(GA G.K H p d/\Q (.ref p) H))) gM:=by
 intro L U B H l i w m t Q A e k;unfold gM at e;split at e
 ·rename_i y x;split at e
  ·rename_i z;cases e;obtain⟨v,F,rfl,rfl,j⟩:=(show xh G H i [.lst x] w from A.rp).one;obtain⟨a,d,u,rfl,rfl,s,n⟩:=j.lst_inv;have f:=(A.fp.each 0 _ _ M M).sub (YJ _ _);refine⟨a,d,rfl,.inl ⟨FF.of s,λq o=>?_⟩⟩;have g:aO H (upd H q (.tup d)):=bT o;have r:Rp G (upd H q (.tup d)) (.ref q) (.tup x) u.flatten:=.tup aw (n.same g);exact k _ _ _ g r (f.up r)
  ·cases e
 ·cases e
def su(d:X.mg "tuple" = Y)(g:Ho G X [e] cs)(f:Gl X "tuple" := by rfl)(h:X.K=G.K:=by rfl)(he:K0 e [] X:=by rfl):PV G X (.Call (.Name "tuple" p) [e] [] pos) (eN gM cs) :=
 jW md (h ▸ ya) f d xk g (he:=he) (hpl:=rfl)
def S8:R2:=λx y H Q=>JL (λi j=>.bl (decide (j<i))) x y H Q\/(∃i j,x=.str i/\y=.str j/\Q (.bl (decide (j.cps.toList<i.cps.toList))) H)
def S9:R2:=λx y H Q=>JL (λi j=>.bl (decide (j<=i))) x y H Q\/(∃i j,x=.str i/\y=.str j/\Q (.bl (!decide (i.cps.toList<j.cps.toList))) H)
def yb(s t:Tx):decide ((sx s).cps.toList<(sx t).cps.toList)=GY s t:=by rw[jA];exact decide_eq_decide.mpr (by simp[sx])
def D4:gU G S8 Ji:=by
 intro L U i H x y u w l j m t Q d e k;obtain⟨h,x⟩:=x;obtain⟨g,y⟩:=y;obtain⟨same,r1,r2,f1,f2,nd⟩:=d;unfold Ji oLt at e;split at e
 ·rename_i e1 e2;cases e1;cases e2;cases e;exact .inl ⟨_,_,r1.int_inv,r2.int_inv,bC k (.bl _)⟩
 ·rename_i s _ f e1 e2;cases e1;cases e2;cases e;refine .inr ⟨_,_,r1.str_inv.1,r2.str_inv.1,?_⟩;rw[yb];exact bC k (.bl _)
 ·cases e
def Ey:gU G S9 K9:=by
 intro L U i H x y u w l j m t Q d e k;obtain⟨h,x⟩:=x;obtain⟨g,y⟩:=y;obtain⟨same,r1,r2,f1,f2,nd⟩:=d;unfold K9 oLe at e;split at e
 ·rename_i e1 e2;cases e1;cases e2;cases e;exact .inl ⟨_,_,r1.int_inv,r2.int_inv,bC k (.bl _)⟩
 ·rename_i s _ f e1 e2;cases e1;cases e2;cases e;refine .inr ⟨_,_,r1.str_inv.1,r2.str_inv.1,?_⟩;rw[yb];exact bC k (.bl _)
 ·cases e
def xF:Tells Ji:=λx y m t e=>lN y x m t e
def vG:Tells K9:=λx y m t e=>xN y x m t e
def pq(f:PV G X a ca)(d:PV G X b cb):IH G X (.Compare a [.Gt] [b] pos) (e2 Ji ca cb):=gp (r:=S8) (Df.or uZ) D4 xF f d (ig _)
def Bh(f:PV G X a ca)(d:PV G X b cb):IH G X (.Compare a [.GtE] [b] pos) (e2 K9 ca cb):=gp (r:=S9) (EJ.or ub) Ey vG f d (ig _)
end
end VS
end
section
namespace td
open PySem PySem.Spec PyProof.Rows
section
variable{X:Cx}
def uq{α:Type}(l:List α)(n:Nat):∀acc:List α,List.foldl (λa x2=>a++x2) acc.toArray (List.replicate n l.toArray)=(acc++(List.replicate n l).flatten).toArray:=by
 induction n with
 |zero=>intro acc;simp
 |succ n b =>
  intro acc;rw[Wh,XA];have e:acc.toArray++l.toArray=(acc++l).toArray:=by simp
  rw[e,b (acc++l),Wh,Zf,Zk]
def yJ:OpR X (binaryOp .Mult) (λx y H Q=>∃(l:Vi)(k:Int),x=.str ⟨l.toArray⟩/\y=.int k/\-(2 ^ 62)<=k/\k<2 ^ 62/\l.length*k.toNat<=FS/\Q (.str ⟨(List.replicate k.toNat l).flatten.toArray⟩) H):=by
 intro d s Z H x y v u Q I g f h;obtain⟨l,k,rfl,rfl,r,p,b,q⟩:=h;obtain⟨t,rfl⟩:=g;obtain⟨o,rfl⟩:=f;have hlen:(⟨l.toArray⟩:Str).length=l.length:=rfl;refine PySem.P.mul_str ?_ ?_ ?_ ?_
 ·rw[Bool.or_eq_false_iff];exact⟨ZJ (by lia),ZJ (by lia)⟩
 ·intro h3 _ m;rw[hlen]at m;have j:0<k:=by lia
  have:(l.length:Int)*k<=16777216:=by
   have w:l.length*k.toNat<=16777216:=b;have:((l.length*k.toNat:Nat):Int)<=16777216:=by lia
   rw[Int.natCast_mul]at this
   rwa [Int.toNat_of_nonneg (by lia)]at this
  have n:(l.length:Int)*k<=2 ^ 63-1:=by lia
  have:=(Int.le_ediv_iff_mul_le j).mpr n;lia
 ·intro _ _;rw[hlen];exact ZJ (by show ¬_ > _;exact Nat.not_lt.mpr b)
 ·by_cases h3:k<1
  ·rw[Zn h3];have e:k.toNat=0:=by lia
   rw[e]at q;exact⟨by decide,⟨.str ⟨#[]⟩,H,I.tok _,⟨_,rfl⟩,q⟩⟩
  ·rw[Zj h3];split
   ·rename_i a;have e:(List.replicate k.toNat l).flatten=l:=by
     rw[Bool.or_eq_true]at a;rcases a with a | a
     ·have:k=1:=by simpa using a
      subst this;show (List.replicate 1 l).flatten=l;simp
     ·have:l=[]:=by
       rw[hlen]at a;exact Wp (by simpa using a)
      subst this;simp
    rw[e]at q;exact⟨.str ⟨l.toArray⟩,H,I,⟨t,rfl⟩,q⟩
   ·have e:=uq l k.toNat [];rw[HH]at e;rw[show (⟨l.toArray⟩:Str).cps=l.toArray from rfl,e];refine⟨?_,⟨.str ⟨(List.replicate k.toNat l).flatten.toArray⟩,H,I.tok _,⟨s.toks,rfl⟩,q⟩⟩;have i:=len_rep l k.toNat;show (⟨(List.replicate k.toNat l).flatten.toArray⟩:Str).length<=FS;show ((List.replicate k.toNat l).flatten.toArray).size<=FS;rw[Zd,i,Nat.mul_comm];exact b
end
end td
namespace VS
open PySem PySem.Spec PyProof.Rows td
section
variable{G:Gx}{X:Cx}{a b c e tg:Expr}{es:List Expr}{ca cb cc:Ex}{cs:Gd}{pos p p1 p2 apos xt:Pos}{k k':Nat}
def zl:gU G (λx y H Q=>∃(l:Vi)(k:Int),x=.str ⟨l.toArray⟩/\y=.int k/\-(2 ^ 62)<=k/\k<2 ^ 62/\l.length*k.toNat<=FS/\Q (.str ⟨(List.replicate k.toNat l).flatten.toArray⟩) H) pO:=by
 intro L U v H x y u w A z m t Q g e k;obtain⟨s,x⟩:=x;obtain⟨r,y⟩:=y;obtain⟨same,r1,r2,f1,f2,nd⟩:=g;unfold pO at e;split at e
 ·rename_i _ h _ j e1 e2;cases e1;cases e2;split at e
  ·rename_i d;cases e;have o:=d.2.1;have n:=d.2.2;unfold MM at o n;refine⟨h,j,r1.str_inv.1,r2.int_inv,by lia,by lia,d.1,bC k (.str _ ⟨?_,λc q=>?_⟩)⟩
   ·rw[len_rep,Nat.mul_comm];exact d.1
   ·obtain⟨x,i,f⟩:=W2.mp q;rw[(List.mem_replicate.mp i).2]at f;exact r1.str_inv.2.2 c f
  ·cases e
 ·cases e
def ye:PV G X (.Dict [] [] pos) (n8 0 []):=PE.weak vV λZ H Q d=>by
 obtain⟨L,U,m,t,s,e,k⟩:=d;cases (show O (Md.fr,T.dct 0 [])=O (m,t) from e);intro q d;have:Rp G (upd H q (.dK [])) (.ref q) (.dct 0 ((([]:List Key).map aK).zip [])) (q :: ([]:Yd).flatten):=.dct aw M .nil;exact k _ _ [q] (bT d) this ⟨by simp,λb f=>by rw[Zh.mp f];exact d⟩
end
section
variable{G:Gx}{X:Cx}{a b c e tg:Expr}{es:List Expr}{ca cb cc ce:Ex}{cs:Gd}{pos p p1 p2 apos xt pos':Pos}{k k':Nat}
def gn{H:Hp}{v:V}{l:List (T×T)}{F:X4}(r:Rp G H v (.dct 0 l) F):∃(a:GM)(f:List Key)(d:List V)(g:V4)(i:Yd),v=.ref a/\F=a :: i.flatten/\H a=O (.dK (f.zip d))/\f.length=d.length/\l=(f.map aK).zip g/\xh G H d g i:=by
 cases r with
 |dct h j q=>exact⟨_,_,_,_,_,rfl,rfl,h,j,rfl,q⟩
def eB{H:Hp}{v:V}{t:T}{F:X4}(r:Rp G H v t F)(h:gG t=J):∃k:Key,v=kV k/\t=aK k:=by
 cases t with
 |int i=>exact⟨.inl i,r.int_inv,rfl⟩
 |str s=>exact⟨.inr (sx s),r.str_inv.1,by simp[aK,sx]⟩
 |_=>cases h
theorem kl{H:Hp}{k:Key}:∀{d:List Key}{f:List V}{ts:V4}{Fs:Yd},d.length=f.length->xh G H f ts Fs →
  (bO ((d.map aK).zip ts) (aK k)=Y/\cp (d.zip f) k=Y)\/∃(i:Nat)(v:V)(t:T)(F:X4),bO ((d.map aK).zip ts) (aK k)=O t/\cp (d.zip f) k=O v/\f[i]?=O v/\Fs[i]?=O F/\Rp G H v t F
 |[],[],_,_,_,.nil=>.inl ⟨rfl,rfl⟩
 |k' :: d,v :: f,_,_,o,.cons (t:=t) (F:=F) (ts:=ts) (Fs:=Fs) r q=>by
  have e:eqT (aK k') (aK k)=decide (k'=k):=by
   rw[Wj,decide_eq_true_eq];cases k with
   |inl i=>cases k'<;>simp[aK]
   |inr x =>
    obtain⟨⟨x⟩⟩:=x;cases k' with
    |inl j=>simp[aK]
    |inr y=>obtain⟨⟨y⟩⟩:=y;simp[aK]
  by_cases g:k'=k
  ·refine .inr ⟨0,v,t,F,?_,bU g,rfl,rfl,r⟩;have l:eqT (aK k') (aK k)=J:=by rw[e];exact ZR g
   simp only[bO,Zp,ZA,Yr,l];rfl
  ·have u:bO (((k' :: d).map aK).zip (t :: ts)) (aK k)=bO ((d.map aK).zip ts) (aK k):=by
    have l:eqT (aK k') (aK k)=S:=by rw[e];exact ZJ g
    simp only[bO,Zp,ZA,Yr,l]
   have s:cp ((k' :: d).zip (v :: f)) k=cp (d.zip f) k:=by simp[cp,g]
   rw[u,s];rcases kl (k:=k) (by simpa using o) q with h | ⟨i,m,n,w,a1,a2,a3,a4,a5⟩
   ·exact .inl h
   ·exact .inr ⟨i+1,m,n,w,a1,a2,by simpa using a3,by simpa using a4,a5⟩
def Ad(m:X.A.units+1<cLine):JT X (λx y H Q=>∃a v,x=.ref a/\iS H a y (O v)/\Q v H):=by
 intro value slice d s Z H x y v u Q I l j h n;obtain⟨a,w,rfl,g,q⟩:=h;cases l;have f:=pP I g;unfold subscriptTail;refine Zz ?_;rw[getitemInPython_of_ne f.not_modules];refine Zz (X8 f PySem.F.slot_dict_getitem.lookup ?_);have fin:KB (FM X.prog X.w) X.A (subscripted slice S (.ref a) u) (λr i=>KB (FM X.prog X.w) X.A (letTemporaryGo value (.ref a) r >>= λ_=>pure r) (EP X d Z Q) X.xe i) X.xe s:=by
  rw[n];exact wpAny_operating (uH m I g j λz B t o=>Zz (wpAny_letTemporaryGo (Zs ⟨w,H,t,o,q⟩)))
 first
  |exact Zs (Zz fin)
  |exact Zz (Zs (Zz fin))
  |exact Zz fin
def E2(K:Xd):R2:=λx y H Q=>PJ K x y H Q\/∃a v,x=.ref a/\iS H a y (O v)/\Q v H
def Ew:gU G (E2 G.K) Jv:=by
 intro L U A H x y u w C B m t Q d e k;obtain⟨g,x⟩:=x;by_cases hd:∃l,x=.dct 0 l
 ·obtain⟨l,rfl⟩:=hd;simp only[Jv]at e;split at e
  ·rename_i n;obtain⟨N,e1,e2⟩:=Zm.mp e;obtain⟨a,P,D,I,W,rfl,rfl,o,j,rfl,q⟩:=gn d.r1;obtain⟨h,rfl,s⟩:=eB d.r2 n;rw[s]at e1;rcases kl (k:=h) j q with⟨r,_⟩ | ⟨i,v,M,F,a1,a2,a3,a4,a5⟩
   ·rw[r]at e1;cases e1
   ·rw[a1]at e1;cases e1;cases e2;refine .inr ⟨a,v,rfl,by rw[← a2];exact iS.k o,?_⟩;have f:=((d.f1.sub (YJ _ _)).sub (gD a4)).up a5;exact k v H F (aO.refl _) a5 f
  ·cases e
 ·have z:aF (g,x) y=O (m,t):=by
   simp only[Jv]at e;split at e
   ·rename_i l R;exact absurd ⟨_,rfl⟩ hd
   ·exact e
  exact .inl (yh L U A H (g,x) y u w C B m t Q d z k)
def wq(f:AU k X.A)(i:PV G X a ca)(g:PV G X b cb)(d:kC b:=by intro _ _;rfl)(j:X.K=G.K:=by rfl):PV G X (.Subscript a b pos) (e2 Jv ca cb) :=
 PE.weak (xJ (JT.or xE (Ad (oH f))) i g d) λZ H Q h=>by rw[j];exact kR Ew h
def fV:T->V
 |.bl b=>.bl b
 |.int i=>.int i
 |.str s=>.str (sx s)
 |_=>.non
def AW{H:Hp}{v:V}{t:T}{F:X4}(r:Rp G H v t F)(h:flat t=J):v=fV t/\fz v=J:=by
 cases r with
 |non=>exact⟨rfl,rfl⟩
 |bl b=>exact⟨rfl,rfl⟩
 |int i=>exact⟨rfl,rfl⟩
 |str s d=>exact⟨rfl,rfl⟩
 |_=>cases h
theorem DT:∀{t u:T},flat t=J->flat u=J->Kl (fV t) (fV u)=eqT t u
 |.non,.non,_,_=>rfl
 |.non,.bl _,_,_=>rfl
 |.non,.int _,_,_=>rfl
 |.non,.str _,_,_=>rfl
 |.bl _,.non,_,_=>rfl
 |.bl _,.bl _,_,_=>rfl
 |.bl _,.int _,_,_=>rfl
 |.bl _,.str _,_,_=>rfl
 |.int _,.non,_,_=>rfl
 |.int _,.bl _,_,_=>rfl
 |.int _,.int _,_,_=>rfl
 |.int _,.str _,_,_=>rfl
 |.str _,.non,_,_=>rfl
 |.str _,.bl _,_,_=>rfl
 |.str _,.int _,_,_=>rfl
 |.str _,.str _,_,_=>wL
def xx{H:Hp}{v w:V}{t u:T}{F h:X4}(r:Rp G H v t F)(g:Rp G H w u h)(f:flat t=J)(d:flat u=J):Kl v w=eqT t u/\fz v=J/\fz w=J:=by
 obtain⟨e1,f1⟩:=AW r f;obtain⟨e2,f2⟩:=AW g d;refine⟨?_,f1,f2⟩;rw[e1,e2];exact DT f d
theorem oA{H:Hp}{x:V}{t:T}{F:X4}(r:Rp G H x t F)(g:flat t=J):∀{d:List V}{f:V4}{m:Yd},xh G H d f m->f.all flat=J->d.all fz=J/\ND x d=f.any λy=>eqT y t
 |_,_,_,.nil,_=>⟨rfl,rfl⟩
 |_,_,_,.cons j q,h=>by
  rw[WD,Yz]at h;obtain⟨l,i⟩:=oA r g q h.2;obtain⟨e1,e2,n⟩:=xx j r h.1 g;refine⟨by rw[WD,e2,l];rfl,?_⟩;unfold ND at i ⊢;rw[Xv,Xv,i,e1]
def D1(K:Xd):R2:=λx y H Q=>ON K S x y H Q\/∃a o,y=.ref a/\iS H a x o/\Q (.bl o.isSome) H
def tK(K:Xd):R2:=λx y H Q=>ON K J x y H Q\/∃a o,y=.ref a/\iS H a x o/\Q (.bl (!o.isSome)) H
def AJ(j:X.A.units+1<cLine):OpR X (SB .In) (λx y H Q=>∃a o,y=.ref a/\iS H a x o/\Q (.bl o.isSome) H):=by
 intro d s Z H x y v u Q I i f h;obtain⟨a,o,rfl,g,q⟩:=h;cases f;exact E1 j I g i λm l=>⟨.bl o.isSome,H,l,rfl,q⟩
def xo(j:X.A.units+1<cLine):OpR X (SB .NotIn) (λx y H Q=>∃a o,y=.ref a/\iS H a x o/\Q (.bl (!o.isSome)) H):=by
 intro d s Z H x y v u Q I i f h;obtain⟨a,o,rfl,g,q⟩:=h;cases f;exact zx j I g i λm l=>⟨.bl (!o.isSome),H,l,rfl,q⟩
def pA{L:FH}{U:VS.Env}{I H:Hp}{x y:Val}{u w:V}{N M:X4}{m:Md}{t:T}(f:OB G L U I H x y u w N M)(e:lZ x y=O (m,t)) :
  ∃b,m=.fr/\t=.bl b/\((∃p n,w=.ref p/\(FF G.K H p n\/GA G.K H p n)/\fz u=J/\n.all fz=J/\ND u n=b)\/∃a o,w=.ref a/\iS H a u o/\o.isSome=b):=by
 obtain⟨R,y⟩:=y;simp only[lZ]at e;split at e
 ·split at e
  ·rename_i d;cases e;obtain⟨a,B,g,P,A,rfl,rfl,h,C,rfl,q⟩:=gn f.r2;obtain⟨z,rfl,D⟩:=eB f.r1 d;refine⟨_,rfl,rfl,.inr ⟨a,cp (B.zip g) z,rfl,iS.k h,?_⟩⟩;rw[D];rcases kl (k:=z) C q with⟨l,j⟩ | ⟨i,v,Q,F,a1,a2,_⟩
   ·rw[l,j];rfl
   ·rw[a1,a2];rfl
  ·cases e
 ·split at e
  ·rename_i d;cases e;rw[Yz]at d;obtain⟨a,g,A,rfl,rfl,h,r⟩:=f.r2.lst_inv;obtain⟨l,j⟩:=oA f.r1 d.1 r d.2;have s:fz u=J:=(xx f.r1 f.r1 d.1 d.1).2.1;exact⟨_,rfl,rfl,.inl ⟨a,g,rfl,.inl (FF.of h),s,l,j⟩⟩
  ·cases e
 ·split at e
  ·rename_i d;cases e;rw[Yz]at d;obtain⟨a,g,A,rfl,rfl,h,r⟩:=f.r2.GK;obtain⟨l,j⟩:=oA f.r1 d.1 r d.2;have s:fz u=J:=(xx f.r1 f.r1 d.1 d.1).2.1;exact⟨_,rfl,rfl,.inl ⟨a,g,rfl,.inr (GA.of h),s,l,j⟩⟩
  ·cases e
 ·cases e
def Ec:gU G (D1 G.K) lZ:=by
 intro L U l H x y u w q n m t Q i e k;obtain⟨b,rfl,rfl,h⟩:=pA i e;rcases h with⟨p,f,rfl,j,f1,f2,d⟩ | ⟨a,o,rfl,g,d⟩
 ·refine .inl ⟨p,f,rfl,j,f1,f2,?_⟩;rw[d];exact bC k (.bl b)
 ·refine .inr ⟨a,o,rfl,g,?_⟩;rw[d];exact bC k (.bl b)
def CJ:gU G (tK G.K) eT:=by
 intro L U s H x y u w z v m t Q l e k;unfold eT at e;split at e
 ·rename_i r i q;cases e;obtain⟨b,rfl,d,h⟩:=pA l q;cases d;rcases h with⟨p,j,rfl,n,f1,f2,f⟩ | ⟨a,o,rfl,g,f⟩
  ·refine .inl ⟨p,j,rfl,n,f1,f2,?_⟩;rw[f];exact bC k (.bl (!i))
  ·refine .inr ⟨a,o,rfl,g,?_⟩;rw[f];exact bC k (.bl (!i))
 ·cases e
def vB:Tells lZ:=by
 intro x y m t e;simp only[lZ]at e;split at e
 all_goals first | (split at e<;>first | (cases e;exact⟨_,rfl⟩) | cases e) | cases e
def uR:Tells eT:=by
 intro x y m t e;unfold eT at e;split at e
 ·cases e;exact⟨_,rfl⟩
 ·cases e
def Dj(d:AU k X.A)(h:PV G X a ca)(g:PV G X b cb)(f:behindInMarks .In b=S:=by with_unfolding_all rfl)(i:X.K=G.K:=by rfl):IH G X (.Compare a [.In] [b] pos) (e2 lZ ca cb):=gp (r:=D1 X.K) (uT.or (AJ (oH d))) (i ▸ Ec) vB h g f
def xw(d:AU k X.A)(h:PV G X a ca)(g:PV G X b cb)(f:behindInMarks .NotIn b=S:=by with_unfolding_all rfl)(i:X.K=G.K:=by rfl):IH G X (.Compare a [.NotIn] [b] pos) (e2 eT ca cb):=gp (r:=tK X.K) (oD.or (xo (oH d))) (i ▸ CJ) uR h g f
end
end VS
end
section
open PySem PyProof.Rows
namespace TS
def nN:Bool->KF->Array KF->Nat->Nat->Nat->StateT Pv Sem (Option Nat):=sortPriv% PySem.Builtin.gallop
def lP:Array KF->Array KF->StateT Pv Sem (Array KF):=sortPriv% PySem.Builtin.mergeLo
def kH:Array KF->Array KF->StateT Pv Sem (Array KF):=sortPriv% PySem.Builtin.mergeHi
def all2{b a:Type}{P:b×a->Prop}(h:∀a0 a1,P (a0,a1)):∀x,P x:=λ(a0,a1)=>h a0 a1
def gW{d b a:Type}{P:d×b×a->Prop}(h:∀a0 a1 a2,P (a0,a1,a2)):∀x,P x:=λ(a0,a1,a2)=>h a0 a1 a2
def uw{f e d b a:Type}{P:f×e×d×b×a->Prop}(h:∀a0 a1 a2 a3 a4,P (a0,a1,a2,a3,a4)):∀x,P x:=λ(a0,a1,a2,a3,a4)=>h a0 a1 a2 a3 a4
def qf{g f e d b a:Type}{P:g×f×e×d×b×a->Prop}(h:∀a0 a1 a2 a3 a4 a5,P (a0,a1,a2,a3,a4,a5)):∀x,P x:=λ(a0,a1,a2,a3,a4,a5)=>h a0 a1 a2 a3 a4 a5
def yB{i g f e d b a:Type}{P:i×g×f×e×d×b×a->Prop}(h:∀a0 a1 a2 a3 a4 a5 a6,P (a0,a1,a2,a3,a4,a5,a6)):∀x,P x:=λ(a0,a1,a2,a3,a4,a5,a6)=>h a0 a1 a2 a3 a4 a5 a6
variable{prog:PP}{w:SL}{A:Pi}{E:Yu}{s:FB}
structure GE(prog:PP)(w:SL)(A:Pi)(E:Yu)(s:FB)(κ:SortKind)(G:KF->Prop)(r:KF->KF->Bool):Prop where
 run:∀(st:Pv)(x y:KF)(Q:Option Bool->Pv->Prop),kindOf st=κ->G x->G y->Q (some (r x y)) st->wpS (FM prog w) A E s (lt' x y) Q st
 Oz:∀x y,G x->G y->r x y=true->r y x=false
 trans:∀x y z,G x->G y->G z->r y x=false->r z y=false->r z x=false
variable{κ:SortKind}{G:KF->Prop}{r:KF->KF->Bool}
def le(r:KF->KF->Bool)(x y:KF):Prop:=r y x=S
def dY{a:Array KF}{i:Nat}{Q:KF->Pv->Prop}{b:Pv}(d:i<a.size)(h:Q a[i] b):wpS (FM prog w) A E s (elem' a i) Q b:=by
 rw[elem'_eq,getElem?_pos a i d];exact Zg h
def JB(r:KF->KF->Bool)(left:Bool)(a x:KF):Bool:=if left then r x a else !(r a x)
def bf(left:Bool)(a:KF)(b:Array KF)(i:Nat):StateT Pv Sem (Option Bool):=do
 let x ← elem' b i
 if left=J then lt' x a else do
  let l ← lt' a x
  pure (Option.map (λx=>!x) l)
def jr(C:GE prog w A E s κ G r){left:Bool}{b:KF}{a:Array KF}{i:Nat}{Q:Option Bool->Pv->Prop}{d:Pv}(e:kindOf d=κ)(j:G b)(l:∀x∈a,G x)(f:i<a.size)(h:Q (O (JB r left b a[i])) d) :
  wpS (FM prog w) A E s (bf left b a i) Q d:=by
 unfold bf;refine ZX (dY f ?_);have g:=l _ (Ze f);cases left with
 |true=>exact C.run d _ _ _ e g j h
 |false=>exact ZX (C.run d _ _ _ e j g (Zg h))
def rS(C:GE prog w A E s κ G r){left:Bool}{t:KF}{d:Array KF}{b n a:Nat}{Q:Option Nat->Pv->Prop}{u:Pv}(H:kindOf u=κ)(R:G t)(U:∀x∈d,G x)(hb:b+n<=d.size)(hh:a<n)(B:∀i j (g:b+i<d.size) (Z:b+j<d.size),i<=j->j<n->JB r left t d[b+j]=J->JB r left t d[b+i]=J)(h:∀k,k<=n->(∀i (g:b+i<d.size),i<k->JB r left t d[b+i]=J)->(∀i (g:b+i<d.size),k<=i->i<n->JB r left t d[b+i]=S)->Q (O k) u) :
  wpS (FM prog w) A E s (nN left t d b n a) Q u:=by
 obtain⟨f,y⟩:∃f:Nat->Bool,∀i (g:b+i<d.size),f i=JB r left t d[b+i]:=⟨λi=>if g:b+i<d.size then JB r left t d[b+i] else S,λi g=>dif_pos g⟩
 have D:∀i j,i<=j->j<n->f j=J->f i=J:=λi j J8 Z e=>by
  rw[y j (by lia)]at e;rw[y i (by lia)];exact B i j (by lia) (by lia) J8 Z e
 have fin:∀k,k<=n->(∀i,i<k->f i=J)->(∀i,k<=i->i<n->f i=S)->Q (O k) u:=λk P N h3 =>
  h k P (λi g Ln=>by rw[← y i g];exact N i Ln) λi g L h5=>by rw[← y i g];exact h3 i L h5
 clear h B;unfold nN;change wpS (FM prog w) A E s (_>>=_) Q u;dsimp only;have h0:b+a<d.size:=by lia
 refine ZX (jr C H R U h0 ?_);dsimp only;rw[← y _ h0];cases e0:f a with
 |true =>
  rw[Zn M];refine ZX (Xw (Yb
   (I:=λx c l=>u=l/\c.1=Y/\f (a+c.2.1)=J/\c.2.1<c.2.2/\a+c.2.1<n/\x<c.2.2)
   (Q:=λc l=>u=l/\c.1=Y/\f (a+c.2.1)=J/\c.2.1<c.2.2/\a+c.2.1<n/\(a+c.2.2<n->f (a+c.2.2)=S)) ?step1 ?fin1 ?init1) ?post1)
  case init1=>exact⟨rfl,rfl,e0,by decide,by dsimp only;omega,by decide⟩
  case fin1 =>
   refine gW λc1 c2 c3=>?_;rintro l ⟨rfl,e1,q,o,m,p⟩;dsimp only at *;exact⟨rfl,e1,q,o,m,λz=>by(try dsimp only at z);lia⟩
  case step1 =>
   intro x;refine gW λc1 c2 c3=>?_;rintro l _ W ⟨rfl,e1,q,o,m,p⟩;dsimp only at *;split
   ·exact Zg ⟨rfl,rfl,q,o,m,λz=>by(try dsimp only at z);lia⟩
   ·have v:b+(a+c3)<d.size:=by lia
    refine ZX (jr C H R U v ?_);dsimp only;rw[← y _ v];cases e:f (a+c3) with
    |true=>exact Zg ⟨rfl,rfl,e,by dsimp only;lia,by dsimp only;lia,by dsimp only;lia⟩
    |false=>exact Zg ⟨rfl,rfl,q,o,m,λ_=>e⟩
  case post1 =>
   refine gW λc1 c2 c3=>?_;rintro l ⟨rfl,e1,q,o,m,p⟩;dsimp only at *;subst e1;dsimp only;have P:a+c2+1<=a+min c3 (n-a):=by omega
   have N:a+min c3 (n-a)<=n:=by omega
   have h3:∀i,i<a+c2+1->f i=J:=λi g=>D i _ (by exact YS g) (by omega) q;have L:∀i,a+min c3 (n-a)<=i->i<n->f i=S:=λi g F=>by
    cases e2:f i with
    |false=>rfl
    |true =>
     have:=p (by lia);rw[D _ i (by lia) F e2]at this;cases this
   clear q o m p;refine ZX (Xw (Yb
    (I:=λx c l=>u=l/\c.1=Y/\c.2.1<=c.2.2/\c.2.2<=n/\(∀i,i<c.2.1->f i=J)/\(∀i,c.2.2<=i->i<n->f i=S)/\c.2.2-c.2.1+x<=n)
    (Q:=λc l=>u=l/\c.1=Y/\c.2.1=c.2.2/\c.2.2<=n/\(∀i,i<c.2.1->f i=J)/\(∀i,c.2.2<=i->i<n->f i=S)) ?step ?fin ?init) ?post)
   case init=>exact⟨rfl,rfl,P,N,h3,L,by(try dsimp only);omega⟩
   case fin =>
    refine gW λc1 c2 c3=>?_;rintro l ⟨rfl,e1,q,o,m,p,X⟩
    try dsimp only at *
    exact⟨rfl,e1,by(try dsimp only at *);lia,o,m,p⟩
   case step =>
    intro x;refine gW λc1 c2 c3=>?_;rintro l _ W ⟨rfl,e1,q,o,m,p,X⟩
    try dsimp only at *
    split
    ·exact Zg ⟨rfl,rfl,by(try dsimp only at *);lia,o,m,p⟩
    ·have v:b+(c2+(c3-c2)/2)<d.size:=by lia
     refine ZX (jr C H R U v ?_)
     try dsimp only
     rw[← y _ v];cases e:f (c2+(c3-c2)/2) with
     |true =>
      rw[Zn M];exact Zg ⟨rfl,rfl,by(try dsimp only);lia,o,λi g=>D i _ (by(try dsimp only at g);exact YS g) (by lia) e,p,by(try dsimp only);lia⟩
     |false =>
      rw[Zj Za];refine Zg ⟨rfl,rfl,by(try dsimp only);exact ZI _ _,by(try dsimp only);lia,m,λi g F=>?_,by(try dsimp only);omega⟩
      try dsimp only at g
      cases e2:f i with
      |false=>rfl
      |true=>rw[D _ i g F e2]at e;cases e
   case post =>
    refine gW λc1 c2 c3=>?_;rintro l ⟨rfl,e1,q,o,m,p⟩
    try dsimp only at *
    subst e1;exact Zg (fin c3 o (λi g=>m i (by lia)) p)
 |false =>
  rw[Zj Za];refine ZX (Xw (Yb
   (I:=λx c l=>u=l/\c.1=Y/\f (a-c.2.1)=S/\c.2.1<c.2.2/\c.2.1<=a/\x<c.2.2)
   (Q:=λc l=>u=l/\c.1=Y/\f (a-c.2.1)=S/\c.2.1<c.2.2/\c.2.1<=a/\(c.2.2<=a->f (a-c.2.2)=J)) ?step1 ?fin1 ?init1) ?post1)
  case init1=>exact⟨rfl,rfl,e0,by decide,by dsimp only;exact ZN _,by decide⟩
  case fin1 =>
   refine gW λc1 c2 c3=>?_;rintro l ⟨rfl,e1,q,o,m,p⟩;dsimp only at *;exact⟨rfl,e1,q,o,m,λz=>by(try dsimp only at z);lia⟩
  case step1 =>
   intro x;refine gW λc1 c2 c3=>?_;rintro l _ W ⟨rfl,e1,q,o,m,p⟩;dsimp only at *;split
   ·exact Zg ⟨rfl,rfl,q,o,m,λz=>by(try dsimp only at z);lia⟩
   ·have v:b+(a-c3)<d.size:=by lia
    refine ZX (jr C H R U v ?_);dsimp only;rw[← y _ v];cases e:f (a-c3) with
    |true=>exact Zg ⟨rfl,rfl,q,o,m,λ_=>e⟩
    |false=>exact Zg ⟨rfl,rfl,e,by dsimp only;lia,by dsimp only;lia,by dsimp only;lia⟩
  case post1 =>
   refine gW λc1 c2 c3=>?_;rintro l ⟨rfl,e1,q,o,m,p⟩;dsimp only at *;subst e1;dsimp only;have P:a+1-min c3 (a+1)<=a-c2:=by omega
   have N:a-c2<=n:=by lia
   have h3:∀i,i<a+1-min c3 (a+1)->f i=J:=λi g=>D i _ (by omega) (by omega) (p (by omega));have L:∀i,a-c2<=i->i<n->f i=S:=λi g F=>by
    cases e2:f i with
    |false=>rfl
    |true=>rw[D _ i (by omega) F e2]at q;cases q
   clear q o m p;refine ZX (Xw (Yb
    (I:=λx c l=>u=l/\c.1=Y/\c.2.1<=c.2.2/\c.2.2<=n/\(∀i,i<c.2.1->f i=J)/\(∀i,c.2.2<=i->i<n->f i=S)/\c.2.2-c.2.1+x<=n)
    (Q:=λc l=>u=l/\c.1=Y/\c.2.1=c.2.2/\c.2.2<=n/\(∀i,i<c.2.1->f i=J)/\(∀i,c.2.2<=i->i<n->f i=S)) ?step ?fin ?init) ?post)
   case init=>exact⟨rfl,rfl,P,N,h3,L,by(try dsimp only);omega⟩
   case fin =>
    refine gW λc1 c2 c3=>?_;rintro l ⟨rfl,e1,q,o,m,p,X⟩
    try dsimp only at *
    exact⟨rfl,e1,by(try dsimp only at *);lia,o,m,p⟩
   case step =>
    intro x;refine gW λc1 c2 c3=>?_;rintro l _ W ⟨rfl,e1,q,o,m,p,X⟩
    try dsimp only at *
    split
    ·exact Zg ⟨rfl,rfl,by(try dsimp only at *);lia,o,m,p⟩
    ·have v:b+(c2+(c3-c2)/2)<d.size:=by lia
     refine ZX (jr C H R U v ?_)
     try dsimp only
     rw[← y _ v];cases e:f (c2+(c3-c2)/2) with
     |true =>
      rw[Zn M];exact Zg ⟨rfl,rfl,by(try dsimp only);lia,o,λi g=>D i _ (by(try dsimp only at g);exact YS g) (by lia) e,p,by(try dsimp only);lia⟩
     |false =>
      rw[Zj Za];refine Zg ⟨rfl,rfl,by(try dsimp only);exact ZI _ _,by(try dsimp only);lia,m,λi g F=>?_,by(try dsimp only);omega⟩
      try dsimp only at g
      cases e2:f i with
      |false=>rfl
      |true=>rw[D _ i g F e2]at e;cases e
   case post =>
    refine gW λc1 c2 c3=>?_;rintro l ⟨rfl,e1,q,o,m,p⟩
    try dsimp only at *
    subst e1;exact Zg (fin c3 o (λi g=>m i (by lia)) p)
end TS
end
section
open PySem PyProof.Rows
namespace TS
variable{prog:PP}{w:SL}{A:Pi}{E:Yu}{s:FB}{κ:SortKind}{G:KF->Prop}{r:KF->KF->Bool}
def GE.refl(C:GE prog w A E s κ G r){x:KF}(h:G x):le r x x:=by
 unfold le;cases e:r x x with
 |false=>rfl
 |true=>exact absurd (C.Oz x x h h e) (by rw[e];exact λz=>nomatch z)
def GE.tr(C:GE prog w A E s κ G r){x y z:KF}(d:G x)(b:G y)(a:G z)(f:le r x y)(e:le r y z):le r x z:=C.trans x y z d b a f e
def GE.Hd(C:GE prog w A E s κ G r){x y:KF}(b:G x)(a:G y)(h:r x y=J):le r x y:=C.Oz x y b a h
def Seg(r:KF->KF->Bool)(a:Array KF)(b d:Nat):Prop:=∀i j (f:i<a.size) (e:j<a.size),b<=i->i<=j->j<d->le r a[i] a[j]
def fX(C:GE prog w A E s κ G r){left:Bool}{d:KF}{b:Array KF}{a n hint:Nat}{Q:Option Nat->Pv->Prop}{m:Pv}(y:kindOf m=κ)(l:G d)(u:∀x∈b,G x)(B:a+n<=b.size)(z:hint<n)(v:Seg r b a (a+n))(h:∀k,k<=n->(∀i (f:i<b.size),a<=i->i<a+k->le r b[i] d)->(∀i (f:i<b.size),a+k<=i->i<a+n->le r d b[i])->Q (O k) m) :
  wpS (FM prog w) A E s (nN left d b a n hint) Q m:=by
 have g:∀i (f:i<b.size),G b[i]:=λi f=>u _ (Ze f);refine rS C y l u B z (λi j f o N L e=>?_) λk H F h3=>h k H (λi f t D=>?_) λi f t D=>?_
 ·have q:=v (a+i) (a+j) f o (by exact ZI _ _) (by lia) (by lia);cases left with
  |true =>
   unfold JB at e ⊢;rw[Zn M]at e ⊢;cases e2:r b[a+i] d with
   |true=>rfl
   |false=>rw[show r b[a+j] d=S from C.tr l (g _ f) (g _ o) e2 q]at e;cases e
  |false =>
   unfold JB at e ⊢;rw[Zj Za]at e ⊢;have I:r d b[a+j]=S:=by simpa using e
   have:=C.tr (g _ f) (g _ o) l q I;rw[show r d b[a+i]=S from this];rfl
 ·have e:=F (i-a) (by lia) (by lia);have p:a+(i-a)=i:=by exact VW t
  simp only[p]at e;cases left with
  |true =>
   unfold JB at e;rw[Zn M]at e;exact C.Hd (g _ f) l e
  |false =>
   unfold JB at e;rw[Zj Za]at e;show r d b[i]=S;simpa using e
 ·have e:=h3 (i-a) (by lia) (by lia) (by omega);have p:a+(i-a)=i:=by lia
  simp only[p]at e;cases left with
  |true =>
   unfold JB at e;rw[Zn M]at e;exact e
  |false =>
   unfold JB at e;rw[Zj Za]at e;exact C.Hd l (g _ f) (by simpa using e)
def qC{a:Array KF}{i:Nat}{x:KF}(h:x∈a.toList.drop i):∃j,∃(d:j<a.size),i<=j/\a[j]=x:=by
 obtain⟨k,b,e⟩:=Ja h;rw[ZE]at b;rw[XY]at e;have:i+k<a.size:=by simpa using(by omega:i+k<a.toList.length)
 exact⟨i+k,this,by exact ZI _ _,by simpa using e⟩
def jq{a:Array KF}{i k:Nat}{x:KF}(h:x∈(a.toList.drop i).take k):∃j,∃(d:j<a.size),i<=j/\j<i+k/\a[j]=x:=by
 obtain⟨m,b,e⟩:=Ja h;rw[ZM,ZE]at b;rw[XZ,XY]at e;have:i+m<a.size:=by simpa using(by omega:i+m<a.toList.length)
 exact⟨i+m,this,by exact ZI _ _,by lia,by simpa using e⟩
def sf{a:Array KF}{i:Nat}(h:i<a.size):a.toList.drop i=a[i] :: a.toList.drop (i+1):=by
 have:i<a.toList.length:=by simpa using h
 rw[YD this];simp
def ic{a:Array KF}(h:Seg r a 0 a.size):a.toList.Pairwise (le r):=by
 rw[Y9];intro i j d b e;simpa using h i j (by simpa using d) (by simpa using b) (ZN _) (by exact ZH e) (by simpa using b)
def xR(C:GE prog w A E s κ G r){a:Array KF}(f:∀x∈a,G x)(h:a.toList.Pairwise (le r)):Seg r a 0 a.size:=by
 intro i j d e _ g _;rcases Wc i j with l | b
 ·have:=Y9.mp h i j (by simpa using d) (by simpa using e) l;simpa using this
 ·have:i=j:=by exact Nat.le_antisymm g b
  subst this;exact C.refl (f _ (Ze d))
structure MI(r:KF->KF->Bool)(a b out:Array KF)(ia ib:Nat):Prop where
 pm:(out.toList++(a.toList.drop ia++b.toList.drop ib)).Perm (a.toList++b.toList)
 so:out.toList.Pairwise (le r)
 la:∀x∈out.toList,∀y∈a.toList.drop ia,le r x y
 lb:∀x∈out.toList,∀y∈b.toList.drop ib,le r x y
def MR(r:KF->KF->Bool)(a b d:Array KF):Prop:=d.toList.Perm (a.toList++b.toList)/\d.toList.Pairwise (le r)
theorem MI.size{a b d:Array KF}{f e:Nat}(m:MI r a b d f e)(h:f<=a.size)(g:e<=b.size):d.size+(a.size-f)+(b.size-e)=a.size+b.size:=by
 have:=m.pm.length_eq;simp at this;lia
def MI.I0{a b f:Array KF}{d l k:Nat}(m:MI r a b f d l)(p:Seg r a 0 a.size)(q:∀i (o:i<a.size),d<=i->i<d+k->∀j (n:j<b.size),l<=j->le r a[i] b[j]) :
  MI r a b (f++a.extract d (d+k)) (d+k) l:=by
 have e1:(f++a.extract d (d+k)).toList=f.toList++(a.toList.drop d).take k:=by
  simp[List.extract_eq_drop_take]
 have e2:a.toList.drop d=(a.toList.drop d).take k++a.toList.drop (d+k):=by
  rw[← List.drop_drop];exact(YR _ _).symm
 have h:(a.toList.drop d).Pairwise (le r):=(ic p).drop;rw[e2,ZL]at h;refine⟨?_,?_,?_,?_⟩
 ·rw[e1];have:=m.pm;rw[e2]at this;simpa[Zk] using this
 ·rw[e1,ZL];refine⟨m.so,h.1,λx e y g=>m.la x e y ?_⟩;exact Yi g
 ·rw[e1];intro x e y g;rcases Zb.mp e with e | e
  ·exact m.la x e y (by rw[e2];exact Jc _ g)
  ·exact h.2.2 x e y g
 ·rw[e1];intro x e y g;rcases Zb.mp e with e | e
  ·exact m.lb x e y g
  ·obtain⟨i,o,u,t,rfl⟩:=jq e;obtain⟨j,n,h3,rfl⟩:=qC g;exact q i o u t j n h3
def MI.swap{a b d:Array KF}{f e:Nat}(m:MI r a b d f e):MI r b a d e f :=
 ⟨((YC.append_left _).trans m.pm).trans YC,m.so,m.lb,m.la⟩
def MI.Ke{a b e:Array KF}{f d k:Nat}(m:MI r a b e f d)(g:Seg r b 0 b.size)(h:∀i (n:i<b.size),d<=i->i<d+k->∀j (l:j<a.size),f<=j->le r b[i] a[j]) :
  MI r a b (e++b.extract d (d+k)) f (d+k):=(m.swap.I0 g h).swap
def vw{a b:Array KF}{i:Nat}(h:i<a.size):b.push a[i]=b++a.extract i (i+1):=by
 apply Array.ext';have:(a.extract i (i+1)).toList=[a[i]]:=by
  have e:i<a.toList.length:=by simpa using h
  simp[List.extract_eq_drop_take,YD e]
 rw[Yk,this,VT]
def MI.FX{a b e:Array KF}{d f:Nat}(m:MI r a b e d f)(l:Seg r a 0 a.size)(h:d<a.size)(n:∀j (g:j<b.size),f<=j->le r a[d] b[j]):MI r a b (e.push a[d]) (d+1) f:=by
 rw[vw h];refine m.I0 l λi o q p j g h3=>?_;have:i=d:=by lia
 subst this;exact n j g h3
def MI.GX{a b d:Array KF}{f e:Nat}(m:MI r a b d f e)(g:Seg r b 0 b.size)(h:e<b.size)(i:∀j (l:j<a.size),f<=j->le r b[e] a[j]):MI r a b (d.push b[e]) f (e+1):=(m.swap.FX g h i).swap
def gr{a:Array KF}{i:Nat}:(a.extract i a.size).toList=a.toList.drop i:=by
 rw[Wm,List.extract_eq_drop_take,Jd (by simp)]
def MI.fin{a b d:Array KF}{g f:Nat}(m:MI r a b d g f)(n:Seg r a 0 a.size)(l:Seg r b 0 b.size)(h:g=a.size\/f=b.size):MR r a b (d++a.extract g a.size++b.extract f b.size):=by
 have e:(d++a.extract g a.size++b.extract f b.size).toList=d.toList++(a.toList.drop g++b.toList.drop f):=by
  rw[Yk,Yk,gr,gr,Zk]
 refine⟨by rw[e];exact m.pm,?_⟩;rw[e,ZL];refine⟨m.so,?_,λx j y i=>?_⟩
 ·rcases h with h | h
  ·rw[YH (as:=a.toList) (by simp[h]),HH];exact(ic l).drop
  ·rw[YH (as:=b.toList) (by simp[h]),ZP];exact(ic n).drop
 ·rcases Zb.mp i with i | i
  ·exact m.la x j y i
  ·exact m.lb x j y i
def MI.last{a b d:Array KF}{f i:Nat}(m:MI r a b d f i)(o:Seg r b 0 b.size)(h:f+1=a.size)(p:∀j (n:j<b.size),le r b[j] a[f]):MR r a b (d++b.extract i b.size++a.extract f a.size):=by
 have e:(d++b.extract i b.size++a.extract f a.size).toList=d.toList++(b.toList.drop i++a.toList.drop f):=by
  rw[Yk,Yk,gr,gr,Zk]
 have e2:a.toList.drop f=[a[f]]:=by rw[sf (by omega),YH (by simp;lia)]
 refine⟨by rw[e];exact(YC.append_left _).trans m.pm,?_⟩;rw[e,ZL];refine⟨m.so,?_,λx l y g=>?_⟩
 ·rw[ZL];refine⟨(ic o).drop,by rw[e2];exact W1 _ _,λx l y g=>?_⟩;rw[e2]at g;obtain⟨j,n,_,rfl⟩:=qC l;rw[Zh.mp g];exact p j n
 ·rcases Zb.mp g with g | g
  ·exact m.lb x l y g
  ·exact m.la x l y g
end TS
end
section
open PySem PyProof.Rows
namespace TS
variable{prog:PP}{w:SL}{A:Pi}{E:Yu}{s:FB}{κ:SortKind}{G:KF->Prop}{r:KF->KF->Bool}
def gu(a b:Pv):Prop:=kindOf b=kindOf a/\arrOf b=arrOf a/\Re b=Re a/\failedOf b=failedOf a
def eO:Nat->StateT Pv Sem Unit:=sortPriv% PySem.Builtin.setMinGallop
def gN{g:Nat}{Q:Unit->Pv->Prop}{a d:Pv}(e:gu d a)(h:∀b,gu d b->Q () b):wpS (FM prog w) A E s (eO g) Q a:=by
 unfold eO;exact Wi (h _ e)
def gI{t:String}{Q:Unit->Pv->Prop}{a:Pv}(h:Q () a):wpS (FM prog w) A E s (liftM (rule t)) Q a:=wpS_lift (XW ⟨rfl,h⟩)
def aH{α:Type}{c:Prop}[Decidable c]{x y:StateT Pv Sem α}{Q:α->Pv->Prop}{b:Pv}(d:c->wpS (FM prog w) A E s x Q b)(e:¬c->wpS (FM prog w) A E s y Q b) :
  wpS (FM prog w) A E s (if c then x else y) Q b:=by
 by_cases a:c
 ·rw[Zn a];exact d a
 ·rw[Zj a];exact e a
def tJ{α:Type}{c:Nat->Prop}[∀n,Decidable (c n)]{d a:Nat->StateT Pv Sem α}{Q:α->Pv->Prop}{b:Pv}(e:∀n,d n=a (n-1))(h:∀n,wpS (FM prog w) A E s (a n) Q b):∀n,wpS (FM prog w) A E s (if c n then d n else a n) Q b :=
 λn=>aH (λ_=>by rw[e];exact h _) λ_=>h n
def bw{α:Type}{a:Array KF}{i:Nat}{c:KF->Prop}[∀v,Decidable (c v)]{x y:KF->StateT Pv Sem α}{Q:α->Pv->Prop}{b:Pv}(e:i<a.size)(d:c a[i]->wpS (FM prog w) A E s (x a[i]) Q b)(f:¬c a[i]->wpS (FM prog w) A E s (y a[i]) Q b) :
  wpS (FM prog w) A E s (elem' a i >>= λv=>if c v then x v else y v) Q b:=ZX (dY e (aH d f))
def vU{α:Type}{c d:Prop}[Decidable c][Decidable d]{x y z:StateT Pv Sem α}{Q:α->Pv->Prop}{a:Pv}(f:c->wpS (FM prog w) A E s x Q a)(b:¬c->d->wpS (FM prog w) A E s y Q a)(h3:¬c->¬d->wpS (FM prog w) A E s z Q a) :
  wpS (FM prog w) A E s (if c then x else if d then y else z) Q a:=aH f λe=>aH (b e) (h3 e)
def ie{α β:Type}{a:Array KF}{i:Nat}{m:KF->StateT Pv Sem β}{f:KF->β->StateT Pv Sem α}{Q:α->Pv->Prop}{b:Pv}(e:i<a.size)(h:wpS (FM prog w) A E s (m a[i]) (λv d=>wpS (FM prog w) A E s (f a[i] v) Q d) b) :
  wpS (FM prog w) A E s (elem' a i >>= λu=>m u >>= λv=>f u v) Q b:=ZX (dY e (ZX h))
structure MC(G:KF->Prop)(r:KF->KF->Bool)(a b:Array KF):Prop where
 ga:∀x∈a,G x
 gb:∀x∈b,G x
 sa:Seg r a 0 a.size
 sb:Seg r b 0 b.size
 na:0<a.size
 nb:0<b.size
 first:le r b[0] a[0]
 last:∀j (hj:j<b.size),le r b[j] a[a.size-1]
def MC.He{a b:Array KF}(M:MC G r a b){i:Nat}(f:i<a.size)(h:i+1=a.size):∀j (d:j<b.size),le r b[j] a[i]:=by
 intro j d;have:=M.last j d;have e:a.size-1=i:=by lia
 simpa[e] using this
def MC.bA(C:GE prog w A E s κ G r){a b:Array KF}(M:MC G r a b){i j:Nat}(e:i<a.size)(f:j<b.size)(h:le r b[j] a[i]):∀k (d:k<a.size),i<=k->le r b[j] a[k]:=λk d g =>
 C.tr (M.gb _ (Ze f)) (M.ga _ (Ze e)) (M.ga _ (Ze d)) h (M.sa i k e d (ZN _) g d)
def MC.aB(C:GE prog w A E s κ G r){a b:Array KF}(M:MC G r a b){i j:Nat}(f:i<a.size)(e:j<b.size)(h:le r a[i] b[j]):∀k (d:k<b.size),j<=k->le r a[i] b[k]:=λk d g =>
 C.tr (M.ga _ (Ze f)) (M.gb _ (Ze e)) (M.gb _ (Ze d)) h (M.sb j k e d (ZN _) g d)
def iw{a:Array KF}(h:Seg r a 0 a.size)(d e:Nat):Seg r a d e:=λi j g b l f h3=>h i j g b (ZN _) f b
def D2(C:GE prog w A E s κ G r){a b:Array KF}{D:Pv}{Q:Array KF->Pv->Prop}(hk:kindOf D=κ)(M:MC G r a b)(h:∀res o,gu D o->MR r a b res->Q res o) :
  wpS (FM prog w) A E s (lP a b) Q D:=by
 have TK:=M.na;have hnb:=M.nb;unfold lP;change wpS (FM prog w) A E s (_>>=_) Q D;dsimp only;refine ZX (gI ?_);have m0:MI r a b #[] 0 0:=⟨by simp,by simp,by simp,by simp⟩
 have m1:MI r a b #[b[0]] 0 1:=m0.GX M.sb M.nb λj l _=>M.bA C M.na M.nb M.first j l (ZN _);have L5:gu D D:=⟨rfl,rfl,rfl,rfl⟩
 refine bw M.nb (λe=>?_) λe1=>?_
 ·exact Zg (h _ _ L5 (m1.fin M.sa M.sb (.inr (by simpa using e))))
 refine aH (λe=>?_) λe2=>?_
 ·exact Zg (h _ _ L5 (m1.last M.sb (by simpa using e) (M.He M.na (by simpa using e))))
 have Of:1<b.size:=by simp at e1;lia
 have Mz:0+1<a.size:=by simp at e2;lia
 refine ZX (WR ?_);refine ZX (Xw (Yb
  (I:=λx c o=>gu D o/\c.1=Y/\MI r a b c.2.1 c.2.2.1 c.2.2.2.1/\c.2.2.1+1<a.size/\c.2.2.2.1<b.size/\x<c.2.1.size)
  (Q:=λc o=>gu D o/\∃res,c.1=O res/\MR r a b res) ?step ?fin ?init) ?post)
 case init=>exact⟨L5,rfl,m1,Mz,Of,by simp⟩
 case fin =>
  refine uw λc1 out u B mg o d=>?_;have kp:=d.1;have t:=d.2.1;have m:=d.2.2.1;have p:=d.2.2.2.1;have f:=d.2.2.2.2.1;have L:=d.2.2.2.2.2;clear d;dsimp only at *;have:=m.size (by lia) (by exact ZH f);lia
 case post =>
  refine uw λc1 out u B mg=>?_;rintro o ⟨kp,res,t,p⟩;dsimp only at *;subst t;exact Zg (h _ _ kp p)
 case step =>
  intro x;refine uw λc1 out u B mg o _ hx d=>?_;have kp:=d.1;have t:=d.2.1;have m:=d.2.2.1;have p:=d.2.2.2.1;have f:=d.2.2.2.2.1;have L:=d.2.2.2.2.2;clear d;dsimp only at *;refine ZX (Xw (Yb
   (I:=λy c o=>gu D o/\c.1=Y/\MI r a b c.2.1 c.2.2.1 c.2.2.2.1/\c.2.2.1+1<a.size/\c.2.2.2.1<b.size/\x+y<c.2.1.size)
   (Q:=λc o=>gu D o/\((∃res,c.1=O res/\MR r a b res)\/(c.1=Y/\MI r a b c.2.1 c.2.2.1 c.2.2.2.1/\c.2.2.1+1<a.size/\c.2.2.2.1<b.size/\x+1<c.2.1.size))) ?step2 ?fin2 ?init2) ?post2)
  case init2=>exact⟨kp,rfl,m,p,f,by simpa using L⟩
  case fin2 =>
   refine qf λc1 out u B ac bc o d=>?_;have kp:=d.1;have t:=d.2.1;have m:=d.2.2.1;have p:=d.2.2.2.1;have f:=d.2.2.2.2.1;have L:=d.2.2.2.2.2;clear d;dsimp only at *;exact⟨kp,.inr ⟨t,m,p,f,by(try dsimp only);lia⟩⟩
  case step2 =>
   intro y;refine qf λc1 out u B ac bc o _ hy d=>?_;have kp:=d.1;have t:=d.2.1;have m:=d.2.2.1;have p:=d.2.2.2.1;have f:=d.2.2.2.2.1;have L:=d.2.2.2.2.2;clear d;dsimp only at *;have U:u<a.size:=by exact Xb p
   have gA:=M.ga _ (Ze U);have gB:=M.gb _ (Ze f);refine ie f (dY U ?_);refine ZX (C.run _ _ _ _ (kp.1.trans hk) gB gA ?_);dsimp only;cases e:r b[B] a[u] with
   |true =>
    rw[Zn rfl];have H:=m.GX M.sb f (M.bA C U f (C.Hd gB gA e));refine bw f (λR=>?_) λR=>?_
    ·exact Zg ⟨kp,.inl ⟨_,rfl,H.fin M.sa M.sb (.inr (by simpa using R))⟩⟩
    ·have HZ:B+1<b.size:=by simp at R;lia
     refine aH (λ_=>?_) λ_=>?_
     ·exact Zg ⟨kp,.inr ⟨rfl,H,p,HZ,by simp;lia⟩⟩
     ·exact Zg ⟨kp,rfl,H,p,HZ,by simp;lia⟩
   |false =>
    rw[Zj Za];have H:=m.FX M.sa U (M.aB C U f e);refine bw U (λR=>?_) λR=>?_
    ·exact Zg ⟨kp,.inl ⟨_,rfl,H.last M.sb (by simpa using R) (M.He (by omega) (by simpa using R))⟩⟩
    ·have HZ:u+1+1<a.size:=by simp at R;lia
     refine aH (λ_=>?_) λ_=>?_
     ·exact Zg ⟨kp,.inr ⟨rfl,H,HZ,f,by simp;lia⟩⟩
     ·exact Zg ⟨kp,rfl,H,HZ,f,by simp;lia⟩
  case post2 =>
   refine qf λc1 out u B ac bc=>?_;rintro o ⟨kp,⟨res,t,p⟩ | ⟨t,m,p,f,L⟩⟩
   ·dsimp only at *;subst t;exact Zg ⟨kp,res,rfl,p⟩
   ·dsimp only at *;subst t;dsimp only;refine ZX (gI ?_);refine ZX (Xw (Yb
     (I:=λy c o=>gu D o/\c.1=Y/\MI r a b c.2.1 c.2.2.1 c.2.2.2.1/\c.2.2.1+1<a.size/\c.2.2.2.1<b.size/\x+1<c.2.1.size)
     (Q:=λc o=>gu D o/\((∃res,c.1=O res/\MR r a b res)\/(c.1=Y/\MI r a b c.2.1 c.2.2.1 c.2.2.2.1/\c.2.2.1+1<a.size/\c.2.2.2.1<b.size/\x+1<c.2.1.size))) ?step3 ?fin3 ?init3) ?post3)
    case init3=>exact⟨kp,rfl,m,p,f,L⟩
    case fin3 =>
     refine qf λc1 out u B ac bc o d=>?_;have kp:=d.1;have t:=d.2.1;have m:=d.2.2.1;have p:=d.2.2.2.1;have f:=d.2.2.2.2.1;have L:=d.2.2.2.2.2;clear d;exact⟨kp,.inr ⟨t,m,p,f,L⟩⟩
    case post3 =>
     refine yB λc1 out u B mg ac bc=>?_;rintro o ⟨kp,⟨res,t,p⟩ | ⟨t,m,p,f,L⟩⟩
     ·dsimp only at *;subst t;exact Zg ⟨kp,res,rfl,p⟩
     ·dsimp only at *;subst t;dsimp only;exact ZX (gN kp λF9 n=>Zg ⟨n,rfl,m,p,f,L⟩)
    case step3 =>
     intro y;refine yB λc1 out u B mg ac bc o _ hy d=>?_;have kp:=d.1;have t:=d.2.1;have m:=d.2.2.1;have p:=d.2.2.2.1;have f:=d.2.2.2.2.1;have L:=d.2.2.2.2.2;clear d;dsimp only at *;have both:∀{mg:Nat}{F:Unit->StateT Pv Sem (ForInStep (Option (Array KF)×Array KF×Nat×Nat×Nat×Nat×Nat))}{P},(∀F9,gu D F9->wpS (FM prog w) A E s (F ()) P F9)->wpS (FM prog w) A E s (eO mg>>=F) P o:=λhF=>ZX (gN kp λF9 n=>hF F9 n);revert mg;refine tJ (λ_=>rfl) λmg2=>?_;refine both λF9 n=>?_;have U:u<a.size:=by exact Xb p
     have gB:=M.gb _ (Ze f);refine ie f (fX C (n.1.trans hk) gB M.ga (by lia) (by exact VY U) (iw M.sa _ _) λk MW KI MV=>?_);dsimp only;refine aH (λe5=>?_) λe5=>?_
     ·have H:=m.I0 (k:=k) M.sa (λi N h1 h2 j l h3=>C.tr (M.ga _ (Ze N)) gB (M.gb _ (Ze l)) (KI i N h1 h2) (M.sb _ j f l (ZN _) h3 l));refine vU (λq=>?_) (λq g=>?_) λq g=>?_
      ·exact Zg ⟨n,.inl ⟨_,rfl,H.last M.sb (by simpa using q) (M.He (by simp at q;lia) (by simpa using q))⟩⟩
      ·exact Zg ⟨n,.inl ⟨_,rfl,H.fin M.sa M.sb (.inl (by simpa using g))⟩⟩
      have v:u+k<a.size:=by simp at q g;lia
      have hA2:u+k+1<a.size:=by simp at q g;lia
      have hle:∀j (l:j<a.size),u+k<=j->le r b[B] a[j]:=λj l h=>MV j l h (by lia);clear q;have W:=H.GX M.sb f hle;refine bw f (λX=>?_) λX=>?_
      ·exact Zg ⟨n,.inl ⟨_,rfl,W.fin M.sa M.sb (.inr (by simpa using X))⟩⟩
      have My:B+1<b.size:=by simp at X;lia
      refine ie v (fX C (n.1.trans hk) (M.ga _ (Ze v)) M.gb (by lia) (by exact VY My) (iw M.sb _ _) λk2 JN Ge HF=>?_);dsimp only;have m4:=W.Ke (k:=k2) M.sb (λi N h1 h2 j l h3=>C.tr (M.gb _ (Ze N)) (M.ga _ (Ze v)) (M.ga _ (Ze l)) (Ge i N h1 h2) (M.sa _ j v l (ZN _) h3 l));refine aH (λe5=>?_) λe5=>?_
      ·refine aH (λq=>?_) λq=>?_
       ·exact Zg ⟨n,.inl ⟨_,rfl,m4.fin M.sa M.sb (.inr (by simpa using q))⟩⟩
       have z:=m4.FX M.sa v (λj l h=>HF j l h (by omega));refine bw v (λg=>?_) λg=>?_
       ·exact Zg ⟨n,.inl ⟨_,rfl,z.last M.sb (by simpa using g) (M.He (by simp at g;omega) (by simpa using g))⟩⟩
       have Z:=g;simp at Z;refine aH (λ_=>?_) λ_=>?_
       ·exact Zg ⟨n,.inr ⟨rfl,z,by(try dsimp only);lia,by(try dsimp only);(try simp at q);lia,by simp;lia⟩⟩
       ·exact Zg ⟨n,rfl,z,by(try dsimp only);lia,by(try dsimp only);(try simp at q);lia,by simp;lia⟩
      ·have z:=W.FX M.sa v (λj l h=>HF j l (by lia) (by omega));refine bw v (λg=>?_) λg=>?_
       ·exact Zg ⟨n,.inl ⟨_,rfl,z.last M.sb (by simpa using g) (M.He (by simp at g;omega) (by simpa using g))⟩⟩
       have Z:=g;simp at Z;refine aH (λ_=>?_) λ_=>?_
       ·exact Zg ⟨n,.inr ⟨rfl,z,by(try dsimp only);lia,by(try dsimp only);(try simp at q);omega,by simp;lia⟩⟩
       ·exact Zg ⟨n,rfl,z,by(try dsimp only);lia,by(try dsimp only);(try simp at q);omega,by simp;lia⟩
     ·have H:=m;have v:u<a.size:=by omega
      have hle:∀j (l:j<a.size),u<=j->le r b[B] a[j]:=λj l h=>MV j l (by lia) (by lia);have W:=H.GX M.sb f hle;refine bw f (λX=>?_) λX=>?_
      ·exact Zg ⟨n,.inl ⟨_,rfl,W.fin M.sa M.sb (.inr (by simpa using X))⟩⟩
      have My:B+1<b.size:=by simp at X;lia
      refine ie v (fX C (n.1.trans hk) (M.ga _ (Ze v)) M.gb (by lia) (by exact VY My) (iw M.sb _ _) λk2 JN Ge HF=>?_);dsimp only;have m4:=W.Ke (k:=k2) M.sb (λi N h1 h2 j l h3=>C.tr (M.gb _ (Ze N)) (M.ga _ (Ze v)) (M.ga _ (Ze l)) (Ge i N h1 h2) (M.sa _ j v l (ZN _) h3 l));refine aH (λe5=>?_) λe5=>?_
      ·refine aH (λq=>?_) λq=>?_
       ·exact Zg ⟨n,.inl ⟨_,rfl,m4.fin M.sa M.sb (.inr (by simpa using q))⟩⟩
       have z:=m4.FX M.sa v (λj l h=>HF j l h (by omega));refine bw v (λg=>?_) λg=>?_
       ·exact Zg ⟨n,.inl ⟨_,rfl,z.last M.sb (by simpa using g) (M.He (by simp at g;omega) (by simpa using g))⟩⟩
       have Z:=g;simp at Z;refine aH (λ_=>?_) λ_=>?_
       ·exact Zg ⟨n,.inr ⟨rfl,z,by(try dsimp only);lia,by(try dsimp only);(try simp at q);lia,by simp;lia⟩⟩
       ·exact Zg ⟨n,rfl,z,by(try dsimp only);lia,by(try dsimp only);(try simp at q);lia,by simp;lia⟩
      ·have z:=W.FX M.sa v (λj l h=>HF j l (by lia) (by omega));refine bw v (λg=>?_) λg=>?_
       ·exact Zg ⟨n,.inl ⟨_,rfl,z.last M.sb (by simpa using g) (M.He (by simp at g;omega) (by simpa using g))⟩⟩
       have Z:=g;simp at Z;refine aH (λ_=>?_) λ_=>?_
       ·exact Zg ⟨n,.inr ⟨rfl,z,by(try dsimp only);lia,by(try dsimp only);(try simp at q);omega,by simp;lia⟩⟩
       ·exact Zg ⟨n,rfl,z,by(try dsimp only);lia,by(try dsimp only);(try simp at q);omega,by simp;lia⟩
end TS
end
section
open PySem PyProof.Rows
namespace TS
variable{prog:PP}{w:SL}{A:Pi}{E:Yu}{s:FB}{κ:SortKind}{G:KF->Prop}{r:KF->KF->Bool}
def vN{a:Array KF}{n:Nat}{x:KF}(h:x∈a.toList.take n):∃j,∃(d:j<a.size),j<n/\a[j]=x:=by
 obtain⟨m,b,e⟩:=Ja h;rw[ZM]at b;rw[XZ]at e;have:m<a.size:=by simpa using(by lia:m<a.toList.length)
 exact⟨m,this,by lia,by simpa using e⟩
structure HI(r:KF->KF->Bool)(a b out:Array KF)(na nb:Nat):Prop where
 pm:(a.toList.take na++(b.toList.take nb++out.toList.reverse)).Perm (a.toList++b.toList)
 so:out.toList.reverse.Pairwise (le r)
 la:∀x∈out.toList,∀y∈a.toList.take na,le r y x
 lb:∀x∈out.toList,∀y∈b.toList.take nb,le r y x
theorem HI.size{a b d:Array KF}{f e:Nat}(m:HI r a b d f e)(h:f<=a.size)(g:e<=b.size):d.size+f+e=a.size+b.size:=by
 have:=m.pm.length_eq;simp at this;lia
def HI.I0{a b d:Array KF}{f n k:Nat}(m:HI r a b d f n)(q:Seg r a 0 a.size)(u:k<=f)(t:∀i (p:i<a.size),k<=i->i<f->∀j (o:j<b.size),j<n->le r b[j] a[i]) :
  HI r a b (d++(a.extract k f).reverse) k n:=by
 have e1:(d++(a.extract k f).reverse).toList.reverse=(a.toList.drop k).take (f-k)++d.toList.reverse:=by
  simp[List.extract_eq_drop_take]
 have e2:a.toList.take f=a.toList.take k++(a.toList.drop k).take (f-k):=by
  rw[← YR k (a.toList.take f),List.take_take,WT,Ym u]
 have l:(a.toList.take f).Pairwise (le r):=(ic q).take;rw[e2,ZL]at l;have mem:∀x,x∈(d++(a.extract k f).reverse).toList->x∈d.toList\/x∈(a.toList.drop k).take (f-k):=λx e=>by
  have:x∈(d++(a.extract k f).reverse).toList.reverse:=YL.mpr e;rw[e1]at this;rcases Zb.mp this with h | h
  ·exact .inr h
  ·exact .inl (YL.mp h)
 refine⟨?_,?_,?_,?_⟩
 ·rw[e1];have:=m.pm;rw[e2]at this;refine List.Perm.trans ?_ this;rw[Zk];refine List.Perm.append_left _ ?_;rw[← Zk,← Zk];exact List.Perm.append_right _ YC
 ·rw[e1,ZL];refine⟨l.2.1,m.so,λx e y g=>m.la y (YL.mp g) x ?_⟩;rw[e2];exact Jc _ e
 ·intro x e y g;rcases mem x e with e | e
  ·exact m.la x e y (by rw[e2];exact Xy _ g)
  ·exact l.2.2 y g x e
 ·intro x e y g;rcases mem x e with e | e
  ·exact m.lb x e y g
  ·obtain⟨i,p,v,z,rfl⟩:=jq e;obtain⟨j,o,h3,rfl⟩:=vN g;exact t i p v (by lia) j o h3
def HI.swap{a b d:Array KF}{f e:Nat}(m:HI r a b d f e):HI r b a d e f:=by
 refine⟨?_,m.so,m.lb,m.la⟩;refine List.Perm.trans ?_ (m.pm.trans YC);rw[← Zk,← Zk];exact List.Perm.append_right _ YC
def HI.Ke{a b d:Array KF}{f e k:Nat}(m:HI r a b d f e)(g:Seg r b 0 b.size)(l:k<=e)(h:∀i (o:i<b.size),k<=i->i<e->∀j (n:j<a.size),j<f->le r a[j] b[i]) :
  HI r a b (d++(b.extract k e).reverse) f k:=(m.swap.I0 g l h).swap
def yq{a b:Array KF}{i:Nat}(h:i<a.size):b.push a[i]=b++(a.extract i (i+1)).reverse:=by
 apply Array.ext';have:(a.extract i (i+1)).toList=[a[i]]:=by
  have e:i<a.toList.length:=by simpa using h
  simp[List.extract_eq_drop_take,YD e]
 rw[Yk,Wn,this,VT];rfl
def HI.FX{a b f:Array KF}{d g:Nat}(m:HI r a b f d g)(n:Seg r a 0 a.size)(u:0<d)(h:d-1<a.size)(o:∀j (l:j<b.size),j<g->le r b[j] a[d-1]):HI r a b (f.push a[d-1]) (d-1) g:=by
 rw[yq h];have e:d-1+1=d:=by lia
 rw[e];refine m.I0 n (by exact YK _ _) λi p t q j l h3=>?_;have:i=d-1:=by lia
 subst this;exact o j l h3
def HI.GX{a b e:Array KF}{f d:Nat}(m:HI r a b e f d)(g:Seg r b 0 b.size)(l:0<d)(h:d-1<b.size)(i:∀j (n:j<a.size),j<f->le r a[j] b[d-1]):HI r a b (e.push b[d-1]) f (d-1):=(m.swap.FX g l h i).swap
def zZ{a:Array KF}{n:Nat}:(a.extract 0 n).toList=a.toList.take n:=by
 rw[Wm,List.extract_eq_drop_take,X7,Nat.sub_zero]
def HI.fin{a b d:Array KF}{g f:Nat}(m:HI r a b d g f)(n:Seg r a 0 a.size)(l:Seg r b 0 b.size)(h:g=0\/f=0):MR r a b (a.extract 0 g++b.extract 0 f++d.reverse):=by
 have e:(a.extract 0 g++b.extract 0 f++d.reverse).toList=a.toList.take g++(b.toList.take f++d.toList.reverse):=by
  rw[Yk,Yk,zZ,zZ,Zk,Wn]
 refine⟨by rw[e];exact m.pm,?_⟩;rw[e,← Zk,ZL];refine⟨?_,m.so,λx i y j=>?_⟩
 ·rcases h with h | h
  ·subst h;rw[List.take_zero,HH];exact(ic l).take
  ·subst h;rw[List.take_zero,ZP];exact(ic n).take
 ·rcases Zb.mp i with i | i
  ·exact m.la y (YL.mp j) x i
  ·exact m.lb y (YL.mp j) x i
def HI.first{a b d:Array KF}{i g:Nat}(m:HI r a b d i g)(o:Seg r a 0 a.size)(h:g=1)(q:0<b.size)(p:∀j (n:j<a.size),le r b[0] a[j]):MR r a b (b.extract 0 g++a.extract 0 i++d.reverse):=by
 have e:(b.extract 0 g++a.extract 0 i++d.reverse).toList=b.toList.take g++(a.toList.take i++d.toList.reverse):=by
  rw[Yk,Yk,zZ,zZ,Zk,Wn]
 have e2:b.toList.take g=[b[0]]:=by
  subst h;have:=sf q;rw[X7]at this;rw[this];rfl
 refine⟨?_,?_⟩
 ·rw[e];exact m.swap.pm.trans YC
 rw[e,← Zk,ZL];refine⟨?_,m.so,λx f y l=>?_⟩
 ·rw[ZL];refine⟨by rw[e2];exact W1 _ _,(ic o).take,λx f y l=>?_⟩;rw[e2]at f;obtain⟨j,n,_,rfl⟩:=vN l;rw[Zh.mp f];exact p j n
 ·rcases Zb.mp f with f | f
  ·exact m.lb y (YL.mp l) x f
  ·exact m.la y (YL.mp l) x f
def MC.GW(C:GE prog w A E s κ G r){a b:Array KF}(M:MC G r a b):∀j (d:j<a.size),le r (b[0]'M.nb) a[j]:=λj d=>M.bA C M.na M.nb M.first j d (ZN _)
def EB(C:GE prog w A E s κ G r){a b:Array KF}{L:Pv}{Q:Array KF->Pv->Prop}(hk:kindOf L=κ)(M:MC G r a b)(h:∀res n,gu L n->MR r a b res->Q res n) :
  wpS (FM prog w) A E s (kH a b) Q L:=by
 have TK:=M.na;have hnb:=M.nb;unfold kH;change wpS (FM prog w) A E s (_>>=_) Q L;dsimp only;have TN:a.size-1<a.size:=by omega
 refine ZX (gI ?_);have m0:HI r a b #[] a.size b.size:=⟨by simp[Jd],by simp,by simp,by simp⟩
 have m1:HI r a b #[a[a.size-1]] (a.size-1) b.size:=m0.FX M.sa TK TN λj g _=>M.last j g;have L5:gu L L:=⟨rfl,rfl,rfl,rfl⟩
 refine bw TN (λe=>?_) λe1=>?_
 ·exact Zg (h _ _ L5 (m1.fin M.sa M.sb (.inl (by simpa using e))))
 refine aH (λe=>?_) λe2=>?_
 ·exact Zg (h _ _ L5 (m1.first M.sa (by simpa using e) M.nb (M.GW C)))
 have Of:0<a.size-1:=by simp at e1;exact Yh e1
 have Mz:1<b.size:=by simp at e2;lia
 refine ZX (WR ?_);refine ZX (Xw (Yb
  (I:=λx c n=>gu L n/\c.1=Y/\HI r a b c.2.2.2.1 c.2.1 c.2.2.1/\0<c.2.1/\c.2.1<=a.size/\1<c.2.2.1/\c.2.2.1<=b.size/\x<c.2.2.2.1.size)
  (Q:=λc n=>gu L n/\∃res,c.1=O res/\MR r a b res) ?step ?fin ?init) ?post)
 case init=>exact⟨L5,rfl,m1,Of,by(try dsimp only);exact YK _ _,Mz,Zo _,by simp⟩
 case fin =>
  refine uw λc1 na nb out mg n d=>?_;have kp:=d.1;have u:=d.2.1;have m:=d.2.2.1;have o:=d.2.2.2.1;have H:=d.2.2.2.2.1;have v:=d.2.2.2.2.2.1;have D:=d.2.2.2.2.2.2.1;have U:=d.2.2.2.2.2.2.2;clear d;dsimp only at *;have:=m.size (by omega) (by omega);lia
 case post =>
  refine uw λc1 na nb out mg=>?_;rintro n ⟨kp,res,u,o⟩;dsimp only at *;subst u;exact Zg (h _ _ kp o)
 case step =>
  intro x;refine uw λc1 na nb out mg n _ hx d=>?_;have kp:=d.1;have u:=d.2.1;have m:=d.2.2.1;have o:=d.2.2.2.1;have H:=d.2.2.2.2.1;have v:=d.2.2.2.2.2.1;have D:=d.2.2.2.2.2.2.1;have U:=d.2.2.2.2.2.2.2;clear d;dsimp only at *;refine ZX (Xw (Yb
   (I:=λy c n=>gu L n/\c.1=Y/\HI r a b c.2.2.2.1 c.2.1 c.2.2.1/\0<c.2.1/\c.2.1<=a.size/\1<c.2.2.1/\c.2.2.1<=b.size/\x+y<c.2.2.2.1.size)
   (Q:=λc n=>gu L n/\((∃res,c.1=O res/\MR r a b res)\/(c.1=Y/\HI r a b c.2.2.2.1 c.2.1 c.2.2.1/\0<c.2.1/\c.2.1<=a.size/\1<c.2.2.1/\c.2.2.1<=b.size/\x+1<c.2.2.2.1.size))) ?step2 ?fin2 ?init2) ?post2)
  case init2=>exact⟨kp,rfl,m,o,H,v,D,by simpa using U⟩
  case fin2 =>
   refine qf λc1 na nb out ac bc n d=>?_;have kp:=d.1;have u:=d.2.1;have m:=d.2.2.1;have o:=d.2.2.2.1;have H:=d.2.2.2.2.1;have v:=d.2.2.2.2.2.1;have D:=d.2.2.2.2.2.2.1;have U:=d.2.2.2.2.2.2.2;clear d;dsimp only at *;exact⟨kp,.inr ⟨u,m,o,H,v,D,by(try dsimp only);lia⟩⟩
  case step2 =>
   intro y;refine qf λc1 na nb out ac bc n _ hy d=>?_;have kp:=d.1;have u:=d.2.1;have m:=d.2.2.1;have o:=d.2.2.2.1;have H:=d.2.2.2.2.1;have v:=d.2.2.2.2.2.1;have D:=d.2.2.2.2.2.2.1;have U:=d.2.2.2.2.2.2.2;clear d;dsimp only at *;have f:na-1<a.size:=by lia
   have t:nb-1<b.size:=by lia
   have gA:=M.ga _ (Ze f);have gB:=M.gb _ (Ze t);refine ie t (dY f ?_);refine ZX (C.run _ _ _ _ (kp.1.trans hk) gB gA ?_);dsimp only;cases e:r b[nb-1] a[na-1] with
   |true =>
    rw[Zn rfl];have R:=m.FX M.sa o f (λj g TU=>C.tr (M.gb _ (Ze g)) gB gA (M.sb j _ g t (ZN _) (by lia) t) (C.Hd gB gA e));refine bw f (λX=>?_) λX=>?_
    ·exact Zg ⟨kp,.inl ⟨_,rfl,R.fin M.sa M.sb (.inl (by simpa using X))⟩⟩
    ·have HZ:0<na-1:=by simp at X;exact Yh X
     refine aH (λ_=>?_) λ_=>?_
     ·exact Zg ⟨kp,.inr ⟨rfl,R,HZ,by(try dsimp only);exact ZH f,v,D,by simp;lia⟩⟩
     ·exact Zg ⟨kp,rfl,R,HZ,by(try dsimp only);exact ZH f,v,D,by simp;lia⟩
   |false =>
    rw[Zj Za];have R:=m.GX M.sb (by exact Xb v) t (λj g TU=>C.tr (M.ga _ (Ze g)) gA gB (M.sa j _ g f (ZN _) (by lia) f) e);refine bw t (λX=>?_) λX=>?_
    ·exact Zg ⟨kp,.inl ⟨_,rfl,R.first M.sa (by simpa using X) M.nb (M.GW C)⟩⟩
    ·have HZ:1<nb-1:=by simp at X;lia
     refine aH (λ_=>?_) λ_=>?_
     ·exact Zg ⟨kp,.inr ⟨rfl,R,o,H,HZ,by(try dsimp only);exact ZH t,by simp;lia⟩⟩
     ·exact Zg ⟨kp,rfl,R,o,H,HZ,by(try dsimp only);exact ZH t,by simp;lia⟩
  case post2 =>
   refine qf λc1 na nb out ac bc=>?_;rintro n ⟨kp,⟨res,u,o⟩ | ⟨u,m,o,H,v,D,U⟩⟩
   ·dsimp only at *;subst u;exact Zg ⟨kp,res,rfl,o⟩
   ·dsimp only at *;subst u;dsimp only;refine ZX (gI ?_);refine ZX (Xw (Yb
     (I:=λy c n=>gu L n/\c.1=Y/\HI r a b c.2.2.2.1 c.2.1 c.2.2.1/\0<c.2.1/\c.2.1<=a.size/\1<c.2.2.1/\c.2.2.1<=b.size/\x+1<c.2.2.2.1.size)
     (Q:=λc n=>gu L n/\((∃res,c.1=O res/\MR r a b res)\/(c.1=Y/\HI r a b c.2.2.2.1 c.2.1 c.2.2.1/\0<c.2.1/\c.2.1<=a.size/\1<c.2.2.1/\c.2.2.1<=b.size/\x+1<c.2.2.2.1.size))) ?step3 ?fin3 ?init3) ?post3)
    case init3=>exact⟨kp,rfl,m,o,H,v,D,U⟩
    case fin3 =>
     refine qf λc1 na nb out ac bc n d=>?_;have kp:=d.1;have u:=d.2.1;have m:=d.2.2.1;have o:=d.2.2.2.1;have H:=d.2.2.2.2.1;have v:=d.2.2.2.2.2.1;have D:=d.2.2.2.2.2.2.1;have U:=d.2.2.2.2.2.2.2;clear d;exact⟨kp,.inr ⟨u,m,o,H,v,D,U⟩⟩
    case post3 =>
     refine yB λc1 na nb out mg ac bc=>?_;rintro n ⟨kp,⟨res,u,o⟩ | ⟨u,m,o,H,v,D,U⟩⟩
     ·dsimp only at *;subst u;exact Zg ⟨kp,res,rfl,o⟩
     ·dsimp only at *;subst u;dsimp only;exact ZX (gN kp λF9 l=>Zg ⟨l,rfl,m,o,H,v,D,U⟩)
    case step3 =>
     intro y;refine yB λc1 na nb out mg ac bc n _ hy d=>?_;have kp:=d.1;have u:=d.2.1;have m:=d.2.2.1;have o:=d.2.2.2.1;have H:=d.2.2.2.2.1;have v:=d.2.2.2.2.2.1;have D:=d.2.2.2.2.2.2.1;have U:=d.2.2.2.2.2.2.2;clear d;dsimp only at *;have both:∀{mg:Nat}{F:Unit->StateT Pv Sem (ForInStep (Option (Array KF)×Nat×Nat×Array KF×Nat×Nat×Nat))}{P},(∀F9,gu L F9->wpS (FM prog w) A E s (F ()) P F9)->wpS (FM prog w) A E s (eO mg>>=F) P n:=λhF=>ZX (gN kp λF9 l=>hF F9 l);revert mg;refine tJ (λ_=>rfl) λmg2=>?_;refine both λF9 l=>?_;have T4:0<nb:=by exact Xb v
     have t:nb-1<b.size:=by lia
     have gB:=M.gb _ (Ze t);refine ie t (fX C (l.1.trans hk) gB M.ga (by lia) (by lia) (iw M.sa _ _) λk MW KI MV=>?_);dsimp only;refine aH (λe5=>?_) λe5=>?_
     ·have R:=m.I0 (k:=k) M.sa (by omega) (λi W h1 h2 j g h3=>C.tr (M.gb _ (Ze g)) gB (M.ga _ (Ze W)) (M.sb j _ g t (ZN _) (by lia) t) (MV i W (by lia) (by lia)));refine aH (λp=>?_) λp=>?_
      ·exact Zg ⟨l,.inl ⟨_,rfl,R.fin M.sa M.sb (.inl (by simpa using p))⟩⟩
      have N9:0<k:=by simp at p;exact Yh p
      have f:k-1<a.size:=by lia
      have hle:∀j (g:j<a.size),j<k->le r a[j] b[nb-1]:=λj g h=>KI j g (ZN _) (by lia);clear p;have m3:=R.GX M.sb T4 t hle;refine bw t (λe4=>?_) λe4=>?_
      ·exact Zg ⟨l,.inl ⟨_,rfl,m3.first M.sa (by simpa using e4) M.nb (M.GW C)⟩⟩
      have My:1<nb-1:=by simp at e4;lia
      refine ie f (fX C (l.1.trans hk) (M.ga _ (Ze f)) M.gb (by lia) (by lia) (iw M.sb _ _) λk2 JN Ge HF=>?_);dsimp only;have Z:=m3.Ke (k:=k2) M.sb (by omega) (λi W h1 h2 j g h3=>C.tr (M.ga _ (Ze g)) (M.ga _ (Ze f)) (M.gb _ (Ze W)) (M.sa j _ g f (ZN _) (by lia) f) (HF i W (by lia) (by lia)));refine aH (λe5=>?_) λe5=>?_
      ·refine aH (λq=>?_) λq=>?_
       ·exact Zg ⟨l,.inl ⟨_,rfl,Z.first M.sa (by simpa using q) M.nb (M.GW C)⟩⟩
       refine aH (λN=>?_) λN=>?_
       ·exact Zg ⟨l,.inl ⟨_,rfl,Z.fin M.sa M.sb (.inr (by simpa using N))⟩⟩
       have z:=Z.FX M.sa N9 f (λj g h=>Ge j g (ZN _) (by lia));refine bw f (λp=>?_) λp=>?_
       ·exact Zg ⟨l,.inl ⟨_,rfl,z.fin M.sa M.sb (.inl (by simpa using p))⟩⟩
       have B:=p;simp at B;refine aH (λ_=>?_) λ_=>?_
       ·exact Zg ⟨l,.inr ⟨rfl,z,by(try dsimp only);exact Yh B,by(try dsimp only);exact ZH f,by(try dsimp only);(try simp at q);(try simp at N);lia,by(try dsimp only);(try simp at q);lia,by simp;lia⟩⟩
       ·exact Zg ⟨l,rfl,z,by(try dsimp only);exact Yh B,by(try dsimp only);exact ZH f,by(try dsimp only);(try simp at q);(try simp at N);lia,by(try dsimp only);(try simp at q);lia,by simp;lia⟩
      ·have z:=m3.FX M.sa N9 f (λj g h=>Ge j g (ZN _) (by lia));refine bw f (λp=>?_) λp=>?_
       ·exact Zg ⟨l,.inl ⟨_,rfl,z.fin M.sa M.sb (.inl (by simpa using p))⟩⟩
       have B:=p;simp at B;refine aH (λ_=>?_) λ_=>?_
       ·exact Zg ⟨l,.inr ⟨rfl,z,by(try dsimp only);exact Yh B,by(try dsimp only);exact ZH f,by(try dsimp only);(try simp at q);(try simp at N);omega,by(try dsimp only);(try simp at q);exact ZH t,by simp;lia⟩⟩
       ·exact Zg ⟨l,rfl,z,by(try dsimp only);exact Yh B,by(try dsimp only);exact ZH f,by(try dsimp only);(try simp at q);(try simp at N);omega,by(try dsimp only);(try simp at q);exact ZH t,by simp;lia⟩
     ·have R:=m;have N9:0<na:=o;have f:na-1<a.size:=by lia
      have hle:∀j (g:j<a.size),j<na->le r a[j] b[nb-1]:=λj g h=>KI j g (ZN _) (by lia);have m3:=R.GX M.sb T4 t hle;refine bw t (λe4=>?_) λe4=>?_
      ·exact Zg ⟨l,.inl ⟨_,rfl,m3.first M.sa (by simpa using e4) M.nb (M.GW C)⟩⟩
      have My:1<nb-1:=by simp at e4;lia
      refine ie f (fX C (l.1.trans hk) (M.ga _ (Ze f)) M.gb (by lia) (by lia) (iw M.sb _ _) λk2 JN Ge HF=>?_);dsimp only;have Z:=m3.Ke (k:=k2) M.sb (by omega) (λi W h1 h2 j g h3=>C.tr (M.ga _ (Ze g)) (M.ga _ (Ze f)) (M.gb _ (Ze W)) (M.sa j _ g f (ZN _) (by lia) f) (HF i W (by lia) (by lia)));refine aH (λe5=>?_) λe5=>?_
      ·refine aH (λq=>?_) λq=>?_
       ·exact Zg ⟨l,.inl ⟨_,rfl,Z.first M.sa (by simpa using q) M.nb (M.GW C)⟩⟩
       refine aH (λN=>?_) λN=>?_
       ·exact Zg ⟨l,.inl ⟨_,rfl,Z.fin M.sa M.sb (.inr (by simpa using N))⟩⟩
       have z:=Z.FX M.sa N9 f (λj g h=>Ge j g (ZN _) (by lia));refine bw f (λp=>?_) λp=>?_
       ·exact Zg ⟨l,.inl ⟨_,rfl,z.fin M.sa M.sb (.inl (by simpa using p))⟩⟩
       have B:=p;simp at B;refine aH (λ_=>?_) λ_=>?_
       ·exact Zg ⟨l,.inr ⟨rfl,z,by(try dsimp only);exact Yh B,by(try dsimp only);exact ZH f,by(try dsimp only);(try simp at q);(try simp at N);lia,by(try dsimp only);(try simp at q);lia,by simp;lia⟩⟩
       ·exact Zg ⟨l,rfl,z,by(try dsimp only);exact Yh B,by(try dsimp only);exact ZH f,by(try dsimp only);(try simp at q);(try simp at N);lia,by(try dsimp only);(try simp at q);lia,by simp;lia⟩
      ·have z:=m3.FX M.sa N9 f (λj g h=>Ge j g (ZN _) (by lia));refine bw f (λp=>?_) λp=>?_
       ·exact Zg ⟨l,.inl ⟨_,rfl,z.fin M.sa M.sb (.inl (by simpa using p))⟩⟩
       have B:=p;simp at B;refine aH (λ_=>?_) λ_=>?_
       ·exact Zg ⟨l,.inr ⟨rfl,z,by(try dsimp only);exact Yh B,by(try dsimp only);exact ZH f,by(try dsimp only);(try simp at q);(try simp at N);omega,by(try dsimp only);(try simp at q);exact ZH t,by simp;lia⟩⟩
       ·exact Zg ⟨l,rfl,z,by(try dsimp only);exact Yh B,by(try dsimp only);exact ZH f,by(try dsimp only);(try simp at q);(try simp at N);omega,by(try dsimp only);(try simp at q);exact ZH t,by simp;lia⟩
end TS
end
section
open PySem PyProof.Rows
namespace TS
variable{prog:PP}{w:SL}{A:Pi}{E:Yu}{s:FB}{κ:SortKind}{G:KF->Prop}{r:KF->KF->Bool}
def K(a:Array KF)(i:Nat):Keyed:=(a[i]?).getD (.none,.none)
def vo{a:Array KF}{i:Nat}(h:i<a.size):K a i=a[i]:=by unfold K;rw[getElem?_pos a i h];rfl
def Sg(r:KF->KF->Bool)(a:Array KF)(b d:Nat):Prop:=∀i j,b<=i->i<=j->j<d->le r (K a i) (K a j)
def Ds(r:KF->KF->Bool)(a:Array KF)(b d:Nat):Prop:=∀i j,b<=i->i<=j->j<d->le r (K a j) (K a i)
def jX{a:Array KF}{i j:Nat}(b:j<=a.size)(k:Nat):K (mirror a i j ((j-i)/2)) k=if i<=k/\k<j then K a (i+j-1-k) else K a k:=by
 unfold K;rw[getElem?_mirror_all b];split<;>rfl
def Be{b:Array KF}{a d:Nat}(e:a<b.size)(f:d<=a)(k:Nat):K (bubble b a d) k=if k=a-d then K b a else if a-d<k/\k<=a then K b (k-1) else K b k:=by
 unfold K;rw[getElem?_bubble e d f];split
 ·rfl
 ·split<;>rfl
structure Lc(lo:Nat)(Gu st:Pv):Prop where
 kind:kindOf st=kindOf Gu
 pend:Re st=Re Gu
 fail:failedOf st=failedOf Gu
 perm:(arrOf st).Perm (arrOf Gu)
 pre:∀j,j<lo->(arrOf st)[j]?=(arrOf Gu)[j]?
theorem Lc.refl(b:Nat)(a:Pv):Lc b a a:=⟨rfl,rfl,rfl,Array.Perm.refl _,λ_ _=>rfl⟩
theorem Lc.size{b:Nat}{a st:Pv}(d:Lc b a st):(arrOf st).size=(arrOf a).size:=d.perm.size_eq
def Lc.good{f:Nat}{d a:Pv}(b:Lc f d a)(g:∀x∈arrOf d,G x){i:Nat}(e:i<(arrOf d).size):G (K (arrOf a) i):=by
 rw[vo (by rw[b.size];exact e)];refine g _ ?_;have:(arrOf a)[i]'(by rw[b.size];exact e)∈(arrOf a).toList:=by simp
 have:=(YG.mp b.perm).mem_iff.mp this;simpa using this
def Lc.arr{e:Nat}{g b:Pv}(a:Lc e g b){d:Array KF}(i:d.Perm (arrOf b))(h:∀j,j<e->d[j]?=(arrOf b)[j]?):Lc e g (setArr b d) :=
 ⟨a.kind,a.pend,a.fail,i.trans a.perm,λj f=>(h j f).trans (a.pre j f)⟩
def Lc.La{b:Nat}{d a:Pv}(e:Lc b d a){i j:Nat}(h:b<=i)(f:j<=(arrOf d).size):Lc b d (setArr a (mirror (arrOf a) i j ((j-i)/2))) :=
 e.arr (mirror_perm _ _ _ _) λk g=>by rw[getElem?_mirror_all (by rw[e.size];exact f),Zj (by lia)]
def jQ(C:GE prog w A E s κ G r){p:Nat}{d a:Pv}(q:kindOf d=κ)(g:∀x∈arrOf d,G x)(b:Lc p d a){i j:Nat}{Q:Option Bool->Pv->Prop}(f:i<(arrOf d).size)(e:j<(arrOf d).size)(h:Q (O (r (K (arrOf a) i) (K (arrOf a) j))) a):wpS (FM prog w) A E s (ltAt' i j) Q a:=by
 have m:=b.good g f;have l:=b.good g e;have o:i<(arrOf a).size:=by rw[b.size];exact f
 have n:j<(arrOf a).size:=by rw[b.size];exact e
 rw[ltAt'_eq];refine ZX (WR ?_);refine ZX (dY o (ZX (dY n ?_)));rw[vo o]at m h;rw[vo n]at l h;exact C.run a _ _ _ (b.kind.trans q) m l h
def Ds.La(C:GE prog w A E s κ G r){f:Array KF}{g e i:Nat}(D:Ds r f g e)(h:∀k,k<e->G (K f k))(n:g<=i)(l:e<=f.size)(h3:∀k,i<=k->k<e->le r (K f k) (K f (e-1))) :
  Ds r (mirror f i e ((e-i)/2)) g e:=λp q j o m=>by
 rw[jX l,jX l];have eqv:∀u v,i<=u->u<e->i<=v->v<e->le r (K f u) (K f v):=λu v a b c d=>C.tr (h u b) (h _ (by lia)) (h v d) (h3 u a b) (D v (e-1) (by exact ZU n c) (by lia) (by lia));split
 ·split
  ·exact eqv _ _ (by omega) (by omega) (by lia) (by omega)
  ·exact D p _ j (by lia) (by omega)
 ·split
  ·lia
  ·exact D p q j o m
def Ds.rev{d:Array KF}{b a:Nat}(D:Ds r d b a)(g:a<=d.size):Sg r (mirror d b a ((a-b)/2)) b a:=λp q f h e=>by
 rw[jX g,jX g,Zn ⟨f,by exact WX h e⟩,Zn ⟨by exact ZU f h,e⟩];exact D _ _ (by omega) (by omega) (by omega)
def Sg.snoc(C:GE prog w A E s κ G r){xs:Array KF}{a n:Nat}(S:Sg r xs a (a+n))(b:∀k,k<=a+n->G (K xs k))(l:1<=n)(h:le r (K xs (a+n-1)) (K xs (a+n))):Sg r xs a (a+n+1):=λi j d f g=>by
 by_cases e:j<a+n
 ·exact S i j d f e
 ·have:j=a+n:=by lia
  subst this;by_cases e2:i=a+n
  ·subst e2;exact C.refl (b _ (Zo _))
  ·exact C.tr (b i (by omega)) (b _ (by exact YK _ _)) (b _ (Zo _)) (S i (a+n-1) d (by lia) (by omega)) h
def Ds.snoc(C:GE prog w A E s κ G r){xs:Array KF}{a n:Nat}(S:Ds r xs a (a+n))(b:∀k,k<=a+n->G (K xs k))(l:1<=n)(h:le r (K xs (a+n)) (K xs (a+n-1))):Ds r xs a (a+n+1):=λi j d f g=>by
 by_cases e:j<a+n
 ·exact S i j d f e
 ·have:j=a+n:=by lia
  subst this;by_cases e2:i=a+n
  ·subst e2;exact C.refl (b _ (Zo _))
  ·exact C.tr (b _ (Zo _)) (b _ (by exact YK _ _)) (b i (by omega)) h (S i (a+n-1) d (by lia) (by omega))
def ku{a:Pv}{i j:Nat}{Q:Unit->Pv->Prop}(h:Q () (setArr a (mirror (arrOf a) i j ((j-i)/2)))):wpS (FM prog w) A E s (reverseSlice' i j) Q a:=by
 rw[reverseSlice'_eq];exact Wi h
def oI{α:Type}{c:Prop}[Decidable c]{x R:StateT Pv Sem α}{Q:α->Pv->Prop}{P:Pv->Prop}{a:Pv}(D:∀Ga,P Ga->wpS (FM prog w) A E s R Q Ga)(b:¬c->P a)(d:c->(∀Ga,P Ga->wpS (FM prog w) A E s R Q Ga)->wpS (FM prog w) A E s x Q a):wpS (FM prog w) A E s (if c then x else R) Q a :=
 aH (λz=>d z D) λz=>D a (b z)
def Bs(C:GE prog w A E s κ G r){a n:Nat}{t:Pv}{Q:Option Nat->Pv->Prop}(u:kindOf t=κ)(g:∀x∈arrOf t,G x)(h0:1<=n)(hn:a+n<=(arrOf t).size)(h:∀m b,Lc a t b->1<=m->m<=n->Sg r (arrOf b) a (a+m)->Q (O m) b):wpS (FM prog w) A E s (countRun' a n) Q t:=by
 unfold countRun';change wpS (FM prog w) A E s (_>>=_) Q t;dsimp only;have Pe:=Lc.refl a t;have QB:1<=1:=Zo _;have s0:Sg r (arrOf t) a (a+1):=λi j y B h3=>by
  have e1:i=a:=by lia
  have e2:j=a:=by lia
  subst e1 e2;exact C.refl (Pe.good g (by lia))
 refine ZX (Xw (Yb
  (I:=λx c b=>Lc a t b/\c.1=Y/\c.2=x/\1<=x/\Sg r (arrOf b) a (a+x))
  (Q:=λc b=>Lc a t b/\c.1=Y/\1<=c.2/\c.2<=n/\Sg r (arrOf b) a (a+c.2)/\(c.2<n->r (K (arrOf b) (a+c.2)) (K (arrOf b) (a+c.2-1))=J)) ?stepA ?finA ?initA) ?postA)
 case initA=>exact⟨Pe,rfl,rfl,QB,s0⟩
 case finA =>
  refine all2 λc1 c2=>?_;rintro b ⟨d,v,q,p,l⟩;dsimp only at *;subst q;refine⟨d,v,by(try dsimp only);omega,by(try dsimp only);lia,l,λz=>?_⟩
  (try dsimp only at z)
  lia
 case stepA =>
  intro x;refine all2 λc1 c2=>?_;rintro b OZ L8 ⟨d,v,q,p,l⟩;dsimp only at *;subst q;refine ZX (jQ C u g d (by lia) (by omega) ?_);dsimp only;have f:∀k,k<=a+c2->G (K (arrOf b) k):=λk u=>d.good g (by lia);cases e:r (K (arrOf b) (a+c2)) (K (arrOf b) (a+c2-1)) with
  |true=>exact Zg ⟨d,rfl,p,by(try dsimp only);exact ZH L8,l,λ_=>e⟩
  |false=>exact Zg ⟨d,rfl,rfl,by exact Xh _ _,Sg.snoc C l f p e⟩
 case postA =>
  refine all2 λc1 c2=>?_;rintro b ⟨d,v,q,p,l,F⟩;dsimp only at *;subst v;dsimp only;refine aH (λe=>?_) λe=>?_
  ·exact Zg (h c2 b d q p l)
  have e':c2<n:=by simp at e;exact Nat.lt_of_le_of_ne p e
  have sm:=F e';have f:∀k,k<=a+c2->G (K (arrOf b) k):=λk u=>d.good g (by lia);have Z:le r (K (arrOf b) (a+c2)) (K (arrOf b) (a+c2-1)):=C.Hd (f _ (by exact Zo _)) (f _ (by exact YK _ _)) sm;have H:=d.size;refine oI (P:=λGa=>Lc a t Ga/\Ds r (arrOf Ga) a (a+(c2+1))) ?D ?two ?one
  case one =>
   intro e3 Dk;refine ZX (jQ C u g d (by lia) (by lia) ?_);dsimp only;cases e4:r (K (arrOf b) a) (K (arrOf b) (a+c2-1)) with
   |true=>exact Zg (h c2 b d q p l)
   |false =>
    rw[Zj Za];refine ZX (ku ?_);have X:=d.La (i:=a) (j:=a+c2) (by exact Zo _) (by lia);have d0:Ds r (arrOf b) a (a+c2):=λi j y B h3=>C.tr (f j (by exact ZH h3)) (f _ (by exact YK _ _)) (f i (by lia)) (l j (a+c2-1) (by exact ZU y B) (by lia) (by omega))
     (C.tr (f _ (by exact YK _ _)) (f _ (by exact ZI _ _)) (f i (by lia)) e4 (l a i (by exact Zo _) y (by exact WX B h3)))
    have U:=Ds.La C d0 (λk u=>f k (by exact ZH u)) (i:=a) (by exact Zo _) (by lia) (λk y B=>l k _ y (by lia) (by omega));have W:=Ds.snoc C U (λk u=>X.good g (by lia)) q (by
     rw[jX (by lia),jX (by lia),Zj (by lia),Zn (by omega)];exact C.tr (f _ (by exact Zo _)) (f _ (by exact YK _ _)) (f _ (by omega)) Z (d0 _ _ (by omega) (by omega) (by omega)))
    exact Dk _ ⟨X,W⟩
  case two =>
   intro e3;have e5:c2=1:=by lia
   have d0:Ds r (arrOf b) a (a+c2):=λi j y B h3=>by
    have e1:i=a:=by lia
    have e2:j=a:=by lia
    subst e1 e2;exact C.refl (f _ (by exact ZI _ _))
   have W:=Ds.snoc C d0 f q Z;exact⟨d,W⟩
  case D =>
   rintro b ⟨X,W⟩;clear f H;refine ZX (gI ?_);refine ZX (Xw (Yb
    (I:=λx c b=>Lc a t b/\c.1=Y/\c.2.1=x/\c.2.2+1<=x/\Ds r (arrOf b) a (a+x)/\(∀k,a+x-(c.2.2+1)<=k->k<a+x->le r (K (arrOf b) k) (K (arrOf b) (a+x-1))))
    (Q:=λc b=>Lc a t b/\c.1=Y/\c.2.2+1<=c.2.1/\c.2.1<=n/\Ds r (arrOf b) a (a+c.2.1)/\(∀k,a+c.2.1-(c.2.2+1)<=k->k<a+c.2.1->le r (K (arrOf b) k) (K (arrOf b) (a+c.2.1-1)))) ?stepD ?finD ?initD) ?postD)
   case initD =>
    refine⟨X,rfl,rfl,by(try dsimp only);exact Xh _ _,W,λk y B=>?_⟩
    (try dsimp only at y B)
    have e:k=a+(c2+1)-1:=by lia
    subst e;exact C.refl (X.good g (by lia))
   case finD =>
    refine gW λc1 o L=>?_;rintro b ⟨d,v,q,p,l,F⟩;dsimp only at *;subst q;exact⟨d,v,p,by(try dsimp only);lia,l,F⟩
   case stepD =>
    intro x;refine gW λc1 o L=>?_;rintro b OZ L8 ⟨d,v,q,p,l,F⟩;dsimp only at *;subst q;refine ZX (jQ C u g d (by lia) (by omega) ?_);dsimp only;have f:∀k,k<=a+o->G (K (arrOf b) k):=λk u=>d.good g (by lia);have H:=d.size;cases e:r (K (arrOf b) (a+o)) (K (arrOf b) (a+o-1)) with
    |true =>
     rw[Zn M];have Z:le r (K (arrOf b) (a+o)) (K (arrOf b) (a+o-1)):=C.Hd (f _ (by exact Zo _)) (f _ (by exact YK _ _)) e;refine aH (λz=>?_) λz=>?_
     ·refine ZX (ku ?_);have N:=d.La (i:=a+o-(L+1)) (j:=a+o) (by lia) (by lia);have U:=Ds.La C l (λk u=>f k (by exact ZH u)) (i:=a+o-(L+1)) (by lia) (by lia) F;refine Zg ⟨N,rfl,rfl,by(try dsimp only);exact Xh _ _,Ds.snoc C U (λk u=>N.good g (by lia)) (by lia) ?_,λk y B=>?_⟩
      ·show le r (K (mirror _ _ _ _) _) (K (mirror _ _ _ _) _);rw[jX (by lia),jX (by lia),Zj (by lia),Zn (by omega)];exact C.tr (f _ (by exact Zo _)) (f _ (by exact YK _ _)) (f _ (by omega)) Z (l _ _ (by lia) (by omega) (by omega))
      ·(try dsimp only at y B)
       have e:k=a+(o+1)-1:=by lia
       subst e;exact C.refl (N.good g (by lia))
     ·refine Zg ⟨d,rfl,rfl,by(try dsimp only);exact Xh _ _,Ds.snoc C l f (by lia) Z,λk y B=>?_⟩
      (try dsimp only at y B)
      have e:k=a+(o+1)-1:=by lia
      subst e;exact C.refl (d.good g (by lia))
    |false =>
     rw[Zj Za];refine ZX (jQ C u g d (by lia) (by lia) ?_);dsimp only;cases e2:r (K (arrOf b) (a+o-1)) (K (arrOf b) (a+o)) with
     |true=>exact Zg ⟨d,rfl,p,by(try dsimp only);exact ZH L8,l,F⟩
     |false =>
      refine Zg ⟨d,rfl,rfl,by(try dsimp only);exact YO p,Ds.snoc C l f (by lia) e2,λk y B=>?_⟩
      (try dsimp only at y B)
      have ee:a+(o+1)-1=a+o:=by lia
      rw[ee];by_cases ek:k=a+o
      ·subst ek;exact C.refl (f _ (by exact Zo _))
      ·exact C.tr (f _ (by lia)) (f _ (by exact YK _ _)) (f _ (by exact Zo _)) (F k (by lia) (by lia)) e
   case postD =>
    refine gW λc1 o L=>?_;rintro b ⟨d,v,p,q6,l,F⟩;dsimp only at *;subst v;dsimp only;have f:∀k,k<a+o->G (K (arrOf b) k):=λk u=>d.good g (by lia);have H:=d.size;have QB:1<=o:=by lia
    refine oI (P:=λGa=>Lc a t Ga/\Ds r (arrOf Ga) a (a+o)) ?R ?two2 ?one2
    case one2 =>
     intro z Dk2;refine ZX (ku ?_);have N:=d.La (i:=a+o-(L+1)) (j:=a+o) (by lia) (by lia);have U:=Ds.La C l f (i:=a+o-(L+1)) (by lia) (by lia) F;exact Dk2 _ ⟨N,U⟩
    case two2=>exact λ_=>⟨d,l⟩
    case R =>
     clear l F f H d;rintro b ⟨d,l⟩;have H:=d.size;refine ZX (ku ?_);have Pe:=d.La (i:=a) (j:=a+o) (by exact Zo _) (by lia);have s0:=l.rev (by lia);refine ZX (Xw (Yb
      (I:=λx c b=>Lc a t b/\c.1=Y/\c.2=x/\1<=x/\Sg r (arrOf b) a (a+x))
      (Q:=λc b=>Lc a t b/\c.1=Y/\1<=c.2/\c.2<=n/\Sg r (arrOf b) a (a+c.2)/\(c.2<n->r (K (arrOf b) (a+c.2)) (K (arrOf b) (a+c.2-1))=J)) ?stepA ?finA ?initA) ?postA)
     case initA=>exact⟨Pe,rfl,rfl,QB,s0⟩
     case finA =>
      refine all2 λc1 c2=>?_;rintro b ⟨d,v,q,p,l⟩;dsimp only at *;subst q;refine⟨d,v,by(try dsimp only);omega,by(try dsimp only);lia,l,λz=>?_⟩
      (try dsimp only at z)
      lia
     case stepA =>
      intro x;refine all2 λc1 c2=>?_;rintro b OZ L8 ⟨d,v,q,p,l⟩;dsimp only at *;subst q;refine ZX (jQ C u g d (by lia) (by lia) ?_);dsimp only;have f:∀k,k<=a+c2->G (K (arrOf b) k):=λk u=>d.good g (by lia);cases e:r (K (arrOf b) (a+c2)) (K (arrOf b) (a+c2-1)) with
      |true=>exact Zg ⟨d,rfl,p,by(try dsimp only);exact ZH L8,l,λ_=>e⟩
      |false=>exact Zg ⟨d,rfl,rfl,by exact Xh _ _,Sg.snoc C l f p e⟩
     case postA =>
      refine all2 λc1 c3=>?_;rintro b ⟨d,v,q,p,l,F⟩;dsimp only at *;subst v;exact Zg (h c3 b d q p l)
end TS
end
section
open PySem PyProof.Rows
namespace TS
variable{prog:PP}{w:SL}{A:Pi}{E:Yu}{s:FB}{κ:SortKind}{G:KF->Prop}{r:KF->KF->Bool}
def v8{a:Pv}{i j:Nat}{Q:Unit->Pv->Prop}(h:Q () (setArr a (bubble (arrOf a) i (i-j)))):wpS (FM prog w) A E s (moveDown' i j) Q a:=by
 rw[moveDown'_eq];exact Wi h
def Lc.bub{b:Nat}{e a:Pv}(f:Lc b e a){i d:Nat}(j:b+d<=i)(g:i<(arrOf e).size):Lc b e (setArr a (bubble (arrOf a) i d)) :=
 f.arr (bubble_perm _ _ _) λk h=>by rw[getElem?_bubble (by rw[f.size];exact g) d (by lia),Zj (by lia),Zj (by lia)]
def By(C:GE prog w A E s κ G r){a n t:Nat}{m:Pv}{Q:Bool->Pv->Prop}(R:kindOf m=κ)(g:∀x∈arrOf m,G x)(h0:1<=t)(W:t<=n)(Z:a+n<=(arrOf m).size)(S:Sg r (arrOf m) a (a+t))(h:∀b,Lc a m b->Sg r (arrOf b) a (a+n)->Q J b):wpS (FM prog w) A E s (binarySort' a n t) Q m:=by
 unfold binarySort';change wpS (FM prog w) A E s (_>>=_) Q m;dsimp only;have em:max t 1=t:=by lia
 rw[em];refine ZX (Xw (Yb
  (I:=λx c b=>Lc a m b/\c.1=Y/\Sg r (arrOf b) a (a+x))
  (Q:=λc b=>Lc a m b/\c.1=Y/\Sg r (arrOf b) a (a+n)) ?step ?fin ?init) ?post)
 case init=>exact⟨Lc.refl _ _,rfl,S⟩
 case fin =>
  refine all2 λc1 c2=>?_;rintro b ⟨q,H,d⟩;have e:max t n=n:=by lia
  rw[e]at d;exact⟨q,H,d⟩
 case post =>
  refine all2 λc1 c2=>?_;rintro b ⟨q,H,d⟩;dsimp only at *;subst H;exact Zg (h b q d)
 case step =>
  intro k;refine all2 λc1 c2=>?_;rintro b MW KI ⟨q,H,d⟩;dsimp only at *;have P:=q.size;have p:∀j,j<=a+k->G (K (arrOf b) j):=λj hj=>q.good g (by lia);refine ZX (Xw (Yb
   (I:=λx c y=>b=y/\c.1=Y/\c.2.1<=c.2.2/\c.2.2<=k/\c.2.2-c.2.1+x<=k/\(∀i,a<=i->i<a+c.2.1->le r (K (arrOf b) i) (K (arrOf b) (a+k)))/\(∀i,a+c.2.2<=i->i<a+k->le r (K (arrOf b) (a+k)) (K (arrOf b) i)))
   (Q:=λc y=>b=y/\c.1=Y/\c.2.1=c.2.2/\c.2.2<=k/\(∀i,a<=i->i<a+c.2.1->le r (K (arrOf b) i) (K (arrOf b) (a+k)))/\(∀i,a+c.2.2<=i->i<a+k->le r (K (arrOf b) (a+k)) (K (arrOf b) i))) ?step2 ?fin2 ?init2) ?post2)
  case init2=>exact⟨rfl,rfl,by(try dsimp only);exact ZN _,by(try dsimp only);exact Zo _,by(try dsimp only);lia,λi f o=>by(try dsimp only at o);lia,λi f o=>by(try dsimp only at f);lia⟩
  case fin2 =>
   refine gW λM l B=>?_;rintro y ⟨e,F,L,D,N,v,u⟩;dsimp only at *;exact⟨e,F,by(try dsimp only);lia,D,v,u⟩
  case step2 =>
   intro x;refine gW λM l B=>?_;rintro y _ X ⟨e,F,L,D,N,v,u⟩;subst e;dsimp only at *;refine aH (λz=>?_) λz=>?_
   ·exact Zg ⟨rfl,rfl,by(try dsimp only);exact Nat.le_antisymm L z,D,v,u⟩
   ·refine ZX (jQ C R g q (by lia) (by lia) ?_);dsimp only;cases e2:r (K (arrOf b) (a+k)) (K (arrOf b) (a+(l+B)/2)) with
    |true =>
     have l1:=C.Hd (p _ (by exact Zo _)) (p _ (by lia)) e2;exact Zg ⟨rfl,rfl,by(try dsimp only);lia,by(try dsimp only);lia,by(try dsimp only);lia,v,λi f o=>C.tr (p _ (by exact Zo _)) (p _ (by lia)) (p _ (by exact ZH o)) l1 (d _ i (by exact ZI _ _) f o)⟩
    |false =>
     refine Zg ⟨rfl,rfl,by(try dsimp only);lia,by(try dsimp only);omega,by(try dsimp only);lia,λi f o=>?_,u⟩
     (try dsimp only at o)
     exact C.tr (p _ (by lia)) (p _ (by lia)) (p _ (by exact Zo _)) (d i (a+(l+B)/2) f (by lia) (by lia)) e2
  case post2 =>
   refine gW λM l B=>?_;rintro y ⟨e,F,L,D,v,u⟩;subst e;dsimp only at *;subst F;dsimp only;refine ZX (v8 ?_);have U:a+k-(a+l)=k-l:=by lia
   rw[U];refine Zg ⟨q.bub (by lia) (by lia),rfl,λi j f o h3=>?_⟩;show le r (K (bubble _ _ _) i) (K (bubble _ _ _) j);rw[Be (by lia) (by lia),Be (by lia) (by lia)];by_cases c1:i=a+k-(k-l)
   ·rw[Zn c1];by_cases c2:j=a+k-(k-l)
    ·rw[Zn c2];exact C.refl (p _ (by exact Zo _))
    ·rw[Zj c2,Zn (by omega)];exact u _ (by omega) (by lia)
   ·rw[Zj c1];by_cases c3:a+k-(k-l)<i/\i<=a+k
    ·rw[Zn c3];rw[Zj (by lia),Zn (by omega)];exact d _ _ (by omega) (by lia) (by lia)
    ·rw[Zj c3];by_cases c2:j=a+k-(k-l)
     ·rw[Zn c2];exact v i f (by lia)
     ·rw[Zj c2];by_cases c4:a+k-(k-l)<j/\j<=a+k
      ·rw[Zn c4];exact d _ _ f (by omega) (by lia)
      ·rw[Zj c4];exact d _ _ f o (by omega)
theorem tR(b:Nat):∀(l:List KF)(off:Nat)(arr:Array KF),b+off+l.length<=arr.size →
  ((l.zipIdx off).foldl (λa x=>a.setIfInBounds (b+x.snd) x.fst) arr).toList=arr.toList.take (b+off)++l++arr.toList.drop (b+off+l.length)
 |[],off,arr,h=>by simp
 |x :: l,off,arr,h=>by
  rw[XJ,XA];rw[Zl]at h;rw[tR b l (off+1) _ (by rw[Array.size_setIfInBounds];lia)];dsimp only;have d:b+off<arr.toList.length:=by simp;lia
  rw[Array.toList_setIfInBounds,List.set_eq_take_append_cons_drop,Zn d];have e1:(arr.toList.take (b+off)++x :: arr.toList.drop (b+off+1)).take (b+(off+1))=arr.toList.take (b+off)++[x]:=by
   have:(arr.toList.take (b+off)).length=b+off:=by rw[ZM];lia
   rw[List.take_append,this,Jd (by rw[this];lia)];have:b+(off+1)-(b+off)=1:=by lia
   rw[this];rfl
  have e2:(arr.toList.take (b+off)++x :: arr.toList.drop (b+off+1)).drop (b+(off+1)+l.length)=arr.toList.drop (b+off+(l.length+1)):=by
   have:(arr.toList.take (b+off)).length=b+off:=by rw[ZM];lia
   rw[Wv,this,YH (by rw[this];lia),HH];have:b+(off+1)+l.length-(b+off)=l.length+1:=by lia
   rw[this,List.drop_succ_cons,List.drop_drop];congr 1;lia
  rw[e1,e2];simp
end TS
end
section
open PySem PyProof.Rows
namespace TS
variable{prog:PP}{w:SL}{A:Pi}{E:Yu}{s:FB}{κ:SortKind}{G:KF->Prop}{r:KF->KF->Bool}
def gK{a:Array KF}{P X S:List KF}(e:a.toList=P++X++S)(j:Nat)(b:j<X.length):∃h:P.length+j<a.size,a[P.length+j]=X[j]:=by
 have f:a.size=P.length+X.length+S.length:=by
  have:=congrArg List.length e;simp at this;lia
 have h:P.length+j<a.size:=by lia
 refine⟨h,?_⟩;have d:a[P.length+j]?=X[j]?:=by
  rw[← Jb,e,Zk,JS (by exact ZI _ _),YN,Yp b]
 rw[getElem?_pos a _ h,getElem?_pos X _ b]at d;exact ZK d
def sS(C:GE prog w A E s κ G r){a:Array KF}{P X S:List KF}(e:a.toList=P++X++S)(g:∀x∈a,G x)(f:X.Pairwise (le r)):Seg r a P.length (P.length+X.length):=by
 intro i j h n p o h3;obtain⟨d,rfl⟩:∃d,i=P.length+d:=⟨i-P.length,by lia⟩
 obtain⟨b,rfl⟩:∃b,j=P.length+b:=⟨j-P.length,by lia⟩
 obtain⟨_,e1⟩:=gK e d (by lia);obtain⟨_,e2⟩:=gK e b (by lia);rcases Wc d b with m | l
 ·rw[e1,e2];exact Y9.mp f d b (by lia) (by lia) m
 ·have:d=b:=by lia
  subst this;exact C.refl (g _ (Ze h))
def BD(C:GE prog w A E s κ G r){i N PL:Nat}{b:Pv}{Q:Bool->Pv->Prop}{P X Y S:List KF}(R:kindOf b=κ)(g:∀x∈arrOf b,G x)(hf:failedOf b=none)(t:(arrOf b).toList=P++X++(Y++S))(p1:(Re b)[i]?=O (P.length,X.length,N))(p2:(Re b)[i+1]?=O (P.length+X.length,Y.length,PL))(B:X.Pairwise (le r))(F:Y.Pairwise (le r))(nX:0<X.length)(nY:0<Y.length)(h:∀I M,M.Perm (X++Y)->M.Pairwise (le r)->(arrOf I).toList=P++M++S->kindOf I=kindOf b->failedOf I=none →
   Re I=((Re b).setIfInBounds i (P.length,X.length+Y.length,N)).eraseIdxIfInBounds (i+1)->Q J I):wpS (FM prog w) A E s (mergeAt' i) Q b:=by
 have e2:(arrOf b).toList=(P++X)++Y++S:=by rw[t];simp
 have hs:(arrOf b).size=P.length+X.length+Y.length+S.length:=by
  have:=congrArg List.length t;simp at this;lia
 have gm:∀x,x∈(arrOf b).toList->G x:=λx d=>g x (by simpa using d);have D:∀x∈X,G x:=λx d=>gm x (by rw[t];simp[d]);have H:∀x∈Y,G x:=λx d=>gm x (by rw[t];simp[d]);have PF:=sS C t g B;have LO:=sS C e2 g F;rw[Zu]at LO;obtain⟨L,eb⟩:=gK e2 0 nY;simp only[Zu,Nat.add_zero]at L eb;obtain⟨hl,el⟩:=gK t (X.length-1) (by lia);have gb:G (arrOf b)[P.length+X.length]:=g _ (Ze L);unfold mergeAt';change wpS (FM prog w) A E s (_>>=_) Q b;dsimp only;refine ZX (WR ?_);rw[show (sortPriv% PySem.Builtin.SortState.pending) b=Re b from rfl,p1,p2];dsimp only;refine ZX (show wpS _ _ _ _ (set _) _ _ from ?_);refine(show wpS (FM prog w) A E s (modify (λ_=>SortSt.mk' (kindOf b) (arrOf b) (((Re b).setIfInBounds i (P.length,X.length+Y.length,N)).eraseIdxIfInBounds (i+1)) (gallopOf b) (failedOf b))) _ b from Wi ?_);refine ZX (dY L ?_);refine ZX (fX C (hint:=0) (by exact R) gb g (by show P.length+X.length<=(arrOf b).size;exact ZH L) nX PF λk MW KI MV=>?_);dsimp only;have W:∀x∈X.take k,le r x (arrOf b)[P.length+X.length]:=λx d=>by
  obtain⟨j,n,rfl⟩:=Ja d;rw[ZM]at n;obtain⟨o,f⟩:=gK t j (by lia);rw[XZ,← f];exact KI _ o (by exact ZI _ _) (by lia)
 have z2:∀x∈X.drop k,le r (arrOf b)[P.length+X.length] x:=λx d=>by
  obtain⟨j,n,rfl⟩:=Ja d;rw[ZE]at n;obtain⟨o,f⟩:=gK t (k+j) (by lia);rw[XY,← f];exact MV _ o (by lia) (by lia)
 have SE:∀y∈Y,le r (arrOf b)[P.length+X.length] y:=λy e=>by
  obtain⟨j,n,rfl⟩:=Ja e;obtain⟨o,f⟩:=gK e2 j n;simp only[Zu]at o f;rw[← f];exact LO _ _ L o (by exact Zo _) (by exact ZI _ _) (by lia)
 refine aH (λf=>?_) λf=>?_
 ·have HZ:X.length<=k:=by simp at f;lia
  refine Zg (h _ (X++Y) (Xq _) ?_ (by show (arrOf b).toList=_;rw[t];simp) rfl hf rfl);rw[ZL];refine⟨B,F,λx d y e=>C.tr (D x d) gb (H y e) (W x (by rw[Jd HZ];exact d)) (SE y e)⟩
 have TQ:k<X.length:=by simp at f;lia
 have ei:P.length+k+(X.length-k)-1=P.length+(X.length-1):=by lia
 refine ZX (dY (show P.length+k+(X.length-k)-1<(arrOf b).size by omega) ?_);have Sf:∀(q:P.length+k+(X.length-k)-1<(arrOf b).size),(arrOf b)[P.length+k+(X.length-k)-1]=X[X.length-1]:=λq=>by
  simp only[ei];exact el
 rw[Sf];have gl:G X[X.length-1]:=D _ (Xs _);refine ZX (fX C (hint:=Y.length-1) (by exact R) gl g (by show P.length+X.length+Y.length<=(arrOf b).size;lia) (by lia) LO λm Lk Mj hm3=>?_);dsimp only;have y1:∀x∈Y.take m,le r x X[X.length-1]:=λx d=>by
  obtain⟨j,n,rfl⟩:=Ja d;rw[ZM]at n;obtain⟨o,f⟩:=gK e2 j (by lia);simp only[Zu]at o f;rw[XZ,← f];exact Mj _ o (by exact ZI _ _) (by lia)
 have y2:∀x∈Y.drop m,le r X[X.length-1] x:=λx d=>by
  obtain⟨j,n,rfl⟩:=Ja d;rw[ZE]at n;obtain⟨o,f⟩:=gK e2 (m+j) (by lia);simp only[Zu]at o f;rw[XY,← f];exact hm3 _ o (by lia) (by lia)
 have xl:∀x∈X,le r x X[X.length-1]:=λx d=>by
  obtain⟨j,n,rfl⟩:=Ja d;rcases Wc j (X.length-1) with HE | hge
  ·exact Y9.mp B j _ n (by omega) HE
  ·have:j=X.length-1:=by omega
   subst this;exact C.refl gl
 refine aH (λU=>?_) λU=>?_
 ·have My:m=0:=by simpa using U
  subst My;refine Zg (h _ (X++Y) (Xq _) ?_ (by show (arrOf b).toList=_;rw[t];simp) rfl hf rfl);rw[ZL];exact⟨B,F,λx d y e=>C.tr (D x d) gl (H y e) (xl x d) (y2 y e)⟩
 have NR:0<m:=by simp at U;exact Yh U
 have ex:((arrOf b).extract (P.length+k) (P.length+X.length)).toList=X.drop k:=by
  rw[Wm,List.extract_eq_drop_take,t,Zk,Wv,YH (by exact ZI _ _),HH];have:P.length+k-P.length=k:=by exact YN _ _
  rw[this,Wv,Nat.sub_eq_zero_of_le (by omega:k<=X.length),X7];rw[Wr (by rw[ZE];lia),Jd (by rw[ZE];lia)]
 have z:((arrOf b).extract (P.length+X.length) (P.length+X.length+m)).toList=Y.take m:=by
  rw[Wm,List.extract_eq_drop_take,e2,Zk,Wv,YH (by simp),HH];have:P.length+X.length-(P++X).length=0:=by simp
  rw[this,X7];have:P.length+X.length+m-(P.length+X.length)=m:=by exact YN _ _
  rw[this,Wr (by omega)]
 obtain⟨l,RP⟩:∃l,l=(arrOf b).extract (P.length+k) (P.length+X.length):=⟨_,rfl⟩
 obtain⟨u,RO⟩:∃u,u=(arrOf b).extract (P.length+X.length) (P.length+X.length+m):=⟨_,rfl⟩
 rw[← RP]at ex;rw[← RO]at z;have mx:∀x,x∈l->x∈X.drop k:=λx d=>by rw[← ex];simpa using d
 have my:∀x,x∈u->x∈Y.take m:=λx d=>by rw[← z];simpa using d
 have szx:l.size=X.length-k:=by have:=congrArg List.length ex;simpa using this
 have szy:u.size=m:=by have:=congrArg List.length z;simp at this;lia
 have T7:∀x∈l,G x:=λx d=>D x (Yc (mx x d));have T6:∀x∈u,G x:=λx d=>H x (Yi (my x d));have y0:∀(q:0<u.size),u[0]=(arrOf b)[P.length+X.length]:=λq=>by
  rw[eb];have:u[0]?=Y[0]?:=by rw[← Jb,z,List.getElem?_take_of_lt NR]
  rw[getElem?_pos u 0 q,getElem?_pos Y 0 nY]at this;exact ZK this
 have UD:∀(q:l.size-1<l.size),l[l.size-1]=X[X.length-1]:=λq=>by
  have:l[l.size-1]?=X[X.length-1]?:=by
   rw[← Jb,ex,List.getElem?_drop];congr 1;lia
  rw[getElem?_pos l _ q,getElem?_pos X _ (by omega)]at this;exact ZK this
 have M:MC G r l u:=by
  refine⟨T7,T6,xR C T7 (by rw[ex];exact B.drop),xR C T6 (by rw[z];exact F.take),by lia,by lia,?_,λj n=>?_⟩
  ·rw[y0];exact z2 _ (mx _ (Ze _))
  ·rw[UD];exact y1 _ (my _ (Ze n))
 have fin:∀(Ga:Pv)(res:Array KF),gu (SortSt.mk' (kindOf b) (arrOf b) (((Re b).setIfInBounds i (P.length,X.length+Y.length,N)).eraseIdxIfInBounds (i+1)) (gallopOf b) (failedOf b)) Ga->MR r l u res →
   Q (failedOf Ga).isNone (SortSt.mk' (kindOf Ga) (res.toList.zipIdx.foldl (λa x=>a.setIfInBounds (P.length+k+x.snd) x.fst) (arrOf Ga)) (Re Ga) (gallopOf Ga) (failedOf Ga)):=λGa res kp v=>by
  obtain⟨k1,k2,k3,k4⟩:=kp;have Z:failedOf Ga=none:=k4.trans hf;have QT:arrOf Ga=arrOf b:=k2;rw[Z];have hl:res.toList.length=X.length-k+m:=by
   rw[v.1.length_eq,ex,z];simp;exact Ym Lk
  have mem:∀x,x∈res.toList->x∈X.drop k\/x∈Y.take m:=λx d=>by
   have:=v.1.mem_iff.mp d;rw[ex,z]at this;exact Zb.mp this
  have bk:=tR (P.length+k) res.toList 0 (arrOf Ga) (by rw[QT];omega);rw[QT,Nat.add_zero]at bk;have t1:(arrOf b).toList.take (P.length+k)=P++X.take k:=by
   rw[t,Zk,List.take_append,Jd (by exact ZI _ _),YN,Wr (by omega)]
  have t2:(arrOf b).toList.drop (P.length+k+res.toList.length)=Y.drop m++S:=by
   rw[e2,Zk,Wv,YH (by rw[Zu];omega),HH];have:P.length+k+res.toList.length-(P++X).length=m:=by rw[Zu];omega
   rw[this,List.drop_append_of_le_length (by omega)]
  refine h _ (X.take k++res.toList++Y.drop m) ?_ ?_ ?_ k1 rfl k3
  ·have p:(X.take k++(X.drop k++Y.take m)++Y.drop m)=X++Y:=by
    rw[← Zk,YR,Zk,YR]
   rw[← p];have:=v.1;rw[ex,z]at this;exact(this.append_left _).append_right _
  ·rw[ZL,ZL];refine⟨⟨B.take,v.2,λx d y e=>?_⟩,F.drop,λx d y e=>?_⟩
   ·rcases mem y e with e | e
    ·have:=B;rw[← YR k X,ZL]at this;exact this.2.2 x d y e
    ·exact C.tr (D _ (Yi d)) gb (H _ (Yi e)) (W x d) (SE y (Yi e))
   ·rcases Zb.mp d with d | d
    ·exact C.tr (D _ (Yi d)) gb (H _ (Yc e)) (W x d) (SE y (Yc e))
    ·rcases mem x d with d | d
     ·exact C.tr (D _ (Yc d)) gl (H _ (Yc e)) (xl x (Yc d)) (y2 y e)
     ·have:=F;rw[← YR m Y,ZL]at this;exact this.2.2 x d y e
  ·show (List.foldl _ (arrOf Ga) _).toList=_;rw[QT,bk,t1,t2];simp
 refine aH (λ_=>?_) λ_=>?_
 ·refine ZX (?_:wpS (FM prog w) A E s (lP ((arrOf b).extract (P.length+k) (P.length+X.length)) ((arrOf b).extract (P.length+X.length) (P.length+X.length+m))) _ _);rw[← RP,← RO];refine D2 C (by exact R) M λres Ga kp v=>?_;exact ZX (Wi (ZX (WR (Zg (fin Ga res kp v)))))
 ·refine ZX (?_:wpS (FM prog w) A E s (kH ((arrOf b).extract (P.length+k) (P.length+X.length)) ((arrOf b).extract (P.length+X.length) (P.length+X.length+m))) _ _);rw[← RP,← RO];refine EB C (by exact R) M λres Ga kp v=>?_;exact ZX (Wi (ZX (WR (Zg (fin Ga res kp v)))))
end TS
end
section
open PySem PyProof.Rows
namespace TS
variable{prog:PP}{w:SL}{A:Pi}{E:Yu}{s:FB}{κ:SortKind}{G:KF->Prop}{r:KF->KF->Bool}
def iD:Nat->List (List KF)->List (Nat×Nat)
 |_,[]=>[]
 |o,R :: Rs=>(o,R.length) :: iD (o+R.length) Rs
theorem hZ:∀(a b:List (List KF))(o:Nat),iD o (a++b)=iD o a++iD (o+a.flatten.length) b
 |[],b,o=>by simp[iD]
 |R :: a,b,o=>by
  show (o,R.length) :: iD (o+R.length) (a++b)=(o,R.length) :: (iD (o+R.length) a++_);rw[hZ a b];simp[Xf]
theorem ij:∀(a:List (List KF))(o:Nat),(iD o a).length=a.length
 |[],o=>rfl
 |R :: a,o=>by show (iD _ a).length+1=_;rw[ij a];rfl
theorem mQ{α β:Type}(f:α->β):∀(l:List α)(i:Nat),(l.eraseIdx i).map f=(l.map f).eraseIdx i
 |[],i=>rfl
 |x :: l,0=>rfl
 |x :: l,i+1=>by show f x :: (l.eraseIdx i).map f=f x :: (l.map f).eraseIdx i;rw[mQ f l i]
structure RI(κ:SortKind)(r:KF->KF->Bool)(a₀:Array KF)(st:Pv)(runs:List (List KF))(rest:List KF):Prop where
 kind:kindOf st=κ
 fail:failedOf st=none
 arr:(arrOf st).toList=runs.flatten++rest
 pend:(Re st).toList.map (λp=>(p.1,p.2.1))=iD 0 runs
 ok:∀R∈runs,0<R.length/\R.Pairwise (le r)
 perm:(arrOf st).Perm a₀
def RI.good{d:Array KF}{b:Pv}{a:List (List KF)}{rest:List KF}(h:RI κ r d b a rest)(g:∀x∈d,G x):∀x∈arrOf b,G x:=λx e=>by
 have:x∈(arrOf b).toList:=by simpa using e
 exact g x (by simpa using(YG.mp h.perm).mem_iff.mp this)
def RI.K7{d:Array KF}{b:Pv}{a:List (List KF)}{rest:List KF}(h:RI κ r d b a rest):(Re b).size=a.length:=by
 have:=congrArg List.length h.pend;rw[Zv,ij]at this;simpa using this
theorem RI.at{g:Array KF}{f:Pv}{d post:List (List KF)}{X:List KF}{rest:List KF}(h:RI κ r g f (d++X :: post) rest):∃pw,(Re f)[d.length]?=O (d.flatten.length,X.length,pw):=by
 have e:((Re f).toList.map (λp=>(p.1,p.2.1)))[d.length]?=O (d.flatten.length,X.length):=by
  rw[h.pend,hZ,JS (by rw[ij];exact Zo _),ij,Nat.sub_self,Y3];rfl
 rw[ZT,Jb]at e;obtain⟨⟨a,b,c⟩,e1,e2⟩:=Zm.mp e;injection e2 with e3 e4
 dsimp only at e3 e4;exact⟨c,by rw[e1,e3,e4]⟩
theorem oP{α:Type}:∀{l:List α}{i:Nat},i+1<l.length->∃pre X Y post,l=pre++X :: Y :: post/\pre.length=i
 |[],i,h=>by simp at h
 |[x],i,h=>by simp at h
 |x :: y :: l,0,h=>⟨[],x,y,l,rfl,rfl⟩
 |x :: y :: l,i+1,h=>by
  obtain⟨pre,X,Y,post,e,a⟩:=oP (l:=y :: l) (i:=i) (by simp at h ⊢;omega);exact⟨x :: pre,X,Y,post,by rw[e];rfl,by rw[Zl,a]⟩
def RI.merge(C:GE prog w A E s κ G r){j:Array KF}{d:Pv}{a:List (List KF)}{rest:List KF}{i:Nat}{Q:Bool->Pv->Prop}(h:RI κ r j d a rest)(g:∀x∈j,G x)(W:i+1<a.length)(U:∀f m,RI κ r j f m rest->m.length+1=a.length->m.flatten.length=a.flatten.length->Q J f):wpS (FM prog w) A E s (mergeAt' i) Q d:=by
 obtain⟨pre,X,Y,post,rfl,rfl⟩:=oP W;obtain⟨pw,F⟩:=h.at;have Z:RI κ r j d ((pre++[X])++Y :: post) rest:=by
  have e:(pre++[X])++Y :: post=pre++X :: Y :: post:=by simp
  rw[e];exact h
 obtain⟨PL,D⟩:=Z.at;have o:=h.ok X (by simp);have n:=h.ok Y (by simp);have XQ:(Re d)[pre.length+1]?=O (pre.flatten.length+X.length,Y.length,PL):=by
  simpa using D
 refine BD C (P:=pre.flatten) (X:=X) (Y:=Y) (S:=post.flatten++rest) h.kind (h.good g) h.fail (by rw[h.arr];simp) F XQ o.2 n.2 o.1 n.1 λf M q N p L I H=>?_;have B:=q.length_eq;rw[Zu]at B;refine U f (pre++M :: post) ⟨L.trans h.kind,I,by rw[p];simp,?_,λR b=>?_,?_⟩ (by simp;exact Xf _ _ _) (by simp;lia)
 ·rw[H];have e0:(((Re d).setIfInBounds pre.length (pre.flatten.length,X.length+Y.length,pw)).eraseIdxIfInBounds (pre.length+1)).toList=((Re d).toList.set pre.length (pre.flatten.length,X.length+Y.length,pw)).eraseIdx (pre.length+1):=by
   simp
  rw[e0,mQ,List.map_set,h.pend];show ((iD 0 (pre++X :: Y :: post)).set pre.length (pre.flatten.length,X.length+Y.length)).eraseIdx (pre.length+1)=iD 0 (pre++M :: post);rw[hZ,hZ];have ol:=ij pre 0;have e1:∀(u v t:List (Nat×Nat))(x y z:Nat×Nat),u.length=pre.length->((u++x :: y :: t).set pre.length z).eraseIdx (pre.length+1)=u++z :: t:=λu v t x y z l=>by
   rw[List.set_append_right _ _ (by exact X5 l),l,Nat.sub_self,List.eraseIdx_append_of_length_le (by lia),l];have:pre.length+1-pre.length=1:=by exact YN _ _
   rw[this];rfl
  show ((iD 0 pre++(0+pre.flatten.length,X.length) :: (0+pre.flatten.length+X.length,Y.length) :: iD (0+pre.flatten.length+X.length+Y.length) post).set _ _).eraseIdx _=iD 0 pre++(0+pre.flatten.length,M.length) :: iD (0+pre.flatten.length+M.length) post;rw[e1 _ [] _ _ _ _ ol,B,Y3,Xf]
 ·rcases Zb.mp b with b | b
  ·exact h.ok R (by simp[b])
  ·rcases Zq.mp b with rfl | b
   ·exact⟨by lia,N⟩
   ·exact h.ok R (by simp[b])
 ·refine Array.Perm.trans ?_ h.perm;rw[YG,p,h.arr];have e:(pre++X :: Y :: post).flatten++rest=pre.flatten++(X++Y)++(post.flatten++rest):=by simp
  rw[e];exact(q.append_left _).append_right _
end TS
end
section
open PySem PyProof.Rows
namespace TS
variable{prog:PP}{w:SL}{A:Pi}{E:Yu}{s:FB}{κ:SortKind}{G:KF->Prop}{r:KF->KF->Bool}
def RI.loc{g:Array KF}{f d:Pv}{a:List (List KF)}{rest:List KF}(h:RI κ r g f a rest)(b:Lc a.flatten.length f d):RI κ r g d a ((arrOf d).toList.drop a.flatten.length):=by
 refine⟨b.kind.trans h.kind,b.fail.trans h.fail,?_,by rw[b.pend];exact h.pend,h.ok,b.perm.trans h.perm⟩;have e:(arrOf d).toList.take a.flatten.length=a.flatten:=by
  have e2:(arrOf f).toList.take a.flatten.length=a.flatten:=by rw[h.arr,List.take_left]
  refine Eq.trans ?_ e2;apply WK;intro i;rw[List.getElem?_take,List.getElem?_take];split
  ·rename_i j;rw[Jb,Jb];exact b.pre i j
  ·rfl
 conv=>lhs;rw[← YR a.flatten.length (arrOf d).toList,e]
theorem RI.push{f:Array KF}{b:Pv}{a:List (List KF)}{rest:List KF}{n d:Nat}(h:RI κ r f b a rest)(j:a.flatten.length=d)(l:0<n)(i:n<=rest.length)(g:(rest.take n).Pairwise (le r)) :
  RI κ r f (setPending b ((Re b).push (d,n,0))) (a++[rest.take n]) (rest.drop n):=by
 refine⟨h.kind,h.fail,?_,?_,λR e=>?_,h.perm⟩
 ·show (arrOf b).toList=_;rw[h.arr];simp
 ·show ((Re b).push (d,n,0)).toList.map _=_;rw[VT,Yy,h.pend,hZ,Y3,j];show _++[(d,n)]=_++[(d,(rest.take n).length)];rw[ZM,Ym i]
 ·rcases Zb.mp e with e | e
  ·exact h.ok R e
  ·rw[Zh.mp e];exact⟨by rw[ZM];lia,g⟩
theorem tD{α β:Type}(f:α->β)(g:α->α)(a:∀x,f (g x)=f x):∀(l:List α)(i:Nat),(l.modify i g).map f=l.map f
 |[],i=>by simp
 |x :: l,0=>by simp[a]
 |x :: l,i+1=>by simp[tD f g a l i]
def RI.mod{e:Array KF}{b:Pv}{a:List (List KF)}{rest:List KF}(h:RI κ r e b a rest)(i d:Nat):RI κ r e (setPending b ((Re b).modify i λx=>(x.1,x.2.1,d))) a rest :=
 ⟨h.kind,h.fail,h.arr,by
  show ((Re b).modify i λx=>(x.1,x.2.1,d)).toList.map _=_;rw[Array.toList_modify,tD (λp:Nat×Nat×Nat=>(p.1,p.2.1)) (λx=>(x.1,x.2.1,d)) (λx=>rfl),h.pend],h.ok,h.perm⟩
def Sg.pw{b:Array KF}{a n:Nat}(h:Sg r b a (a+n))(f:a+n<=b.size):((b.toList.drop a).take n).Pairwise (le r):=by
 rw[Y9];intro i j e d g;rw[ZM,ZE]at e d;rw[XZ,XZ,XY,XY];have:=h (a+i) (a+j) (by exact ZI _ _) (by lia) (by lia);rw[vo (by lia),vo (by lia)]at this;simpa using this
theorem RI.size{a₀:Array KF}{st:Pv}{a:List (List KF)}{rest:List KF}(h:RI κ r a₀ st a rest):a.flatten.length+rest.length=a₀.size:=by
 have e:=congrArg List.length h.arr;rw[Zu,Yg,h.perm.size_eq]at e;exact e.symm
def Ap{a:List (List KF)}(h:∀R∈a,0<R.length/\R.Pairwise (le r)):a.length<=a.flatten.length:=by
 induction a with
 |nil=>exact Zo _
 |cons R Rs b =>
  have f:=(h R (Zx ..)).1;have e:=b λx d=>h x (Zw _ d);simp only[Zl,Zf,Zu];lia
def Cv{c:Prop}[Decidable c]{a b n:Nat}(e:a+1<n)(d:b+1<n):(if c then a else b)+1<n:=by
 split
 ·exact e
 ·exact d
def uc{α:Type}{a b d:Nat->Prop}{c:Nat->Prop}[∀n,Decidable (c n)]{x R:Nat->StateT Pv Sem α}{Q:α->Pv->Prop}{P:Nat->Pv->Prop}{e:Pv}(D:∀n Ga,P n Ga->wpS (FM prog w) A E s (R n) Q Ga)(f:∀m,a m->b m->d m->¬c m->P m e)(g:∀m,a m->b m->d m->c m->(∀n Ga,P n Ga->wpS (FM prog w) A E s (R n) Q Ga)->wpS (FM prog w) A E s (x m) Q e):∀m,a m->b m->d m->wpS (FM prog w) A E s (if c m then x m else R m) Q e :=
 λm p q z=>aH (λy=>g m p q z y D) λy=>D m e (f m p q z y)
def oF(C:GE prog w A E s κ G r){a₀:Array KF}{st:Pv}{Q:Unit->Pv->Prop}(hk:kindOf st=κ)(g:∀x∈a₀,G x)(ha:arrOf st=a₀)(hp:Re st=#[])(hf:failedOf st=none)(h:∀d,(arrOf d).Perm a₀->failedOf d=none->(arrOf d).toList.Pairwise (le r)->Q () d):wpS (FM prog w) A E s sortRuns' Q st:=by
 have R0:RI κ r a₀ st [] a₀.toList:=⟨hk,hf,by rw[ha];rfl,by rw[hp];rfl,λR q=>by simp at q,by rw[ha]⟩
 unfold sortRuns';change wpS (FM prog w) A E s (_>>=_) Q st;dsimp only;refine ZX (WR ?_);have esz:((sortPriv% PySem.Builtin.SortState.a) st).size=a₀.size:=by rw[← ha]
 rw[esz];refine ZX (Xw (Yb
  (I:=λx c d=>c.1=none/\∃runs rest,RI κ r a₀ d runs rest/\runs.flatten.length=c.2/\x<=c.2)
  (Q:=λc d=>c.1=none/\∃runs,RI κ r a₀ d runs []) ?step ?fin ?init) ?post)
 case init=>exact⟨rfl,_,_,R0,rfl,Zo _⟩
 case fin =>
  refine all2 λc1 lo=>?_;rintro d ⟨i,runs,rest,R,j,hx⟩;dsimp only at *;have:=R.size;have e:rest=[]:=Wp (by lia);subst e;exact⟨i,runs,R⟩
 case step =>
  intro x;refine all2 λc1 lo=>?_;rintro d _ hx ⟨i,runs,rest,R,j,hxl⟩;dsimp only at *;have L:=R.size;refine aH (λe=>?_) λe=>?_
  ·have e:rest=[]:=Wp (by lia);subst e;exact Zg ⟨rfl,runs,R⟩
  have asz:(arrOf d).size=a₀.size:=R.perm.size_eq;refine ZX (Bs C R.kind (R.good g) (by lia) (by rw[asz];lia) λm U td Z m2 S2=>?_);dsimp only;have N:RI κ r a₀ U runs ((arrOf U).toList.drop runs.flatten.length):=R.loc (by rw[j];exact td);have SG:(arrOf U).size=a₀.size:=N.perm.size_eq;revert m;refine uc (P:=λnn o=>∃f,RI κ r a₀ o runs f/\f.length=a₀.size-lo/\0<nn/\nn<=f.length/\(f.take nn).Pairwise (le r)) ?D ?two ?one
  case one =>
   intro m Z m2 S2 e2 Dk;refine ZX (gI ?_);refine ZX (By C N.kind (N.good g) Z (by omega) (by lia) S2 λo Lq3 S3=>?_);refine aH (λe=>absurd e (by decide)) λ_=>?_;have Uv:RI κ r a₀ o runs ((arrOf o).toList.drop runs.flatten.length):=N.loc (by rw[j];exact Lq3);have SF:(arrOf o).size=a₀.size:=Uv.perm.size_eq;obtain⟨f,u⟩:∃l,l=(arrOf o).toList.drop runs.flatten.length:=⟨_,rfl⟩
   have H:RI κ r a₀ o runs f:=by rw[u];exact Uv
   have HF:=j;have Pa:f.length=a₀.size-lo:=by rw[u,ZE,Yg,SF,j]
   obtain⟨W,en3⟩:∃n,n=min (a₀.size-lo) ((sortPriv% PySem.Builtin.minRun) a₀.size a₀.size 0):=⟨_,rfl⟩
   rw[← en3]at S3 ⊢;have B:0<W:=by lia
   have F:W<=f.length:=by omega
   have y:(f.take W).Pairwise (le r):=by rw[u,j];exact S3.pw (by lia)
   exact Dk W o ⟨f,H,Pa,B,F,y⟩
  case two =>
   intro m Z m2 S2 e2;obtain⟨f,u⟩:∃l,l=(arrOf U).toList.drop runs.flatten.length:=⟨_,rfl⟩
   have H:RI κ r a₀ U runs f:=by rw[u];exact N
   have HF:=j;have Pa:f.length=a₀.size-lo:=by rw[u,ZE,Yg,SG,j]
   have B:0<m:=by exact VX Z
   have F:m<=f.length:=by lia
   have y:(f.take m).Pairwise (le r):=by rw[u,j];exact S2.pw (by lia)
   exact⟨f,H,Pa,B,F,y⟩
  case D =>
   rintro nn o ⟨f,H,Pa,B,F,y⟩;have HF:=j;refine ZX (WR ?_);cases hb:(Re o).back? with
   |none =>
    dsimp only;refine ZX (Wi ?_);refine Zg ⟨rfl,_,_,H.push HF B F y,?_,by(try dsimp only);lia⟩;rw[IG,Zu,W9,ZM]
    (try dsimp only)
    lia
   |some v =>
    obtain⟨s1,n1,pw1⟩:=v;dsimp only;refine ZX (Xw (Yb
     (I:=λx c d=>c.1=none/\∃p,RI κ r a₀ d p f/\p.flatten.length=lo)
     (Q:=λc d=>c.1=none/\∃p,RI κ r a₀ d p f/\p.flatten.length=lo) ?stepM ?finM ?initM) ?postM)
    case initM=>exact⟨rfl,_,H,HF⟩
    case finM=>exact λc d h=>h
    case stepM =>
     intro x;refine all2 λc1 c2=>?_;rintro d _ hx ⟨i,p,R,q⟩;refine ZX (WR ?_);split
     ·rename_i a b c hh;refine aH (λ_=>?_) λ_=>?_
      ·exact Zg ⟨rfl,p,R,q⟩
      ·have O4:(Re d).size > 1:=by
        by_cases z:(Re d).size > 1
        ·exact z
        ·rw[Zj z]at hh;cases hh
       have KH:=R.K7;refine ZX (R.merge C g (show (Re d).size-2+1<p.length by omega) λUS JW R4 l4 f4=>?_);refine aH (λe=>absurd e (by decide)) λ_=>?_;exact Zg ⟨rfl,JW,R4,by rw[f4,q]⟩
     ·exact Zg ⟨rfl,p,R,q⟩
    case postM =>
     refine all2 λc1 c2=>?_;rintro d ⟨i,p,R,q⟩;dsimp only at *;subst i;dsimp only;refine ZX (Wi ?_);refine ZX (Wi ?_);refine Zg ⟨rfl,_,_,(R.mod _ _).push q B F y,?_,by(try dsimp only);lia⟩;rw[IG,Zu,W9,ZM]
     (try dsimp only)
     lia
 case post =>
  refine all2 λc1 lo=>?_;rintro d ⟨i,runs,R⟩;dsimp only at *;subst i;dsimp only;have rl:=Ap R.ok;have L:=R.size;simp only[Ya,Nat.add_zero]at L;refine ZX (Xw (Yb
   (I:=λx c d=>c.1=none/\∃runs,RI κ r a₀ d runs []/\(runs.length<=1\/runs.length+x<=a₀.size))
   (Q:=λc d=>c.1=none/\∃runs,RI κ r a₀ d runs []/\runs.length<=1) ?step2 ?fin2 ?init2) ?post2)
  case init2=>exact⟨rfl,runs,R,.inr (by lia)⟩
  case fin2 =>
   refine all2 λc1 c2=>?_;rintro d ⟨i,runs,R,M⟩;exact⟨i,runs,R,by lia⟩
  case step2 =>
   intro x;refine all2 λc1 c2=>?_;rintro d _ hx ⟨i,runs,R,M⟩;have KH:=R.K7;refine ZX (WR ?_);refine aH (λe=>?_) λe=>?_
   ·exact Zg ⟨rfl,runs,R,by rw[← KH];exact e⟩
   ·have e':1<runs.length:=by rw[← KH];exact W0 e
    refine ZX (R.merge C g ?_ λUS JW R4 l4 f4=>?_)
    ·exact Cv (show (Re d).size-2-1+1<_ by omega) (show (Re d).size-2+1<_ by lia)
    ·refine aH (λe=>absurd e (by decide)) λ_=>?_;exact Zg ⟨rfl,JW,R4,by lia⟩
  case post2 =>
   refine all2 λc1 c2=>?_;rintro d ⟨i,runs,R,M⟩;dsimp only at *;subst i;refine Zg (h d R.perm R.fail ?_);rw[R.arr,ZP]
   match runs,M,R.ok with
   |[],_,_=>exact List.Pairwise.nil
   |[X],_,ok =>
    rw[W9];exact(ok X (Zx ..)).2
   |X :: Yq0 :: t,M,_=>simp at M
end TS
end
section
open PySem PyProof.Rows
namespace TS
variable{prog:PP}{w:SL}{A:Pi}{E:Yu}{s:FB}{G:KF->Prop}{r:KF->KF->Bool}
def bR(h:SC)(a:GM)(b:Ws):Heap:=((h.update a (Obj.mapSeq λ_=>#[])).push (seqObj "tuple" b.toArray 0)).push (seqObj "list" #[] 0)
def uA{e:Ws}{a:Array KF}(f:a.Perm (pairsOf e)):(a.map (·.2)).toList.Perm e/\(a.map (·.2)).toList.map (λv=>(v,v))=a.toList:=by
 have d:=YG.mp f;rw[pairsOf_toList]at d;constructor
 ·rw[W8];refine(d.map _).trans ?_;rw[show (λx:KF=>x.2)=Prod.snd from rfl,Ww (Zo _)]
 ·rw[W8,Yw]
  conv=>rhs;rw[← WM a.toList]
  apply YA;intro p b;have:=mem_zip_self (d.mem_iff.mp b);exact Prod.ext this.1.symm M
def oB{h:SC}{a:GM}{vs:Ws}{o:Obj}(b:a<h.objs.size)(g:(h.update a (Obj.mapSeq λ_=>#[])).get? a=O o):(bR h a vs).get? a=O o:=by
 have k1:a≠(h.update a (Obj.mapSeq λ_=>#[])).objs.size:=by rw[Xz];exact ZV b
 have k2:a≠((h.update a (Obj.mapSeq λ_=>#[])).push (seqObj "tuple" vs.toArray 0)).objs.size:=by rw[Xp,Xz];exact ZV (Xc b)
 exact(YB _ _ _ k2).trans ((YB _ _ _ k1).trans g)
def yt{a:GM}{vs:Ws}{n:Nat}{P:PySem.Fin->FB->Prop}{l:SortKind}(i:s.heap.get? a=O (seqObj "list" vs.toArray n))(C:GE prog w A E { s with heap:=bR s.heap a vs } l G r)(B:∀v∈vs,G (v,v))(g:vs.length<=FS)(F:2<=vs.length->∀Q:SortKind->FB->Prop,Q l { s with heap:=bR s.heap a vs }->KB (FM prog w) A (keyKind' vs.toArray) Q E { s with heap:=bR s.heap a vs })(h:∀out:Ws,out.Perm vs->(out.map λv=>(v,v)).Pairwise (le r)->P (.done (.ret .none)) { s with heap:=sortedHeap s.heap a vs out.toArray }) :
  KB (FM prog w) A (Builtin.«list.sort» ⟨[.ref a],[]⟩) P E s:=by
 have D:vs.toArray.size=vs.length:=rfl;obtain⟨I,o⟩:∃k,(s.heap.update a (Obj.mapSeq λ_=>#[])).get? a=O (seqObj "list" #[] k):=⟨_,Xj i _⟩
 have at2:=oB (vs:=vs) (ZY i) o;have done:∀b:Array KF,b.Perm (pairsOf vs)->b.toList.Pairwise (le r)->P (.done (.ret .none)) { s with heap:=sortedHeap s.heap a vs (b.map (·.2)) }:=λb d j=>by
  obtain⟨u,t⟩:=uA d;have:=h _ u (by rw[t];exact j)
  rwa [Vq]at this
 have room:∀b:Array KF,b.Perm (pairsOf vs)->(b.map (·.2)).size<=FS+1:=λb d=>by
  rw[Array.size_map,d.size_eq,pairsOf_size];exact Nat.le_succ_of_le g
 rw[list_sort_plain];refine Zz (Wx i M (Zz (YV i M (Zz (X9 o M (Zz (Vc (Zz (Wb (YU ?_))))))))));refine(show KB (FM prog w) A _ P E { s with heap:=bR s.heap a vs } from ?_);dsimp only;by_cases two:2<=vs.length
 ·have no:¬(vs.toArray.size<2):=by lia
  rw[Zj no,Zj no];have good:∀x∈pairsOf vs,G x:=λx z=>by
   have m:x∈(pairsOf vs).toList:=by simpa using z
   rw[pairsOf_toList]at m;obtain⟨e1,e2⟩:=mem_zip_self m;have:=B x.1 e2;obtain⟨p,q⟩:=x;dsimp only at e1 this;rw[← e1];exact this
  refine Zz (F two _ (Zz (Yj (oF C (a₀:=pairsOf vs) (st:=SortSt.mk' l (vs.toArray.zip vs.toArray) #[] 7 Y)
   (Q:=λ_ f=>(arrOf f).Perm (pairsOf vs)/\failedOf f=Y/\(arrOf f).toList.Pairwise (le r)) M good M M M λf a1 a2 a3=>⟨a1,a2,a3⟩) ?_ λ_ _ e=>e)))
  rintro⟨⟨⟩,f⟩ H ⟨rfl,d,j,y⟩;refine Zz (X9 at2 M (Zz (YV at2 M ?_ (hsz2:=room _ d))));rw[j];simp only[bne_self_eq_false,Ij,↓reduceIte];exact Zs (done _ d y)
 ·have no:vs.toArray.size<2:=by lia
  rw[Zn no,Zn no];refine Zz (Zs (Zz ?_));rw[StateT.run_pure];refine Zs (Zz (X9 at2 M (Zz (YV at2 M ?_ (hsz2:=room _ (Array.Perm.refl _))))));simp only[bne_self_eq_false,Ij,↓reduceIte];refine Zs (done (vs.toArray.zip vs.toArray) (Array.Perm.refl _) ?_)
  match vs,two with
  |[],_=>simp
  |[_],_=>simp
  |_ :: _ :: _,q=>simp at q
def nl{b n:Nat}(h:b<n)(k:Nat):b≠n+k:=ZV (ZC h (ZI _ _))
structure Jp(prog:PP)(w:SL)(Q:Yu)(vs:Ws)(s1:FB) where
 G:KF->Prop
 r:KF->KF->Bool
 kd:SortKind
 hC:∀(A:Pi)(E:Yu)(h:SC),(∀b o,s1.heap.get? b=some o->h.get? b=some o)->GE prog w A E { s1 with heap:=h } kd G r
 hG:∀v∈vs,G (v,v)
 hlen:vs.length<=FS
 Lm:2<=vs.length->∀(A:Pi)(E:Yu)(h:SC),(∀b o,s1.heap.get? b=some o->h.get? b=some o)->∀Q:SortKind->FB->Prop,Q kd { s1 with heap:=h }->KB (FM prog w) A (keyKind' vs.toArray) Q E { s1 with heap:=h }
 h:∀(out:Ws)(h':SC)(e:Nat),out.Perm vs->(out.map λv=>(v,v)).Pairwise (le r)->(∀b o,s1.heap.get? b=some o->h'.get? b=some o)->h'.get? s1.heap.objs.size=some (seqObj "list" out.toArray e)->Q (.ref s1.heap.objs.size) { s1 with heap:=h' }
def lh{x:IR}{Q:Yu}(t:∀(j:Pi)(u:Yu),j.handled=A.handled->KB (FM prog w) j (collect x) (λd a=>Nonempty (Jp prog w Q d a)) u s) :
  KB (FM prog w) A (call (.builtin "sorted") [x]) Q E s:=by
 refine Calls.call_function_entry kind_sorted plain_sorted entry_sorted (args_sorted1 _) (show KB _ _ (Builtin.«sorted» _) _ _ _ from ?_);unfold Builtin.«sorted»;refine Zz (m:=checkCount "sorted" 1 1 _) (Zs (Zz (Yj (t A.in1 (λ_ _=>False) M) ?_ λ_ _ e=>e.elim)));rintro d a ⟨⟨G,r,kd,hC,hG,hlen,Lm,h⟩⟩;refine Zz (Wb ?_ (by exact hlen));have g:(a.heap.push (seqObj "list" d.toArray 0)).get? a.heap.objs.size=O (seqObj "list" d.toArray 0):=Zc _ M;have old:∀b o,a.heap.get? b=O o->(bR (a.heap.push (seqObj "list" d.toArray 0)) a.heap.objs.size d).get? b=O o:=λb o e=>by
  have f:=ZY e;unfold bR;rw[YB _ _ _ (by rw[Xp,Xz,Xp];exact nl f 2),YB _ _ _ (by rw[Xz,Xp];exact nl f 1),Yn _ _ _ _ (ZV f),YB _ _ _ (ZV f)];exact e
 show KB _ _ _ _ _ { a with heap:=a.heap.push (seqObj "list" d.toArray 0) };refine Zz (YU (Y8 slot_list_sort ⟨_,g,rfl⟩ entry_list_sort (yt g (hC _ _ _ old) hG hlen (λq=>Lm q _ _ _ old) λout n l=>⟨_,rfl,?_⟩) (args_list_sort _)));obtain⟨e,p⟩:=sortedHeap_at (out:=out.toArray) g;exact Zs ⟨_,rfl,h out _ e n l (λb o i=>by
  have f:=ZY i;show (sortedHeap (a.heap.push (seqObj "list" d.toArray 0)) a.heap.objs.size d out.toArray).get? b=O o;rw[sortedHeap_old (ZV f) (by rw[Xp];exact Xc f),YB _ _ _ (ZV f)];exact i) p⟩
def Ce{κ:KeyKind}(l:κ.OneLt):GE prog w A E s oneType' (λp=>∃a,κ.keyOf p.1=some a) (λp q=>match κ.keyOf p.1,κ.keyOf q.1 with | some a,some b=>κ.blt a b | _,_=>false):=by
 refine⟨?_,?_,?_⟩
 ·rintro st x y Q j ⟨a,e⟩ ⟨b,d⟩ h;rw[lt'_eq];refine ZX (WR ?_);rw[j,keyLt'_oneType];refine ZX (wpS_lift (XR (l prog w A _ s x.1 y.1 a b e d ⟨rfl,?_⟩)));rw[e,d]at h;exact Zg h
 ·rintro x y ⟨a,e⟩ ⟨b,d⟩ h;rw[e,d]at h ⊢;exact KeyOrd.klt_asymm (O:=κ.toKeyOrd) h
 ·rintro x y z ⟨a,e⟩ ⟨b,d⟩ ⟨c,f⟩ i g;rw[e,d]at i;rw[d,f]at g;rw[e,f];exact KeyOrd.kle_trans (O:=κ.toKeyOrd) i g
end TS
end
section
namespace td
open PySem PySem.Spec PyProof.Rows TS
section
variable{X:Cx}
theorem qO:∀{b:List Str}{a:Ws},aT (b.map V.str) a->(∀v∈a,∃x t,v=Value.str x t)/\a.map strOf=b
 |[],[],_=>⟨λv h=>by simp at h,rfl⟩
 |s :: b,u :: a,h=>by
  cases h with
  |cons r q =>
   obtain⟨f,e⟩:=qO q;obtain⟨t,rfl⟩:=r;refine⟨λv d=>?_,?_⟩
   ·rcases Zq.mp d with rfl | d
    ·exact⟨s,t,rfl⟩
    ·exact f v d
   ·rw[Zp,e];rfl
theorem o7:∀{a:Ws},(∀v∈a,∃x t,v=Value.str x t)->aT ((a.map strOf).map V.str) a
 |[],_=>.nil
 |u :: a,h=>by
  obtain⟨x,t,rfl⟩:=h u (Zx ..);exact .cons ⟨t,rfl⟩ (o7 λv b=>h v (Zw _ b))
def tW{d:Yf}{Z:St}{H:Hp}{s j:FB}{Q:VK}{r:List Str}{g:Ws}(I:Inv X d Z H j)(i:∀v∈g,∃x t,v=Value.str x t)(N:g.map strOf=r)(f:g.length<=FS)(q:∀(l:GM)(p:List Str),H l=Y->p.Perm r->p.Pairwise (λa b=>¬b.cps.toList<a.cps.toList)->Q (.ref l) (upd H l (.lst (p.map V.str)))) :
  Nonempty (Jp X.prog X.w (EP X d Z Q) g j):=by
 refine⟨⟨_,_,oneType',λA E h _=>Ce strKind_oneLt,λv n=>?_,f,λL A E h _ Q C=>?_,λout M e m z kp D=>?_⟩⟩
 ·obtain⟨x,t,rfl⟩:=i v n;exact⟨_,rfl⟩
 ·match g,L,i with
  |U :: R :: W,_,i =>
   rw[keyKind_strs (strsAre_map _ i)];exact Zs C
 ·have o:∀v∈out,∃x t,v=Value.str x t:=λv n=>i v (m.mem_iff.mp n);have B:((out.map strOf).map V.str).length<=sizeLine:=by rw[Zv,Zv,m.length_eq];exact f
  refine⟨.ref j.heap.objs.size,_,I.laid (t':=j.toks) kp (Zo _) (show bg X.prog X.w _ M _ (.lst ((out.map strOf).map V.str)) from⟨B,out,e,o7 o,D⟩),rfl,q _ _ (I.xa.fresh (Zo _)) (by rw[← N];exact m.map _) ?_⟩;rw[X6]at z ⊢;refine Xu (λ{a b} G F P=>?_) z;obtain⟨x,t,rfl⟩:=o a G;obtain⟨y,u,rfl⟩:=o b F;have:decide (y.cps.toList<x.cps.toList)=S:=P;exact of_decide_eq_false this
def j6:dI X (.builtin "sorted") (λi H Q=>∃p,∃f:List Str,i=[.ref p]/\FF X.K H p (f.map V.str) ∧
  ∀(l:GM)(g:List Str),H l=Y->g.Perm f->g.Pairwise (λa b=>¬b.cps.toList<a.cps.toList)->Q (.ref l) (upd H l (.lst (g.map V.str)))):=by
 intro d s Z H i z Q I n h;obtain⟨p,f,rfl,w,q⟩:=h;obtain⟨u,rfl,r⟩:=n.one;cases r;obtain⟨m,j,t,A⟩:=I.list w;obtain⟨v,x⟩:=qO j;have hlen:m.length<=sizeLine:=by have:=j.length;lia
 refine lh λC B _=>collect_list t.isList ?_ hlen;have y:Inv X d Z H { s with heap:=(s.heap.push (seqObj "list" #[] 0)).update s.heap.objs.size (Obj.mapSeq (·++m.toArray)) }:=I.kept (t':=s.toks) λb o e=>by
  rw[Yn _ _ _ _ (ZV (ZY e))];exact Zt _ e
 exact tW (s:=s) y v x hlen q
def jM(R:X.calm=J):dI X (.builtin "sorted") (λw H Q=>∃p,∃(d:List Str)(j:List V),w=[.ref p]/\d.length=j.length/\H p=O (.dK ((d.map Sum.inr).zip j)) ∧
  ∀(l:GM)(r:List Str),H l=Y->r.Perm d->r.Pairwise (λa b=>¬b.cps.toList<a.cps.toList)->Q (.ref l) (upd H l (.lst (r.map V.str)))):=by
 intro f s Z H w us Q I F h;obtain⟨p,d,j,rfl,N,L,q⟩:=h;obtain⟨u,rfl,G⟩:=F.one;cases G;obtain⟨z,U,o,rel,n⟩:=qA I.xa L;obtain⟨ep,n⟩:=n.dictAt;have Rt:o.length=d.length:=by
  have:=rel.length;rw[Yx,Zv]at this;lia
 have Rr:∀i:Nat,(o[i]?).map (λx=>x.1)=(d[i]?).map (Sum.inr:Str->Key):=λi=>by
  have B:((o.map (·.1)))[i]?=(d.map (Sum.inr:Str->Key))[i]?:=by
   rw[← rel.keys];rw[W4 (by rw[Zv];exact X5 N)]
  rw[ZT,ZT]at B;exact B
 refine lh λA' E' hA=>PySem.W.kdu_collect (PySem.W.kdl_dict U) (hA.trans (I.ok.hd R)) n (by rw[Yx,Zv]at z;lia) λh' D acc kp C=>?_;have I1:Inv X f Z H { s with heap:=h',toks:=D }:=I.kept kp;have N2:acc.toList.length=d.length:=by rw[Yg,C.1,Rt]
 have each:∀i v,acc.toList[i]?=O v->∃x t,v=Value.str x t/\d[i]?=O x:=λi v A=>by
  rw[Jb]at A;obtain⟨k,x,e1,e2⟩:=C.2 i v A;have g:=Rr i;rw[e1]at g;cases m:d[i]? with
  |none=>rw[m]at g;cases g
  |some y =>
   rw[m]at g;have e5:k=Sum.inr y:=ZK g;subst e5;obtain⟨t,rfl⟩:=VQ (show Value.isStrOf y v=J from e2);exact⟨y,t,rfl,m⟩
 refine tW (s:=s) I1 (λv M=>?_) ?_ (by rw[N2];rw[Yx,Zv]at z;lia) q
 ·obtain⟨i,P,e⟩:=Ja M;obtain⟨x,t,e1,_⟩:=each i v (by rw[Zi P,e]);exact⟨x,t,e1⟩
 ·apply WK;intro i;rw[ZT];cases e:acc.toList[i]? with
  |none =>
   have:acc.toList.length<=i:=Yq.mp e;rw[Yq.mpr (by lia)];rfl
  |some v =>
   obtain⟨x,t,rfl,e1⟩:=each i v e;rw[e1];rfl
end
end td
end
section
namespace VS
def je{n k:Nat}(h:k<n):GF n (k:Int)=O k:=by
 unfold GF;rw[Zn (by lia),Zn (by lia),Ye]
mutual
theorem o6:∀(n:Nat)(t:T),GN n t=J->eqT t t=J
 |n,.non,_=>by simp
 |n,.bl _,_=>by simp
 |n,.int _,_=>by simp
 |n,.str _,_=>by simp
 |n+1,.tup l,h=>by
  simp only[GN,ZD]at h;simp only[eqT];exact jC n l h
 |n+1,.lst l,h=>by
  simp only[GN,ZD]at h;simp only[eqT];exact jC n l h
 |0,.tup _,h=>by simp at h
 |0,.lst _,h=>by simp at h
 |_,.scr _,h=>by simp at h
 |_,.dct _ _,h=>by simp at h
 |_,.obj _ _,h=>by simp at h
theorem jC:∀(n:Nat)(l:V4),(∀t∈l,GN n t=J)->iR l l=J
 |_,[],_=>rfl
 |n,t :: r,h=>by
  simp only[iR,Yz];exact⟨o6 n t (h t Zx),jC n r λu a=>h u (Zw _ a)⟩
end
def ql{m n:Md}{t:T}(h:GN 60 t=J):oEq (m,t) (n,t)=O (.fr,.bl J):=by
 show (if GN 60 t/\GN 60 t then O (Md.fr,T.bl (eqT t t)) else Y)=_;rw[Zn ⟨h,h⟩,o6 60 t h]
def pf{a:Ex}{U:Env}{m:Md}{l:V4}(e:a U=O (m,.lst l)):fT a U=O (m,l):=by
 show (a U).bind Cs=_;rw[e];rfl
def jd{b:Tg}{d:GB}{a:Sx}{U:Env}{m:Md}{l:V4}(e:d U=O (m,l))(h:Th m=J):dS b d a U=forL b a l U:=by
 unfold dS;rw[e];exact Zn h
def aM{g:Fn}{as:Gd}{U:Env}{xs:V2}{t:T}(h:as U=O xs)(a:g (trees xs)=O (.fr,t)):aP g as U=O (.fr,t):=by
 simp only[aP,h,Zr,a]
def aE{i:Nat}{e:Ex}{U:Env}{m:Md}{t:T}(h:e U=O (m,t))(a:m ≠ .bo)(b:i<U.length):aL i e U=O (.nx (U.set i (O (.pu t)))):=by
 simp only[aL,h,Zr];cases m with
 |bo=>exact absurd M a
 |_=>simp[b]
def fH{a b:Sx}{U U':Env}(h:a U=O (.nx U')):aq a b U=b U':=by simp only[aq,h,Zr]
def jv{a b:Sx}{U U':Env}{v:Val}(h:a U=O (.rt v U')):aq a b U=O (.rt v U'):=by simp only[aq,h,Zr]
def xf{d e:Nat}{a:Sx}{b:V4}{v:Val}(U:Env){U':Env}(f:b.length=d)(g:b.map (λt=>O (Cell.pu t))++List.replicate (e-d) Y=U)(h:a U=O (.rt v U')):fn d e a b=O v:=by
 unfold fn;rw[Zn f,g,h];rfl
end VS
end
section
namespace VS
open PySem PySem.Spec PyProof.Rows td
def Ea{a b c:Tx}(h:a<b)(d:¬c<b):a<c:=by
 by_cases e:a<c
 ·exact e
 ·exact absurd (List.lt_of_le_of_lt (Wq.mp e) h) d
theorem iT(x:Tx):∀l:List Tx,(lT x l).Perm (x :: l)
 |[]=>Xq _
 |y :: r=>by
  unfold lT;split
  ·exact((iT x r).cons y).trans (List.Perm.swap _ _ _)
  ·exact Xq _
theorem gf:∀l:List Tx,(di l).Perm l
 |[]=>Xq _
 |x :: l=>(iT x _).trans ((gf l).cons x)
theorem pT(x:Tx):∀{l:List Tx},l.Pairwise (λa b=>¬b<a)->(lT x l).Pairwise (λa b=>¬b<a)
 |[],_=>by simp[lT]
 |y :: r,h=>by
  unfold lT;rw[jA];obtain⟨f,g⟩:=YY.mp h;split
  ·rename_i c;have e:y<x:=by simpa using c
   refine YY.mpr ⟨λz d=>?_,pT x g⟩;rcases Zq.mp ((iT x r).mem_iff.mp d) with rfl | d
   ·exact λz=>WU _ (Vo e z)
   ·exact f z d
  ·rename_i c;have e:¬y<x:=by simpa using c
   refine YY.mpr ⟨λz d=>?_,h⟩;rcases Zq.mp d with rfl | d
   ·exact e
   ·exact λw=>f z d (Ea w e)
theorem mO:∀l:List Tx,(di l).Pairwise (λa b=>¬b<a)
 |[]=>List.Pairwise.nil
 |x :: l=>pT x (mO l)
def mZ{l d:List Tx}(h:d.Perm l)(e:d.Pairwise (λa b=>¬b<a)):d=di l :=
 List.Perm.eq_of_pairwise (le:=λa b=>¬b<a) (λa b _ _ g f=>VM (Wq.mp g) (Wq.mp f)) e (mO l) (h.trans (gf l).symm)
def oq(s:Tx):(sx s).cps.toList=s:=rfl
def wR{f:List Tx}{d:List Str}(h:d.Perm (f.map sx))(i:d.Pairwise (λa b=>¬b.cps.toList<a.cps.toList)):d=(di f).map sx:=by
 have e:d=(d.map λx=>x.cps.toList).map sx:=by
  rw[Yw]
  conv=>lhs;rw[← WM d]
  apply YA;intro x g;obtain⟨s,_,rfl⟩:=Yt.mp (h.mem_iff.mp g);show sx s=sx (sx s).cps.toList;rw[oq]
 have e2:(d.map λx=>x.cps.toList)=di f:=by
  refine mZ ?_ ?_
  ·have:=h.map λx:Str=>x.cps.toList;rw[Yw]at this;have j:((λx:Str=>x.cps.toList) ∘ sx)=id:=by
    funext s;exact oq s
   rw[j,WM]at this;exact this
  ·rw[X6];exact i
 rw[e,e2]
def K4(s:Tx):Bool:=decide (s.length<=fC)&&s.all (λc=>decide (c<1114112))
def wB{s:Tx}(h:K4 s=J):iE s:=by
 unfold K4 at h;simp at h;exact h
def lj:V2->V3
 |[(_,.lst l)]=>(strs? l).map λa=>(.fr,.lst ((di a).map .str))
 |[(_,.dct 0 l)]=>(strs? (l.map (·.1))).bind λa=>if a.all K4 then O (.fr,.lst ((di a).map .str)) else Y
 |_=>Y
section
variable{G:Gx}{X:Cx}{e:Expr}{cs:Gd}{p pos:Pos}
theorem nK{H:Hp}:∀{ss:List Tx},(∀s∈ss,iE s)->xh G H (ss.map λs=>V.str (sx s)) (ss.map T.str) (ss.map λ_=>[])
 |[],_=>.nil
 |s :: ss,h=>.cons (.str s (h s (Zx ..))) (nK λx a=>h x (Zw _ a))
theorem lS{α β:Type}:∀(l:List α),(l.map λ_=>([]:List β)).flatten=[]
 |[]=>rfl
 |_ :: l=>by simp
theorem sD{H:Hp}:∀{d:List V}{l:V4}{f:Yd}{b:List Tx},xh G H d l f->strs? l=O b->∀s∈b,iE s
 |_,_,_,_,.nil,e,s,a=>by cases e;simp at a
 |_,_,_,_,.cons (t:=t) r q,e,s,a=>by
  cases t with
  |str x =>
   simp only[strs?]at e;obtain⟨g,e1,e2⟩:=Zm.mp e;subst e2;rcases Zq.mp a with rfl | a
   ·exact r.str_inv.2
   ·exact sD q e1 s a
  |_=>cases e
def Cq(K:Xd):List V->Hp->VK->Prop:=λg H Q=>∃p,∃f:List Str,g=[.ref p]/\FF K H p (f.map V.str) ∧
  ∀(l:GM)(d:List Str),H l=Y->d.Perm f->d.Pairwise (λa b=>¬b.cps.toList<a.cps.toList)->Q (.ref l) (upd H l (.lst (d.map V.str)))
def CQ:List V->Hp->VK->Prop:=λh H Q=>∃p,∃(d:List Str)(g:List V),h=[.ref p]/\d.length=g.length/\H p=O (.dK ((d.map Sum.inr).zip g)) ∧
  ∀(l:GM)(f:List Str),H l=Y->f.Perm d->f.Pairwise (λa b=>¬b.cps.toList<a.cps.toList)->Q (.ref l) (upd H l (.lst (f.map V.str)))
def pB{L:FH}{U:VS.Env}{i H:Hp}{d:List Tx}{Q:VK}(k:∀v g F,aO H g->Rp G g v (.lst ((di d).map T.str)) F->Fp L U i .fr F->Q v g)(n:aO i H)(j:∀s∈d,iE s) :
  ∀(l:GM)(f:List Str),H l=Y->f.Perm (d.map sx)->f.Pairwise (λa b=>¬b.cps.toList<a.cps.toList)->Q (.ref l) (upd H l (.lst (f.map V.str))):=λq f h u hw=>by
 rw[wR u hw];have m:aO H (upd H q (.lst (((di d).map sx).map V.str))):=bT h;have o:=nK (G:=G) (H:=upd H q (.lst (((di d).map sx).map V.str))) λs t=>j s ((gf d).mem_iff.mp t);have r:Rp G (upd H q (.lst (((di d).map sx).map V.str))) (.ref q) (.lst ((di d).map T.str)) (q :: ((di d).map λ_=>[]).flatten):=.lst (by rw[aw,Yw];rfl) o;rw[lS]at r;exact k _ _ _ m r (Fp.new (n.free h) (by simp) Fp.nil)
theorem keys_str:∀{a:List Key}{ss:List Tx},strs? (a.map aK)=O ss->a=(ss.map sx).map Sum.inr
 |[],_,e=>by cases e;rfl
 |.inl i :: a,_,e=>by cases e
 |.inr x :: a,ss,e=>by
  simp only[Zp,aK,strs?]at e;obtain⟨b,e1,e2⟩:=Zm.mp e;subst e2;rw[keys_str e1];simp[sx]
def t8:fE G (λj H Q=>Cq G.K j H Q\/CQ j H Q) lj:=by
 intro L U I H l n u m t Q A e k;unfold lj at e;split at e
 ·rename_i w x;obtain⟨d,e1,e2⟩:=Zm.mp e;cases e2;obtain⟨v,F,rfl,rfl,f⟩:=(show xh G H n [.lst x] u from A.rp).one;obtain⟨a,i,C,rfl,rfl,h,b⟩:=f.lst_inv;refine .inl ⟨a,d.map sx,rfl,?_,pB k A.same (sD b e1)⟩;rw[Yw];have:=sN b e1;rw[show (V.str ∘ sx)=λs=>V.str (sx s) from rfl,← this];exact FF.of h
 ·rename_i w x;obtain⟨d,e1,e2⟩:=Zy.mp e;split at e2
  ·rename_i z;cases e2;obtain⟨v,F,rfl,rfl,f⟩:=(show xh G H n [.dct 0 x] u from A.rp).one;obtain⟨a,g,i,o,C,rfl,rfl,h,q,rfl,b⟩:=gn f;have D:g.length=o.length:=by rw[q,b.len.1]
   have B:((g.map aK).zip o).map (·.1)=g.map aK:=W4 (by rw[Zv];exact X5 D);rw[B]at e1;have r:=keys_str e1;refine .inr ⟨a,d.map sx,i,rfl,?_,by rw[← r];exact h,pB k A.same λs y=>wB (ZD.mp z s y)⟩;rw[← q,r,Zv,Zv,Zv]
  ·cases e2
 ·cases e
def jB:bootBuiltins ("sorted" : Str)=O (.builtin "sorted"):=by decide +kernel
def xI(a:X.mg "sorted" = Y)(f:Ho G X [e] cs)(b:Gl X "sorted" := by rfl)(g:X.K=G.K:=by rfl)(d:X.calm=J:=by rfl)(he:K0 e [] X:=by rfl):PV G X (.Call (.Name "sorted" p) [e] [] pos) (eN lj cs) :=
 i4 (j6.or (jM d)) (g ▸ t8) b a jB f (he:=he) (hpl:=rfl)
end
end VS
end
section
namespace ST
open PySem PySem.Spec PyProof.Rows
variable{prog:PP}{w:SL}{A:Pi}{E:Yu}{s:FB}
def El{Q:PySem.Fin->FB->Prop}{f:Yu}(g:A.handled=Y)(h:∀(d:SC)(x:GM),(∀b o,s.heap.get? b=O o->d.get? b=O o)->(∃o,d.get? x=O o/\o.cls=.type "StopIteration")->f (.ref x) { s with heap:=d }) :
  KB (FM prog w) A (newExc (.type "StopIteration") [] >>= λe=>raiseNew e) Q f s:=by
 simp only[newExc,newTuple];refine Zz (Zz (Wt (Zz (m:=firstArgMember _ _) (wpAny_of_eq (a:=Value.none) (by first | rfl | (simp only[firstArgMember];rfl)) (Wt ?_ (by size_fits)))) (by size_fits)));simp only[raiseNew];refine Zz (wpAny_handled ?_);rw[g];exact Zz (Zs (wpAny_throw (h _ _ (λb o e=>Zt _ (Zt _ e)) ⟨_,Zc _ M,rfl⟩)))
end ST
end
section
namespace VS
open PySem PySem.Spec PyProof.Rows td
section
variable{G:Gx}
def kE{f:Yd}{i j:Nat}{F l:X4}(d:f.flatten.Nodup)(b:f[i]?=O F)(e:f[j]?=O l)(n:i≠j){a:GM}(h:a∈F):a∉l:=by
 intro g
 induction f generalizing i j with
 |nil=>simp at b
 |cons G o m =>
  rw[Zf,ZG]at d;cases i with
  |zero =>
   simp at b;subst b;cases j with
   |zero=>exact n M
   |succ j=>exact d.2.2 a h a (dA (by simpa using e) g) M
  |succ i =>
   cases j with
   |zero =>
    simp at e;subst e;exact d.2.2 a g a (dA (by simpa using b) h) M
   |succ j=>exact m d.2.1 (by simpa using b) (by simpa using e) (by lia)
def d4{d:Yd}{j:Nat}{g:X4}{a:GM}(h:a∈(d.set j g).flatten):a∈g\/∃i F,i≠j/\d[i]?=O F/\a∈F:=by
 obtain⟨i,F,b,f⟩:=fS h;by_cases e:i=j
 ·subst e;rw[List.getElem?_set_self' ]at b;cases q:d[i]? with
  |none=>rw[q]at b;cases b
  |some _=>rw[q]at b;cases b;exact .inl f
 ·rw[XT (Y2 e)]at b;exact .inr ⟨i,F,e,b,f⟩
theorem fG:∀{q:Yd}{j:Nat}{f:X4},q.flatten.Nodup->f.Nodup->(∀i F,i≠j->q[i]?=O F->∀a∈F,a∉f)->(q.set j f).flatten.Nodup
 |[],_,_,h,_,_=>by simpa using h
 |G :: s,0,f,h,p,d=>by
  rw[Zf,ZG]at h;rw[List.set_cons_zero,Zf,ZG];refine⟨p,h.2.1,λa g b l e=>?_⟩;subst e;obtain⟨i,F,o,m⟩:=fS l;exact d (i+1) F (by lia) (by simpa using o) a m g
 |G :: s,j+1,f,h,p,d=>by
  rw[Zf,ZG]at h;rw[List.set_cons_succ,Zf,ZG];refine⟨h.1,fG h.2.1 p λi F n r=>d (i+1) F (by lia) (by simpa using r),λa g b l e=>?_⟩;subst e;rcases d4 l with z | ⟨i,F,n,o,m⟩
  ·exact d 0 G (by lia) M a g z
  ·exact h.2.2 a g a (dA o m) M
theorem xh.each{H g:Hp}:∀{vs:List V}{e:V4}{f:Yd},xh G H vs e f->(∀(i:Nat) v t F,vs[i]?=O v->e[i]?=O t->f[i]?=O F->Rp G H v t F->Rp G g v t F)->xh G g vs e f
 |_,_,_,.nil,_=>.nil
 |_,_,_,.cons r q,k=>.cons (k 0 _ _ _ M M M r) (xh.each q λi v t F a b c d=>k (i+1) v t F (by simpa using a) (by simpa using b) (by simpa using c) d)
theorem xh.setAt{H l:Hp}:∀{e:List V}{f:V4}{m:Yd}{j:Nat}{u:V}{o:T}{p:X4},xh G H e f m->e[j]?=O u->Rp G l u o p->(∀(i:Nat) v t F,i≠j->e[i]?=O v->f[i]?=O t->m[i]?=O F->Rp G H v t F->Rp G l v t F)->xh G l e (f.set j o) (m.set j p)
 |_,_,_,_,_,_,_,.nil,h,_,_=>by simp at h
 |_,_,_,0,_,_,_,.cons r q,h,g,k=>by
  simp at h;subst h;exact .cons g (xh.each q λi v t F a b c d=>k (i+1) v t F (by lia) (by simpa using a) (by simpa using b) (by simpa using c) d)
 |_,_,_,j+1,_,_,_,.cons r q,h,g,k=>.cons (k 0 _ _ _ (by lia) M M M r) (xh.setAt q (by simpa using h) g λi v t F n a b c d=>k (i+1) v t F (by lia) (by simpa using a) (by simpa using b) (by simpa using c) d)
def sT{H s:Hp}{a:GM}{o:HO}{w:List V}{L:V4}{e:Yd}{j:Nat}{u:V}{I:T}{D l:X4}(P:H a=O o)(M:xh G H w L e)(f:(a :: e.flatten).Nodup)(Q:w[j]?=O u)(B:e[j]?=O D)(g:G6 G H u D I s l):s a=O o/\xh G s w (L.set j I) (e.set j l)/\(a :: (e.set j l).flatten).Nodup/\(∀b∈a :: (e.set j l).flatten,b∈a :: e.flatten\/H b=Y)/\∀b o,b∉a :: e.flatten->H b=O o->s b=O o:=by
 rw[ZS]at f;have q:∀b∈D,b∈e.flatten:=λb d=>dA B d;have C:∀i F,i≠j->e[i]?=O F->∀b∈F,b∉l:=λi F n N b d A=>by
  rcases g.sub b A with z | z
  ·exact kE f.2 N B n d z
  ·exact FG.xb (M.F0 b (dA N d)) z
 refine⟨g.keep a o (λz=>f.1 (q a z)) P,M.setAt Q g.rp (λi v t F n p m h3 r=>r.keep g.kept λb d x y=>g.keep b x (kE f.2 h3 B n d) y),?_,λb d=>?_,λb x d y=>g.keep b x (λz=>d (Zw _ (q b z))) y⟩
 ·rw[ZS];refine⟨λh=>?_,fG f.2 g.nd C⟩;rcases d4 h with z | ⟨i,F,n,p,m⟩
  ·rcases g.sub a z with z | z
   ·exact f.1 (q a z)
   ·rw[P]at z;cases z
  ·exact f.1 (dA p m)
 ·rcases Zq.mp d with rfl | d
  ·exact .inl Zx
  ·rcases d4 d with z | ⟨i,F,n,p,m⟩
   ·rcases g.sub b z with z | z
    ·exact .inl (Zw _ (q b z))
    ·exact .inr z
   ·exact .inl (Zw _ (dA p m))
theorem oy{α β:Type}:∀(d:List α)(bs:List β)(i:Nat)(a:α)(y:β),d[i]?=O a->(d.zip bs).set i (a,y)=d.zip (bs.set i y)
 |[],_,_,_,_,h=>by simp at h
 |a :: d,[],i,_,_,_=>by cases i<;>simp
 |a :: d,b :: bs,0,_,y,h=>by simp at h;subst h;rfl
 |a :: d,b :: bs,i+1,_,y,h=>by
  have:=oy d bs i _ y (by simpa using h);simp[this]
theorem o9{α β:Type}(p:α->Bool):∀{e:List α}{bs:List β}{i:Nat},e.length=bs.length->(e.zip bs).findIdx? (λq=>p q.1)=O i->∃a b,e[i]?=O a/\bs[i]?=O b/\p a=J/\(e.zip bs).find? (λq=>p q.1)=O (a,b)
 |[],[],_,_,h=>by simp at h
 |a :: e,b :: bs,i,f,h=>by
  rw[ZA,YW]at h;by_cases d:p a=J
  ·rw[Zn d]at h;cases h;exact⟨a,b,rfl,rfl,d,by simp[d]⟩
  ·rw[Zj d]at h;obtain⟨j,g,rfl⟩:=Zm.mp h;obtain⟨r,o,n,m,h3,l⟩:=o9 p (by simpa using f) g;exact⟨r,o,by simpa using n,by simpa using m,h3,by simp[d,l]⟩
def fY(k a:Key):eqT (aK a) (aK k)=J↔a=k:=by
 cases k with
 |inl i=>cases a<;>simp[aK]
 |inr x =>
  obtain⟨⟨x⟩⟩:=x;cases a with
  |inl j=>simp[aK]
  |inr y=>obtain⟨⟨y⟩⟩:=y;simp[aK]
theorem tH{k:Key}{u:V}:∀{ns:List Key}{d:V4}{a:List V}{i:Nat},ns.length=d.length->ns.length=a.length->((ns.map aK).zip d).findIdx? (λq=>eqT q.1 (aK k))=O i->a[i]?=O u->cp (ns.zip a) k=O u
 |[],_,_,_,_,_,h,_=>by simp at h
 |n :: ns,t :: d,v :: a,i,m,l,h,e=>by
  rw[Zp,ZA,YW]at h;by_cases b:eqT (aK n) (aK k)=J
  ·rw[Zn b]at h;cases h;simp at e;subst e;exact bU ((fY k n).mp b)
  ·rw[Zj b]at h;obtain⟨j,g,rfl⟩:=Zm.mp h;have f:n≠k:=λz=>b ((fY k n).mpr z);have:cp ((n :: ns).zip (v :: a)) k=cp (ns.zip a) k:=by simp[cp,f]
   rw[this];exact tH (by simpa using m) (by simpa using l) g (by simpa using e)
 |_ :: _,[],_,_,h,_,_,_=>by simp at h
 |_ :: _,_ :: _,[],_,_,h,_,_=>by simp at h
end
section
variable{G:Gx}
variable{X:Cx}{e:Expr}{es:List Expr}{i:Nat}{way:List OD}{pos pos' p1 apos xt:Pos}{c:Ex}{cs:Gd}{b:Expr}{k:Nat}
def Ck(G:Gx):Prop:=∀c k a:Nat,(G.ct c).2 k=(G.ct c).2 a->k=a
end
section
variable{G:Gx}{X:Cx}{e o:Expr}{es:List Expr}{i:Nat}{way:List OD}{pos pos' p1 apos xt:Pos}{c:Ex}{cs:Gd}{b:Expr}{k:Nat}{ce ck:Ex}
def E9(k v:Val):T->Option (T×Unit)
 |.lst l=>match k.2 with
  |.int n=>(fit v).bind λt=>(GF l.length n).map λj=>(.lst (l.set j t),())
  |_=>Y
 |.dct 0 l=>if gG k.2/\FY v.2/\l.length<fC then O (.dct 0 (dput l k.2 v.2),()) else Y
 |_=>Y
noncomputable def tQ(i:Nat)(a:List OD)(k e:Ex)(U:VS.Env):Option Out:=(e U).bind λv=>match U[i]? with
 |some (some (.ow t))=>(keys a U).bind λf=>(k U).bind λd=>(pm (E9 d v) f t).map λz=>.nx (U.set i (O (.ow z.1)))
 |_=>Y
theorem xh.putAt{H:Hp}:∀{d:List V}{f:V4}{g:Yd}(j:Nat){u:V}{x:T}{F:X4},xh G H d f g->Rp G H u x F->xh G H (d.set j u) (f.set j x) (g.set j F)
 |_,_,_,_,_,_,_,.nil,_=>.nil
 |_,_,_,0,_,_,_,.cons r q,a=>.cons a q
 |_,_,_,j+1,_,_,_,.cons r q,a=>.cons r (xh.putAt j q a)
theorem tf{H:Hp}{kk:Key}{l:V}{t:T}(n:Rp G H l t []):∀{a:List Key}{h:List V}{ts:V4}{Fs:Yd},a.length=h.length->xh G H h ts Fs →
  ∃d g f,(a.zip h).map (λm=>if m.1=kk then (m.1,l) else m)=a.zip d/\a.length=d.length/\((a.map aK).zip ts).map (λp=>if eqT p.1 (aK kk) then (p.1,t) else p)=(a.map aK).zip g/\xh G H d g f/\f.flatten.Sublist Fs.flatten
 |[],[],_,_,_,.nil=>⟨[],[],[],rfl,rfl,rfl,.nil,WJ _⟩
 |k :: a,v :: h,_,_,A,.cons (t:=y) (F:=F) (ts:=ts) (Fs:=Fs) r q=>by
  obtain⟨d,g,f,x,w,h3,u,s⟩:=tf n (by simpa using A) q;by_cases j:k=kk
  ·have e:eqT (aK k) (aK kk)=J:=(fY kk k).mpr j;refine⟨l :: d,t :: g,[] :: f,?_,by simp[w],?_,.cons n u,?_⟩
   ·rw[ZA,Zp,x,ZA];simp[j]
   ·rw[Zp,ZA,Zp,h3,ZA];simp[e]
   ·rw[Zf,Zf];exact s.trans (List.sublist_append_right _ _)
  ·have e:¬eqT (aK k) (aK kk)=J:=λz=>j ((fY kk k).mp z);refine⟨v :: d,y :: g,F :: f,?_,by simp[w],?_,.cons r u,?_⟩
   ·rw[ZA,Zp,x,ZA];simp[j]
   ·rw[Zp,ZA,Zp,h3,ZA];simp[e]
   ·rw[Zf,Zf];exact List.Sublist.append (WJ _) s
theorem pZ{kk:Key}:∀{a:List Key}{d:List V}{f:V4},a.length=d.length->a.length=f.length->((a.zip d).any λg=>decide (g.1=kk))=(((a.map aK).zip f).any λp=>eqT p.1 (aK kk))
 |[],_,_,_,_=>by simp
 |k :: a,v :: d,t :: f,l,j=>by
  rw[Zp,ZA,ZA,Xv,Xv,pZ (by simpa using l) (by simpa using j)];have:decide (k=kk)=eqT (aK k) (aK kk):=by rw[Wj,decide_eq_true_eq];exact(fY kk k).symm
  rw[this]
 |_ :: _,[],_,h,_=>by simp at h
 |_ :: _,_ :: _,[],_,h=>by simp at h
def lz{H:Hp}{kk:Key}{q:V}{t:T}(u:Rp G H q t []){a:List Key}{g:List V}{j:V4}{s:Yd}(d:a.length=g.length)(l:xh G H g j s) :
  ∃(r:List Key)(f:List V)(n:V4)(m:Yd),putK (a.zip g) kk q=r.zip f/\r.length=f.length/\dput ((a.map aK).zip j) (aK kk) t=(r.map aK).zip n/\xh G H f n m/\m.flatten.Sublist s.flatten:=by
 have an:=pZ (kk:=kk) d (d.trans l.len.1);unfold putK dput;rw[an];by_cases h:(((a.map aK).zip j).any λp=>eqT p.1 (aK kk))=J
 ·rw[Zn h,Zn h];obtain⟨f,n,m,y,x,h3,w,v⟩:=tf (kk:=kk) u d l;exact⟨a,f,n,m,y,x,h3,w,v⟩
 ·rw[Zj h,Zj h];refine⟨a++[kk],g++[q],j++[t],s++[[]],?_,by simp[d],?_,l.append (.cons u .nil),by simp⟩
  ·rw[XC d];rfl
  ·rw[Yy,XC (by rw[Zv];exact d.trans l.len.1)];rfl
def EI:AQ:=λo i v H Q=>Bf o i v H Q\/∃a d,o=.ref a/\uj H a i v d/\Q d
def AX(p:X.A.units+1<cLine):CA X EI:=by
 intro d s Z H o i v m n u Q I j l f h;rcases h with h | ⟨a,t,rfl,g,q⟩
 ·exact set_list d s Z H o i v m n u Q I j l f h
 ·cases j;exact uu p I g l f λw r=>⟨t,r,q⟩
end
def FR(K:Xd):Gx:=⟨K,λ_=>(0,λk=>⟨#[k]⟩),λ_=>Y⟩
end VS
end
section
namespace td
open PySem PySem.Spec PyProof.Rows
section
variable{X:Cx}
def rX(A:X.calm=J):dI X (.type "list") (λf H Q=>∃x:Str,f=[.str x]/\x.cps.size<=FS/\∀l,H l=Y->Q (.ref l) (upd H l (.lst (x.cps.toList.map λc=>V.str ⟨#[c]⟩)))):=by
 intro j s Z H f C Q I r h;obtain⟨x,rfl,m,q⟩:=h;obtain⟨u,rfl,t,rfl⟩:=vals1 r;refine call_list_str (I.ok.hd A) x t (λB D acc c kp g p=>?_) m;have z:aT (x.cps.toList.map λc=>V.str ⟨#[c]⟩) acc.toList:=by
  have key:∀(b:Vi)(a:Ws),b.length=a.length->(∀(i:Nat)(v:IR),a[i]?=O v->∃c u,b[i]?=O c/\v=.str ⟨#[c]⟩ u)->aT (b.map λc=>V.str ⟨#[c]⟩) a:=by
   intro b
   induction b with
   |nil =>
    intro a e _;cases a with
    |nil=>exact .nil
    |cons v a=>simp at e
   |cons c b y =>
    intro a e o;cases a with
    |nil=>simp at e
    |cons v a =>
     obtain⟨d,u,e1,e2⟩:=o 0 v M;cases e1;exact .cons ⟨u,e2⟩ (y a (by simpa using e) λi w hw=>by simpa using o (i+1) w (by simpa using hw))
  refine key _ _ (by rw[Yg,Yg,p.1]) λi v n=>?_;rw[Jb]at n;obtain⟨d,u,e1,e2⟩:=p.2 i v n;exact⟨d,u,by rw[Jb];exact e1,e2⟩
 refine⟨.ref s.heap.objs.size,_,I.laid kp (Zo _) (show bg X.prog X.w _ B _ (.lst (x.cps.toList.map λc=>V.str ⟨#[c]⟩)) from⟨by rw[Zv,Yg];exact m,acc.toList,c,z,g⟩),rfl,q _ (I.xa.fresh (Zo _))⟩
end
end td
namespace VS
open PySem PySem.Spec PyProof.Rows td
section
variable{G:Gx}{X:Cx}{a b c e tg:Expr}{es:List Expr}{ca cb cc ce ck:Ex}{cs:Gd}{pos p p1 p2 apos xt pos':Pos}{k k' kr:Nat}
def lR:V2->V3
 |[(m,.lst l)]=>Hw m l
 |[(m,.tup l)]=>Hw m l
 |[(_,.str s)]=>Hw .fr (s.map λc=>.str [c])
 |_=>Y
def vp:fE G (λg H Q=>Bc G.K g H Q\/∃x:Str,g=[.str x]/\x.cps.size<=FS/\∀l,H l=Y->Q (.ref l) (upd H l (.lst (x.cps.toList.map λc=>V.str ⟨#[c]⟩)))) lR:=by
 intro L U j H l d f m t Q A e k;unfold lR at e;split at e
 ·exact .inl (sL L U j H _ d f m t Q A e k)
 ·exact .inl (sL L U j H _ d f m t Q A e k)
 ·rename_i C x;obtain⟨v,F,rfl,rfl,i⟩:=(show xh G H d [.str x] f from A.rp).one;have h:=i.str_inv.2;refine .inr ⟨sx x,by rw[i.str_inv.1],?_,λq u=>?_⟩
  ·have:=h.1;simp only[sx,Zd];exact this
  ·have B:(sx x).cps.toList.map (λc=>V.str ⟨#[c]⟩)=(x.map λc=>[c]).map λs=>V.str (sx s):=by
    simp[sx]
   have z:(x.map λc=>T.str [c])=(x.map λc=>[c]).map T.str:=by simp
   rw[B];rw[z]at e;have n:=nK (G:=G) (H:=H) (ss:=x.map λc=>[c]) λs r=>by
    obtain⟨c,w,rfl⟩:=Yt.mp r;exact⟨by show 1<=fC;decide,λy o=>by rw[Zh.mp o];exact h.2 c w⟩
   refine iy A.same e n ?_ k q u;rw[lS];exact Fp.nil
 ·cases e
def zV(d:X.mg "list" = Y)(h:Ho G X [e] cs)(f:Gl X "list" := by rfl)(i:X.K=G.K:=by rfl)(g:X.calm=J:=by rfl)(he:K0 e [] X:=by rfl):PV G X (.Call (.Name "list" p) [e] [] pos) (eN lR cs) :=
 jW (nG.or (rX g)) (i ▸ vp) f d zO h (he:=he) (hpl:=rfl)
def t6(K:Xd):Ck (FR K):=λc k k' h=>by
 have:(#[k]:Array Nat)=#[k']:=congrArg Str.cps h;simpa using this
def DZ(i:Nat){x:Str}(J:Ck G)(hr:AU kr X.A)(hk:PV G X b ck)(he:PV G X e ce)(hN:X.N[i]?=O x)(hv:Ik X.env.scope x)(hd:K2 x)(Gc:K3 x)(ha:∀v,assign (.Subscript (.Name x p1) b pos') X.env v=(do
   let ov ← holding [v] (eval (.Name x p1) X.env)
   let iv ← holding [v,ov] (eval b X.env)
   standAt pos'
   holding [v,ov,iv] (setItem ov iv v)
   release [v,ov,iv] []))(hs:swapsWithSole [.Subscript (.Name x p1) b pos'] e pos.line X.env=pure S)(hw:swappedStores [.Subscript (.Name x p1) b pos'] e X.env=pure Y)(W:(assignEach [.Subscript (.Name x p1) b pos'] X.env).map (·.2)=[assign (.Subscript (.Name x p1) b pos') X.env]):PSV G X (.Assign [.Subscript (.Name x p1) b pos'] e pos) (tQ i [] ck ce) :=
 PS.weak (vn he (vX (fF hN hv hd Gc) hk (AX (oH hr)) ha) hs hw W) λD Z H hq=>by
  obtain⟨L,U,out,s,e,k⟩:=hq;unfold tQ at e;obtain⟨⟨mv,y⟩,ev,e⟩:=Zy.mp e;split at e
  ·rename_i x ht;obtain⟨ks,ek,e⟩:=Zy.mp e;cases (show O ([]:List Ky)=O ks from ek);obtain⟨⟨mk,I⟩,KS,e⟩:=Zy.mp e;obtain⟨⟨B,y'⟩,R,e6⟩:=Zm.mp e;cases e6;obtain⟨w,g1,g2⟩:=s.rp _ _ ht;obtain⟨F1,w2,w3,w5⟩:∃F1,Rp G H w x F1/\F1.Nodup/\∀o m,G6 G H w F1 B o m->G6 G H w (L i) B o m:=⟨L i,g2,s.nd i x ht,λ_ _ g=>g⟩
   clear g2;refine⟨L,U,mv,y,s,ev,λxv H1 Fv Iq rv fv=>⟨w,g1,L,U,mk,I,s.same Iq,KS,λkv q Fk Kg rk fk=>?_⟩⟩;have M:aO H q:=Iq.trans Kg;have MN:Rp G q xv y Fv:=rv.same Kg;have fin:∀o m,G6 G H w F1 B o m->D.nx Z o:=λo m g=>by
    obtain⟨z1,z2⟩:=s.mut ht g1 (w5 o m g);exact k _ Z o z1 z2
   refine td.gg λP_ k_=>?_;cases x with
   |lst l =>
    cases I with
    |int n =>
     obtain⟨tt,et,e7⟩:=Zy.mp (show ((fit (mv,y)).bind λt=>(GF l.length n).map λj=>(T.lst (l.set j t),()))=O (B,y') from R);obtain⟨j,ej,e8⟩:=Zm.mp e7;cases e8;have em:=sM et;cases em;obtain⟨a,C,Fs,rfl,rfl,Gq,P⟩:=w2.lst_inv;have Lr:q a=O (.lst C):=M a _ Gq;have nd:=ZS.mp w3;have na:a∉Fv:=λz=>by rw[fv.2 a z]at Gq;cases Gq
     have Q:FG (q a):=by rw[Lr];exact True.intro
     have off:∀f∈Fs.flatten,f∉Fv:=λf d hv=>FG.xb (P.F0 f d) (fv.2 f hv);refine k_ ?_;refine .inl ⟨a,C,n,j,rfl,rk.int_inv,Lr,by rw[← vq,P.len.1];exact ej,fin _ (a :: (Fs.set j Fv).flatten) ?_⟩;have keep:∀{u:V}{x:T}{F:X4},Rp G q u x F->a∉F->Rp G (upd q a (.lst (C.set j xv))) u x F:=λr hn=>r.keep (Kept.upd (.inl Q)) λf d o' Jy=>by rw[av (λz=>hn (by rw[← z];exact d))];exact Jy
     refine G6.upd M Zx Q (.lst aw ((((P.same M).off Q nd.1)).putAt j (keep MN na))) ?_ ?_
     ·rw[ZS];refine⟨λh=>?_,fG nd.2 fv.1 λi' m _ hi f d=>off f (dA hi d)⟩;rcases d4 h with z | ⟨i',m,_,W,h2⟩
      ·exact na z
      ·exact nd.1 (dA W h2)
     ·intro f d;rcases Zq.mp d with rfl | d
      ·exact .inl Zx
      ·rcases d4 d with z | ⟨i',m,_,W,h2⟩
       ·exact .inr (fv.2 f z)
       ·exact .inl (Zw _ (dA W h2))
    |_=>cases R
   |dct kd l =>
    cases kd with
    |zero =>
     have hc:(gG I=true/\FY y=true/\l.length<fC)/\B=.dct 0 (dput l I y):=by
      have Po:(if gG I/\FY y/\l.length<fC then O (T.dct 0 (dput l I y),()) else Y)=O (B,y'):=R;split at Po
      ·rename_i hc;cases Po;exact⟨hc,rfl⟩
      ·cases Po
     obtain⟨⟨c1,c2,c3⟩,rfl⟩:=hc;have eF:=MN.FY c2;subst eF;obtain⟨a,ns,C,ts,Fs,rfl,rfl,Gq,hl,rfl,P⟩:=gn w2;obtain⟨kk,rfl,Mw⟩:=eB rk c1;subst Mw;have Lr:q a=O (.dK (ns.zip C)):=M a _ Gq;have Q:FG (q a):=by rw[Lr];exact True.intro
     have nd:=ZS.mp w3;obtain⟨HS,Hs,HN,Hq,q1,q2,q3,q4,q5⟩:=lz (kk:=kk) MN hl (P.same M);have ln:(ns.zip C).length<sizeLine:=by
      have:((ns.map aK).zip ts).length<16777216:=c3;rw[Yx,Zv]at this;rw[Yx];have:=P.len.1;have:(FS:Nat)=16777216:=rfl;lia
     refine k_ ?_;refine .inr ⟨a,_,rfl,uj.k Lr ln,fin _ (a :: Hq.flatten) ?_⟩;rw[q1,q3];refine G6.upd M Zx Q (.dct aw q2 (q4.off Q λz=>nd.1 (q5.subset z))) ?_ ?_
     ·exact ZS.mpr ⟨λz=>nd.1 (q5.subset z),nd.2.sublist q5⟩
     ·intro f d;rcases Zq.mp d with rfl | d
      ·exact .inl Zx
      ·exact .inl (Zw _ (q5.subset d))
    |succ n=>cases R
   |_=>cases R
  ·cases e
end
end VS
end
section
open PySem PyProof.Rows
namespace TS
abbrev Ky:=Sum Int Str
def Hn:Ky->Ky->Bool
 |.inl i,.inl j=>decide (i<j)
 |.inr x,.inr y=>decide (x.cps.toList<y.cps.toList)
 |_,_=>S
def fh:List Ky->List Ky->Bool
 |[],[]=>S
 |[],_ :: _=>J
 |_ :: _,[]=>S
 |a :: d,b :: bs=>if a=b then fh d bs else Hn a b
def kind(k:Ky):Bool:=k.isLeft
def yY{x y:Str}(h:x.cps.toList=y.cps.toList):x=y:=by
 cases x;cases y;simp only[Str.mk.injEq];exact Array.toList_inj.mp h
def Ac(a:Ky):Hn a a=S:=by
 cases a with
 |inl i=>simp[Hn]
 |inr x=>simp[Hn,WU]
def p5{a b:Ky}(h:Hn a b=J):Hn b a=S:=by
 cases a<;>cases b<;>simp only[Hn,decide_eq_true_eq,decide_eq_false_iff_not,Ij]at h ⊢
 ·lia
 ·exact λq=>WU _ (Vo h q)
def vh{a b c:Ky}(h:Hn a b=J)(d:Hn b c=J):Hn a c=J:=by
 cases a<;>cases b<;>cases c<;>simp only[Hn,decide_eq_true_eq,Ij]at h d ⊢
 ·lia
 ·exact Vo h d
def sG{a b:Ky}(k:kind a=kind b)(h:Hn a b=S)(d:Hn b a=S):a=b:=by
 cases a<;>cases b<;>simp only[Hn,decide_eq_false_iff_not,kind,Sum.isLeft,Ve,Ij]at h d k ⊢
 ·congr 1;lia
 ·congr 1;exact yY (VM (Wq.mp d) (Wq.mp h))
theorem mG:∀{l m:List Ky},fh l m=J->fh m l=S
 |[],[],h=>by simp[fh]at h
 |[],_ :: _,_=>rfl
 |_ :: _,[],h=>by simp[fh]at h
 |a :: l,b :: m,h=>by
  unfold fh at h ⊢;by_cases e:a=b
  ·rw[Zn e]at h;rw[Zn e.symm];exact mG h
  ·rw[Zj e]at h;rw[Zj (Y2 e)];exact p5 h
theorem sk:∀{l m n:List Ky},l.map kind=m.map kind->m.map kind=n.map kind->fh m l=S->fh n m=S->fh n l=S
 |[],[],[],_,_,_,_=>rfl
 |[],[],_ :: _,_,h,_,_=>by simp at h
 |[],_ :: _,_,h,_,_,_=>by simp at h
 |_ :: _,[],_,h,_,_,_=>by simp at h
 |_ :: _,_ :: _,[],_,h,_,_=>by simp at h
 |a :: l,b :: m,c :: n,g,f,h3,d=>by
  simp only[Zp,YE]at g f;unfold fh at h3 d ⊢;by_cases e1:b=a
  ·subst e1;rw[Zn M]at h3;by_cases e2:c=b
   ·rw[Zn e2]at d ⊢;exact sk g.2 f.2 h3 d
   ·rw[Zj e2]at d ⊢;exact d
  ·rw[Zj e1]at h3;have p:Hn a b=J:=by
    cases q:Hn a b with
    |true=>rfl
    |false=>exact absurd (sG g.1 q h3).symm e1
   by_cases e2:c=b
   ·subst e2;rw[Zj e1];exact h3
   ·rw[Zj e2]at d;have j:Hn b c=J:=by
     cases q:Hn b c with
     |true=>rfl
     |false=>exact absurd (sG f.1 q d).symm e2
    have i:=vh p j;have o:c≠a:=λe=>by rw[e,Ac]at i;cases i
    rw[Zj o];exact p5 i
variable{prog:PP}{w:SL}{A:Pi}{E:Yu}{s:FB}
def LD:Ky->IR->Prop
 |.inl i,v=>∃t,v=.int i t
 |.inr x,v=>∃t,v=.str x t
inductive Hm:List Ky->Ws->Prop where
 |nil:Hm [] []
 |cons {k:Ky} {v:IR} {ks:List Ky} {vs:Ws}:LD k v->Hm ks vs->Hm (k :: ks) (v :: vs)
def LD.fn{k a:Ky}{v:IR}(h:LD k v)(b:LD a v):k=a:=by
 cases k<;>cases a<;>obtain⟨t,rfl⟩:=h<;>obtain⟨d,e⟩:=b<;>cases e<;>rfl
theorem Hm.fn:∀{d b:List Ky}{a:Ws},Hm d a->Hm b a->d=b
 |_,_,_,.nil,.nil=>rfl
 |_,_,_,.cons h q,.cons f e=>by rw[h.fn f,q.fn e]
def iO(h:SC)(v:IR)(a:List Ky):Prop:=∃b o items n,v=.ref b/\h.get? b=O o/\o.cls=.type "tuple" ∧ o.data=.seq items n/\Hm a items.toList
theorem iO.fn{h:SC}{v:IR}{f a:List Ky}(x:iO h v f)(y:iO h v a):f=a:=by
 obtain⟨b,o,items,n,rfl,g,_,d,k⟩:=x;obtain⟨q,m,r,p,e,i,_,j,l⟩:=y;cases e;rw[g]at i;cases i;rw[d]at j;cases j;exact k.fn l
def Ee{k a:Ky}{v b:IR}{Q:Bool->FB->Prop}(d:kind k=kind a)(h:LD k v)(f:LD a b)(q:Q (decide (k=a)) s):KB (FM prog w) A (eqBool v b) Q E s:=by
 cases k<;>cases a<;>simp only[kind,Sum.isLeft,Ve,Ij]at d<;>obtain⟨t,rfl⟩:=h<;>obtain⟨g,rfl⟩:=f
 ·exact wpAny_eqBool_int (by have e:∀i j:Int,(i==j)=decide (Sum.inl (β:=Str) i=.inl j):=λi j=>by by_cases z:i=j<;>simp[z]
                             rw[e];exact q)
 ·exact wpAny_eqBool_str (by simpa using q)
def DO{k a:Ky}{v d:IR}{b:Bool}{Q:Bool->FB->Prop}(f:kind k=kind a)(h:LD k v)(g:LD a d)(q:Q (Hn k a) s):KB (FM prog w) A (oneLt' b v d) Q E s:=by
 cases k<;>cases a<;>simp only[kind,Sum.isLeft,Ve,Ij]at f<;>obtain⟨t,rfl⟩:=h<;>obtain⟨e,rfl⟩:=g
 ·cases b with
  |true=>exact oneLt_int q
  |false =>
   rw[oneLt'_eq,Zj Za];exact Zz (PyProof.Rows.lt_int (Y4 q):KB (FM prog w) A (SB .Lt (.int _ t) (.int _ e)) _ E s)
 ·cases b with
  |true=>exact oneLt_str q
  |false =>
   rw[oneLt'_eq,Zj Za];exact Zz (PySem.P.lt_str (Y4 q):KB (FM prog w) A (SB .Lt (.str _ t) (.str _ e)) _ E s)
def uO(a b:Ky)(l m:List Ky):fh (a :: l) (b :: m)=if a=b then fh l m else Hn a b:=rfl
def C2{f:Bool}{x y:IR}{j t:List Ky}{Q:Bool->FB->Prop}(W:iO s.heap x j)(U:iO s.heap y t)(L:j.map kind=t.map kind)(q:Q (fh j t) s):KB (FM prog w) A (keyLt' (tuples' f) x y) Q E s:=by
 obtain⟨b,o,items,n,rfl,g,_,d,k⟩:=W;obtain⟨b',o',P,n',rfl,g',_,d',I⟩:=U;refine(show KB (FM prog w) A (Builtin.List.listItems (.ref b)>>=_) Q E s from ?_);refine Zz (Wx g d (Zz (Wx g' d' ?_)));have H:items.size=P.size:=by
  have e1:∀{j:List Ky}{l:Ws},Hm j l->j.length=l.length:=λh=>by induction h with | nil=>rfl | cons _ _ R=>simp[R]
  have Z:=e1 k;have X:=e1 I;have h3:=congrArg List.length L;simp at Z X h3;lia
 refine Zz (Xk _ (λrest b F=>b=(Y,())/\F=s/\∃(B z:List Ky)(l C:Ws)(i:Nat),rest=(l.zip C).zipIdx i/\Hm B l/\Hm z C/\B.map kind=z.map kind/\fh j t=fh B z) _ ?turn ?fin _ _ ⟨rfl,rfl,j,t,_,_,0,rfl,k,I,L,rfl⟩)
 case turn =>
  rintro x rest b F ⟨rfl,rfl,B,z,l,C,i,e,k1,k2,r,p⟩;cases k1 with
  |nil=>simp at e
  |@cons a v Tt UG N k1 =>
   cases k2 with
   |nil=>simp at e
   |@cons b u G UI M k2 =>
    simp only[ZA,XJ,YE]at e;obtain⟨rfl,rfl⟩:=e;simp only[Zp,YE]at r;refine Zz (Ee r.1 N M ?_);rw[uO]at p;by_cases D:a=b
    ·rw[Zn D]at p;rw[ZR D,Zj (by simp)];exact Zs ⟨rfl,rfl,Tt,G,UG,UI,i+1,rfl,k1,k2,r.2,p⟩
    ·rw[Zj D]at p;rw[ZJ D,Zn (by simp)];refine Zz (m:=oneLt' _ v u) (DO r.1 N M (Zs (Zs ?_)));rw[← p];exact q
 case fin =>
  rintro b F ⟨rfl,rfl,B,z,l,C,i,e,k1,k2,r,p⟩;have:fh j t=decide (items.size<P.size):=by
   rw[p,H];cases k1 with
   |nil =>
    cases k2 with
    |nil=>simp[fh]
    |cons _ _=>simp at r
   |cons _ _ =>
    cases k2 with
    |nil=>simp at r
    |cons _ _=>simp at e
  refine Zs ?_;rw[← this];exact q
theorem nC{α β:Type}{f:α->Sem β}{P:β->Prop}:∀{b:List α}{Q:List β->FB->Prop},(∀v∈b,∃x,P x/\∀(Q:β->FB->Prop),Q x s->KB (FM prog w) A (f v) Q E s)->(∀a:List β,a.length=b.length->(∀x∈a,P x)->Q a s)->KB (FM prog w) A (b.mapM f) Q E s
 |[],Q,_,q=>by
  rw[List.mapM_nil];exact Zs (q [] M (by simp))
 |v :: b,Q,h,q=>by
  rw[List.mapM_cons];obtain⟨x,px,g⟩:=h v Zx;refine Zz (g _ (Zz (nC (λu i=>h u (Zw _ i)) λa l j=>Zs (q _ (by simp[l]) λy d=>?_))));rcases Zq.mp d with e | e
  ·rw[e];exact px
  ·exact j y e
def v3{u:Ws}{k0:Bool}{sh:List Bool}{Q:SortKind->FB->Prop}(h2:0<u.length)(Z:∀v∈u,∃D,iO s.heap v D/\D.map kind=k0 :: sh)(q:Q (tuples' J) s):KB (FM prog w) A (keyKind' u.toArray) Q E s:=by
 have fst:∀v∈u,∃x,(∀(Q:Vj->FB->Prop),Q (O x) s->KB (FM prog w) A (firstOfTuple' v) Q E s)/\(∀(Q:Yu),Q (.type (if k0 then "int" else "str")) s->KB (FM prog w) A (typeOf x) Q E s):=λv r=>by
  obtain⟨D,⟨b,o,items,n,rfl,g,c,d,k⟩,B⟩:=Z v r;cases F:items.toList with
  |nil =>
   rw[F]at k;cases k;simp at B
  |cons x j =>
   rw[F]at k;cases k with
   |@cons a _ Tt _ I k1 =>
    simp only[Zp,YE]at B;have X:items[0]?=O x:=by rw[← Jb,F];rfl
    refine⟨x,λQ q=>?_,λQ q=>?_⟩
    ·refine(show KB _ _ (typeOf (.ref b)>>=_) _ _ _ from Zz (wpAny_typeOf (T := "tuple") ⟨o,g,c⟩ ?_));rw[Zj (by decide)];refine Zz (Wx g d (Zs ?_));rw[X];exact q
    ·cases a with
     |inl i =>
      obtain⟨t,rfl⟩:=I;have:k0=J:=B.1.symm;subst this;exact wpAny_typeOf (T := "int") M q
     |inr y =>
      obtain⟨t,rfl⟩:=I;have:k0=S:=B.1.symm;subst this;exact wpAny_typeOf (T := "str") M q
 obtain⟨m,L⟩:∃m:String,m=(if k0 then "int" else "str"):=⟨_,rfl⟩
 have Jm:(Value.type m != Value.type "tuple")=J:=by subst L;cases k0<;>decide
 rw[← L]at fst;have mp:∀{α β:Type}(f:α->Sem β)(l:List α)(Q:Array β->FB->Prop),KB (FM prog w) A (l.mapM f) (λj R=>Q j.toArray R) E s->KB (FM prog w) A (l.toArray.mapM f) Q E s:=λf l Q r=>by
  rw[List.mapM_toArray];exact Zz (Yj r (λ_ _ z=>Zs z) λ_ _ e=>e)
 rw[keyKind'_eq];refine Zz (mp _ _ _ (nC (P:=λo=>∃x,o=O x/\∀(Q:Yu),Q (.type m) s->KB (FM prog w) A (typeOf x) Q E s) (λv r=>by
  obtain⟨x,h1,h3⟩:=fst v r;exact⟨O x,⟨x,rfl,h3⟩,h1⟩) λj hl G=>?_))
 rw[Zn (by
  rw[List.all_toArray,ZD];intro o p;obtain⟨x,rfl,_⟩:=G o p;rfl)]
 refine Zz (XW (Zz ?_));rw[oneTypeOnly'_eq];have hf:(j.toArray.filterMap id)=(j.filterMap id).toArray:=by simp
 rw[hf];refine Zz (mp _ _ _ (nC (P:=λty=>ty=Value.type m) (λv r=>by
  obtain⟨o,p,e⟩:=WV.mp r;obtain⟨x,rfl,h3⟩:=G o p;cases e;exact⟨_,rfl,h3⟩) λC Ge H=>?_))
 have hfl:(j.filterMap id).length=j.length:=by
  have:∀l:List (Vj),(∀o∈l,∃x,o=O x)->(l.filterMap id).length=l.length:=λl=>by
   induction l with
   |nil=>intro _;rfl
   |cons o l U =>
    intro h;obtain⟨x,rfl⟩:=h o Zx;simp[U λo p=>h o (Zw _ p)]
  exact this j λo p=>let ⟨x,e,_⟩:=G o p;⟨x,e⟩
 cases C with
 |nil=>simp at Ge;lia
 |cons N C =>
  have e0:=H N Zx;subst e0;have e1:(Value.type m :: C).toArray[0]?=O (Value.type m):=rfl;rw[e1];dsimp only;rw[Zn (by
   rw[List.all_toArray,ZD];intro y W;rw[H y W];simp)]
  refine Zs (Zs ?_);simp only[Option.any_some,Jm];exact q
def GT(h:SC)(b:List Bool)(x:KF):Prop:=∃a,iO h x.1 a/\a.map kind=b
open Classical in
noncomputable def rT(h:SC)(x y:KF):Bool:=decide (∃b a,iO h x.1 b/\iO h y.1 a/\fh b a=J)
open Classical in
def lK{h:SC}{x y:KF}{b a:List Ky}(f:iO h x.1 b)(d:iO h y.1 a):rT h x y=fh b a:=by
 unfold rT;cases e:fh b a with
 |true=>exact ZR ⟨b,a,f,d,e⟩
 |false =>
  refine ZJ λ⟨m,l,j,i,g⟩=>?_;rw[j.fn f,i.fn d,e]at g;cases g
def yA{o:List Bool}{f:Bool}{h:SC}(n:∀v d,iO h v d->iO s.heap v d):GE prog w A E s (tuples' f) (GT h o) (rT h):=by
 refine⟨?_,?_,?_⟩
 ·rintro st x y Q g ⟨d,b,ex⟩ ⟨l,a,e⟩ q;rw[lt'_eq];refine ZX (WR ?_);rw[g];rw[lK b a]at q;exact ZX (wpS_lift (XR (C2 (n _ _ b) (n _ _ a) (ex.trans e.symm) ⟨rfl,Zg q⟩)))
 ·rintro x y ⟨d,b,_⟩ ⟨l,a,_⟩ q;rw[lK b a]at q;rw[lK a b];exact mG q
 ·rintro x y z ⟨d,b,ex⟩ ⟨l,a,e⟩ ⟨r,m,p⟩ j i;rw[lK a b]at j;rw[lK m a]at i;rw[lK m b];exact sk (ex.trans e.symm) (e.trans p.symm) j i
end TS
end
section
namespace ST
open PySem PySem.Spec PyProof.Rows
variable{prog:PP}{w:SL}{A:Pi}{E:Yu}{s:FB}
abbrev dO(a:Array DictEntry)(b:Nat):Obj:={ cls:=.type "dict",data:=.dict a b }
abbrev kO(d:GM)(i n a:Nat):Obj:={ cls:=.type "dict_keyiterator",data:=.fields #[.ref d,.int i 0,.int n 0,.int a 0] }
def we{d:GM}{b:Array DictEntry}{e:Nat}{Q:Yu}(f:(d==sysModules)=S)(a:s.heap.get? d=O (dO b e))(q:Q (.ref s.heap.objs.size) { s with heap:=s.heap.push (kO d 0 b.size e) }) :
  KB (FM prog w) A (pyIter (.ref d)) Q E s:=by
 have ty:s.TypeIs (.ref d) "dict" := ⟨_,a,rfl⟩
 refine wpAny_pyIter_slot ty F.slot_dict_iter (Y8 F.slot_dict_iter ty F.entry_dict_iter (show KB _ _ (Builtin.«dict.__iter__» _) _ _ _ from ?_) (F.args_dict_iter_1 _));unfold Builtin.«dict.__iter__» Builtin.Dict.dictSlotNone Builtin.Dict.showsAll;refine Zz (Zz (wpAny_notOrdered_dict ty (show KB _ _ (pure (Value.ref d)) _ _ s from Zs (Zz (m:=Builtin.Dict.addrOf (.ref d)) (Zs ?_)))));rw[Zj (by rw[f];exact Za)];exact Zz (Zs (Zz (wpAny_dictEntries a M (Zz (wpAny_dictEpoch a M (Zz (Wt (Zs ⟨_,rfl, "dict_keyiterator",_,⟨_,Zc _ M,rfl⟩,XS.lookup,q⟩))))))))
def oJ{I d:GM}{i m:Nat}{h:Array DictEntry}{Q:Vj->FB->Prop}(u:A.handled=Y)(l:s.heap.get? I=O (kO d i h.size m))(n:s.heap.get? d=O (dO h m))(B:∀e,h[i]?=O e->∀a,Heap.SameBut I s.heap a->a.get? I=O (kO d (i+1) h.size m)->Q (O e.key) { s with heap:=a })(z:h[i]?=Y->∀a,(∀b o,b≠I->s.heap.get? b=O o->a.get? b=O o)->Q Y { s with heap:=a }):KB (FM prog w) A (pyNext (.ref I)) Q E s:=by
 have ty:s.TypeIs (.ref I) "dict_keyiterator" := ⟨_,l,rfl⟩
 unfold pyNext;refine Zz (XR (Vr (name:=Str.ofString "__next__") ty XS (Y8 XS ty F.entry_dict_keyiterator_next (Yj
  (Q:=λf j=>∃v,f=.done (.ret v)/\Q (O v) j) (E:=λe j=>∃x,e=.ref x/\(∃o,j.heap.get? x=O o/\o.cls=.type "StopIteration")/\Q Y j) ?_ (λf j ⟨v,e,q⟩=>⟨v,e,Zs q⟩) λe j ⟨x,e1,⟨o,g,c⟩,q⟩=>?_) (F.args_dict_keyiterator_next_1 _))))
 ·refine Zz (Zs (Zz (Zz (Zz (Wa ty (Zs (Zz (wpAny_fieldsOf l M ?_))))))));have own:Builtin.Dict_items.ownsTuple "dict_keyiterator" = S:=rfl;simp only[own,Ij,↓reduceIte];refine(show KB _ _ (if (Value.ref d==Value.none)=J then _ else _) _ _ s from ?_);rw[Zj (λe:(Value.ref d==Value.none)=true=>Za e)];refine Zz (Zs (Zz (wpAny_dictEntries n M ?_)));rw[Zj (by simp)];refine Zz (Zs (Zz (wpAny_dictEpoch n M ?_)));rw[Zj (by simp)];refine Zs ?_;simp only[show ¬((i:Int)<0) from by lia,↓reduceIte,Ye];cases p:h[i]? with
  |some e =>
   dsimp only;have r:(s.heap.update I (Obj.mapFields (·.setIfInBounds 1 (rawInt ((i:Int)+1))))).get? I=O (kO d (i+1) h.size m):=Vf _ l M;refine Zz (Zz (Wa ty (Zs (Zz (wpAny_isOneOf_keyiter ty ?_)))));refine(show KB _ _ (setField (.ref I) 1 (rawInt ((i:Int)+1))>>=_) _ _ s from Zz (wpAny_setField l M (by show 1<4;decide) (Zz (YU ?_))));refine Zz (wpAny_isOneOf_keyiter (s:={ s with heap:=s.heap.update I (Obj.mapFields (·.setIfInBounds 1 (rawInt ((i:Int)+1)))) }) ⟨_,r,rfl⟩ ?_);refine(show KB _ _ (pure e.key) _ _ _ from Zs (Zs ⟨_,rfl,B e p _ (WI ..) r⟩))
  |none =>
   dsimp only;refine Zz (Zz (Wa ty (Zs ?_)));refine(show KB _ _ (setField (.ref I) 0 .none>>=_) _ _ s from Zz (wpAny_setField l M (by show 0<4;decide) (El u λa x kp t=>⟨x,rfl,t,z p a λb o y e=>kp b o ?_⟩)));rw[XU _ _ (Y2 y)];exact e
 ·subst e1;exact Zz (Wf (T := "StopIteration") (b:=J) ⟨o,g,c⟩ isSubtype_stop (Zs q))
end ST
end
section
namespace td
open PySem PySem.Spec PyProof.Rows TS
section
variable{X:Cx}
theorem wN:∀{b:List Key}{a:Ws},aT (b.map kV) a->Hm b a
 |[],[],_=>.nil
 |k :: b,v :: a,h=>by
  cases h with
  |cons r q =>
   refine .cons ?_ (wN q);cases k with
   |inl i=>exact r
   |inr x=>exact r
def zf{P:PP}{w:SL}{H:Hp}{h:SC}{a:GM}{b:List Key}(f:Gn P w H h)(e:H a=O (.tup (b.map kV))):iO h (.ref a) b:=by
 obtain⟨_,d,r,_,o,i,g,n,h3⟩:=(show bg P w H h a (.tup (b.map kV)) from f a _ e)
 exact⟨a,o,d.toArray,n,rfl,i,g,h3,wN r⟩
end
end td
end
section
namespace VS
open PySem PySem.Spec PyProof.Rows td TS
section
variable{G:Gx}{X:Cx}{a b c e tg:Expr}{es:List Expr}{ca cb cc ce ck:Ex}{cs:Gd}{pos p p1 p2 apos xt pos':Pos}{k k' kr:Nat}
def kT(k:List Key):T:=.tup (k.map aK)
theorem oK:∀(k k':List Key),iR (k'.map aK) (k.map aK)=J↔k'=k
 |[],[]=>by simp[iR]
 |[],_ :: _=>by simp[iR]
 |_ :: _,[]=>by simp[iR]
 |a :: k,b :: k'=>by
  simp only[Zp,iR,Yz,oK k k',fY,YE]
def BY(k d:List Key):eqT (kT d) (kT k)=J↔d=k:=by
 unfold kT;simp only[eqT];exact oK k d
def Ay(k d:List Key):eqT (kT d) (kT k)=decide (d=k):=by rw[Wj,decide_eq_true_eq];exact BY k d
end
end VS
namespace VS
open PySem PySem.Spec PyProof.Rows td
def tm{G:Gx}{X:Cx}{i:Int}{j:Nat}{a p:Pos}:PV G X (.UnaryOp .USub (.Constant (.int i) j p) a) (Q3 (-i)) :=
 PE.weak (EA BG wg) λZ H Q b=>by
  obtain⟨L,U,m,t,s,e,k⟩:=b;cases (show O (Md.fr,T.int (-i))=O (m,t) from e);exact⟨i,rfl,k _ H [] (aO.refl _) (.int _) Fp.nil⟩
end VS
end
section
namespace td
open PySem PySem.Spec PyProof.Rows
section
variable{X:Cx}
def zN:V->List V->Hp->VK->Prop:=λx d H Q=>∃(a:GM)(b:List (Key×V))(k:Key)(y:V),x=.ref a/\d=[kV k,y]/\H a=O (.dK b)/\b.length<FS ∧
 (∀v,cp b k=O v->Q v H)/\(cp b k=Y->Q y (upd H a (.dK (putK b k y))))
def um:OE X "dict.setdefault" zN:=by
 intro i s Z H x R v U Q I o p h;obtain⟨a,f,k,y,rfl,rfl,e,W,A,t⟩:=h;cases o;obtain⟨u,n,rfl,r,l⟩:=p.two;obtain⟨z,hd,g,rel,j⟩:=qA I.xa e;have B:g.length<=sizeLine:=by rw[← rel.length];exact z
 have b:=rel.val k;refine call_meetsIn Xi j.typeIs PySem.F.entry_dict_setdefault (VP _ _ _) (kt_meets_setdefault (aN X.prog X.w) a (jZ r) hd n) ⟨g,j,B,λv C=>?_,λL N m D=>?_⟩
 ·rw[C]at b;cases d:cp f k with
  |none=>rw[d]at b;cases b
  |some w =>
   rw[d]at b;exact⟨w,H,I.tok _,b,A w d⟩
 ·rw[L]at b;have d:cp f k=Y:=by
   cases d:cp f k with
   |none=>rfl
   |some w=>rw[d]at b;cases b
  have P:(putK f k y).length<=sizeLine:=by have:=eZ f k y;lia
  have M:∃q,N.get? a=O q:=let ⟨q,_,_,G,_⟩:=m;⟨q,G⟩
  exact⟨y,_,iC I (by rw[e];exact True.intro) D M (ox P hd (rel.put k l) m),l,t d⟩
end
end td
namespace VS
open PySem PySem.Spec PyProof.Rows td
section
variable{G:Gx}{X:Cx}{a b c e o tg:Expr}{es:List Expr}{ca cb cc ce ck cv:Ex}{cs:Gd}{pos p p1 p2 apos xt pos' JE Ib lp:Pos}{k k' kr i:Nat}
def cE(l:List (T×T))(k:T):List (T×T):=if (bO l k).isSome then l else l++[(k,.lst [])]
noncomputable def i8(i:Nat)(k:Ex)(v:Gd)(U:VS.Env):Option Out:=match U[i]? with
 |some (some (.ow (.dct 0 l)))=>(k U).bind λd=>if gG d.2/\l.length<fC then
   (v (U.set i (O (.ow (.dct 0 (cE l d.2)))))).bind λf=>(pm (λx=>bz x f) [.at d.2] (.dct 0 (cE l d.2))).map λz=>.nx (U.set i (O (.ow z.1))) else Y
 |_=>Y
def G6.none{H f:Hp}{v:V}{F:X4}{t:T}(d:aO H f)(r:Rp G H v t F)(g:F.Nodup):G6 G H v F t f F :=
 ⟨Kept.of d,λb o _ h=>d b o h,λb h z=>h (d.free z),r.same d,g,λa j=>.inl j⟩
def BX{H:Hp}{f:T->Option (T×Val)}{d:Key}{a:GM}{h:List (T×T)}{m:T}{F:X4}{y:Val}{R:List (Key×V)}{w:V}(r:Rp G H (.ref a) (.dct 0 h) F)(D:F.Nodup)(e:pm f [.at (aK d)] (.dct 0 h)=O (m,y))(h3:H a=O (.dK R))(hw:cp R d=O w) :
  ∃x v A,Rp G H w x v/\v.Nodup/\f x=O (A,y)/\∀t U,G6 G H w v A t U->∃F',G6 G H (.ref a) F m t F':=by
 have e:((h.findIdx? λp=>eqT p.1 (aK d)).bind λi=>(h[i]?).bind λp=>(pm f [] p.2).map λz=>(T.dct 0 (h.set i (p.1,z.1)),z.2))=O (m,y):=by
  cases d<;>exact e
 obtain⟨i,M,e⟩:=Zy.mp e;obtain⟨p,L,e⟩:=Zy.mp e;obtain⟨⟨z,y'⟩,e1,e2⟩:=Zm.mp e;cases e2;obtain⟨a',ns,Z,l,Fs,ea,rfl,I,s,rfl,q⟩:=gn r;cases ea;rw[h3]at I;cases I;have W:(ns.map aK).length=l.length:=by rw[Zv];exact s.trans q.len.1
 obtain⟨k0,j,P,N,g3,g4⟩:=o9 (λn=>eqT n (aK d)) W M;have ep:p=(k0,j):=by
  have:((ns.map aK).zip l)[i]?=O (k0,j):=by rw[XI];exact⟨P,N⟩
  rw[this]at L;exact(ZK L).symm
 subst ep;obtain⟨u,Fi,C,B,u3⟩:=q.get i N;have Q:cp (ns.zip Z) d=O u:=tH (by simpa using W) s M C;rw[hw]at Q;cases Q;refine⟨j,Fi,z,u3,((ZS.mp D).2).sublist (gD B),e1,λt U g=>?_⟩;obtain⟨s1,s2,s3,s4,s5⟩:=sT h3 q D C B g;refine⟨_,g.kept,s5,g.F0,?_,s3,s4⟩;rw[oy (ns.map aK) l i k0 z P];exact .dct s1 s s2
def wU(J:Ck G)(i:Nat){x:Str}(hk:PV G X b ck)(hv:Ho G X [e] cs)(hK:X.K=G.K)(hN:X.N[i]?=O x)(L9:Ik X.env.scope x)(hd:K2 x)(Gc:K3 x)(N0:SZ (.Name x p1) "setdefault" X.env (eval (.Name x p1) X.env)=eval (.Name x p1) X.env)(RE:((backTo Ib (KM [b,.List [] lp] X.env)).all (λx=>!x.1)&&(backToKw Ib (P3 [] X.env)).all (λx=>x.1.isSome)
   && decide ([b,Expr.List [] lp].length+([]:List Keyword).length+(if ([]:List Keyword).isEmpty then 0 else 1)<30))=true)(JN:(JE.endLine==Ib.line)=true)(NM:KM [b,.List [] lp] X.env=(S,eval b X.env) :: KM [.List [] lp] X.env)(Mb:KM [.List [] lp] X.env=(S,eval (.List [] lp) X.env) :: KM [] X.env)(O4:(backTo Ib (KM [.List [] lp] X.env)).any (·.1)=S)(Iy:SZ (.Call (.Attribute (.Name x p1) "setdefault" JE) [b,.List [] lp] [] Ib) "append" X.env (eval (.Call (.Attribute (.Name x p1) "setdefault" JE) [b,.List [] lp] [] Ib) X.env)=eval (.Call (.Attribute (.Name x p1) "setdefault" JE) [b,.List [] lp] [] Ib) X.env)(RD:((backTo xt (KM [e] X.env)).all (λx=>!x.1)&&(backToKw xt (P3 [] X.env)).all (λx=>x.1.isSome)
   && decide ([e].length+([]:List Keyword).length+(if ([]:List Keyword).isEmpty then 0 else 1)<30))=true)(Ge:(apos.endLine==xt.line)=true)(G4:K0 e [] X)(KH:(backTo xt (KM [] X.env)).any (·.1)=S)(NI:swapsWith (.Call (.Attribute (.Call (.Attribute (.Name x p1) "setdefault" JE) [b,.List [] lp] [] Ib) "append" apos) [e] [] xt) Y pos.line X.env=pure S) :
  PSV G X (.Expr (.Call (.Attribute (.Call (.Attribute (.Name x p1) "setdefault" JE) [b,.List [] lp] [] Ib) "append" apos) [e] [] xt) pos) (i8 i ck cs) :=
 PS.weak (ny (rZ WB WE WG iz
  (rZ PySem.F.plainAttrs_dict Xi PySem.F.type_dict_setdefault um (fF hN L9 hd Gc) (d5 hk (d5 (nO fJ) fJ Mb) NM) N0 RE JN NM O4) hv Iy RD Ge G4 KH) NI) λD Z H B=>by
  obtain⟨L,U,out,s,e,k⟩:=B;refine td.gg λP_ A=>?_;unfold i8 at e;split at e
  ·rename_i l R;obtain⟨⟨mk,tk⟩,KS,e⟩:=Zy.mp e;split at e
   ·rename_i hc;obtain⟨c1,c2⟩:=hc;obtain⟨lv,ev,e⟩:=Zy.mp e;obtain⟨⟨t',y'⟩,e5,e6⟩:=Zm.mp e;cases e6;obtain⟨v,g1,g2⟩:=s.rp _ _ R;have Kh:=s.nd i _ R;obtain⟨a,ns,f,m,Fs,rfl,eΦ,ha,G7,el,t⟩:=gn g2;subst el;rw[eΦ]at Kh;refine A ?_;refine⟨.ref a,g1,by rw[hK];exact .inr (.inr (.inl ⟨rfl,.inl ⟨_,ha⟩⟩)),?_⟩;refine⟨L,U,mk,tk,s,KS,λkv n Fk Iq rk fk=>⟨ZN _,λq B=>?_⟩⟩;refine td.gg λP_ A=>?_;obtain⟨d,rfl,Pc⟩:=eB rk c1;dsimp only at Pc KS e5 ev c1;subst Pc;refine A ?_;have fin:∀(r:Hp)(P:X4)(LZ:List (Key×V))(w:V),G6 G H (.ref a) (L i) (.dct 0 (cE ((ns.map aK).zip m) (aK d))) r P->r a=O (.dK LZ)->cp LZ d=O w →
      tyV X.K "list" w r/\Nh G cs Z r (λLJ H4=>kg w LJ H4 (λ_ I=>D.nx Z I)):=λr P LZ w g h3 hw=>by
     refine td.gg λP_ A=>?_;obtain⟨z1,z2⟩:=s.mut R g1 g;have Ma:(U.set i (O (.ow (.dct 0 (cE ((ns.map aK).zip m) (aK d))))))[i]?=O (O (.ow (.dct 0 (cE ((ns.map aK).zip m) (aK d))))):=by
      have hi:i<U.length:=(ZW.mp R).1;rw[Xn hi]
     obtain⟨x',F1,x3,w2,w3,w4,w5⟩:=BX g.rp g.nd e5 h3 hw;refine A ?_;refine⟨by rw[hK];exact hJ w2 w4,iH L i P,_,lv,z1,ev,λLJ H4 SX q1 q2 q3=>?_⟩;refine jR (iH L i P) _ r H4 w x' x3 F1 lv LJ SX y' _ w2 w3 ⟨q1,q2,q3⟩ w4 λu I F' g5=>?_;obtain⟨F2,g6⟩:=w5 I F' g5;have g6':G6 G r (.ref a) (iH L i P i) t' I F2:=by rw[fZ];exact g6
     obtain⟨y1,y2⟩:=z1.mut Ma g1 g6';rw[List.set_set]at y1 y2;exact k _ Z I y1 (z2.trans y2)
    have IJ:aO n (upd n q (.lst [])):=bT B;have Q:aO H (upd n q (.lst [])):=Iq.trans IJ;have HV:upd n q (.lst []) a=O (.dK (ns.zip f)):=Q a _ ha;have ln:(ns.zip f).length<sizeLine:=by
     have:((ns.map aK).zip m).length<16777216:=c2;rw[Yx,Zv]at this;rw[Yx];have:=t.len.1;have:(FS:Nat)=16777216:=rfl;lia
    have dg:=kl (G:=G) (k:=d) G7 t;refine⟨a,ns.zip f,d,.ref q,rfl,rfl,HV,ln,λw hw=>?_,λhn=>?_⟩
    ·refine fin _ (a :: Fs.flatten) (ns.zip f) w ?_ HV hw;have es:cE ((ns.map aK).zip m) (aK d)=(ns.map aK).zip m:=by
      unfold cE;rcases dg with⟨C,W⟩ | ⟨_,_,t2,_,C,_⟩
      ·rw[W]at hw;cases hw
      ·rw[C];rfl
     rw[es,eΦ];exact G6.none Q (by rw[eΦ]at g2;exact g2) Kh
    ·have es:cE ((ns.map aK).zip m) (aK d)=((ns++[d]).map aK).zip (m++[.lst []]):=by
      unfold cE;rcases dg with⟨C,W⟩ | ⟨_,_,t2,_,C,W,_⟩
      ·rw[C,Zj (by simp),Yy,XC (by rw[Zv];exact G7.trans t.len.1)];rfl
      ·rw[W]at hn;cases hn
     have ep:putK (ns.zip f) d (.ref q)=(ns++[d]).zip (f++[.ref q]):=by
      unfold putK;rw[hU,hn,Zj (by simp),XC G7];rfl
     have qa:q≠a:=λz=>by
      have:n a=O (.dK (ns.zip f)):=Iq a _ ha;rw[← z,B]at this;cases this
     have qH:H q=Y:=Iq.free B;have m2:FG (upd n q (.lst []) a):=by rw[HV];exact True.intro
     have nd:=ZS.mp Kh;have qF:q∉Fs.flatten:=λz=>FG.xb (t.F0 q z) qH;have RW:upd (upd n q (.lst [])) a (.dK (putK (ns.zip f) d (.ref q))) q=O (.lst []):=by rw[av qa,aw]
     have rq:Rp G (upd (upd n q (.lst [])) a (.dK (putK (ns.zip f) d (.ref q)))) (.ref q) (.lst []) (q :: ([]:Yd).flatten):=.lst RW .nil;refine fin _ (a :: (Fs++[[q]]).flatten) (putK (ns.zip f) d (.ref q)) (.ref q) ?_ aw (by rw[wI,Zn M]);rw[es,eΦ];refine G6.upd Q Zx m2 (.dct (by rw[aw,ep]) (by simp[G7]) (((t.same Q).off m2 nd.1).append (.cons rq .nil))) ?_ ?_
     ·rw[IG];refine ZS.mpr ⟨λz=>?_,ZG.mpr ⟨nd.2,by simp,λx hx y j z=>?_⟩⟩
      ·rcases Zb.mp z with z | z
       ·exact nd.1 z
       ·have h:a=q:=by simpa using z
        exact qa h.symm
      ·subst z;exact qF (by simpa[show x=q by simpa using j] using hx)
     ·intro y j;rcases Zq.mp j with rfl | j
      ·exact .inl Zx
      ·rw[IG]at j;rcases Zb.mp j with j | j
       ·exact .inl (Zw _ j)
       ·rw[show y=q by simpa using j];exact .inr qH
   ·cases e
  ·cases e
end
end VS
end
section
namespace td
open PySem PySem.Spec PyProof.Rows
def DL{X:Cx}{b:Yf}{Z:St}{H:Hp}{s:FB}{p:GM}{f:List (bu×GM×V)}(I:Inv X b Z H s)(e:H p=O (DN p f)):s.TypeIs (.ref p) "dict" ∧ ∀a,Value.ref p=.ref a->∃d,s.heap.get? a=O d/\d.dict=Y:=by
 obtain⟨⟨_,_,_,_,o,_,_,g,ex,_⟩,_⟩:=(show bg X.prog X.w H s.heap p (DN p f) from I.xa p _ e)
 refine⟨⟨o,g,ex.1⟩,λa e2=>?_⟩;cases e2;exact⟨o,g,ex.2.1⟩
def KZ(x:V)(H:Hp):Prop:=∃p a,x=.ref p/\H p=O (DN p a)
def EL(r:V->List V->Hp->VK->Prop)(d:TE)(t:TA):TE:=λZ H Q=>d Z H λx a=>KZ x a/\t Z a λb e=>r x b e Q
section
variable{X:Cx}{o e:Expr}{es:List Expr}{to:TE}{t:TA}{name:Str}{apos xt:Pos}{id:String}{r:V->List V->Hp->VK->Prop}
def CN(b:Slot "dict" name id)(C:typeOf (.builtin id)=pure (.type "method_descriptor"))(y:OE X id r)(w:PE X o to)(z:PA X (e :: es) t)(D:SZ o name X.env (eval o X.env)=eval o X.env)(G:((backTo xt (KM (e :: es) X.env)).all (λx=>!x.1)&&(backToKw xt (P3 [] X.env)).all (λx=>x.1.isSome)
   && decide ((e :: es).length+([]:List Keyword).length+(if ([]:List Keyword).isEmpty then 0 else 1)<30))=J)(N:(apos.endLine==xt.line)=J)(q:K0 e es X)(P:K1 xt es X) :
  PE X (.Call (.Attribute o name apos) (e :: es) [] xt) (EL r to t):=by
 intro a s Z H Q I h;refine wpAny_Call_method_late D G N M (thn (w a s Z H _ I h) λv l ⟨x,U,f,r1,⟨p,W,ex,u⟩,n⟩=>?_);subst ex;obtain rfl:=(show v=Value.ref p from r1)
 obtain⟨B,A⟩:=DL f u;have d:=z xt a l Z U _ f n;refine⟨"dict",id,PySem.F.plainAttrs_dict,b,C,B,A,?_⟩;rw[q]at d ⊢;exact Calls.callWith_builtin (by show (S||(backTo xt (KM es X.env)).any (·.1))=S;rw[P];rfl) (Calls.evalArgs_plain (thn d λi j ⟨g,R,L,r2,m⟩=>y a j Z R (.ref p) g _ i Q L M r2 m))
end
end td
namespace VS
open PySem PySem.Spec PyProof.Rows td
def QA:T->Option Key
 |.int i=>O (.inl i)
 |.str x=>O (.inr (sx x))
 |_=>Y
def OU:T->Option (List Key)
 |.tup l=>l.mapM QA
 |_=>Y
def Al:T->Option bu
 |.tup l=>l.mapM OU
 |_=>Y
def AN{t:T}{i:Key}(h:QA t=O i):t=aK i:=by cases t<;>simp[QA]at h<;>subst h<;>rfl
theorem kW{α β:Type}{f:α->Option β}{g:β->α}(h:∀a b,f a=O b->a=g b):∀{l:List α}{m:List β},l.mapM f=O m->l=m.map g
 |[],m,e=>by simp at e;subst e;rfl
 |a :: l,m,e=>by
  simp only[List.mapM_cons,Option.pure_def,Option.bind_eq_bind]at e;obtain⟨b,i,e⟩:=Zy.mp e;obtain⟨bs,d,e⟩:=Zy.mp e;cases e;rw[Zp,← h a b i,← kW h d]
def yV{t:T}{k:List Key}(h:OU t=O k):t=.tup (k.map aK):=by
 cases t with
 |tup l=>exact congrArg T.tup (kW (λa b=>AN) h)
 |_=>simp[OU]at h
def vM{t:T}{k:bu}(h:Al t=O k):t=FP k:=by
 cases t with
 |tup l=>exact congrArg T.tup (kW (λa b=>yV) h)
 |_=>simp[Al]at h
section
variable{G:Gx}{X:Cx}{a b c e o tg:Expr}{es:List Expr}{ca cb cc ce ck cv:Ex}{cs:Gd}{pos p p1 p2 apos xt pos' JE Ib lp:Pos}{k k' kr i:Nat}
def Rp.QI{H:Hp}{v:V}{k:Key}{F:X4}(r:Rp G H v (aK k) F):v=kV k:=by
 obtain⟨q,rfl,e⟩:=eB r (by cases k<;>rfl);rw[(fY q k).mp (e ▸ (fY q q).mpr M)]
theorem xh.ints{H:Hp}:∀{k:List Key}{d:List V}{f:Yd},xh G H d (k.map aK) f->d=k.map kV
 |[],_,_,r=>by rw[YI]at r;cases r;rfl
 |i :: k,_,_,r=>by
  rw[Zp]at r;cases r with
  |cons h t=>rw[Zp,← xh.ints t,Rp.QI h]
def Rp.GJ{H:Hp}{v:V}{ts:V4}{F:X4}(r:Rp G H v (.tup ts) F):∃b vs Fs,v=.ref b/\H b=O (.tup vs)/\xh G H vs ts Fs:=by
 cases r with
 |tup h q=>exact⟨_,_,_,rfl,h,q⟩
def Bt{H:Hp}{v:V}{k:bu}{F:X4}(r:Rp G H v (FP k) F):∃b,v=.ref b/\Hz H k b:=by
 obtain⟨b,d,f,rfl,h,q⟩:=Rp.GJ r;have all:∀{k:bu}{d:List V}{f:Yd},xh G H d (k.map λx=>T.tup (x.map aK)) f->∃cs:X4,d=cs.map V.ref/\Paired (λ(x:List Key) (c:GM)=>H c=O (.tup (x.map kV))) k cs:=by
  intro k
  induction k with
  |nil=>intro d f q;rw[YI]at q;cases q;exact⟨[],rfl,.nil⟩
  |cons x k l =>
   intro d f q;rw[Zp]at q;cases q with
   |cons h t =>
    obtain⟨c,m,n,rfl,g,j⟩:=Rp.GJ h;obtain⟨cs,e,pr⟩:=l t;rw[xh.ints j]at g;exact⟨c :: cs,by rw[e];rfl,.cons g pr⟩
 obtain⟨cs,e,pr⟩:=all q;exact⟨b,rfl,cs,by rw[h,e],pr⟩
def kY:∀(x y:bu),eqT (FP x) (FP y)=decide (x=y):=by
 intro x y;unfold FP;rw[eqT]
 induction x generalizing y with
 |nil=>cases y<;>simp[iR]
 |cons i x d =>
  cases y with
  |nil=>simp[iR]
  |cons j y =>
   rw[Zp,Zp,iR,d y,show eqT (T.tup (i.map aK)) (T.tup (j.map aK))=decide (i=j) from Ay j i];simp only[YE,Bool.decide_and]
abbrev Gh(f:List (bu×GM))(d:List V):List (bu×GM×V):=(f.zip d).map λp=>(p.1.1,p.1.2,p.2)
theorem lX{H:Hp}{k:bu}:∀{d:List (bu×GM)}{f:List V}{ts:V4}{Fs:Yd},d.length=f.length->xh G H f ts Fs →
  (((d.map λp=>FP p.1).zip ts).findIdx? (λq=>eqT q.1 (FP k))=Y/\Ie (Gh d f) k=Y) ∨
  ∃(j:Nat)(v:V)(t:T)(F:X4),((d.map λp=>FP p.1).zip ts).findIdx? (λq=>eqT q.1 (FP k))=O j/\(d.map λp=>FP p.1)[j]?=O (FP k)/\ts[j]?=O t/\Ie (Gh d f) k=O v/\f[j]?=O v/\Fs[j]?=O F/\Rp G H v t F
 |[],[],_,_,_,.nil=>.inl ⟨rfl,rfl⟩
 |k' :: d,v :: f,_,_,s,.cons (t:=t) (F:=F) (ts:=ts) (Fs:=Fs) r q=>by
  by_cases g:k'.1=k
  ·refine .inr ⟨0,v,t,F,?_,by simp[g],rfl,by simp[Ie,Gh,g],rfl,rfl,r⟩;rw[Zp,ZA,YW,Zn (by rw[kY];exact ZR g)]
  ·have e1:((((k' :: d).map λp=>FP p.1).zip (t :: ts)).findIdx? λq=>eqT q.1 (FP k))=((((d.map λp=>FP p.1).zip ts)).findIdx? λq=>eqT q.1 (FP k)).map (·+1):=by
    rw[Zp,ZA,YW,Zj (by rw[kY];simp[g])]
   have e2:Ie (Gh (k' :: d) (v :: f)) k=Ie (Gh d f) k:=by simp[Ie,Gh,g]
   rcases lX (k:=k) (by simpa using s) q with⟨l,h⟩ | ⟨j,m,n,z,l,h,h3,y,x,w,u⟩
   ·exact .inl ⟨by rw[e1,l];rfl,by rw[e2];exact h⟩
   ·exact .inr ⟨j+1,m,n,z,by rw[e1,l];rfl,by simpa using h,by simpa using h3,by rw[e2];exact y,by simpa using x,by simpa using w,u⟩
def oW{H:Hp}{v:V}{l:List (T×T)}{F:X4}(r:Rp G H v (.dct 2 l) F):∃(a:GM)(d:List (bu×GM))(f:List V)(g:V4)(j:Yd),v=.ref a/\F=a :: j.flatten/\H a=O (DN a (Gh d f))/\d.length=f.length/\(∀p∈d,Hz H p.1 p.2)/\l=(d.map λp=>FP p.1).zip g/\xh G H f g j:=by
 cases r with
 |dctN h m n q=>exact⟨_,_,_,_,_,rfl,rfl,h,m,n,rfl,q⟩
def lI{H:Hp}{d:List (bu×GM)}{f:List V}(h:∀p∈d,Hz H p.1 p.2):∀p∈Gh d f,Hz H p.1 p.2.1:=λp j=>by
 obtain⟨q,g,rfl⟩:=Yt.mp j;exact h q.1 (Vw (a:=q.1) (b:=q.2) g).1
def bI(l:List (T×T))(k:T):List (T×T):=if (l.findIdx? λp=>eqT p.1 k).isSome then l else l++[(k,.lst [])]
def pj(f:T->Option (T×Val))(l:List (T×T))(k:T):Option (List (T×T)):=(l.findIdx? λp=>eqT p.1 k).bind λj=>(l[j]?).bind λp=>(f p.2).map λz=>l.set j (p.1,z.1)
def ip(i:Nat)(k:Ex)(v:Gd)(U:VS.Env):Option Out:=match U[i]? with
 |some (some (.ow (.dct 2 l)))=>(k U).bind λd=>if (Al d.2).isSome/\l.length<fC then
   (v (U.set i (O (.ow (.dct 2 (bI l d.2)))))).bind λf=>(pj (λx=>bz x f) (bI l d.2) d.2).map λz=>.nx (U.set i (O (.ow (.dct 2 z)))) else Y
 |_=>Y
def vd(i:Nat){x:Str}(hr:AU kr X.A)(hk:PV G X b ck)(hv:Ho G X [e] cs)(hK:X.K=G.K)(hN:X.N[i]?=O x)(L9:Ik X.env.scope x)(hd:K2 x)(Gc:K3 x)(N0:SZ (.Name x p1) "setdefault" X.env (eval (.Name x p1) X.env)=eval (.Name x p1) X.env)(RE:((backTo Ib (KM [b,.List [] lp] X.env)).all (λx=>!x.1)&&(backToKw Ib (P3 [] X.env)).all (λx=>x.1.isSome)
   && decide ([b,Expr.List [] lp].length+([]:List Keyword).length+(if ([]:List Keyword).isEmpty then 0 else 1)<30))=J)(JN:(JE.endLine==Ib.line)=J)(NM:KM [b,.List [] lp] X.env=(S,eval b X.env) :: KM [.List [] lp] X.env)(Mb:KM [.List [] lp] X.env=(S,eval (.List [] lp) X.env) :: KM [] X.env)(O4:(backTo Ib (KM [.List [] lp] X.env)).any (·.1)=S)(Iy:SZ (.Call (.Attribute (.Name x p1) "setdefault" JE) [b,.List [] lp] [] Ib) "append" X.env (eval (.Call (.Attribute (.Name x p1) "setdefault" JE) [b,.List [] lp] [] Ib) X.env)=eval (.Call (.Attribute (.Name x p1) "setdefault" JE) [b,.List [] lp] [] Ib) X.env)(RD:((backTo xt (KM [e] X.env)).all (λx=>!x.1)&&(backToKw xt (P3 [] X.env)).all (λx=>x.1.isSome)
   && decide ([e].length+([]:List Keyword).length+(if ([]:List Keyword).isEmpty then 0 else 1)<30))=J)(Ge:(apos.endLine==xt.line)=J)(G4:K0 e [] X)(KH:(backTo xt (KM [] X.env)).any (·.1)=S)(NI:swapsWith (.Call (.Attribute (.Call (.Attribute (.Name x p1) "setdefault" JE) [b,.List [] lp] [] Ib) "append" apos) [e] [] xt) Y pos.line X.env=pure S) :
  PSV G X (.Expr (.Call (.Attribute (.Call (.Attribute (.Name x p1) "setdefault" JE) [b,.List [] lp] [] Ib) "append" apos) [e] [] xt) pos) (ip i ck cs) :=
 PS.weak (ny (rZ WB WE WG iz
  (CN Xi PySem.F.type_dict_setdefault (rg (by have:=hr.un;lia)) (fF hN L9 hd Gc) (d5 hk (d5 (nO fJ) fJ Mb) NM) N0 RE JN NM O4) hv Iy RD Ge G4 KH) NI) λD Z H hq=>by
  obtain⟨L,U,out,s,e,k⟩:=hq;refine td.gg λP_ k_=>?_;unfold ip at e;split at e
  ·rename_i l hl;obtain⟨⟨mk,tk⟩,KS,e⟩:=Zy.mp e;split at e
   ·rename_i hc;obtain⟨c1,c2⟩:=hc;obtain⟨lv,ev,e⟩:=Zy.mp e;obtain⟨t',e5,e6⟩:=Zm.mp e;cases e6;obtain⟨d,Ud⟩:=XE.mp c1;dsimp only at Ud;have Pc:=vM Ud;subst Pc;obtain⟨v,g1,g2⟩:=s.rp _ _ hl;have Kh:=s.nd i _ hl;obtain⟨a,ns,f,r,Fs,rfl,eΦ,ha,G7,Jn,el,W⟩:=oW g2;subst el;rw[eΦ]at Kh;refine k_ ?_;refine⟨.ref a,g1,⟨a,_,rfl,ha⟩,?_⟩;refine⟨L,U,mk,FP d,s,KS,λkv n Fk Iq rk fk=>⟨ZN _,λq hq=>?_⟩⟩;obtain⟨m,rfl,hkb⟩:=Bt rk;dsimp only at KS e5 ev c1;have fin:∀(I:Hp)(Q:List (bu×GM))(LI:List V)(Nd:V4)(P:Yd)(w:V),bI ((ns.map λp=>FP p.1).zip r) (FP d)=(Q.map λp=>FP p.1).zip Nd->G6 G H (.ref a) (L i) (.dct 2 (bI ((ns.map λp=>FP p.1).zip r) (FP d))) I (a :: P.flatten) →
      I a=O (DN a (Gh Q LI))->Q.length=LI.length->(∀p∈Q,Hz I p.1 p.2)->xh G I LI Nd P->Ie (Gh Q LI) d=O w →
      tyV X.K "list" w I/\Nh G cs Z I (λLJ H4=>kg w LJ H4 (λ_ H5=>D.nx Z H5)):=λI Q LI Nd P w es g h3 HF NP Nq hw=>by
     refine td.gg λP_ k_=>?_;obtain⟨z1,z2⟩:=s.mut hl g1 g;have Ma:(U.set i (O (.ow (.dct 2 (bI ((ns.map λp=>FP p.1).zip r) (FP d))))))[i]?=O (O (.ow (.dct 2 (bI ((ns.map λp=>FP p.1).zip r) (FP d))))):=by
      have hi:i<U.length:=(ZW.mp hl).1;rw[Xn hi]
     rcases lX (G:=G) (k:=d) HF Nq with⟨_,C⟩ | ⟨j,w',x',F1,M,C,h4,h5,h6,h7,h8⟩
     ·rw[C]at hw;cases hw
     rw[h5]at hw;obtain rfl:=ZK hw;rw[es]at e5;unfold pj at e5;rw[M,Zr,show ((Q.map λp=>FP p.1).zip Nd)[j]?=O (FP d,x') from by rw[XI];exact⟨C,h4⟩,Zr]at e5;obtain⟨⟨x3,y'⟩,w4,e7⟩:=Zm.mp e5;have nd3:F1.Nodup:=((ZS.mp g.nd).2).sublist (gD h7);refine k_ ?_;refine⟨by rw[hK];exact hJ h8 w4,iH L i (a :: P.flatten),_,lv,z1,ev,λLJ H4 SX q1 q2 q3=>?_⟩;refine jR (iH L i (a :: P.flatten)) _ I H4 w' x' x3 F1 lv LJ SX y' _ h8 nd3 ⟨q1,q2,q3⟩ w4 λu H5 F' g5=>?_;obtain⟨s1,s2,s3,s4,s5⟩:=sT h3 Nq g.nd h6 h7 g5;have g6:G6 G I (.ref a) (iH L i (a :: P.flatten) i) (.dct 2 t') H5 (a :: (P.set j F').flatten):=by
      rw[fZ];refine⟨g5.kept,s5,g5.F0,?_,s3,s4⟩;rw[← e7,oy _ Nd j _ x3 C];exact .dctN s1 HF (λp B=>(NP p B).mono g5.kept.tup) s2
     obtain⟨y1,y2⟩:=z1.mut Ma g1 g6;rw[List.set_set]at y1 y2;exact k _ Z H5 y1 (z2.trans y2)
    have IJ:aO n (upd n q (.lst [])):=bT hq;have R:aO H (upd n q (.lst [])):=Iq.trans IJ;have HV:upd n q (.lst []) a=O (DN a (Gh ns f)):=R a _ ha;have Mo:∀p∈ns,Hz (upd n q (.lst [])) p.1 p.2:=λp B=>(Jn p B).mono λb xs z=>R b _ z;have NU:Hz (upd n q (.lst [])) d m:=hkb.mono λb xs z=>IJ b _ z;have ln:(Gh ns f).length<sizeLine:=by
     have:((ns.map λp=>FP p.1).zip r).length<16777216:=c2;rw[Yx,Zv]at this;rw[Zv,Yx];have:=W.len.1;have:(FS:Nat)=16777216:=rfl;lia
    have dg:=lX (G:=G) (k:=d) G7 W;refine⟨a,m,Gh ns f,d,.ref q,rfl,rfl,HV,lI Mo,NU,ln,λw hw=>?_,λhn=>?_⟩
    ·have es:bI ((ns.map λp=>FP p.1).zip r) (FP d)=(ns.map λp=>FP p.1).zip r:=by
      unfold bI;rcases dg with⟨M,C⟩ | ⟨_,_,t2,_,M,_⟩
      ·rw[C]at hw;cases hw
      ·rw[M];rfl
     refine fin _ ns f r Fs w es ?_ HV G7 Mo (W.same R) hw;rw[es,eΦ];exact G6.none R (by rw[eΦ]at g2;exact g2) Kh
    ·have es:bI ((ns.map λp=>FP p.1).zip r) (FP d)=((ns++[(d,m)]).map λp=>FP p.1).zip (r++[.lst []]):=by
      unfold bI;rcases dg with⟨M,C⟩ | ⟨_,_,t2,_,M,_,_,C,_⟩
      ·rw[M,Zj (by simp),Yy,XC (by rw[Zv];exact G7.trans W.len.1)];rfl
      ·rw[C]at hn;cases hn
     have ep:Gh ns f++[(d,m,.ref q)]=Gh (ns++[(d,m)]) (f++[.ref q]):=by
      unfold Gh;rw[XC G7,Yy];rfl
     have qa:q≠a:=λz=>by
      have:n a=O (DN a (Gh ns f)):=Iq a _ ha;rw[← z,hq]at this;cases this
     have qH:H q=Y:=Iq.free hq;have m2:FG (upd n q (.lst []) a):=by rw[HV];exact True.intro
     have nd:=ZS.mp Kh;have qF:q∉Fs.flatten:=λz=>FG.xb (W.F0 q z) qH;rw[ep];have RW:upd (upd n q (.lst [])) a (DN a (Gh (ns++[(d,m)]) (f++[.ref q]))) q=O (.lst []):=by rw[av qa,aw]
     have rq:Rp G (upd (upd n q (.lst [])) a (DN a (Gh (ns++[(d,m)]) (f++[.ref q])))) (.ref q) (.lst []) (q :: ([]:Yd).flatten):=.lst RW .nil;have kp:Kept (upd n q (.lst [])) (upd (upd n q (.lst [])) a (DN a (Gh (ns++[(d,m)]) (f++[.ref q])))):=Kept.upd (.inl m2);have ln2:(ns++[(d,m)]).length=(f++[V.ref q]).length:=by simp[G7]
     have N1:∀p∈ns++[(d,m)],Hz (upd (upd n q (.lst [])) a (DN a (Gh (ns++[(d,m)]) (f++[.ref q])))) p.1 p.2:=λp B=>by
      rcases Zb.mp B with B | B
      ·exact(Mo p B).mono kp.tup
      ·rw[Zh.mp B];exact NU.mono kp.tup
     have Nq:=((W.same R).off (o:=DN a (Gh (ns++[(d,m)]) (f++[.ref q]))) m2 nd.1).append (.cons rq .nil);refine fin _ (ns++[(d,m)]) (f++[.ref q]) (r++[.lst []]) (Fs++[[q]]) (.ref q) es ?_ aw ln2 N1 Nq ?_
     ·rw[es,eΦ];refine G6.upd R Zx m2 (.dctN aw ln2 N1 Nq) ?_ ?_
      ·rw[IG];refine ZS.mpr ⟨λz=>?_,ZG.mpr ⟨nd.2,by simp,λx hx y t z=>?_⟩⟩
       ·rcases Zb.mp z with z | z
        ·exact nd.1 z
        ·have h:a=q:=by simpa using z
         exact qa h.symm
       ·subst z;exact qF (by simpa[show x=q by simpa using t] using hx)
      ·intro y t;rcases Zq.mp t with rfl | t
       ·exact .inl Zx
       ·rw[IG]at t;rcases Zb.mp t with t | t
        ·exact .inl (Zw _ t)
        ·rw[show y=q by simpa using t];exact .inr qH
     ·rw[← ep];unfold Ie at hn ⊢;rw[List.find?_append,Option.map_eq_none_iff.mp hn];simp
   ·cases e
  ·cases e
end
end VS
end
section
namespace td
open PySem PySem.Spec PyProof.Rows
section
variable{X:Cx}{tg:Expr}{pos:Pos}
def CC:TE:=λ_ H Q=>∀p,H p=Y->Q (.ref p) (upd H p (DN p []))
def yw:PE X (.Dict [] [] pos) CC:=λb s Z H Q I h =>
 wpAny_Dict_empty ⟨.ref s.heap.objs.size,_,I.laid (a:=s.heap.objs.size) (o:=DN s.heap.objs.size []) (t':=s.toks) (λ_ _ q=>Zt _ q) (Zo _)
  (xm (xs:=[]) (ZN _) (beq_eq_false_iff_ne.mpr (Y2 (ZV I.big))) .nil (Heap.DictOfH.new s.heap)),rfl,h _ (I.xa.fresh (Zo _))⟩
def oh{a:Yf}{Z:St}{H:Hp}{s:FB}{d:GM}{b:List (bu×GM×V)}{o:Obj}(I:Inv X a Z H s)(e:H d=O (DN d b))(g:s.heap.get? d=O o):Inv X a Z (upd H d (.frz o (DN d b))) s :=
 iC (t':=s.toks) I (by rw[e];exact True.intro) ⟨rfl,λ_ _=>rfl⟩ ⟨o,g⟩ ⟨g,I.xa d _ e⟩
def Uu(d:GM)(o:Obj)(a:List (bu×GM×V)):It :=
 ⟨λi H=>H d=O (.frz o (DN d a))/\i<a.length,λi H x b=>b=H/\∃p,a[i]?=O p/\x=.ref p.2.1,λi H=>H d=O (.frz o (DN d a))/\a.length<=i⟩
def KN.get{l:List (bu×GM×V)}{m:List (bu×GM×IR)}(r:KN l m){i:Nat}{q:bu×GM×IR}(h:m[i]?=O q):∃p,l[i]?=O p/\p.1=q.1/\p.2.1=q.2.1:=by
 induction r generalizing i with
 |nil=>simp at h
 |@cons b f g e a t d =>
  cases i with
  |zero=>simp at h;subst h;exact⟨b,rfl,a.1,a.2.1⟩
  |succ i=>simpa using d (by simpa using h)
def KN.keys{l:List (bu×GM×V)}{m:List (bu×GM×IR)}(r:KN l m):l.map (·.1)=m.map (·.1):=by
 induction r with
 |nil=>rfl
 |cons b _ a=>rw[Zp,Zp,b.1,a]
def Ca{P:PP}{w:SL}{K:Xd}(d l:GM){U:List (bu×GM×V)}{t:Array DictEntry}{x:Nat}{R:List (bu×GM×IR)}(j:KN U R)(B:t.toList=R.map (Ed w)) :
  Turn P w K tg (Uu d (ST.dO t x) U) [l] l (λi h=>h.get? l=O (ST.kO d i t.size x)) where
 mem:=by simp
 obj:=λi h st b a=>by
  rw[Zh.mp a];exact⟨_,st,λv z=>by cases z⟩
 keep:=λi h r st k=>k l (by simp) _ st
 item:=by
  intro X D hw G C i f s Z H E I u st n;subst D hw G;obtain⟨Q,f1,f2,N,M,L⟩:=u l (by simp);refine ST.oJ (I.ok.hd C) st (show s.heap.get? d=O (ST.dO t x) from(I.xa d _ n.1).1) (λe m r sb g=>?_) λA=>?_
  ·have I1:Inv X f Z H { s with heap:=r }:=I.turned (t':=s.toks) (λb o a e=>(sb.2 b a).trans e) Q f1 N M L;rw[← Jb,B,ZT]at m;obtain⟨q,y,rfl⟩:=Zm.mp m;obtain⟨p,W,_,a⟩:=j.get y;exact⟨_,rfl,qN (s:={ s with heap:=r }) g rfl rfl rfl ⟨.ref p.2.1,H,I1,by rw[a];rfl,⟨rfl,p,W,rfl⟩,g,λb a=>(u b a).1⟩⟩
  ·exfalso;rw[← Jb,B,Yq,Zv,← j.length]at A;exact absurd n.2 (by exact VO A)
 done:=by
  intro X D hw G C i f s Z H E I u st n;subst D hw G;obtain⟨Q,f1,f2,N,M,L⟩:=u l (by simp);refine ST.oJ (I.ok.hd C) st (show s.heap.get? d=O (ST.dO t x) from(I.xa d _ n.1).1) (λe m r sb g=>?_) λA r kp=>⟨rfl,I.turned (t':=s.toks) (λb o a e=>kp b o a e) Q f1 N M L⟩
  exfalso;rw[← Jb,B,ZT]at m;obtain⟨q,y,rfl⟩:=Zm.mp m;have:=(ZW.mp y).1;have h2:=n.2;rw[j.length]at h2;lia
 self:=λ_ _ _ _ _ st hQ=>wpAny_pyIter_slot ⟨_,st,rfl⟩ F.slot_dict_keyiterator_iter (Y8 F.slot_dict_keyiterator_iter ⟨_,st,rfl⟩ F.entry_dict_keyiterator_iter (show KB _ _ (ret (.ref l)) _ _ _ from Zs ⟨_,rfl, "dict_keyiterator",_,⟨_,st,rfl⟩,XS.lookup,hQ⟩) (F.args_dict_keyiterator_iter_1 _))
def iDn(e:TE):TI:=λZ H R=>e Z H λx b=>∃d a,x=.ref d/\b d=O (DN d a)/\∀o,a.length<=FS->(a.map (·.1)).Nodup->R (Uu d o a) (upd b d (.frz o (DN d a)))
def xH{o:Obj}{f:Array DictEntry}{g:Nat}(h:o.ExactDict)(e:o.data=.dict f g):o=ST.dO f g:=by
 obtain⟨c,d,j,i⟩:=o;obtain⟨b,a,h3⟩:=h;simp only at b a h3 e;subst b a h3 e;rfl
def Ei{l:Expr}{j:TE}(p:PE X l j):PI X tg l (iDn j):=by
 intro f s Z H R I h;refine thn (p f s Z H _ I h) λv a ⟨x,C,i,r1,m⟩=>?_;obtain⟨d,B,ex,e,q⟩:=m;subst ex;cases r1;obtain⟨⟨z,y,D,rel,o,F,G,g,ex,hd,r,n⟩,_⟩:=(show bg X.prog X.w C a.heap d (DN d B) from i.xa d _ e)
 have u:=xH ex hd;subst u;refine ST.we y g ?_;refine⟨a.heap.objs.size,[a.heap.objs.size],_,_,_,rfl,(oh i e g).kept (t':=a.toks) λb o e=>Zt _ e,Ca d _ rel r,Zc _ M,λb t=>?_,q _ z (by rw[rel.keys];exact n)⟩;have A:b=a.heap.objs.size:=by simpa using t
 subst A;exact(oh i e g).Hj (Zo _) ((oh i e g).xa.fresh (Zo _))
def EU:R2:=λx y H Q=>∃d o a k b v,x=.ref d/\y=.ref b/\H d=O (.frz o (DN d a))/\(∀p∈a,Hz H p.1 p.2.1)/\Hz H k b/\Ie a k=O v/\Q v H
def EY(hu:X.A.units+2<cLine):JT X EU:=by
 intro value slice f s Z H x y v u Q I R P h hs;obtain⟨d,o,M,k,b,w,rfl,rfl,e,Jz,hk,hw,q⟩:=h;cases R;obtain rfl:=(show u=Value.ref b from P)
 obtain⟨g,ok⟩:=(show bg X.prog X.w H s.heap d (.frz o (DN d M)) from I.xa d _ e)
 obtain⟨⟨z,y,j,rel,U,es,ep,h1,h2,h3,h4,h5⟩,_⟩:=(show bg X.prog X.w H s.heap d (DN d M) from ok)
 have all:∀{l:List (bu×GM×V)}{m:List (bu×GM×IR)},KN l m->(∀p∈l,Hz H p.1 p.2.1)->∀x∈m,NK.Il (aN X.prog X.w) s.heap x.1 x.2.1:=by
  intro l m q
  induction q with
  |nil=>intro _ x a;exact nomatch a
  |@cons p q ps qs C t W =>
   intro D x a;rcases Zq.mp a with e | a
   ·subst e;rw[← C.1,← C.2.1];exact(D p Zx).is I.xa
   ·exact W (λp n=>D p (Zw _ n)) x a
 have L:s.heap.DictOfH (NK.nest (aN X.prog X.w)) d j:=⟨U,es,ep,h1,h2,h3,h4,λx a=>all rel Jz x a,h5⟩
 have G:=L.typeIs;have i:=rel.at k;rw[hw]at i;obtain⟨pv,n,rp⟩:∃pv,atKey j k=O pv/\RelV w pv.2:=by
  cases B:atKey j k with
  |none=>rw[B]at i;exact False.elim i
  |some pv=>rw[B]at i;exact⟨pv,rfl,i⟩
 unfold subscriptTail;refine Zz ?_;rw[getitemInPython_of_ne G.not_modules];refine Zz (X8 G PySem.F.slot_dict_getitem.lookup ?_);have fin:KB (FM X.prog X.w) X.A (subscripted slice S (.ref d) (.ref b)) (λr N=>KB (FM X.prog X.w) X.A (letTemporaryGo value (.ref d) r >>= λ_=>pure r) (EP X f Z Q) X.xe N) X.xe s:=by
  rw[hs];exact wpAny_operating (wpAny_getItem_heap (knd:=NK.nest (aN X.prog X.w)) (by show X.A.units+1+1<cLine;omega) (hk.is I.xa) L n (Zz (wpAny_letTemporaryGo (Zs ⟨w,H,I.tok _,rp,q⟩))))
 first
  |exact Zs (Zz fin)
  |exact Zz (Zs (Zz fin))
  |exact Zz fin
def Cp{a:List (bu×GM×V)}:∀{i:Nat}{p:bu×GM×V},(a.map (·.1)).Nodup->a[i]?=O p->Ie a p.1=O p.2.2:=by
 induction a with
 |nil=>intro i p _ h;simp at h
 |cons x l f =>
  intro i p b h;rw[Zp,ZS]at b;cases i with
  |zero=>simp at h;subst h;simp[Ie]
  |succ i =>
   have d:l[i]?=O p:=by simpa using h
   have ne:x.1≠p.1:=λe=>b.1 (by rw[e];exact Yt.mpr ⟨p,YX d,rfl⟩);have:=f b.2 d;unfold Ie at this ⊢;rw[Yr,ZJ ne];exact this
end
end td
namespace VS
open PySem PySem.Spec PyProof.Rows td
section
variable{G:Gx}{X:Cx}{pos p p1 p2 p3 p4 Nk:Pos}{kr i:Nat}{sc:Scope}
def Ab:PV G X (.Dict [] [] pos) (n8 2 []):=PE.weak yw λZ H Q a=>by
 obtain⟨L,U,m,t,s,e,k⟩:=a;cases (show O (Md.fr,T.dct 2 [])=O (m,t) from e);intro q a;have:Rp G (upd H q (DN q [])) (.ref q) (.dct 2 ((([]:List (bu×GM)).map λp=>FP p.1).zip [])) (q :: ([]:Yd).flatten):=.dctN (vs:=[]) aw M (λp d=>by simp at d) .nil;exact k _ _ [q] (bT a) this ⟨by simp,λb f=>by rw[Zh.mp f];exact a⟩
def kX(i:Nat)(U:VS.Env):Option Out:=match U[i]? with
 |some (some (.ow (.dct 2 l)))=>O (.rt (.fr,.lst (l.map (·.2))) (U.set i Y))
 |_=>Y
def u9(i:Nat)(N:List Str){x y:Str}(hr:AU kr X.A)(Gz:X.calm=J)(hN:X.N[i]?=O x)(hv:Ik X.env.scope x)(hd:K2 x)(Gc:K3 x)(W:∀cl C s H fp,PG (cN X N sc cl C s H fp) (.Name y p3) (xB 0)/\PE (cN X N sc cl C s H fp) (.Name x p1) (zo (i+1))/\PE (cN X N sc cl C s H fp) (.Name y p2) (zo 0)/\(cN X N sc cl C s H fp).A.units=X.A.units)(hix:kC (.Name y p2))(G0:iQ X.env sc=J)(Iv:i6 sc (N.drop 1) X.N=J)(Kd:1<=N.length)(hs:∀z,UF (.Name x p4) X.env z=pure z) :
  PSV G X (.Return (O (.ListComp (.Subscript (.Name x p1) (.Name y p2) p) [⟨.Name y p3,.Name x p4,[],0⟩] sc pos)) Nk) (kX i) :=
 PS.weak (qW (nS (k:=1) Gz (Ei (fF hN hv hd Gc)) G0 Iv Kd (λcl C s H fp=>⟨(W cl C s H fp).1,pD,xJ (EY (by have:=hr.un;rw[(W cl C s H fp).2.2.2];lia)) (W cl C s H fp).2.1 (W cl C s H fp).2.2.1 hix⟩) hs)) λD Z H w=>by
  obtain⟨L,U,out,s,e,k⟩:=w;refine td.gg λP_ k_=>?_;unfold kX at e;split at e
  ·rename_i l F;cases e;obtain⟨v,g1,g2⟩:=s.rp _ _ F;have Kh:=s.nd i _ F;obtain⟨a,ns,d,ts,Fs,rfl,Q,ha,G7,Jn,el,ra⟩:=oW g2;subst el;rw[Q]at Kh;have nd:=ZS.mp Kh;refine k_ ?_;refine⟨.ref a,g1,a,Gh ns d,rfl,ha,λo hz Rh u I=>?_⟩;have mu:FG (H a):=by rw[ha];exact True.intro
   have aD:u≠a:=λz=>by rw[z,aw]at I;cases I
   have R:H u=Y:=by rw[av aD]at I;exact I
   have kp:∀P,Kept H (upd (upd H a (.frz o (DN a (Gh ns d)))) u (.lst P)):=λP=>(Kept.upd (.inl mu)).trans (Kept.upd (.inr I));refine⟨λj m Z' H'=>m+j=(Gh ns d).length/\(∃c,Z'=c :: Z)/\H'=upd (upd H a (.frz o (DN a (Gh ns d)))) u (.lst (((Gh ns d).take j).map (·.2.2))),⟨(Gh ns d).length,rfl,⟨Y,rfl⟩,rfl⟩,?_⟩;rintro j m Z' H' ⟨hm,⟨c,rfl⟩,rfl⟩;have Rz:∀P,upd (upd H a (.frz o (DN a (Gh ns d)))) u (.lst P) a=O (.frz o (DN a (Gh ns d))):=λP=>by rw[av (Y2 aD),aw]
   by_cases hj:j<(Gh ns d).length
   ·refine .inr ⟨⟨Rz _,hj⟩,?_⟩;rintro x' H2 ⟨rfl,q,w,rfl⟩;refine⟨.ref a,?_,.ref q.2.1,?_,a,o,Gh ns d,q.1,q.2.1,q.2.2,rfl,rfl,Rz _,λr hr=>(lI Jn r hr).mono (kp _).tup,(lI Jn q (YX w)).mono (kp _).tup,Cp Rh w,?_⟩
    ·show (Z:td.St)[i]?=_;exact g1
    ·rfl
    ·refine⟨_,aw,?_,m-1,by omega,by lia,⟨_,rfl⟩,?_⟩
     ·rw[Zv,ZM];lia
     ·rw[yZ,List.take_add_one,w,Yy];rfl
   ·have ej:(Gh ns d).take j=Gh ns d:=Jd (by exact Y5 hj);refine .inl ⟨⟨Rz _,by exact Y5 hj⟩,?_⟩;rw[ej];have ev:(Gh ns d).map (·.2.2)=d:=by
     unfold Gh;rw[Yw];exact Ww (X5 G7.symm)
    have et:((ns.map λp=>FP p.1).zip ts).map (·.2)=ts:=Ww (by rw[Zv,G7,ra.len.1];exact Zo _);rw[ev];have nF:∀b∈Fs.flatten,b≠a/\b≠u:=λb B=>⟨λz=>nd.1 (z ▸ B),λz=>FG.xb (ra.F0 b B) (z ▸ R)⟩
    have Da:∀b,H b≠Y->b≠u:=λb h z=>h (z ▸ R);have ai:bW L U a:=⟨i,_,F,by rw[Q];exact Zx⟩
    have sub:∀b,bW L (U.set i Y) b->bW L U b/\b≠a:=λb ⟨j,t,f,g⟩=>⟨⟨j,t,(bX f).2,g⟩,λz=>by
     subst z;exact s.sep i j _ _ F (bX f).2 (bX f).1.symm b (by rw[Q];exact Zx) g⟩
    have LM:∀b,dw L (U.set i Y) b->dw L U b/\b≠a:=λb ⟨j,t,f,g⟩=>⟨⟨j,t,(bX f).2,g⟩,λz=>by
     subst z;exact s.sep i j _ _ F (bX f).2 (bX f).1.symm b (by rw[Q];exact Zx) g⟩
    have dmo:∀b,bW L U b->H b≠Y:=λb w=>by
     obtain⟨j,t,f,g⟩:=w;obtain⟨v',_,r'⟩:=s.rp _ _ f;exact FG.xb (r'.F0 b g)
    have dmp:∀b,dw L U b->H b≠Y:=λb w=>by
     obtain⟨j,t,f,g⟩:=w;obtain⟨v',_,r'⟩:=s.rp _ _ f;exact FG.xb (r'.F0 b g)
    rw[et]at k;refine k (.ref u) _ (u :: Fs.flatten) L Z (SR.off (SR.off (s.drop i) (.inl mu) (λz=>(LM a z).2 M) λz=>(sub a z).2 M) (.inr I) (λz=>dmp _ (LM _ z).1 R) λz=>dmo _ (sub _ z).1 R) ⟨λb ob h n=>⟨?_,λz=>n (sub b z).1⟩,λb h=>?_,λb z=>.inl (sub b z).1,λb z=>.inl (LM b z).1,kp _⟩ (.lst aw (ra.keep (kp _) λb B ob h=>?_)) ⟨ZS.mpr ⟨λz=>(nF u z).2 M,nd.2⟩,λb B=>?_⟩
    ·have f:b≠a:=λz=>n (z ▸ ai);have g:b≠u:=Da b (by rw[h];simp);rw[av g,av f];exact h
    ·rw[av (Da b h)];by_cases z:b=a
     ·rw[z,aw];simp
     ·rw[av z];exact h
    ·rw[av (nF b B).2,av (nF b B).1];exact h
    ·rcases Zq.mp B with rfl | B
     ·exact .inl R
     ·exact .inr ⟨i,_,F,by rw[Q];exact Zw _ B⟩
  ·cases e
end
section
variable{G:Gx}{X:Cx}{pos:Pos}
def yL{x:Str}{t:Tx}{j:Nat}{q n:Pos}(h:x=sx t)(w:iE t):PV G X (.Dict [O (.Constant (.str x) j q)] [.List [] n] pos) (n8 0 [(eC (.str t),gP aA)]) :=
 PE.weak (Ae (xi wA (nO fJ) Am) M M (by simp) (by show 1<=15;decide)) λZ H Q u=>by
  obtain⟨L,U,m,r,s,e,k⟩:=u;subst h;cases (show O (Md.fr,T.dct 0 [(.str t,.lst [])])=O (m,r) from e);intro p g;refine⟨ZN _,λb d=>?_⟩;have f:b≠p:=λz=>by rw[z,aw]at d;cases d
  have i:H b=Y:=by rw[av f]at d;exact d
  refine⟨by rw[av (Y2 f),aw],[(Sum.inr (sx t),.ref b)],rfl,(by show 1<=15;decide),?_⟩;have v:aK (Sum.inr (sx t))=.str t:=rfl;have l:aO H (upd (upd (upd H p (.dK [])) b (.lst [])) p (.dK (jN [] [(Sum.inr (sx t),.ref b)]))):=λc o a=>by
   rw[av (aQ a g),av (aQ a i),av (aQ a g)];exact a
  have:Rp G (upd (upd (upd H p (.dK [])) b (.lst [])) p (.dK [(Sum.inr (sx t),.ref b)])) (.ref p) (.dct 0 ((([Sum.inr (sx t)]:List Key).map aK).zip [.lst []])) (p :: ([[b]]:Yd).flatten) :=
   .dct (ks:=[Sum.inr (sx t)]) (vs:=[V.ref b]) aw M (.cons (F:=b :: ([]:Yd).flatten) (.lst (by rw[av f,aw]) .nil) .nil)
  simp only[Zp,YI,v,ZA,List.zip_nil_right]at this;exact k _ _ _ l this ⟨by simp[Y2 f],λc a=>by
   rcases Zq.mp a with rfl | a
   ·exact g
   ·simp at a;rw[a];exact i⟩
end
end VS
end
section
open PySem PyProof.Rows
namespace TS
variable{prog:PP}{w:SL}{A:Pi}{E:Yu}{s:FB}{G:KF->Prop}{r:KF->KF->Bool}
def dF(h:SC)(a:GM)(b:Ws):Addr:=((h.update a (Obj.mapSeq λ_=>#[])).push (seqObj "tuple" b.toArray 0)).objs.size
def i3(h:SC)(a:GM)(b:Ws):dF h a b=h.objs.size+1:=by unfold dF;rw[Xp,Xz]
structure KeyPre(prog:PP)(w:SL)(A:Pi)(E:Yu)(P:PySem.Fin->FB->Prop)(f:IR)(a K:GM)(oa:Option Obj)(vs:Ws)(J:Ws->FB->Prop)(g:Ws->Ws:=id):Prop where
 keys:∀ks s',J ks s'->∃e,s'.heap.get? K=some (seqObj "list" ks.toArray e)
 self:∀ks s',J ks s'->s'.heap.get? a=oa
 step:∀ks x s',vs[ks.length]?=some x->J ks s'->KB (FM prog w) A (call f [x]) (λk s2=>(∃e,s2.heap.get? K=some (seqObj "list" ks.toArray e))/\J (ks++[k]) { s2 with heap:=s2.heap.update K (Obj.mapSeq λxs=>xs.push k) }) (λ_ _=>False) s'
 fin:∀ks s',J ks s'->ks.length=vs.length->∃kd G r,GE prog w A E s' kd G r/\(∀p∈ks.zip vs,G p)/\(2<=vs.length->∀Q:SortKind->FB->Prop,Q kd s'->KB (FM prog w) A (keyKind' ks.toArray) Q E s') ∧
  ∀out:List KF,out.Perm (ks.zip vs)->out.Pairwise (le r)->P (.done (.ret .none)) { s' with heap:=(s'.heap.update K (Obj.mapSeq λ_=>#[])).update a (Obj.mapSeq λ_=>(g (out.map (·.2))).toArray) }
def uo{a:GM}{f:IR}{vs:Ws}{n:Nat}{P:PySem.Fin->FB->Prop}{J:Ws->FB->Prop}(t:(f != Value.none)=true)(m:s.heap.get? a=O (seqObj "list" vs.toArray n))(i:vs.length<=FS)(X:J [] { s with heap:=bR s.heap a vs })(p:KeyPre prog w A E P f a (dF s.heap a vs) ((bR s.heap a vs).get? a) vs J) :
  KB (FM prog w) A (Builtin.«list.sort» ⟨[.ref a],[(("key" : Str),f)]⟩) P E s:=by
 obtain⟨o,R⟩:∃k,(s.heap.update a (Obj.mapSeq λ_=>#[])).get? a=O (seqObj "list" #[] k):=⟨_,Xj m _⟩
 have at2:=oB (vs:=vs) (ZY m) R;have ne:a≠dF s.heap a vs:=by rw[i3];exact ZV (Xc (ZY m))
 unfold Builtin.«list.sort»;refine(show KB (FM prog w) A (Builtin.List.listItems (.ref a)>>=_) P E s from ?_);refine Zz (Wx m M (Zz (YV m M (Zz (X9 R M (Zz (Vc (Zz (Wb (YU ?_))))))))));refine(show KB (FM prog w) A (if (f != Value.none)=true then _ else _) P E { s with heap:=bR s.heap a vs } from ?_);rw[Zn t];refine Zz (XW (Zz ?_));rw[← X0];refine Xk _ (λrest _ d=>∃b,J b d/\rest=vs.drop b.length/\b.length<=vs.length) _ ?turn ?fin _ _ ⟨[],X,by simp,by simp⟩
 case turn =>
  rintro x rest r d ⟨b,l,e,B⟩;have F:b.length<vs.length:=by
   have:=congrArg List.length e;rw[Zl,ZE]at this;omega
  have e2:x :: rest=vs[b.length] :: vs.drop (b.length+1):=by rw[e];exact YD F
  injection e2 with ex er
  have y:vs[b.length]?=O x:=by rw[Zi F,ex]
  refine Zz (XR (Yj (p.step b x d y l) (λk v ⟨⟨e2,Z⟩,W⟩=>?_) λ_ _ z=>z.elim));have sz:b.toArray.size<=sizeLine:=by rw[Zd];exact ZU B i
  exact(show KB (FM prog w) A (Builtin.List.listUpdate (.ref (dF s.heap a vs)) (λU=>U.push k)>>=_) _ _ _ from Zz (YV Z M (Zs ⟨b++[k],W,by rw[er];simp,by simp;exact WN F⟩) (hsz:=sz) (hsz2:=by rw[Array.size_push];exact YO sz)))
 case fin =>
  rintro r d ⟨b,l,e,B⟩;have G7:b.length=vs.length:=by
   have:=congrArg List.length e;rw[Ya,ZE]at this;lia
  obtain⟨eK,C⟩:=p.keys b d l;have L:=p.self b d l;rw[at2]at L;obtain⟨kd,G,r,hC,hG,Lm,hP⟩:=p.fin b d l G7;have fin:∀g:Pv,(arrOf g).Perm (b.zip vs).toArray->failedOf g=Y->(arrOf g).toList.Pairwise (le r)->P (.done (.ret .none)) { d with heap:=(d.heap.update (dF s.heap a vs) (Obj.mapSeq λ_=>#[])).update a (Obj.mapSeq λ_=>(arrOf g).map (·.2)) }:=λg h _ j=>by
   have:=hP (arrOf g).toList (by simpa using YG.mp h) j
   rwa [id,← W8,Vq]at this
  have u:(d.heap.update (dF s.heap a vs) (Obj.mapSeq λ_=>#[])).get? a=O (seqObj "list" #[] o):=by rw[XU _ _ (Y2 ne)];exact L
  refine(show KB (FM prog w) A (if (f != Value.none)=true then _ else _) P E d from ?_);rw[Zn t];refine(show KB (FM prog w) A (Builtin.List.listItems (.ref (dF s.heap a vs))>>=_) P E d from Zz (Wx C M ?_));have room:∀g:Pv,(arrOf g).Perm (b.zip vs).toArray->((arrOf g).map (·.2)).size<=FS+1:=λg h=>by
   rw[Array.size_map,h.size_eq,Zd,Yx];lia
  have N:b.toArray.size<=sizeLine:=by rw[Zd];exact ZU B i
  have D:b.toArray.zip vs.toArray=(b.zip vs).toArray:=by simp
  by_cases two:2<=vs.length
  ·have no:¬(vs.toArray.size<2):=by rw[Zd];exact VO two
   refine(show KB (FM prog w) A (if vs.toArray.size<2 then _ else _) P E d from ?_);rw[Zj no];refine Zz (Lm two _ ?_);refine(show KB (FM prog w) A (StateT.run (if vs.toArray.size<2 then pure () else sortRuns') (SortSt.mk' kd (b.toArray.zip vs.toArray) #[] 7 Y)>>=_) P E d from ?_);rw[Zj no];refine Zz (Yj (oF hC (a₀:=(b.zip vs).toArray) (st:=SortSt.mk' kd (b.toArray.zip vs.toArray) #[] 7 Y)
    (Q:=λ_ g=>(arrOf g).Perm (b.zip vs).toArray/\failedOf g=Y/\(arrOf g).toList.Pairwise (le r)) M (λx y=>hG x (by simpa using y)) D M M λg a1 a2 a3=>⟨a1,a2,a3⟩) ?_ λ_ _ e=>e)
   rintro⟨⟨⟩,g⟩ v ⟨rfl,h,I,j⟩;refine(show KB (FM prog w) A (if (f != Value.none)=true then _ else _) P E v from ?_);rw[Zn t];refine(show KB (FM prog w) A (Builtin.List.listUpdate (.ref (dF s.heap a vs)) (λ_=>#[])>>=_) P E v from Zz (YV C M (Zz (WZ (Zz (X9 u M (Zz (YV u M ?_ (hsz2:=room g h))))))) (hsz:=N)));have H:=I;unfold failedOf at H;rw[H];simp only[bne_self_eq_false,Ij,↓reduceIte];exact Zs (fin g h I j)
  ·have yes:vs.toArray.size<2:=by rw[Zd];exact W0 two
   have h:(arrOf (SortSt.mk' general' (b.toArray.zip vs.toArray) #[] 7 Y)).Perm (b.zip vs).toArray:=by
    show (b.toArray.zip vs.toArray).Perm _;rw[D]
   have j:(arrOf (SortSt.mk' general' (b.toArray.zip vs.toArray) #[] 7 Y)).toList.Pairwise (le r):=by
    show (b.toArray.zip vs.toArray).toList.Pairwise (le r);rw[D]
    match vs,b,two with
    |[],_,_=>simp
    |[_],[],_=>simp
    |[_],_ :: _,_=>simp
    |_ :: _ :: _,_,q=>simp at q
   refine(show KB (FM prog w) A (if vs.toArray.size<2 then _ else _) P E d from ?_);rw[Zn yes];refine Zz (Zs ?_);refine(show KB (FM prog w) A (StateT.run (if vs.toArray.size<2 then pure () else sortRuns') (SortSt.mk' general' (b.toArray.zip vs.toArray) #[] 7 Y)>>=_) P E d from ?_);rw[Zn yes,StateT.run_pure];refine Zz (Zs ?_);refine(show KB (FM prog w) A (if (f != Value.none)=true then _ else _) P E d from ?_);rw[Zn t];refine(show KB (FM prog w) A (Builtin.List.listUpdate (.ref (dF s.heap a vs)) (λ_=>#[])>>=_) P E d from Zz (YV C M (Zz (WZ (Zz (X9 u M (Zz (YV u M ?_ (hsz2:=room _ h))))))) (hsz:=N)));have b0:(o != o)=S:=bne_self_eq_false _;refine(show KB (FM prog w) A (if (o != o)=true then _ else ret Value.none) P E _ from ?_);rw[Zj (by rw[b0];simp)];exact Zs (fin _ h M j)
end TS
end
section
open PySem PyProof.Rows
namespace TS
variable{prog:PP}{w:SL}{A:Pi}{E:Yu}{s:FB}
def nB(a f:IR):argsOk "sorted" ⟨[a],[(("key" : Str),f)]⟩:=by unfold argsOk;kernel_rfl
def rE(a f:IR):argsOk "list.sort" ⟨[a],[(("key" : Str),f)]⟩:=by unfold argsOk;kernel_rfl
def fB(h:SC)(a:Ws):Heap:=bR (h.push (seqObj "list" a.toArray 0)) h.objs.size a
def jY{h:SC}{d:Ws}{b:GM}{o:Obj}(e:h.get? b=O o):(fB h d).get? b=O o:=by
 have a:=ZY e;unfold fB bR;rw[YB _ _ _ (by rw[Xp,Xz,Xp];exact nl a 2),YB _ _ _ (by rw[Xz,Xp];exact nl a 1),Yn _ _ _ _ (ZV a),YB _ _ _ (ZV a)];exact e
def iY(h:SC)(vs:Ws):∃e,(fB h vs).get? h.objs.size=O (seqObj "list" #[] e):=by
 have a:(h.push (seqObj "list" vs.toArray 0)).get? h.objs.size=O (seqObj "list" vs.toArray 0):=Zc _ M;obtain⟨k,b⟩:∃k,((h.push (seqObj "list" vs.toArray 0)).update h.objs.size (Obj.mapSeq λ_=>#[])).get? h.objs.size=O (seqObj "list" #[] k):=⟨_,Xj a _⟩
 exact⟨k,oB (vs:=vs) (ZY a) b⟩
def iZ(h:SC)(a:Ws):(fB h a).get? (h.objs.size+2)=O (seqObj "list" #[] 0):=by
 unfold fB bR;have e:(((h.push (seqObj "list" a.toArray 0)).update h.objs.size (Obj.mapSeq λ_=>#[])).push (seqObj "tuple" a.toArray 0)).objs.size=h.objs.size+2:=by rw[Xp,Xz,Xp]
 rw[← e];exact Zc _ M
def p9{x f:IR}{Q:Yu}(l:(f != Value.none)=true)(o:∀(i:Pi)(p:Yu),i.handled=A.handled->KB (FM prog w) i (collect x) (λb a=>b.length<=FS/\∃J,J [] { a with heap:=fB a.heap b } ∧
   KeyPre prog w A.in1.in1 E (λfin d=>fin=.done (.ret .none)/\Q (.ref a.heap.objs.size) d) f a.heap.objs.size (a.heap.objs.size+2) ((fB a.heap b).get? a.heap.objs.size) b J) p s) :
  KB (FM prog w) A (call (.builtin "sorted") [x] [(("key" : Str),f)]) Q E s:=by
 refine call_function_entry_kw kind_sorted plain_sorted entry_sorted (nB _ _) (show KB _ _ (Builtin.«sorted» _) _ _ _ from ?_);unfold Builtin.«sorted»;refine Zz (m:=checkCount "sorted" 1 1 _) (Zs (Zz (Yj (o A.in1 (λ_ _=>False) M) ?_ λ_ _ e=>e.elim)));rintro b a ⟨hlen,J,j,kp⟩;refine Zz (Wb ?_ (by exact hlen));have g:(a.heap.push (seqObj "list" b.toArray 0)).get? a.heap.objs.size=O (seqObj "list" b.toArray 0):=Zc _ M;have n:dF (a.heap.push (seqObj "list" b.toArray 0)) a.heap.objs.size b=a.heap.objs.size+2:=by rw[i3,Xp]
 refine(show KB _ _ _ _ _ { a with heap:=a.heap.push (seqObj "list" b.toArray 0) } from ?_);have main:=uo (J:=J) (s:={ a with heap:=a.heap.push (seqObj "list" b.toArray 0) }) l g hlen j (P:=λfin d=>fin=.done (.ret .none)/\Q (.ref a.heap.objs.size) d) (by rw[n];exact kp);exact Zz (YU (wpAny_call_entry_kw slot_list_sort ⟨_,g,rfl⟩ entry_list_sort (Yj main (λfin d h=>⟨_,h.1,Zs ⟨_,rfl,h.2⟩⟩) λ_ _ e=>e) (rE _ _)))
end TS
end
section
namespace td
open PySem PySem.Spec PyProof.Rows TS
section
variable{X:Cx}{pins:Yf}{Z:St}{H:Hp}{s:FB}{h':SC}
def Inv.adopt{a:GM}{o:HO}{t':Nat}(I:Inv X pins Z H s)(f:fU X pins H a)(k:∀b u,b≠a->s.heap.get? b=O u->h'.get? b=O u)(C:∃u,h'.get? a=O u)(h:bg X.prog X.w (upd H a o) h' a o) :
  Inv X pins Z (upd H a o) { s with heap:=h',toks:=t' }:=by
 obtain⟨y,f1,f2,x,t,p⟩:=f;have ne:∀b u,H b=O u->b≠a:=λb u e z=>by rw[z,y]at e;cases e
 refine I.step (g':=s.gens) (d':=s.drawn) (ch:=[a]) (λb g=>?_) (λb o _ _ d e _=>k b o (λz=>d (by simp[z])) e) (λb o _ _ d e _=>⟨o.slots,k b o (λz=>d (by simp[z])) e⟩) (λb _ d _ n=>?_)
  (λb o d e=>⟨o,k b o (λz=>d (by simp[z])) e⟩) (λb i e=>?_) (λb o u e=>?_) (λb _ e=>?_) (λm l=>?_) (λb u e=>?_) I.bare
 ·rw[Zh.mp g];exact⟨x,f1,t,p⟩
 ·rw[av (λz=>d (by simp[z]))];exact n
 ·rw[av (ne b _ e)];exact e
 ·rw[av (ne b _ e)];exact e
 ·rw[av (ne b _ e)];exact e
 ·obtain⟨o,A,B,j,r⟩:=l;exact⟨o,A,B,k _ o (Y2 f1) j,r⟩
 ·by_cases g:b=a
  ·subst g;rw[aw]at e;cases e;exact h
  ·rw[av g]at e;refine(I.xa b u e).Hv (λc v d q=>k c v ?_ q) (λc q=>by rw[av (ne c _ q)];exact q) (λc i q=>by rw[av (ne c _ q)];exact q) λc _ _ q=>by rw[av (ne c _ q)];exact q
   rcases d with z | z
   ·rw[z];exact g
   ·exact ne c _ z
def Cw{k:Nat}{f:GM}{t:On}{m:List Str}{p:Sp}{A':Pi}{E:XK}{Q:VK}{a:Ws}{vs:List V}(F:FnOk X.prog X.w X.K X.mg X.base HK k f t m p)(C:AU k A')(M:A'.frames=X.A.frames)(G:Binds X.K t m [])(I:Inv X pins Z H s)(r:aT vs a)(h:p vs H Q E):KB (FM X.prog X.w) A' (call (.ref f) a) (λu l=>∃v d,Inv X pins Z d l/\RelV v u/\Q v d/\∀b o,fU X pins H b->s.heap.get? b=O o->l.heap.get? b=O o/\fU X pins d b) (λ_ _=>False) s:=by
 have D:a.length=m.length:=by rw[← r.length];exact F.len _ _ _ _ h
 have L:Kf X.prog X.w X.K X.mg X.base A' X.stack s H:=⟨M.trans I.Hy.frames,I.Hy.mod,I.Hy.tb,I.Hy.bs,I.Hy.Km,I.Hy.G5,I.Hy.Mu,I.Hy.xa,I.Hy.bare⟩
 have i:=G s a I.Ii (by rw[ZP];exact D);rw[ZP]at i;refine wpAny_call (WH (F.run A' X.stack s H ⟨a,[]⟩ a vs Q E C L i r h) λr l g=>?_);cases r with
 |error e=>exact g.elim
 |ok fl =>
  cases fl with
  |ret u =>
   obtain⟨v,d,os,bare,un,xa,r,q⟩:=g;obtain⟨y,P,N,r2,rfl,rfl,B⟩:=I.after (Q:=λn x=>n=v/\x=d/\Q n x) ⟨v,d,os,bare,un,xa,r,rfl,rfl,q⟩;refine⟨y,P,N,r2,B,λb o j e=>?_⟩;have nf:b∉GV X.stack:=λz=>(Zq.mp (I.GS b z)).elim j.2.1 j.2.2.1;exact⟨un.keep b o e j.1 nf (by simp),un.free b o e j.1 (by simp),j.2⟩
  |next=>exact False.elim g
  |brk=>exact False.elim g
  |cont=>exact False.elim g
def kL(x:Str):List Key:=[.inl (x.cps.toList.length:Int),.inr x]
def LL:IR->Str
 |.str x _=>x
 |_=>⟨#[]⟩
noncomputable def JK(X:Cx)(a:Yf)(Z:St)(H:Hp)(j:List Str)(f l:Nat)(h:Ws)(g:FB):Prop:=∃d,Inv X a Z d g/\aO H d/\fU X a d f/\fU X a d (f+2)/\(∃e,g.heap.get? (f+2)=O (seqObj "list" h.toArray e))/\g.heap.get? f=O (seqObj "list" #[] l) ∧
  ∀(i:Nat)(u:IR),h[i]?=O u->∃(b:GM)(x:Str),u=Value.ref b/\j[i]?=O x/\d b=O (.tup ((kL x).map kV))
def j8{k:Nat}{f p:GM}{fd:On}{ps:List Str}{sp:Sp}{E:XK}{Q:VK}{ss:List Str}{ws:List V}(D:X.calm=J)(F:FnOk X.prog X.w X.K X.mg X.base HK k f fd ps sp)(hr:AU (k+2) X.A)(hb:Binds X.K fd ps [])(I:Inv X pins Z H s)(hl:ss.length=ws.length)(hq:H p=O (.dK ((ss.map Sum.inr).zip ws)))(Kj:∀x∈ss,∀d,aO H d->∀Q1:VK,(∀b B,aO d B->B b=O (.tup ((kL x).map kV))->Q1 (.ref b) B)->sp [.str x] d Q1 E)(q:∀(l:GM)(d:Hp)(ys:List Str),aO H d->d l=Y->ys.Perm ss->ys.Pairwise (λa b=>fh (kL b) (kL a)=S)->Q (.ref l) (upd d l (.lst (ys.map V.str)))) :
  KB (FM X.prog X.w) X.A (call (.builtin "sorted") [.ref p] [(("key" : Str),.ref f)]) (EP X pins Z Q) X.xe s:=by
 obtain⟨r,hS,bt,rel,dd⟩:=qA I.xa hq;obtain⟨ep,dd⟩:=dd.dictAt;rw[Yx,Zv]at r;have Rt:bt.length=ss.length:=by
  have:=rel.length;rw[Yx,Zv]at this;lia
 have Rr:∀i:Nat,(bt[i]?).map (λx=>x.1)=(ss[i]?).map (Sum.inr:Str->Key):=λi=>by
  have g:((bt.map (·.1)))[i]?=(ss.map (Sum.inr:Str->Key))[i]?:=by
   rw[← rel.keys,W4 (by rw[Zv];exact X5 hl)]
  rw[ZT,ZT]at g;exact g
 refine p9 M λA' E' hA=>PySem.W.kdu_collect (PySem.W.kdl_dict hS) (hA.trans (I.ok.hd D)) dd (by lia) λg tk acc kp GL=>?_;have R:Inv X pins Z H { s with heap:=g,toks:=tk }:=I.kept kp;have N2:acc.toList.length=ss.length:=by rw[Yg,GL.1,Rt]
 have each:∀i v,acc.toList[i]?=O v->∃x t,v=Value.str x t/\ss[i]?=O x:=λi v hv=>by
  rw[Jb]at hv;obtain⟨k,x,e1,e2⟩:=GL.2 i v hv;have m:=Rr i;rw[e1]at m;cases N:ss[i]? with
  |none=>rw[N]at m;cases m
  |some y =>
   rw[N]at m;have e5:k=Sum.inr y:=ZK m;subst e5;obtain⟨t,rfl⟩:=VQ (show Value.isStrOf y v=J from e2);exact⟨y,t,rfl,N⟩
 have hvs:acc.toList.map LL=ss:=by
  apply WK;intro i;rw[ZT];cases e:acc.toList[i]? with
  |some v =>
   obtain⟨x,t,rfl,e2⟩:=each i v e;rw[e2];rfl
  |none =>
   rw[Yq]at e;rw[Xe (by lia)];rfl
 generalize hvv:acc.toList=vs at *;obtain⟨e0,N7⟩:=iY g vs;have LK:g.objs.size≠g.objs.size+2:=by lia
 refine⟨by lia,JK X pins Z H ss g.objs.size e0,?_,?_⟩
 ·exact⟨H,R.kept (t':=tk) λb o e=>jY e,aO.refl _,R.Hj (Zo _) (R.xa.fresh (Zo _)),R.Hj (ZI _ 2) (R.xa.fresh (ZI _ 2)),⟨0,iZ g vs⟩,N7,λi u e=>by simp at e⟩
 ·refine⟨λj n ⟨d,_,_,_,_,e,_⟩=>e,λj n ⟨d,_,_,_,_,_,e,_⟩=>e.trans N7.symm,?_,?_⟩
  ·rintro j x n hx ⟨d,I2,U,fL,G,⟨eK,hK⟩,hL,Jz⟩;obtain⟨y,t,rfl,hy⟩:=each _ _ hx;refine Yj (Cw (A':=X.A.in1.in1) F (AU.in1 (AU.in1 hr)) M hb I2 (vs:=[.str y]) (.cons ⟨t,rfl⟩ .nil) (Kj y (YX hy) d U (λv B=>∃b,v=.ref b/\aO d B/\B b=O (.tup ((kL y).map kV))) λb B s2 h2=>⟨b,rfl,s2,h2⟩)) ?_ λ_ _ e=>e;rintro u s2 ⟨v,B,I3,ru,⟨b,rfl,IJ,Iy⟩,FE⟩;obtain rfl:=(show u=Value.ref b from ru)
   obtain⟨kK,P⟩:=FE _ _ G hK;obtain⟨QS,RZ⟩:=FE _ _ fL hL;have RS:∃e,(s2.heap.update (g.objs.size+2) (Obj.mapSeq λxs=>xs.push (Value.ref b))).get? (g.objs.size+2)=O (seqObj "list" (j++[Value.ref b]).toArray e):=by
    have:=Xj kK λxs=>xs.push (Value.ref b);rw[this,show j.toArray.push (Value.ref b)=(j++[Value.ref b]).toArray by simp];exact⟨_,rfl⟩
   refine⟨⟨eK,kK⟩,B,I3.turned (it:=g.objs.size+2) (t':=s2.toks) (λc o D e=>by rw[Yn _ _ _ _ D];exact e) P.1 P.2.1 P.2.2.2.1 P.2.2.2.2.1 P.2.2.2.2.2,U.trans IJ,RZ,P,RS,?_,λi u C=>?_⟩
   ·rw[Yn _ _ _ _ LK];exact QS
   ·by_cases L:i<j.length
    ·rw[Yp L]at C;obtain⟨c,x,e1,e2,m⟩:=Jz i u C;exact⟨c,x,e1,e2,IJ _ _ m⟩
    ·rw[JS (by exact Y5 L)]at C;have Rw:i=j.length:=by
      by_cases z:i-j.length=0
      ·lia
      ·rw[Xe (by simp;lia)]at C;cases C
     subst Rw;simp at C;exact⟨b,y,C.symm,hy,Iy⟩
  ·rintro j n ⟨d,I2,U,fL,G,⟨eK,hK⟩,hL,Jz⟩ G7;have kz:∀z∈j.zip vs,∃b x t,z=(Value.ref b,Value.str x t)/\d b=O (.tup ((kL x).map kV)):=λz r=>by
    obtain⟨i,L,e⟩:=Ja r;have e':(j.zip vs)[i]?=O z:=by rw[Zi L,e]
    obtain⟨z1,z2⟩:=z;rw[XI]at e';obtain⟨b,x,rfl,e2,m⟩:=Jz i z1 e'.1;obtain⟨x2,t,rfl,N⟩:=each i z2 e'.2;rw[e2]at N;cases N;exact⟨b,x,t,rfl,m⟩
   have Nf:∀{b:GM}{x:Str},d b=O (.tup ((kL x).map kV))->iO n.heap (.ref b) (kL x):=λe=>zf I2.xa e;refine⟨tuples' J,GT n.heap [J,S],rT n.heap,yA λv j t=>t,λz r=>?_,λtwo Q1 q1=>?_,λout o1 o2=>⟨rfl,?_⟩⟩
   ·obtain⟨b,x,t,rfl,e⟩:=kz z r;exact⟨_,Nf e,rfl⟩
   ·refine v3 (k0:=J) (sh:=[S]) (by lia) (λv hv=>?_) q1;obtain⟨i,L,e⟩:=Ja hv;obtain⟨b,x,rfl,_,m⟩:=Jz i v (by rw[Zi L,e]);exact⟨_,Nf m,rfl⟩
   ·have I3:=I2.turned (it:=g.objs.size+2) (t':=n.toks) (h':=n.heap.update (g.objs.size+2) (Obj.mapSeq λ_=>#[])) (λc o D e=>by rw[Yn _ _ _ _ D];exact e) G.1 G.2.1 G.2.2.2.1 G.2.2.2.2.1 G.2.2.2.2.2;have N6:(n.heap.update (g.objs.size+2) (Obj.mapSeq λ_=>#[])).get? g.objs.size=O (seqObj "list" #[] e0):=by rw[Yn _ _ _ _ LK];exact hL
    have N5:=Xj N6 λ_=>(out.map λz=>z.2).toArray;have ho:∀z∈out,∃b x t,z=(Value.ref b,Value.str x t)/\d b=O (.tup ((kL x).map kV)):=λz r=>kz z (o1.mem_iff.mp r);have LS:out.length=ss.length:=by
     rw[o1.length_eq,Yx];lia
    have vals:∀{out:List KF},(∀z∈out,∃b x t,z=(Value.ref b,Value.str x t)/\d b=O (.tup ((kL x).map kV)))->aT ((out.map λz=>LL z.2).map V.str) (out.map (·.2)):=by
     intro out
     induction out with
     |nil=>intro _;exact .nil
     |cons z out ih =>
      intro h;obtain⟨b,x,t,rfl,_⟩:=h z Zx;exact .cons ⟨t,rfl⟩ (ih λz r=>h z (Zw _ r))
    refine⟨.ref g.objs.size,_,I3.adopt (o:=.lst ((out.map λz=>LL z.2).map V.str)) (t':=n.toks) fL (λc o D e=>by rw[Yn _ _ _ _ D];exact e) ⟨_,N5⟩ (show bg X.prog X.w _ _ _ (.lst _) from⟨by rw[Zv,Zv,LS];lia,(out.map λz:KF=>z.2),_,vals ho,N5⟩),rfl,q _ d _ U fL.1 ?_ ?_⟩
    ·have:=o1.map λz=>LL z.2;have e2:(j.zip vs).map (λz=>LL z.2)=ss:=by
      rw[← hvs];have:(j.zip vs).map (λz=>LL z.2)=((j.zip vs).map Prod.snd).map LL:=by rw[Yw];rfl
      rw[this,Ww (by lia)]
     rw[e2]at this;exact this
    ·rw[X6];refine Xu (λ{a b} ha hb h=>?_) o2;obtain⟨c,x,t,rfl,e⟩:=ho a ha;obtain⟨c2,x2,t2,rfl,e2⟩:=ho b hb;unfold le at h;rw[lK (Nf e2) (Nf e)]at h;exact h
end
end td
end
section
namespace VS
open PySem PySem.Spec PyProof.Rows td TS
def lL(a b:Tx):Prop:=a.length<b.length\/a.length=b.length/\a<b
def QC(a b:Tx):Bool:=decide (a.length<b.length)||(decide (a.length=b.length)&&GY a b)
def sj(a b:Tx):QC a b=J↔lL a b:=by
 unfold QC lL;rw[jA];simp
def uV(a:Tx):¬lL a a:=λh=>by
 rcases h with h | ⟨_,h⟩
 ·exact YZ _ h
 ·exact WU _ h
def pM{a b c:Tx}(h:lL a b)(d:lL b c):lL a c:=by
 rcases h with h | ⟨e,h⟩<;>rcases d with d | ⟨f,d⟩
 ·exact .inl (by exact Wd h d)
 ·exact .inl (by lia)
 ·exact .inl (by lia)
 ·exact .inr ⟨by exact Eq.trans e f,Vo h d⟩
def wt(a b:Tx):lL a b\/a=b\/lL b a:=by
 rcases Nat.lt_trichotomy a.length b.length with h | h | h
 ·exact .inl (.inl h)
 ·by_cases e:a<b
  ·exact .inl (.inr ⟨h,e⟩)
  ·by_cases d:b<a
   ·exact .inr (.inr (.inr ⟨h.symm,d⟩))
   ·exact .inr (.inl (VM (Wq.mp d) (Wq.mp e)))
 ·exact .inr (.inr (.inl h))
def rQ(x:Tx):List Tx->List Tx
 |[]=>[x]
 |y :: r=>if QC y x then y :: rQ x r else x :: y :: r
def cy(l:List Tx):List Tx:=l.foldr rQ []
theorem jI(x:Tx):∀l:List Tx,(rQ x l).Perm (x :: l)
 |[]=>Xq _
 |y :: r=>by
  unfold rQ;split
  ·exact((jI x r).cons y).trans (List.Perm.swap _ _ _)
  ·exact Xq _
theorem dv:∀l:List Tx,(cy l).Perm l
 |[]=>Xq _
 |x :: l=>(jI x _).trans ((dv l).cons x)
theorem sP(x:Tx):∀{l:List Tx},l.Pairwise (λa b=>¬lL b a)->(rQ x l).Pairwise (λa b=>¬lL b a)
 |[],_=>by simp[rQ]
 |y :: r,h=>by
  unfold rQ;obtain⟨g,i⟩:=YY.mp h;split
  ·rename_i c;have f:=(sj y x).mp c;refine YY.mpr ⟨λz d=>?_,sP x i⟩;rcases Zq.mp ((jI x r).mem_iff.mp d) with rfl | d
   ·exact λw=>uV _ (pM f w)
   ·exact g z d
  ·rename_i c;have f:¬lL y x:=λz=>c ((sj y x).mpr z);refine YY.mpr ⟨λz d=>?_,h⟩;rcases Zq.mp d with rfl | d
   ·exact f
   ·intro w;rcases wt y x with e | e | e
    ·exact f e
    ·subst e;exact g z d w
    ·exact g z d (pM w e)
theorem jo:∀l:List Tx,(cy l).Pairwise (λa b=>¬lL b a)
 |[]=>List.Pairwise.nil
 |x :: l=>sP x (jo l)
def rJ{l d:List Tx}(h:d.Perm l)(e:d.Pairwise (λa b=>¬lL b a)):d=cy l :=
 List.Perm.eq_of_pairwise (le:=λa b=>¬lL b a) (λa b _ _ g f=>(wt a b).elim (λz=>absurd z f) λz=>z.elim id λz=>absurd z g) e (jo l) (h.trans (dv l).symm)
def zM(a b:Str):fh (kL a) (kL b)=J↔lL a.cps.toList b.cps.toList:=by
 unfold kL lL;rw[fh];by_cases h:((a.cps.toList.length:Int))=(b.cps.toList.length:Int)
 ·rw[Zn (by rw[h]),fh];have f:a.cps.toList.length=b.cps.toList.length:=by lia
  by_cases e:a=b
  ·subst e;simp[fh,WU]
  ·rw[Zj (by simpa using e),Hn];simp[f]
 ·rw[Zj (λz=>h (by injection z)),Hn,decide_eq_true_eq];constructor
  ·intro d;exact .inl (by omega)
  ·rintro (d | ⟨d,_⟩)
   ·omega
   ·lia
def jw:V2->V3
 |[(_,.dct 0 l)]=>(strs? (l.map (·.1))).bind λa=>if a.all K4 then O (.fr,.lst ((cy a).map .str)) else Y
 |_=>Y
section
variable{G:Gx}{X:Cx}{e:Expr}{cs:Gd}{p p2 kp pos:Pos}{k:Nat}{f:GM}{fd:On}{ps:List Str}{cg:Fn}{x:Str}
def uE{g:List Tx}{d:List Str}(h:d.Perm (g.map sx))(j:d.Pairwise (λa b=>fh (kL b) (kL a)=S)):d=(cy g).map sx:=by
 have e:d=(d.map λx=>x.cps.toList).map sx:=by
  rw[Yw]
  conv=>lhs;rw[← WM d]
  apply YA;intro x i;obtain⟨s,_,rfl⟩:=Yt.mp (h.mem_iff.mp i);show sx s=sx (sx s).cps.toList;rw[oq]
 have e2:(d.map λx=>x.cps.toList)=cy g:=by
  refine rJ ?_ ?_
  ·have:=h.map λx:Str=>x.cps.toList;rw[Yw]at this;have l:((λx:Str=>x.cps.toList) ∘ sx)=id:=by
    funext s;exact oq s
   rw[l,WM]at this;exact this
  ·rw[X6];exact j.imp λ{a b} h z=>by
    rw[(zM b a).mpr z]at h;cases h
 rw[e,e2]
def zW(F:FnOk X.prog X.w X.K X.mg X.base HK k f fd ps (Js G cg))(RL:∀t:Tx,iE t->cg [.str t]=O (.fr,.tup [.int t.length,.str t]))(hr:AU (k+2) X.A)(Rx:Gl X x)(R:X.mg x=O (.ref f))(hb:Binds X.K fd ps [])(hm:X.mg "sorted" = Y)(ha:Ho G X [e] cs)(hg:Gl X "sorted")(hc:X.calm=J)(RH:K2 x)(he:backTo pos (KM [e] X.env)=(S,eval e X.env) :: backTo pos (KM [] X.env))(P:(backTo pos (KM [e] X.env)).any (·.1)=S) :
  PV G X (.Call (.Name "sorted" p) [e] [⟨O "key",.Name x p2,kp⟩] pos) (eN jw cs):=by
 intro b s Z H Q I h;refine td.gg λP_ N=>?_;obtain⟨L,U,m,t,sr,d,kk⟩:=h;unfold eN at d;obtain⟨l,el,d⟩:=Zy.mp d;refine N ?_;refine Wz (gL I hg hm jB ?_ (by decide) M);refine PyProof.Rows.callWith_kw (thn (ha pos b s Z H (λo j=>∃n,Args G L U H j l o n) I ⟨L,U,l,sr,el,λo j n C q2 q3=>⟨n,C,q2,q3⟩⟩) λus s1 ⟨o,j,I1,r1,n,A⟩=>?_) he P M M;refine thn ((nz (nm:=O "key") (kpos:=kp) (As (v:=.ref f) (pos:=p2) Rx R M RH) xp) pos b s1 Z j (λq H2=>q=[.ref f]/\H2=j) I1 ⟨rfl,rfl⟩) λws s2 ⟨q,H2,I2,rz,ez,eH⟩=>?_;subst ez eH;obtain⟨u,rfl,B⟩:=rz.one;obtain rfl:=(show u=Value.ref f from B)
 refine(show KB (FM X.prog X.w) X.A (call (.builtin "sorted") us [(("key" : Str),Value.ref f)]) (EP X b Z Q) X.xe s2 from ?_);refine td.gg λP_ N=>?_;unfold jw at d;split at d
 ·rename_i mx y hh;obtain⟨ss,e1,e2⟩:=Zy.mp d;split at e2
  ·rename_i hbt;cases e2;obtain⟨v,F',rfl,rfl,rx⟩:=(show xh G H2 o [.dct 0 y] n from A.rp).one;obtain⟨a,D,ys,ts,Gs,rfl,rfl,W,hl,rfl,ra⟩:=gn rx;obtain⟨u,rfl,B⟩:=r1.one;obtain rfl:=(show u=Value.ref a from B)
   have Ge:D.length=ts.length:=by rw[hl,ra.len.1]
   have e3:((D.map aK).zip ts).map (·.1)=D.map aK:=W4 (by rw[Zv];exact X5 Ge);rw[e3]at e1;have e4:=keys_str e1;have tok:∀s∈ss,iE s:=λs g=>wB (ZD.mp hbt s g);refine N ?_;refine j8 (ss:=ss.map sx) (ws:=ys) (E:=E0) hc F hr hb I2 (by rw[← hl,e4];simp) (by rw[← e4];exact W) (λx hx H3 z Q1 C=>?_) λl H3 q z HF pz pw=>?_
   ·obtain⟨s,g,rfl⟩:=Yt.mp hx;refine⟨[.str s],[[]],.fr,_,.cons (.str s (tok s g)) .nil,RL s (tok s g),λv H4 F4 UT r4 _=>?_⟩;cases r4 with
    |tup h4 i =>
     cases i with
     |cons c1 i =>
      cases i with
      |cons c2 i =>
       cases i;cases c1;cases c2;refine C _ _ UT ?_;rw[h4];simp[kL,kV,sx]
   ·rw[uE pz pw];have r0:xh G (upd H3 l (.lst (((cy ss).map sx).map V.str))) ((cy ss).map λs=>V.str (sx s)) ((cy ss).map T.str) ((cy ss).map λ_=>[]):=nK λs g=>tok s ((dv ss).mem_iff.mp g);have r:Rp G (upd H3 l (.lst (((cy ss).map sx).map V.str))) (.ref l) (.lst ((cy ss).map T.str)) (l :: ((cy ss).map λ_=>[]).flatten):=.lst (by rw[aw,Yw];rfl) r0;rw[lS]at r;exact kk _ _ _ ((A.same.trans z).trans (bT HF)) r (Fp.new ((A.same.trans z).free HF) (by simp) Fp.nil)
  ·cases e2
 ·cases d
end
end VS
end
section
namespace VS
open PySem PySem.Spec PyProof.Rows td
section
variable{G:Gx}{X:Cx}{e:Expr}{cs:Gd}{p p2 pos VE:Pos}
theorem qq{H:Hp}:∀(l:Vi),xh G H (l.map λi:Nat=>V.int (i:Int)) (l.map λi:Nat=>T.int (i:Int)) (l.map λ_=>[])
 |[]=>.nil
 |i :: l=>.cons (.int _) (qq l)
end
section
variable{G:Gx}{X:Cx}{e b:Expr}{cs:Gd}{cb:Ex}{pos p p1 p2 kp apos xt:Pos}{k k' kr:Nat}{x:Str}{ps:List Str}{g:Fn}
def uk{d:Fn}(F:FnAt X.prog X.w X.K X.mg X.base k x ps G d)(j:k+2<=k')(v:∀t:Tx,iE t->d [.str t]=O (.fr,.tup [.int t.length,.str t]))(h:AU k' X.A)(i:X.mg "sorted" = Y)(o:Ho G X [e] cs)(u:Gl X x)(l:Gl X "sorted")(n:X.calm=J)(y:K2 x)(m:backTo pos (KM [e] X.env)=(S,eval e X.env) :: backTo pos (KM [] X.env))(a:(backTo pos (KM [e] X.env)).any (·.1)=S) :
  PV G X (.Call (.Name "sorted" p) [e] [⟨O "key",.Name x p2,kp⟩] pos) (eN jw cs):=by
 obtain⟨f,fd,s,r,h3,q⟩:=F.ex;exact zW s v (h.mono j) u r q i o l n y m a
end
section
variable{G:Gx}{X:Cx}{a b e:Expr}{ca ck ce:Ex}{pos pos' p1:Pos}{kr:Nat}
def CD{j pos'}(g:PV G X a ca):IH G X (.Compare a [.Is] [.Constant .none j pos'] pos) (mz ca) :=
 PT.weak (BC (wa g)) λZ H Q h=>Dz h (λU m r e=>by
  unfold mz at e;obtain⟨x,_,e⟩:=Zy.mp e;cases e;exact⟨_,rfl⟩) λQ f=>by
   obtain⟨L,U,m,r,s,e,q⟩:=f;unfold mz at e;obtain⟨⟨n,x⟩,i,e⟩:=Zy.mp e;cases e;refine⟨L,U,n,x,s,i,λv d F e1 r1 f1=>?_⟩;show Q (.bl (decide (v=.non))) d;rw[tM r1];exact q _ d _ e1 (.bl _) Fp.nil
def mF(i:Nat)(k e:Ex)(U:VS.Env):Option Out:=(e U).bind λv=>match U[i]? with
 |some (some (.ow (.dct 0 l)))=>(k U).bind λd=>if gG d.2/\FY v.2/\l.length<fC then O (.nx (U.set i (O (.ow (.dct 0 (dput l d.2 v.2)))))) else Y
 |_=>Y
def wQ(i:Nat){x:Str}(hr:AU kr X.A)(hk:PV G X b ck)(he:PV G X e ce)(hN:X.N[i]?=O x)(hv:Ik X.env.scope x)(hd:K2 x)(Gc:K3 x)(ha:∀v,assign (.Subscript (.Name x p1) b pos') X.env v=(do
   let h ← holding [v] (eval (.Name x p1) X.env)
   let o ← holding [v,h] (eval b X.env)
   standAt pos'
   holding [v,h,o] (setItem h o v)
   release [v,h,o] []))(hs:swapsWithSole [.Subscript (.Name x p1) b pos'] e pos.line X.env=pure S)(hw:swappedStores [.Subscript (.Name x p1) b pos'] e X.env=pure Y)(h1:(assignEach [.Subscript (.Name x p1) b pos'] X.env).map (·.2)=[assign (.Subscript (.Name x p1) b pos') X.env]):PSV G X (.Assign [.Subscript (.Name x p1) b pos'] e pos) (mF i ck ce) :=
 PS.weak (vn he (vX (fF hN hv hd Gc) hk (AX (oH hr)) ha) hs hw h1) λD Z H hq=>by
  obtain⟨L,U,out,s,e,k⟩:=hq;unfold mF at e;obtain⟨⟨mv,m⟩,ev,e⟩:=Zy.mp e;split at e
  ·rename_i l p;obtain⟨⟨mk,tk⟩,KS,e⟩:=Zy.mp e;split at e
   ·rename_i hc;obtain⟨c1,c2,c3⟩:=hc;cases e;obtain⟨w,B,W⟩:=s.rp _ _ p;have r:=s.nd i _ p;refine⟨L,U,mv,m,s,ev,λxv H1 Fv P rv fv=>⟨w,B,L,U,mk,tk,s.same P,KS,λkv d Fk M rk fk=>?_⟩⟩;have n:aO H d:=P.trans M;have F:Rp G d xv m Fv:=rv.same M;have eF:=F.FY c2;subst eF;obtain⟨a,ns,j,t,Fs,rfl,C,Gq,hl,rfl,u⟩:=gn W;rw[C]at r;obtain⟨kk,rfl,Mw⟩:=eB rk c1;subst Mw;have I:d a=O (.dK (ns.zip j)):=n a _ Gq;have y:FG (d a):=by rw[I];exact True.intro
    have nd:=ZS.mp r;obtain⟨HS,Hs,HN,Hq,q1,q2,q3,q4,f⟩:=lz (kk:=kk) F hl (u.same n);have ln:(ns.zip j).length<sizeLine:=by
     have:((ns.map aK).zip t).length<16777216:=c3;rw[Yx,Zv]at this;rw[Yx];have:=u.len.1;have:(FS:Nat)=16777216:=rfl;lia
    refine .inr ⟨a,_,rfl,uj.k I ln,?_⟩;have g:G6 G H (.ref a) (L i) (.dct 0 (dput ((ns.map aK).zip t) (aK kk) m)) (upd d a (.dK (putK (ns.zip j) kk xv))) (a :: Hq.flatten):=by
     rw[C,q1,q3];refine G6.upd n Zx y (.dct aw q2 (q4.off y λz=>nd.1 (f.subset z))) ?_ ?_
     ·exact ZS.mpr ⟨λz=>nd.1 (f.subset z),nd.2.sublist f⟩
     ·intro bb q;rcases Zq.mp q with rfl | q
      ·exact .inl Zx
      ·exact .inl (Zw _ (f.subset q))
    obtain⟨R,Q⟩:=s.mut p B g;exact k _ Z _ R Q
   ·cases e
  ·cases e
end
end VS
end
section
namespace DP
open PySem PySem.Spec PyProof.Rows
variable{prog:PP}{w:SL}{A:Pi}{E:Yu}
def zw:typeLookup (.type "tuple") "keys" = pure Y:=by rw[typeLookup_type,builtinLookup_eq_fast];kernel_rfl
def Aw{h:SC}{g:Array GenState}{d:Drawn}{o:Nat}{os}{a:GM}{i:Array IR}{k:Nat}{j:Array (Vj)}{u:Tok}{Q:Yu}(l:h.get? a=O { cls:=.type "tuple",dict:=Y,data:=.seq i k,slots:=j })(q:A.handled=Y)(p:∀f b e,Heap.NewExcOf h f e "AttributeError" → E (.ref e) ⟨f,g,d,b,os⟩):KB (FM prog w) A (getAttrBy (.ref a) (.str "keys" u) S) Q E ⟨h,g,d,o,os⟩:=by
 have m:∀b,(⟨h,g,d,b,os⟩:FB).TypeIs (.ref a) "tuple" := λ_=>⟨_,l,rfl⟩
 have f1:=sub_AttributeError;have y:=Vy.lookup;have x:=Vy.bind (.ref a);have v:=am_tuple_getattr_none;unfold getAttrBy
 repeat (any_goals (first | assumption | exact m _ | ((with_reducible show KB _ _ (call (Value.builtin "tuple.__getattribute__") _ _) _ _ _);refine call_meets Vy (m _) am_entry_tuple_getattribute (F.args_tuple_getattribute_2 _ _) (meets_getattribute_miss_tuple a i k j "keys" _ zw (by decide +kernel)) ⟨l,q,λf b e n=>?_⟩) | wp_step))
 obtain⟨s,r,t⟩:=n.there;show KB _ _ (getattributeRaised _ _ _ _ _ _ _) _ _ _;unfold getattributeRaised
 repeat (any_goals (first | assumption | wp_step))
 exact p _ _ _ n.of
end DP
end
section
namespace DP
open PySem PySem.Spec PyProof.Rows td
variable{prog:PP}{w:SL}{A:Pi}{E:Yu}
def uC{h:SC}{g:Array GenState}{d:Drawn}{l:Nat}{os}{a:GM}{j:Array IR}{k:Nat}{m:Array (Vj)}{Q:Vj->FB->Prop}(n:h.get? a=O { cls:=.type "tuple",dict:=Y,data:=.seq j k,slots:=m })(s:A.handled=Y)(o:∀b f e,Heap.NewExcOf h b e "AttributeError" → Q Y ⟨b,g,d,f,os⟩):KB (FM prog w) A (getAttr? (.ref a) "keys") Q E ⟨h,g,d,l,os⟩:=by
 have f1:=sub_AttributeError;unfold getAttr? getAttrBy?
 repeat (any_goals (first | assumption | (with_reducible refine Aw n (by assumption) λb f e i=>?_) | wp_step))
 obtain⟨⟨r,q,t,u⟩,p,ge,ce,_,_⟩:=i.there;dsimp only at ce;subst ce
 repeat (any_goals (first | assumption | wp_step))
 exact o _ _ _ i
def kN:entryFor table "dict.update.loop" = O Builtin.«dict.update.loop» := entryFor_of_tree (by kernel_rfl)
def gR:plainId "dict.update.loop" = J:=by decide +kernel
section
variable{R:Result->FB->Prop}{I:GM}{fp wr:X4}{G:Array GenState->Array GenState->Prop}{n:Nat}{P:Nat->IR->Prop}{St:Nat->FB->Prop}
theorem loop(W:WalksS prog w A.in1 I fp wr G n P St)(d:GM)(Z:d∉fp)(N:SC)(a:Nat->Key×IR)(hP:∀i v,P i v->∃p m t l,v=.ref p/\N.get? p=O { cls:=.type "tuple",dict:=Y,data:=.seq #[l,(a i).2] m,slots:=t }/\(aN prog w).is (a i).1 l=J/\p∉d :: wr)(g:n<=FS) :
  ∀(k i:Nat)(s:FB),n-i=k->i<=n->St i s->(∀b o,b∉d :: wr->N.get? b=O o->s.heap.get? b=O o)->s.heap.DictOf (aN prog w) d (merged [] ((List.range i).map a)) →
   (∀f,Moved (d :: wr) G s f->f.heap.DictOf (aN prog w) d (merged [] ((List.range n).map a))->R (.ok (.ret .none)) f) →
   codeAny (FM prog w) A (.builtin "dict.update.loop" ⟨[.ref d,.ref I,rawInt i,.none],[]⟩) R s:=by
 have X:d∉wr:=λh=>Z (W.sub _ h);have q:∀b∈wr,b∈d :: wr:=λb g=>Zw _ g;intro k
 induction k with
 |zero =>
  intro i s hk hi M B C D;have Gb:i=n:=by lia
  subst Gb;refine WO kN ?_;rw[XD gR _];show KB _ A.in1 (pyNext (.ref I)>>=_) _ _ s;refine Zz (W.done s _ _ M λf j=>?_);show KB _ A.in1 (Builtin.Dict.addKeywords d [] >>= λ_=>ret Value.none) _ _ f;refine Zz (Zs ?_);exact Zs (D f (j.mono q) (by
   obtain⟨o,H,L,x,rest⟩:=C;exact⟨o,H,L,j.heap d _ X x,rest⟩))
 |succ k ih =>
  intro i s hk hi M B C D;have HE:i<n:=by omega
  refine WO kN ?_;rw[XD gR _];show KB _ A.in1 (pyNext (.ref I)>>=_) _ _ s;refine Zz (W.item i s _ _ HE M λv f F QY j=>?_);obtain⟨p,m,t,l,rfl,hp,y,U⟩:=hP i v F;have IE:f.heap.get? p=O { cls:=.type "tuple",dict:=Y,data:=.seq #[l,(a i).2] m,slots:=t }:=j.heap p _ (λz=>U (q p z)) (B p _ U hp);have Mr:f.heap.DictOf (aN prog w) d (merged [] ((List.range i).map a)):=by
   obtain⟨o,H,L,x,rest⟩:=C;exact⟨o,H,L,j.heap d _ X x,rest⟩
  show KB _ A.in1 (holding [Value.ref p] _>>=_) _ _ f;refine Zz (YU ?_);have ty:f.TypeIs (.ref p) "tuple" := ⟨_,IE,rfl⟩
  refine Zz (thn (Q:=λr u=>r=[l,(a i).2]/\u=f) ?pair λr u hr=>?rest)
  case pair =>
   refine wpAny_tryCatch ?_;unfold Builtin.Dict.pairItems
   repeat (any_goals (first | assumption | wp_step))
   exact⟨rfl,rfl⟩
  case rest =>
   obtain⟨rfl,rfl⟩:=hr;dsimp only;refine YU ?_;refine wpAny_dictSet_pairs y Mr (λh' dd sb=>?_) (by have:=merged_length_le (K:=Key) [] ((List.range i).map a);simp at this;lia);have e1:((i:Int)+1)=((i+1:Nat):Int):=by lia
   rw[e1];have IW:h'.DictOf (aN prog w) d (merged [] ((List.range (i+1)).map a)):=by
    rw[List.range_succ,Yy,show merged ([]:List (Key×IR)) ((List.range i).map a++[i].map a)=stored (merged [] ((List.range i).map a)) (a i).1 (a i).2 by unfold merged;rw[List.foldl_append];rfl];exact dd
   refine Zs ⟨plainId_quiet gR _,ih (i+1) _ (by omega) HE (W.frame _ u _ _ QY (Nat.le_succ _) λb g o e=>?_) (λb o g e=>?_) IW λNm Rl RR=>?_⟩
   ·rw[sb.2 b (λh:b=d=>Z (by rw[← h];exact g))];exact e
   ·rw[sb.2 b (λh:b=d=>g (by rw[h];exact Zx))];exact j.heap b _ (λz=>g (q b z)) (B b o g e)
   ·refine D Nm (Moved.trans W.gtrans ((j.mono q).then_heap (Nat.le_succ _) λb o g e=>?_) Rl) RR;rw[sb.2 b (λh:b=d=>g (by rw[h];exact Zx))];exact e
end
end DP
end
section
namespace DP
open PySem PySem.Spec PyProof.Rows td
variable{prog:PP}{w:SL}{A:Pi}{E:Yu}{s:FB}
def lV:mroOf (.type "dict")=pure [.type "dict",.type "object"]:=by rw[mroOf_type];kernel_rfl
def kc:typeLookup (.type "dict") "__new__" = pure (O (.builtin "dict.__new__")):=by rw[typeLookup_type,builtinLookup_eq_fast];kernel_rfl
def pb:TypeCalled "dict" "dict.__new__" "dict.__init__" :=
 ⟨by decide +kernel,by decide +kernel,⟨_,_,lV⟩,madeBy_type lV kc (by decide +kernel),by decide +kernel,by rw[isSubtype_type];kernel_rfl,F.slot_dict_init⟩
def ke(a:IR):checkTypeCall "dict" ⟨[a],[]⟩=pure ():=by kernel_rfl
def kG(a:IR):checkBuiltinCall "dict.__new__" ⟨[.type "dict",a],[]⟩=pure ():=by kernel_rfl
def kI:entryFor table "dict.__new__" = O Builtin.«dict.__new__» := entryFor_of_tree (by kernel_rfl)
def h9:plainId "dict.__new__" = J:=by decide +kernel
def mh:isSubtype (.type "dict") (.type "dict")=pure J:=by rw[isSubtype_type];kernel_rfl
def mB(a:IR){b:Yu}(h:b (.ref s.heap.objs.size) { s with heap:=s.heap.push { cls:=.type "dict",data:=.dict #[] } }) :
  codeAny (FM prog w) A (.call (.builtin "dict.__new__") ⟨[.type "dict",a],[]⟩) (wants b E) s:=by
 refine codeAny_of_tree (Zz (m:=checkBuiltinCall "dict.__new__" ⟨[.type "dict",a],[]⟩) (wpAny_of_eq (kG a) (Zs ⟨plainId_quiet h9 _,WO kI ?_⟩)));rw[XD h9];have own:=mh;have mro:=lV;cases s;unfold Builtin.«dict.__new__»
 wp_walk
 exact h
def uy{a:GM}{j:Array IR}{C:Nat}{PD:Array (Vj)}{kv:Nat->Key×IR}{Q:Yu}(G:A.handled=Y)(D:s.heap.get? a=O { cls:=.type "tuple",dict:=Y,data:=.seq j C,slots:=PD })(R:j.size<=FS)(X:∀(i:Nat)(v:IR),j[i]?=O v->∃p m x r,v=.ref p/\s.heap.get? p=O { cls:=.type "tuple",dict:=Y,data:=.seq #[r,(kv i).2] m,slots:=x }/\(aN prog w).is (kv i).1 r=J)(h:∀(l:SC)(z:Nat),l.DictOf (aN prog w) s.heap.objs.size (merged [] ((List.range j.size).map kv))->(∀b o,s.heap.get? b=O o->l.get? b=O o)->Q (.ref s.heap.objs.size) { s with heap:=l,toks:=z }) :
  KB (FM prog w) A (call (.type "dict") [.ref a]) Q E s:=by
 refine callType_codes (Q₁:=λobj B=>obj=.ref s.heap.objs.size/\B={ s with heap:=s.heap.push { cls:=.type "dict",data:=.dict #[] } }) pb (ke _) F.entry_dict_init (mB _ ⟨rfl,rfl⟩) λobj B W=>?_;obtain⟨rfl,rfl⟩:=W;have ty:Shared.TypeIs { s with heap:=s.heap.push { cls:=.type "dict",data:=.dict #[] } } (.ref s.heap.objs.size) "dict" := ⟨_,Zc _ M,rfl⟩
 refine⟨ty,F.args_dict_init_2 _ _,?_⟩;obtain⟨f,g,d,z,os⟩:=s;have L:=Zt { cls:=.type "dict",data:=.dict #[] } D;unfold Builtin.«dict.__init__» Builtin.Dict.updateCommon Builtin.Dict.updateFrom;generalize eP:pyIter=itr;generalize eG:getAttr?=ga
 repeat (any_goals (first | assumption | wp_step))
 subst eG;dsimp only at *;refine uC L (by simp[G]) λt Nf e ne=>?_;simp only[Option.isNone_none,if_true];refine Zz (XW ?_);subst eP;have at2:=ne.keeps _ _ L;have dat:=ne.keeps f.objs.size { cls:=.type "dict",data:=.dict #[] } (Zc _ M);have u:=ZY dat;have y:∀{b:GM}{o:Obj},f.get? b=O o->b<f.objs.size:=λe=>ZY e;have I:∀b o,f.get? b=O o->t.get? b=O o:=λb o e=>ne.keeps _ _ (Zt _ e);have tup:t.IsTuple a j:=⟨_,at2,rfl,C,rfl⟩
 refine Zz (wpAny_pyIter_tuple tup (Zs ⟨plainId_quiet gR _,?_⟩));have alt:=y D;have D0:(t.push { cls:=.type "tuple_iterator",data:=.fields #[.ref a,.int 0 0] }).DictOf (aN prog w) f.objs.size (merged [] ((List.range 0).map kv)):=by
  obtain⟨o,es,ep,Z,rest⟩:=(Heap.DictOf.new (knd:=aN prog w) f)
  exact⟨o,es,ep,Zt _ (ne.keeps _ _ Z),rest⟩
 refine loop (A:=A.in1) ((Walks.tuple (by simp[G]) t.objs.size a (ZV (Wd alt u)) j).toS) f.objs.size (by simp only[Zq,YM,or_false,not_or];exact⟨ZV u,We alt⟩) f kv (λi v U=>?_) R j.size 0 _ (by lia) (ZN _) ?_ (λb o hb e=>Zt _ (I b o e)) D0 λP n dd=>?_
 ·obtain⟨p,m,x,r,rfl,H,g2⟩:=X i v U;have:=y H;exact⟨p,m,x,r,rfl,H,g2,by simp only[Zq,YM,or_false,not_or];exact⟨ZV this,ZV (Wd this u)⟩⟩
 ·exact⟨⟨_,Zc _ M,rfl,rfl⟩,tup.push _⟩
 ·obtain⟨l,g',d',Ku,P1⟩:=P;have e1:g'=g:=n.gens;have e2:d'=d:=n.drawn;have e3:P1=os:=n.os;subst e1 e2 e3;refine⟨rfl,h l Ku dd λb o e=>n.heap b o (λN=>?_) (Zt _ (I b o e))⟩;have:=y e;simp only[Zq,YM,or_false]at N;rcases N with q | q
  ·exact ZV this q
  ·exact ZV (Wd this u) q
end DP
end
section
namespace td
open PySem PySem.Spec PyProof.Rows
section
variable{X:Cx}
abbrev JU:=GM×Key×V
def zB{a:Yf}{Z:St}{H:Hp}{s:FB}(I:Inv X a Z H s){q:JU}(h:H q.1=O (.tup [kV q.2.1,q.2.2])):∃b m i d,RelV q.2.2 b/\s.heap.get? q.1=O { cls:=.type "tuple",dict:=Y,data:=.seq #[d,b] m,slots:=i }/\(aN X.prog X.w).is q.2.1 d=J:=by
 obtain⟨_,o,j,nd,⟨r,p,t,l⟩,g,f,n,e⟩:=(show bg X.prog X.w H s.heap q.1 (.tup [kV q.2.1,q.2.2]) from I.xa _ _ h)
 have hd:=nd _ g;dsimp only at f e hd;subst f e hd;obtain⟨d,b,rfl,r1,r2⟩:=vals2 j;exact⟨b,n,l,d,r2,g,jZ r1⟩
theorem qz{a:Yf}{Z:St}{H:Hp}{s:FB}(I:Inv X a Z H s):∀(b:List JU),(∀q∈b,H q.1=O (.tup [kV q.2.1,q.2.2])) →
  ∃i:List (Key×IR),Paired (λ(q:JU) (e:Key×IR)=>q.2.1=e.1/\RelV q.2.2 e.2/\∃m f d,s.heap.get? q.1=O { cls:=.type "tuple",dict:=Y,data:=.seq #[d,e.2] m,slots:=f }/\(aN X.prog X.w).is e.1 d=J) b i
 |[],_=>⟨[],.nil⟩
 |q :: b,h=>by
  obtain⟨j,m,f,d,r,g,k⟩:=zB I (h q Zx);obtain⟨i,p⟩:=qz I b λx l=>h x (Zw _ l);exact⟨(q.2.1,j) :: i,.cons ⟨rfl,r,m,f,d,g,k⟩ p⟩
theorem mN{R:JU->Key×IR->Prop}(f:∀q d,R q d->q.2.1=d.1/\RelV q.2.2 d.2):∀{e:List JU}{g:List (Key×IR)},Paired R e g->∀{a:List (Key×V)}{b:List (Key×IR)},KV a b->KV (e.foldl (λacc q=>putK acc q.2.1 q.2.2) a) (merged b g)
 |_,_,.nil,_,_,r=>r
 |_,_,.cons (a:=q) (b:=d) h t,a,b,r=>by
  obtain⟨e1,e2⟩:=f _ _ h;have:=mN f t (r.put d.1 e2);simp only[XA,merged];rw[e1];exact this
theorem pR:∀(b:List JU)(a:List (Key×V)),(b.foldl (λacc q=>putK acc q.2.1 q.2.2) a).length<=a.length+b.length
 |[],a=>Zo _
 |q :: b,a=>by
  have e:=pR b (putK a q.2.1 q.2.2);have d:=eZ a q.2.1 q.2.2;simp only[XA,Zl];lia
theorem Paired.at_{α β:Type}{R:α->β->Prop}:∀{l:List α}{m:List β},Paired R l m->∀(i:Nat){a:α},l[i]?=O a->∃b,m[i]?=O b/\R a b
 |_,_,.nil,i,a,h=>by simp at h
 |_,_,.cons r t,0,a,h=>by simp at h;subst h;exact⟨_,rfl,r⟩
 |_,_,.cons r t,i+1,a,h=>by simpa using Paired.at_ t i (by simpa using h)
def qU(N:X.calm=J):dI X (.type "dict") (λj H Q=>∃(p:GM)(b:List JU),j=[.ref p]/\H p=O (.tup (b.map λq=>V.ref q.1))/\(∀q∈b,H q.1=O (.tup [kV q.2.1,q.2.2])) ∧
  ∀l,H l=Y->Q (.ref l) (upd H l (.dK (b.foldl (λacc q=>putK acc q.2.1 q.2.2) [])))):=by
 intro r s Z H j us Q I D h;obtain⟨p,b,rfl,M,L,q⟩:=h;obtain⟨u,rfl,F⟩:=D.one;cases F;obtain⟨x,t,o,nd,⟨oc,od,Ti,Ju⟩,g,z,n,y⟩:=(show bg X.prog X.w H s.heap p (.tup (b.map λq=>V.ref q.1)) from I.xa _ _ M)
 have hd:=nd _ g;dsimp only at z y hd;subst z y hd;obtain⟨e,pr⟩:=qz I b L;have l1:t.length=b.length:=by have:=o.length;simpa using this.symm
 have l2:e.length=b.length:=pr.length.symm;rw[Zv]at x;have W:(List.range t.toArray.size).map (λi=>(e[i]?).getD (.inl 0,.none))=e:=by
  apply WK;intro i;rw[ZT];by_cases d:i<e.length
  ·rw[List.getElem?_range (by simp;lia),Zi d];simp[d]
  ·rw[Xe (by simp;lia),Xe (by exact Y5 d)];rfl
 refine DP.uy (kv:=λi=>(e[i]?).getD (.inl 0,.none)) (I.ok.hd N) g (by simp;lia) (λi v f=>?_) λh' B A kp=>?_
 ·rw[Vt]at f;have d:i<b.length:=by have:=(ZW.mp f).1;lia
  obtain⟨w,e1,e2⟩:=Paired.at_ o i (a:=V.ref b[i].1) (by rw[ZT,Zi d];rfl);rw[f]at e1;cases e1;obtain⟨kv,U,e4,_,m,C,G,R,P⟩:=Paired.at_ pr i (Zi d);rw[U];exact⟨b[i].1,m,C,G,e2,R,P⟩
 ·rw[W]at A;have rel:=mN (λ_ _ h=>⟨h.1,h.2.1⟩) pr (.nil:KV [] []);have ln:=pR b [];exact⟨.ref s.heap.objs.size,_,I.laid (t':=B) kp (Zo _) (ox (by simp at ln;exact ZU ln x) (beq_eq_false_iff_ne.mpr (Y2 (ZV I.big))) rel A),rfl,q _ (I.xa.fresh (Zo _))⟩
end
end td
end
section
namespace VS
open PySem PySem.Spec PyProof.Rows td
def nr:V4->Option (List (T×T))
 |[]=>O []
 |.tup [k,v] :: r=>if gG k/\FY v then (nr r).map ((k,v) :: ·) else Y
 |_=>Y
def jz:V2->V3
 |[(_,.tup l)]=>(nr l).map λa=>(.fr,.dct 0 (a.foldl (λd q=>dput d q.1 q.2) []))
 |_=>Y
section
variable{G:Gx}{X:Cx}{e:Expr}{cs:Gd}{p pos:Pos}
def zk{t:T}{l:V4}{d:List (T×T)}(h:nr (t :: l)=O d):∃k v a,t=.tup [k,v]/\gG k=J/\FY v=J/\nr l=O a/\d=(k,v) :: a:=by
 unfold nr at h;split at h
 ·rename_i b;cases b
 ·rename_i k v r b;cases b;split at h
  ·rename_i c;obtain⟨a,e1,e2⟩:=Zm.mp h;exact⟨k,v,a,rfl,c.1,c.2,e1,e2.symm⟩
  ·cases h
 ·cases h
theorem oQ{H:Hp}:∀{ts:V4}{g:List V}{A:Yd}{a:List (T×T)},xh G H g ts A->nr ts=O a →
  ∃d:List JU,g=d.map (λq=>V.ref q.1)/\(∀q∈d,H q.1=O (.tup [kV q.2.1,q.2.2]))/\Paired (λ(q:JU) (x:T×T)=>x.1=aK q.2.1/\Rp G H q.2.2 x.2 []) d a
 |[],_,_,a,r,h=>by
  cases r;cases (show O ([]:List (T×T))=O a from h);exact⟨[],rfl,λq n=>by simp at n,.nil⟩
 |t :: ts,_,_,a,r,h=>by
  obtain⟨k,v,j,rfl,o,m,u,rfl⟩:=zk h;cases r with
  |cons r1 r2 =>
   obtain⟨d,e1,e2,z⟩:=oQ r2 u;obtain⟨b,vs,Fs,rfl,s,q⟩:=Rp.GJ r1;cases q with
   |cons rk q =>
    cases q with
    |cons i q =>
     cases q;obtain⟨l,rfl,w⟩:=eB rk o;have y:=i.FY m;subst y;refine⟨(b,l,_) :: d,by rw[e1];rfl,λx f=>?_,.cons ⟨w,i⟩ z⟩;rcases Zq.mp f with rfl | f
     ·exact s
     ·exact e2 x f
theorem qh{H:Hp}:∀{u:List JU}{o:List (T×T)},Paired (λ(q:JU) (x:T×T)=>x.1=aK q.2.1/\Rp G H q.2.2 x.2 []) u o->∀{ns:List Key}{vs:List V}{ts:V4}{Fs:Yd},ns.length=vs.length->xh G H vs ts Fs->Fs.flatten=[] →
  ∃(m:List Key)(f:List V)(n:V4)(g:Yd),u.foldl (λacc q=>putK acc q.2.1 q.2.2) (ns.zip vs)=m.zip f/\o.foldl (λd q=>dput d q.1 q.2) ((ns.map aK).zip ts)=(m.map aK).zip n/\m.length=f.length/\xh G H f n g/\g.flatten=[]
 |_,_,.nil,ns,vs,ts,Fs,i,r,l=>⟨ns,vs,ts,Fs,rfl,rfl,i,r,l⟩
 |_,_,.cons (a:=q) (b:=x) h t,ns,vs,ts,Fs,i,r,l=>by
  obtain⟨F,f,n,g,B,A,z,y,s⟩:=lz (kk:=q.2.1) h.2 i r;rw[l]at s;have j:g.flatten=[]:=List.sublist_nil.mp s;obtain⟨C,v,w,D,a1,a2,a3,a4,a5⟩:=qh t A y j;refine⟨C,v,w,D,?_,?_,a3,a4,a5⟩
  ·rw[XA,B];exact a1
  ·rw[XA,h.1,z];exact a2
def wz:fE G (λo H Q=>∃(p:GM)(a:List JU),o=[.ref p]/\H p=O (.tup (a.map λq=>V.ref q.1))/\(∀q∈a,H q.1=O (.tup [kV q.2.1,q.2.2])) ∧
  ∀l,H l=Y->Q (.ref l) (upd H l (.dK (a.foldl (λacc q=>putK acc q.2.1 q.2.2) [])))) jz:=by
 intro L U B H l vs Fs m t Q A e k;unfold jz at e;split at e
 ·rename_i z ts;obtain⟨s,e1,e2⟩:=Zm.mp e;cases e2;obtain⟨v,F,rfl,rfl,r⟩:=(show xh G H vs [.tup ts] Fs from A.rp).one;obtain⟨b,y,C,rfl,u,q⟩:=Rp.GJ r;obtain⟨a,rfl,f,pr⟩:=oQ q e1;refine⟨b,a,rfl,u,f,λl n=>?_⟩;obtain⟨ns,i,x,w,a1,a2,a3,a4,a5⟩:=qh pr (ns:=[]) (vs:=[]) (ts:=[]) (Fs:=[]) M .nil M;have h:a.foldl (λacc q=>putK acc q.2.1 q.2.2) []=ns.zip i:=a1;have g:s.foldl (λd q=>dput d q.1 q.2) []=(ns.map aK).zip x:=a2;rw[h];have j:aO H (upd H l (.dK (ns.zip i))):=bT n;refine k _ _ (l :: w.flatten) j (by rw[g];exact .dct aw a3 (a4.same j)) ?_;rw[a5];exact Fp.new (A.same.free n) (by simp) Fp.nil
 ·cases e
def zD:bootBuiltins ("dict" : Str)=O (.type "dict"):=by decide +kernel
def zP(a:X.mg "dict" = Y)(f:Ho G X [e] cs)(b:Gl X "dict" := by rfl)(d:X.calm=J:=by rfl)(he:K0 e [] X:=by rfl):PV G X (.Call (.Name "dict" p) [e] [] pos) (eN jz cs) :=
 jW (qU d) wz b a zD f (he:=he) (hpl:=rfl)
end
end VS
end
section
namespace VS
open PySem PySem.Spec PyProof.Rows td
def OL:T->Bool
 |.non=>J
 |.bl _=>J
 |.int _=>J
 |.str _=>J
 |_=>S
def zc{G:Gx}{H a:Hp}{v:V}{t:T}{F:X4}(h:OL t=J)(r:Rp G H v t F):F=[]/\Rp G a v t []:=by
 cases r with
 |non=>exact⟨rfl,.non⟩
 |bl b=>exact⟨rfl,.bl b⟩
 |int i=>exact⟨rfl,.int i⟩
 |str s ok=>exact⟨rfl,.str s ok⟩
 |_=>cases h
end VS
end
section
namespace td
open PySem PySem.Spec PyProof.Rows
def pick{α:Type}(l:List α)(a:Vi):List α:=a.filterMap (l[·]?)
def gF{α:Type}(l:List α)(b d a:Option Int):List α:=pick l (sliceRange (sliceBounds b d a l.length).1 (sliceBounds b d a l.length).2.1 (sliceBounds b d a l.length).2.2)
def wY{α:Type}(l:List α)(a:Vi){x:α}(h:x∈pick l a):x∈l:=by
 obtain⟨i,_,e⟩:=WV.mp h;exact YX e
def xS{α β:Type}(f:α->β)(l:List α)(a:Vi):pick (l.map f) a=(pick l a).map f:=by
 unfold pick;rw[List.map_filterMap];congr 1;funext i;rw[ZT]
def qL{α β:Type}(f:α->β)(l:List α)(b d a:Option Int):gF (l.map f) b d a=(gF l b d a).map f:=by
 unfold gF;rw[Zv,xS]
def pL{α:Type}(l:List α)(b d a:Option Int):(gF l b d a).length<=l.length:=by
 have h:=slicePick_size_le (l.map λ_=>Value.none).toArray b d a;have e:(slicePick (l.map λ_=>Value.none).toArray b d a).size=(gF (l.map λ_=>Value.none) b d a).length:=by
  unfold slicePick gF pick;simp only[Zd,Vt]
 rw[e,qL,Zv,Zd,Zv]at h;exact h
def t9{b:List V}{d:Ws}(r:aT b d)(a:Vi):aT (pick b a) (pick d a):=by
 induction a with
 |nil=>exact .nil
 |cons i a e =>
  unfold pick at e ⊢;rw[Y0,Y0];cases f:b[i]? with
  |none =>
   have:d[i]?=Y:=by
    rw[Yq]at f ⊢;rw[← r.length];exact f
   rw[this];exact e
  |some x =>
   obtain⟨u,h,g⟩:=r.get f;rw[h];exact .cons g e
section
variable{X:Cx}{e st:Expr}{lo hi:Option Expr}{te:TE}{tl th ts:TO}{pos p2:Pos}
noncomputable def Ek(X:Cx)(r:V->Option Int->Option Int->Option Int->Hp->VK->Prop):Prop :=
 ∀(a:Yf)(s:FB)(Z:St)(H:Hp)(x:V)(v f b d:IR)(lo hi st:Option Int)(g:GM)(Q:VK),Inv X a Z H s->RelV x v->s.heap.IsSliceOf g f b d->IsPart f lo->IsPart b hi->IsPart d st->r x lo hi st H Q →
  ∃T id,typeLookup (.type T) "__getitem__" = pure (O (.builtin id))/\s.TypeIs v T/\KB (FM X.prog X.w) X.A (getItem v (.ref g)) (EP X a Z Q) X.xe s
def Fh(r:V->Option Int->Option Int->Option Int->Hp->VK->Prop)(f:TE)(b d a:TO):TE:=λZ H Q=>f Z H λx j=>b Z j λl i=>d Z i λu h=>a Z h λc g=>r x l u c g Q
def uF{r:V->Option Int->Option Int->Option Int->Hp->VK->Prop}(L:Ek X r)(P:PE X e te)(M:PO X lo tl)(D:PO X hi th)(G:PO X (O st) ts):PE X (.Subscript e (.Slice lo hi (O st) p2) pos) (Fh r te tl th ts):=by
 intro a s Z H Q I h;refine Subscript_ (thn (P a s Z H _ I h) λv o ⟨x,H1,I1,r1,z⟩=>?_);refine wpAny_Slice (thn (M a o Z H1 _ I1 z) λi n ⟨l,H2,I2,C,y⟩=>thn (D a n Z H2 _ I2 y) λf m ⟨u,H3,I3,pu,t⟩=>thn (G a m Z H3 _ I3 t) λg d ⟨c,j,W,B,p⟩=>?_);have U:Inv X a Z j { d with heap:=d.heap.push { cls:=.type "slice",data:=.fields #[i,f,g] } }:=W.kept (t':=d.toks) λb ob q=>Zt _ q;obtain⟨T,id,R,F,N⟩:=L a { d with heap:=d.heap.push { cls:=.type "slice",data:=.fields #[i,f,g] } } Z j x v i f g l u c d.heap.objs.size Q U r1 (Heap.IsSliceOf.new ..) C pu B p;show KB (FM X.prog X.w) X.A (subscriptTail e (.Slice lo hi (O st) p2) v (.ref d.heap.objs.size)) (EP X a Z Q) X.xe { d with heap:=d.heap.push { cls:=.type "slice",data:=.fields #[i,f,g] } };exact tail_any (ops:=[v,.ref d.heap.objs.size]) F R N (by with_unfolding_all rfl)
def Dt(K:Xd):V->Option Int->Option Int->Option Int->Hp->VK->Prop:=λx lo hi st H Q=>∃a b,x=.ref a/\FF K H a b/\st≠O 0/\∀p,H p=Y->Q (.ref p) (upd H p (.lst (gF b lo hi st)))
def xj:Ek X (Dt X.K):=by
 intro f s Z H x v z w y lo hi st A Q I j t m pu l h;obtain⟨a,d,rfl,p,u,q⟩:=h;cases j;obtain⟨g,r,i,n⟩:=I.list p;have hlen:=r.length;refine⟨"list",_,slot_list_getitem.lookup,i.isList.typeIs,?_⟩;refine wpAny_getItem_list_slice i.isList t m pu l u ?_ (by rw[Zd]<;>lia);have e:slicePick g.toArray lo hi st=(gF g lo hi st).toArray:=by
  unfold slicePick gF pick;simp only[Zd,Vt]
 rw[e];refine⟨.ref s.heap.objs.size,_,I.laid (t':=s.toks) (o:=.lst (gF d lo hi st)) (λb B q=>Zt _ q) (Zo _) ?_,rfl,q _ (I.xa.fresh (Zo _))⟩;refine⟨ZU (pL d lo hi st) n,_,0,?_,Zc _ M⟩;unfold gF;rw[← hlen];exact t9 r _
end
end td
namespace VS
open PySem PySem.Spec PyProof.Rows td
section
variable{G:Gx}{X:Cx}{a:Expr}{ca:Ex}{pos:Pos}
def Nl(x:Val)(l h c:Option Int):V3:=match x with
 | (_,.lst b)=>if b.all OL/\c≠O 0 then O (.fr,.lst (gF b l h c)) else Y
 |_=>Y
def uh(a:Ex)(d e b:Option Ex)(U:VS.Env):V3:=(a U).bind λx=>(j4 d U).bind λl=>(j4 e U).bind λh=>(j4 b U).bind λc=>Nl x l h c
def zj{H m:Hp}{f:List V}{b:V4}{n:Yd}(r:xh G H f b n)(l:b.all OL=J)(d:Vi):xh G m (pick f d) (pick b d) (List.replicate (pick b d).length []):=by
 induction d with
 |nil=>exact .nil
 |cons i d g =>
  unfold pick at g ⊢;rw[Y0,Y0];cases e:b[i]? with
  |none =>
   have:f[i]?=Y:=by
    rw[Yq]at e ⊢;rw[r.len.1];exact e
   rw[this];exact g
  |some t =>
   obtain⟨v,F,j,_,h⟩:=r.get i e;rw[j];exact .cons (zc (ZD.mp l t (YX e)) h).2 g
def xQ{u:Expr}{y B:Option Expr}{N P M:Option Ex}{p2:Pos}(ha:PV G X a ca)(hl:MH G X y N)(hh:MH G X B P)(ID:MH G X (O u) M)(hK:X.K=G.K:=by rfl):PV G X (.Subscript a (.Slice y B (O u) p2) pos) (uh ca N P M) :=
 PE.weak (uF xj ha hl hh ID) λZ H Q hq=>by
  obtain⟨L,U,m,t,s,e,k⟩:=hq;unfold uh at e;obtain⟨⟨mx,x⟩,ea,o⟩:=Zy.mp e;obtain⟨l,g,n⟩:=Zy.mp o;obtain⟨h,eh,j⟩:=Zy.mp n;obtain⟨c,ec,d⟩:=Zy.mp j;clear e o n j;refine⟨L,U,mx,x,s,ea,λv H1 F e1 r1 f1=>⟨L,U,l,s.same e1,g,λH2 e2=>⟨L,U,h,(s.same e1).same e2,eh,λH3 i=>⟨L,U,c,((s.same e1).same e2).same i,ec,λH4 I=>?_⟩⟩⟩⟩;have R:aO H H4:=((e1.trans e2).trans i).trans I;have W:=((r1.same e2).same i).same I;unfold Nl at d;split at d
  ·rename_i m' f q;cases q;split at d
   ·rename_i C;cases d;obtain⟨a',r,Fs,rfl,rfl,Gq,w⟩:=W.lst_inv;refine⟨a',r,rfl,by rw[hK];exact FF.of Gq,C.2,λp A=>?_⟩;have fl:(List.replicate (gF f l h c).length ([]:X4)).flatten=[]:=by simp
    refine k (.ref p) _ (p :: (List.replicate (gF f l h c).length ([]:X4)).flatten) (R.trans (bT A)) (.lst aw ?_) ⟨?_,λb D=>?_⟩
    ·have g:r.length=f.length:=w.len.1;unfold gF;rw[g];exact zj w C.1 _
    ·rw[fl];exact ZS.mpr ⟨(λz=>nomatch z),List.nodup_nil⟩
    ·rw[fl]at D;rw[Zh.mp D];exact R.free A
   ·cases d
  ·cases d
end
end VS
end
section
namespace td
def DU{α:Type}{n:Nat}{b:List α}(d:b.length=n+1):∃a t,b=a :: t/\t.length=n:=by
 obtain⟨a,t,e⟩:=List.exists_cons_of_length_eq_add_one d;subst e;exact⟨a,t,rfl,Nat.succ.inj d⟩
def nq{α:Type}{b:List α}(d:b.length=1):∃a,b=[a]:=List.length_eq_one_iff.mp d
def oG{α:Type}{d:List α}(f:d.length=2):∃a b,d=[a,b]:=by
 obtain⟨a,t,rfl,e⟩:=DU f;obtain⟨b,rfl⟩:=nq e;exact⟨a,b,rfl⟩
def Ep{α:Type}{d:List α}(f:d.length=3):∃a b c,d=[a,b,c]:=by
 obtain⟨a,t,rfl,e⟩:=DU f;obtain⟨b,c,rfl⟩:=oG e;exact⟨a,b,c,rfl⟩
end td
end
section
namespace VS
open PySem PySem.Spec PyProof.Rows td
inductive Res where | ok (v:Val) | ex (x:Str)
inductive SS where | ok (o:Out) | ex (x:Str) (U:VS.Env)
abbrev ExX:=VS.Env->Option Res
abbrev SxX:=VS.Env->Option SS
end VS
end
section
namespace VS
open PySem PySem.Spec PyProof.Rows td
abbrev DQ:=List (Nat×T)
abbrev Mt:=DQ->V4->Option (DQ×T)
end VS
end
section
namespace VS
open PySem PySem.Spec PyProof.Rows td
open Classical in
noncomputable def less(H:Hp)(F:X4):Hp:=λb=>if b∈F then Y else H b
end VS
end
section
namespace VS
open PySem PySem.Spec PyProof.Rows td
inductive Ia where | io (i:Nat) (un:Bool) | ex (c:Ex)
abbrev Xt:=VS.Env->Option (Bool×VS.Env)
end VS
end
section
namespace VS
open PySem PySem.Spec PyProof.Rows td
def x2(f:Val->Val->V3)(a b:Xx):Xx:=λU=>(a U).bind λz=>(b z.2).bind λw=>(f (.fr,z.1.2) (.fr,w.1.2)).bind λv=>if FY z.1.2=J/\FY w.1.2=J/\FY v.2=J then O ((.fr,v.2),w.2) else Y
inductive Ix where | io (i:Nat) (un:Bool) | px (x:Xx)
end VS
end
section
namespace td
open PySem PySem.Spec PyProof.Rows
def Inv.turns{X:Cx}{a:Yf}{Z:St}{H:Hp}{s:FB}{g:SC}{t':Nat}{ch:X4}(I:Inv X a Z H s)(k:∀b o,b∉ch->s.heap.get? b=O o->g.get? b=O o)(f:∀b∈ch,fU X a H b):Inv X a Z H { s with heap:=g,toks:=t' }:=by
 have h:∀b u,H b=O u->b∉ch:=λb u e z=>by rw[(f b z).1]at e;cases e
 refine I.step (g':=s.gens) (d':=s.drawn) (ch:=ch) (λb l=>?_) (λb o _ _ d e _=>k b o d e) (λb o _ _ d e _=>⟨o.slots,k b o d e⟩) (λ_ _ _ _ n=>n)
  (λb o d e=>⟨o,k b o d e⟩) (λ_ _ e=>e) (λ_ _ _ e=>e) (λ_ _ e=>e) (λm j=>?_) (λb u e=>?_) I.bare
 ·obtain⟨A,f1,f2,w,t,p⟩:=f b l;exact⟨w,f1,t,p⟩
 ·obtain⟨o,x,y,i,r⟩:=j;exact⟨o,x,y,k _ o (λz=>(f _ z).2.1 M) i,r⟩
 ·refine(I.xa b u e).Hv (λc v d q=>k c v ?_ q) (λ_ q=>q) (λ_ _ q=>q) λ_ _ _ q=>q;rcases d with z | z
  ·rw[z];exact h b u e
  ·exact h c _ z
end td
namespace VS
open PySem PySem.Spec PyProof.Rows td
def lQ:V4->V4->V4
 |a :: l,b :: m=>.tup [a,b] :: lQ l m
 |_,_=>[]
section
variable{G:Gx}{X:Cx}{a b:Expr}{ca cb:Ex}{pos p Ip:Pos}{elts:List Expr}{n:Nat}
theorem sO:∀(l m:V4)(i:Nat){t:T},(lQ l m)[i]?=O t->∃x y,l[i]?=O x/\m[i]?=O y/\t=.tup [x,y]
 |[],_,_,_,h=>by simp[lQ]at h
 |_ :: _,[],_,_,h=>by simp[lQ]at h
 |x :: l,y :: m,0,t,h=>⟨x,y,rfl,rfl,(ZK h).symm⟩
 |x :: l,y :: m,i+1,t,h=>by simpa using sO l m i (t:=t) (by simpa[lQ] using h)
theorem tV:∀(l m:V4)(i:Nat),(lQ l m).length<=i->l.length<=i\/m.length<=i
 |[],_,_,h=>.inl (ZN _)
 |_ :: _,[],_,h=>.inr (ZN _)
 |x :: l,y :: m,0,h=>nomatch h
 |x :: l,y :: m,i+1,h=>(tV l m i (Nat.le_of_succ_le_succ h)).imp YO YO
end
end VS
end
section
namespace td
open PySem PySem.Spec PyProof.Rows
def nk(a:PP)(w:SL)(A:Pi)(d:GM)(S:SC->Prop):Prop:=∀(s:FB)(Q:Yu)(E:Yu),S s.heap →
  (∀b e,Heap.ExtBut d s.heap b->(∃o,b.get? e=O o/\o.cls=.type "StopIteration")->E (.ref e) { s with heap:=b })->KB (FM a w) A (Builtin.SmallTypes.nextOf (.ref d)) Q E s
section
variable{prog:PP}{w:SL}{A:Pi}{E:Yu}{s:FB}
def uM{z TI TO g f l2:GM}{n k k2:Nat}{P:Nat->IR->Prop}{St:Nat->SC->Prop}{Z:Array IR}{y a b:IR}{Q:Yu}(D:ZipApart z TI TO g f l2 l2)(X:Draws prog w A g [g] n P St)(r:IsZip s.heap z TI TO .none)(Mq:IsPair s.heap TI (.ref g) (.ref f))(Mp:IsPair s.heap TO a b)(h1:St k s.heap)(h2:s.heap.IsListIter f l2 k2)(Ge:s.heap.IsList l2 Z)(hk:k<n)(hy:Z[k2]?=O y)(hQ:∀x h C,P k x->IsZip h z TI TO (rawInt s.heap.objs.size)->IsPair h TO x y->St (k+1) h->h.IsListIter f l2 (k2+1)->IsPair h s.heap.objs.size x y->h.objs.size=s.heap.objs.size+1 →
   (∀c o,c≠z->c≠TO->c≠g->c≠f->s.heap.get? c=O o->h.get? c=O o)->Q (.ref s.heap.objs.size) { s with heap:=h,toks:=C }) :
  KB (FM prog w) A (Builtin.«zip.__next__» ⟨[.ref z],[]⟩) (λfin s'=>∃v,fin=.done (.ret v)/\Q v s') E s:=by
 show KB _ _ (field (.ref z) 2>>=_) _ _ _;refine Zz (Wy r M (x:=.bool S) M ?_);show KB _ _ (field (.ref z) 3>>=_) _ _ _;refine Zz (Wy r M (x:=.ref TI) M ?_);refine Zz (Xl Mq M ?_);show KB _ _ (Builtin.SmallTypes.ownedTupleIsFree (.ref z)>>=_) _ _ _;refine Zz ?_;unfold Builtin.SmallTypes.ownedTupleIsFree;refine Zz (Wy r M (x:=.none) M (Zs ?_));simp only[if_true];refine Zz (XW ?_);refine Zz (Wy r M (x:=.ref TO) M ?_);refine Zz (XX r (by simp) λh₁ W p=>?_);replace W:IsZip h₁ z TI TO .ellipsis:=W;refine Zz ?_;simp only[XJ,List.zipIdx_nil,Wl,List.forIn_nil];refine Zz (Zz (wpAny_onRaise ?_));show KB _ _ (Builtin.SmallTypes.nextOf (.ref g)>>=_) _ _ _;refine Zz (X.item k _ _ _ hk (X.frame _ _ _ h1 λc I o e=>p.extBut _ _ (by rw[Zh.mp I];exact D.i1z) e) λx H C hP Lu j=>Zs ?_);have j:Heap.SameBut g h₁ H:=j;have Hi:IsPair H TO a b:=j.extBut _ _ D.TOi1 (p.extBut _ _ D.TOz Mp);refine Zz (Xl Hi M ?_);refine Zz (Vd Hi λG U i=>?_);replace U:IsPair G TO x b:=U;have i:Heap.SameBut TO H G:=i;refine Zz (WZ (Zs ?_));refine Zz (Zz (wpAny_onRaise ?_));show KB _ _ (Builtin.SmallTypes.nextOf (.ref f)>>=_) _ _ _;refine Zz (wpAny_nextOf_list_item (((h2.extBut p.extBut D.i2z).extBut j.extBut D.i12.symm).extBut i.extBut D.TOi2.symm)
  (((Ge.extBut p.extBut D.l2z).extBut j.extBut D.l2i1).extBut i.extBut D.l2TO) hy λF Ob l=>Zs ?_)
 have l:Heap.SameBut f G F:=l;have Kc:IsPair F TO x b:=l.extBut _ _ D.TOi2 U;refine Zz (Xl Kc M ?_);refine Zz (Vd Kc λd B m=>?_);replace B:IsPair d TO x y:=B;have m:Heap.SameBut TO F d:=m;refine Zz (WZ (Zs (Zs ?_)));refine Zz (Xl B M ?_);refine Zz (Vc ?_);have t:d.objs.size=s.heap.objs.size:=by rw[m.1,l.1,i.1,j.1,p.1]
 have Lf:IsZip d z TI TO .ellipsis:=m.extBut _ _ D.TOz.symm (l.extBut _ _ D.i2z.symm (i.extBut _ _ D.TOz.symm (j.extBut _ _ D.i1z.symm W)));have NS:∀c o,c≠z->c≠TO->c≠g->c≠f->s.heap.get? c=O o->d.get? c=O o:=λc o c1 c2 c3 c4 e =>
  m.extBut _ _ c2 (l.extBut _ _ c4 (i.extBut _ _ c2 (j.extBut _ _ c3 (p.extBut _ _ c1 e))))
 have Oa:d.IsListIter f l2 (k2+1):=Ob.extBut m.extBut D.TOi2.symm;have NG:z<d.objs.size:=ZY Lf;show KB _ _ (Builtin.SmallTypes.ownedTupleHandOut (.ref z) (.ref d.objs.size)>>=_) _ _ _;refine Zz ?_;unfold Builtin.SmallTypes.ownedTupleHandOut;have NF:IsZip (d.push { cls:=.type "tuple",data:=.seq #[x,y] }) z TI TO .ellipsis:=Zt _ Lf;refine Zz (XX NF (by simp) λh₇ R L=>?_);replace R:IsZip h₇ z TI TO (rawInt d.objs.size):=R;refine XX R (by simp) λq u N=>?_;replace u:IsZip q z TI TO (rawInt d.objs.size):=u;have up:∀c o,c≠z->d.get? c=O o->q.get? c=O o:=λc o c1 e=>N.extBut _ _ c1 (L.extBut _ _ c1 (Zt _ e));have Ls:IsPair q d.objs.size x y:=N.extBut _ _ (We NG) (L.extBut _ _ (We NG) (Zc _ M));have Tz:q.objs.size=d.objs.size+1:=by rw[N.1,L.1,Xg]
 rw[t]at u Ls Tz;refine Zs ⟨_,rfl,?_⟩;show Q (.ref d.objs.size) _;rw[t];exact hQ x q C hP u (up _ _ D.TOz B) (X.frame _ _ _ Lu λc I o e=>by
  rw[Zh.mp I]at e ⊢;exact up _ o D.i1z (m.extBut _ _ D.TOi1.symm (l.extBut _ _ D.i12 (i.extBut _ _ D.TOi1.symm e)))) (Oa.at λo e=>up _ o D.i2z e) Ls Tz λc o c1 c2 c3 c4 e=>up c o c1 (NS c o c1 c2 c3 c4 e)
def vZ{z TI TO g j l2:GM}{n k k2:Nat}{P:Nat->IR->Prop}{St:Nat->SC->Prop}{G:Array IR}{a b:IR}{Q:Fin->FB->Prop}(hh:A.handled=Y)(D:ZipApart z TI TO g j l2 l2)(X:Draws prog w A g [g] n P St)(m:IsZip s.heap z TI TO .none)(Mq:IsPair s.heap TI (.ref g) (.ref j))(Mp:IsPair s.heap TO a b)(h1:St k s.heap)(h2:s.heap.IsListIter j l2 k2)(Ge:s.heap.IsList l2 G)(IS:nk prog w A g (St k)\/(k<n/\G[k2]?=Y))(H:∀C e r,(∀c o,c≠z->c≠TO->c≠g->c≠j->s.heap.get? c=O o->C.get? c=O o)->(∃o,C.get? e=O o/\o.cls=.type "StopIteration")->E (.ref e) { s with heap:=C,toks:=r }) :
  KB (FM prog w) A (Builtin.«zip.__next__» ⟨[.ref z],[]⟩) Q E s:=by
 show KB _ _ (field (.ref z) 2>>=_) _ _ _;refine Zz (Wy m M (x:=.bool S) M ?_);show KB _ _ (field (.ref z) 3>>=_) _ _ _;refine Zz (Wy m M (x:=.ref TI) M ?_);refine Zz (Xl Mq M ?_);show KB _ _ (Builtin.SmallTypes.ownedTupleIsFree (.ref z)>>=_) _ _ _;refine Zz ?_;unfold Builtin.SmallTypes.ownedTupleIsFree;refine Zz (Wy m M (x:=.none) M (Zs ?_));simp only[if_true];refine Zz (XW ?_);refine Zz (Wy m M (x:=.ref TO) M ?_);refine Zz (XX m (by simp) λv q i=>?_);replace q:IsZip v z TI TO .ellipsis:=q;refine Zz ?_;simp only[XJ,List.zipIdx_nil,Wl,List.forIn_nil];refine Zz (Zz (wpAny_onRaise ?_));show KB _ _ (Builtin.SmallTypes.nextOf (.ref g)>>=_) _ _ _;have N:St k v:=X.frame _ _ _ h1 λc hc o e=>i.extBut _ _ (by rw[Zh.mp hc];exact D.i1z) e;rcases IS with y | ⟨y,hy⟩
 ·refine Zz (y _ _ _ N λl e d B=>?_);obtain⟨t,h,p⟩:=B;have I:IsZip l z TI TO .ellipsis:=d _ _ D.i1z.symm q;have F:e≠z:=λx=>by subst x;rw[I]at h;cases h;simp at p
  refine XX I (by simp) λu _ f=>H u e s.toks (λc o c1 _ c3 _ x=>f.extBut _ _ c1 (d _ _ c3 (i.extBut _ _ c1 x))) ⟨t,f.extBut _ _ F h,p⟩
 ·refine Zz (X.item k _ _ _ y N λx l r hP Lu d=>Zs ?_);have d:Heap.SameBut g v l:=d;have R:IsPair l TO a b:=d.extBut _ _ D.TOi1 (i.extBut _ _ D.TOz Mp);refine Zz (Xl R M ?_);refine Zz (Vd R λu HX f=>?_);have f:Heap.SameBut TO l u:=f;refine Zz (WZ (Zs ?_));refine Zz (Zz (wpAny_onRaise ?_));show KB _ _ (Builtin.SmallTypes.nextOf (.ref j)>>=_) _ _ _;refine Zz (wpAny_nextOf_list_end (by exact hh) (((h2.extBut i.extBut D.i2z).extBut d.extBut D.i12.symm).extBut f.extBut D.TOi2.symm)
   (((Ge.extBut i.extBut D.l2z).extBut d.extBut D.l2i1).extBut f.extBut D.l2TO) hy λh₄ e U B=>?_)
  obtain⟨t,h,p⟩:=B;have L:IsZip h₄ z TI TO .ellipsis:=U _ _ D.i2z.symm (f.extBut _ _ D.TOz.symm (d.extBut _ _ D.i1z.symm q));have F:e≠z:=λx=>by subst x;rw[L]at h;cases h;simp at p
  refine XX L (by simp) λZ _ W=>H Z e r (λc o c1 c2 c3 c4 x=>W.extBut _ _ c1 (U _ _ c4 (f.extBut _ _ c2 (d.extBut _ _ c3 (i.extBut _ _ c1 x))))) ⟨t,W.extBut _ _ F h,p⟩
def lJ{z TI TO f e l2:GM}{n k k2:Nat}{P:Nat->IR->Prop}{St:Nat->SC->Prop}{h:Array IR}{y a b:IR}{Q:Vj->FB->Prop}(D:ZipApart z TI TO f e l2 l2)(G:∀l:Pi,l.handled=Y->Draws prog w l f [f] n P St)(q:A.handled=Y)(i:IsZip s.heap z TI TO .none)(v:IsPair s.heap TI (.ref f) (.ref e))(B:IsPair s.heap TO a b)(u:St k s.heap)(t:s.heap.IsListIter e l2 k2)(C:s.heap.IsList l2 h)(p:k<n)(m:h[k2]?=O y)(r:∀x d g,P k x->IsZip d z TI TO (rawInt s.heap.objs.size)->IsPair d TO x y->St (k+1) d->d.IsListIter e l2 (k2+1)->IsPair d s.heap.objs.size x y->d.objs.size=s.heap.objs.size+1 →
   (∀c o,c≠z->c≠TO->c≠f->c≠e->s.heap.get? c=O o->d.get? c=O o)->Q (O (.ref s.heap.objs.size)) { s with heap:=d,toks:=g }) :
  KB (FM prog w) A (pyNext (.ref z)) Q E s:=by
 have j:s.TypeIs (.ref z) "zip" := ⟨_,i,rfl⟩
 unfold pyNext;exact Zz (XR (Vr (name:=Str.ofString "__next__") j Vn
  (Y8 Vn j F.entry_zip_next
   (uM D (G _ q) i v B u t C p m λx d g a0 a1 a2 a3 a4 a5 a6 a7=>Zs (r x d g a0 a1 a2 a3 a4 a5 a6 a7)) (F.args_zip_next_1 _))))
def mf{z TI TO d h l2:GM}{n k k2:Nat}{P:Nat->IR->Prop}{St:Nat->SC->Prop}{l:Array IR}{a b:IR}{Q:Vj->FB->Prop}(D:ZipApart z TI TO d h l2 l2)(L:∀g:Pi,g.handled=Y->Draws prog w g d [d] n P St)(i:A.handled=Y)(p:IsZip s.heap z TI TO .none)(C:IsPair s.heap TI (.ref d) (.ref h))(G:IsPair s.heap TO a b)(B:St k s.heap)(y:s.heap.IsListIter h l2 k2)(I:s.heap.IsList l2 l)(H:(∀g:Pi,g.handled=Y->nk prog w g d (St k))\/(k<n/\l[k2]?=Y))(x:∀j m,(∀c o,c≠z->c≠TO->c≠d->c≠h->s.heap.get? c=O o->j.get? c=O o)->Q Y { s with heap:=j,toks:=m }):KB (FM prog w) A (pyNext (.ref z)) Q E s:=by
 have q:s.TypeIs (.ref z) "zip" := ⟨_,p,rfl⟩
 unfold pyNext;refine Zz (XR (Vr (name:=Str.ofString "__next__") q Vn
  (Y8 Vn q F.entry_zip_next (vZ i D (L _ i) p C G B y I (H.imp (λf=>f _ i) id) λj e m t u=>?_) (F.args_zip_next_1 _))))
 obtain⟨o,r,v⟩:=u;refine Zz (Wf (T := "StopIteration") (b:=J) ⟨o,r,v⟩ isSubtype_stop ?_);exact Zs (x _ _ t)
end
abbrev An(h:SC)(x:Str)(t:Tok):Heap:=h.push { cls:=.type (strIterType x),data:=.fields #[.str x t,.int 0 0] }
abbrev zh(h:SC)(x:Str)(t:Tok)(l2:GM):Heap:=(An h x t).push { cls:=.type "list_iterator",data:=.fields #[.ref l2,.int 0 0] }
abbrev zL(h:SC)(x:Str)(t:Tok)(l2:GM):Heap:=(zh h x t l2).push { cls:=.type "tuple",data:=.seq #[.ref h.objs.size,.ref (An h x t).objs.size] }
abbrev zy(h:SC)(x:Str)(t:Tok)(l2:GM):Heap:=(zL h x t l2).push { cls:=.type "tuple",data:=.seq #[.none,.none] }
abbrev rV(h:SC)(x:Str)(t:Tok)(l2:GM):Heap:=(zy h x t l2).push { cls:=.type "zip",data:=.fields #[.none,.bool S,.bool S,.ref (zh h x t l2).objs.size,.ref (zL h x t l2).objs.size] }
def kU(x:Str)(t:Tok)(l2:GM)(a:Array IR) :
  Meets (Builtin.«zip.__new__» ⟨[.type "zip",.str x t,.ref l2],[]⟩) (λ_ R s=>s.heap.IsList l2 a ∧
   R (.ok (.ret (.ref (zy s.heap x t l2).objs.size))) { s with heap:=rV s.heap x t l2 }) :=
 .of_wp λprog w A R s h=>by
  obtain⟨e,g,d,b,os⟩:=s;obtain⟨i,h⟩:=h;have j:=sub_zip;have f:Heap.IsList (Shared.heap ⟨e.push { cls:=.type (strIterType x),data:=.fields #[.str x t,.int 0 0] },g,d,b,os⟩) l2 a:=Heap.IsList.push i _
  wp_walk using wpAny_pyIter_strU,Vx f
  exact⟨_,rfl,h⟩
section
variable{prog:PP}{w:SL}{A:Pi}{E:Yu}{s:FB}
def uG{x:Str}{t:Tok}{l2:GM}{i:Array IR}{Q:Yu}(q:s.heap.IsList l2 i)(h:∀a,IsZip a (s.heap.objs.size+4) (s.heap.objs.size+2) (s.heap.objs.size+3) .none->IsPair a (s.heap.objs.size+2) (.ref s.heap.objs.size) (.ref (s.heap.objs.size+1)) →
   IsPair a (s.heap.objs.size+3) .none .none->a.IsStrIter s.heap.objs.size (strIterType x) x t 0->a.IsListIter (s.heap.objs.size+1) l2 0->a.objs.size=s.heap.objs.size+5 →
   (∀c o,s.heap.get? c=O o->a.get? c=O o)->Q (.ref (s.heap.objs.size+4)) { s with heap:=a }) :
  KB (FM prog w) A (call (.type "zip") [.str x t,.ref l2]) Q E s:=by
 refine callType_new F.called_zip (by decide) (F.typeCall_zip_2 _ _) (F.newCall_zip_2 _ _) (λobj=>F.args_object_init_3 obj _ _) F.entry_zip_new
  (kU x t l2 i) ⟨q,?_⟩
 have f:(An s.heap x t).objs.size=s.heap.objs.size+1:=Xg ..;have e:(zh s.heap x t l2).objs.size=s.heap.objs.size+2:=by rw[Xg,f]
 have d:(zL s.heap x t l2).objs.size=s.heap.objs.size+3:=by rw[Xg,e]
 have b:(zy s.heap x t l2).objs.size=s.heap.objs.size+4:=by rw[Xg,d]
 have n:(rV s.heap x t l2).objs.size=s.heap.objs.size+5:=by rw[Xg,b]
 have g:(rV s.heap x t l2).get? (zy s.heap x t l2).objs.size=O _:=Zc _ M;have j:(rV s.heap x t l2).get? (zL s.heap x t l2).objs.size=O _:=Zt _ (Zc _ M);have l:(rV s.heap x t l2).get? (zh s.heap x t l2).objs.size=O _:=Zt _ (Zt _ (Zc _ M));have m:(rV s.heap x t l2).get? (An s.heap x t).objs.size=O _:=Zt _ (Zt _ (Zt _ (Zc _ M)));have p:(rV s.heap x t l2).get? s.heap.objs.size=O _:=Zt _ (Zt _ (Zt _ (Zt _ (Zc _ M))));show _/\_;rw[e,d,b]at g;rw[f,e]at l;rw[d]at j;rw[f]at m;rw[b];exact⟨⟨_,g,rfl⟩,h _ g l j ⟨_,p,rfl,rfl⟩ ⟨_,m,rfl,rfl⟩ n λc o x =>
  Zt _ (Zt _ (Zt _ (Zt _ (Zt _ x))))⟩
end
def mH{P:PP}{w:SL}(a:GM)(x:Str)(t:Tok)(A:Pi)(b:A.handled=Y):Draws P w A a [a] x.cps.size (λi v=>∃c u,x.cps[i]?=O c/\v=.str ⟨#[c]⟩ u) (λi h=>h.IsStrIter a (strIterType x) x t i):=by
 cases d:x.cps.all (· < 128)
 ·have e:strIterType x = "str_iterator" := by simp[strIterType,d]
  rw[e];exact Draws.strWide b a x t
 ·have e:strIterType x = "str_ascii_iterator" := by simp[strIterType,d]
  rw[e];exact Draws.strAscii b a x t
def yr{P:PP}{w:SL}(b:GM)(x:Str)(t:Tok)(i:Nat)(d:x.cps.size<=i)(A:Pi)(f:A.handled=Y):nk P w A b (λh=>h.IsStrIter b (strIterType x) x t i):=by
 cases g:x.cps.all (· < 128)
 ·have e:strIterType x = "str_iterator" := by simp[strIterType,g]
  rw[e];exact λs Q E st a=>wpAny_nextOf_wide_end f st (by simp[d]) a
 ·have e:strIterType x = "str_ascii_iterator" := by simp[strIterType,g]
  rw[e];exact λs Q E st a=>wpAny_nextOf_ascii_end f st (by simp[d]) a
def C1(K:Xd)(x:Str)(b:GM):It :=
 ⟨λi H=>∃a y,FF K H b a/\i<x.cps.size/\a[i]?=O y,λi H v d=>∃p c y,H p=Y/\v=.ref p/\d=upd H p (.tup [.str ⟨#[c]⟩,y])/\x.cps[i]?=O c/\∀a,FF K H b a->a[i]?=O y,
  λi H=>∃a,FF K H b a/\(x.cps.size<=i\/a.length<=i)⟩
def vf{P:PP}{w:SL}{K:Xd}{elts:List Expr}{n:Nat}{pos:Pos}{z t o e j b:GM}(l:Str)(U:Tok)(D:ZipApart z t o e j b b):Turn P w K (.Tuple elts n pos) (C1 K l b) [z,t,o,e,j] z (λi h=>IsZip h z t o .none/\IsPair h t (.ref e) (.ref j)/\(∃u v,IsPair h o u v)/\h.IsStrIter e (strIterType l) l U i/\h.IsListIter j b i) where
 mem:=by simp
 obj:=λi h ⟨B,A,⟨_,_,h3⟩,⟨W,f,_,e4⟩,⟨o5,p,_,e5⟩⟩ b a=>by
  simp only[Zq,YM,or_false]at a;rcases a with rfl | rfl | rfl | rfl | rfl
  ·exact⟨_,B,λv z=>by cases (show Data.fields _=Data.cell v from z)⟩
  ·exact⟨_,A,λv z=>nomatch z⟩
  ·exact⟨_,h3,λv z=>nomatch z⟩
  ·exact⟨_,f,λv z=>by rw[e4]at z;cases z⟩
  ·exact⟨_,p,λv z=>by rw[e5]at z;cases z⟩
 keep:=λi h h' ⟨B,A,⟨u,v,h3⟩,⟨W,f,r4⟩,p⟩ k=>⟨k z (by simp) _ B,k t (by simp) _ A,⟨u,v,k o (by simp) _ h3⟩,⟨W,k e (by simp) _ f,r4⟩,p.at λq x=>k j (by simp) q x⟩
 item:=by
  intro X hP hw hK hc i C s Z H E I R st hg;subst hP hw hK;obtain⟨ys,y,MS,hi,hy⟩:=hg;obtain⟨F,OM,p',QV⟩:=I.list MS;obtain⟨u',hu',U9⟩:=OM.get hy;obtain⟨B,A,⟨c1,c2,h3⟩,f,p⟩:=st;refine lJ D (mH e l U) (I.ok.hd hc) B A h3 f p p'.isList hi (y:=u') (by simpa using hu') λu g1 tk hP k1 k3 k4 k5 hT hsz hk=>⟨_,rfl,?_⟩
  obtain⟨c,tu,Ml,rfl⟩:=hP;refine wpAny_letOwnedTupleGo_zip k1 λG e2 L=>?_;have L:Heap.SameBut z g1 G:=L;have lt:∀{b d},s.heap.get? b=O d->b≠s.heap.objs.size:=λq=>ZV (ZY q);have N8:H s.heap.objs.size=Y:=I.xa.fresh (Zo _);have N:∀b d,b∉[z,t,o,e,j]->s.heap.get? b=O d->G.get? b=O d:=λb d a q=>by
   simp only[Zq,YM,or_false,not_or]at a;exact(L.2 b a.1).trans (hk b d a.1 a.2.2.1 a.2.2.2.1 a.2.2.2.2 q)
  have kt:∀d,s.heap.get? t=O d->G.get? t=O d:=λd q=>(L.2 t D.TIz).trans (hk t d D.TIz D.TITO D.TIi1 D.TIi2 q);have N3:G.get? s.heap.objs.size=O { cls:=.type "tuple",data:=.seq #[.str ⟨#[c]⟩ tu,u'] }:=(L.2 _ (lt B).symm).trans hT;have Nw:∀b d,H b=O d->b∉[z,t,o,e,j]:=λb d q a=>by rw[(R b a).1]at q;cases q
  have up:∀b d,H b=O d->upd H s.heap.objs.size (.tup [.str ⟨#[c]⟩,y]) b=O d:=λb d q=>by rw[av (aQ q N8)];exact q
  have Mf:Gn X.prog X.w (upd H s.heap.objs.size (.tup [.str ⟨#[c]⟩,y])) G:=λb d q=>by
   by_cases a:b=s.heap.objs.size
   ·subst a;rw[aw]at q;cases q;exact⟨by show 2<=FS;decide,[.str ⟨#[c]⟩ tu,u'],.cons ⟨tu,rfl⟩ (.cons U9 .nil),Kp.of N3 M,⟨_,N3,rfl,_,rfl⟩⟩
   ·rw[av a]at q;refine(I.xa b d q).Hv (λc v Q r=>N c v ?_ r) (λc r=>up c _ r) (λc ys r=>up c _ r) λc _ _ r=>up c _ r;rcases Q with z | z
    ·rw[z];exact Nw b d q
    ·exact Nw c _ z
  refine⟨.ref s.heap.objs.size,upd H s.heap.objs.size (.tup [.str ⟨#[c]⟩,y]),?_,rfl,⟨_,c,y,N8,rfl,rfl,Ml,λvs hv=>by rw[I.Hc hv MS];exact hy⟩,⟨e2,kt _ A,⟨.str ⟨#[c]⟩ tu,u',(L.2 o D.TOz).trans k3⟩,(let ⟨W,f,r4⟩:=k4;⟨W,(L.2 e D.i1z).trans f,r4⟩),k5.at λq y=>(L.2 j D.i2z).trans y⟩,λb a=>?_⟩
  ·show Inv X C Z _ { s with heap:=G,gens:=s.gens,drawn:=s.drawn,toks:=tk };refine I.step (g':=s.gens) (d':=s.drawn) (t':=tk) (ch:=[z,t,o,e,j]) (λb a=>?_) (λb o _ _ Q q _=>N b o Q q) (λb o _ _ Q q _=>⟨o.slots,N b o Q q⟩) (λb o _ q r=>by rw[av (lt q)];exact r) (λb o Q q=>⟨o,N b o Q q⟩)
    (λb ys q=>up b _ q) (λb o v q=>up b _ q) (λb _ q=>up b _ q) (λm hm=>?_) Mf I.bare
   ·obtain⟨f0,f1,f2,f3,f4,f5⟩:=R b a;exact⟨f3,f1,f4,f5⟩
   ·obtain⟨o,es,ep,Jy,r⟩:=hm;refine⟨o,es,ep,N _ o (λz=>?_) Jy,r⟩;exact(R _ z).2.1 M
  ·have:b≠s.heap.objs.size:=by
    simp only[Zq,YM,or_false]at a;obtain⟨W,f,_⟩:=f;obtain⟨o5,p,_⟩:=p;rcases a with rfl | rfl | rfl | rfl | rfl
    ·exact lt B
    ·exact lt A
    ·exact lt h3
    ·exact lt f
    ·exact lt p
   rw[av this];exact(R b a).1
 done:=by
  intro X hP hw hK hc i C s Z H E I R st hg;subst hP hw hK;obtain⟨ys,MS,hx⟩:=hg;obtain⟨F,OM,p',QV⟩:=I.list MS;obtain⟨B,A,⟨c1,c2,h3⟩,f,p⟩:=st;have Ll:=OM.length;have IS:(∀A':Pi,A'.handled=Y->nk X.prog X.w A' e (λh=>h.IsStrIter e (strIterType l) l U i))\/(i<l.cps.size/\F.toArray[i]?=Y):=by
   rcases Wc i l.cps.size with g | g
   ·refine .inr ⟨g,?_⟩;rcases hx with q | q
    ·exact absurd q (Nat.not_le_of_lt g)
    ·simp;lia
   ·exact .inl λA' hA=>yr e l U i g A' hA
  refine mf D (mH e l U) (I.ok.hd hc) B A h3 f p p'.isList IS λG tk hk=>⟨rfl,?_⟩
  have N:∀b d,b∉[z,o,e,j]->s.heap.get? b=O d->G.get? b=O d:=λb d a q=>by
   simp only[Zq,YM,or_false,not_or]at a;exact hk b d a.1 a.2.1 a.2.2.1 a.2.2.2 q
  exact I.turns (t':=tk) (ch:=[z,o,e,j]) N λb a=>R b (by
   simp only[Zq,YM,or_false]at a ⊢;lia)
 self:=λ_ _ _ _ _ st h=>wpAny_pyIter_zip st.1 h
section
variable{X:Cx}{a b:Expr}{ta:TA}{p pos:Pos}
def Fg(K:Xd)(g:TA):TI:=λZ H R=>g Z H λf d=>∃x m,f=[.str x,.ref m]/\(∃e,FF K d m e)/\R (C1 K x m) d
def zH{g:List Expr}{n:Nat}{W:Pos}(G:Gl X "zip")(D:X.mg "zip" = Y)(M:PA X [a,b] ta)(B:KM [a,b] X.env=(S,eval a X.env) :: KM [b] X.env)(C:(backTo pos (KM [b] X.env)).any (·.1)=S):PI X (.Tuple g n W) (.Call (.Name "zip" p) [a,b] [] pos) (Fg X.K ta):=by
 intro d s Z H R I h;refine Call_ (gL I G D boot_zip (Y1 (thn (M pos d s Z H _ I h) λus o ⟨vs,H1,i,r1,z⟩=>?_) B C));obtain⟨x,m,e,⟨ys,U⟩,q⟩:=z;subst e;cases r1 with
 |cons r j =>
  cases j with
  |cons y j =>
   cases j;obtain⟨t,rfl⟩:=r;cases y;obtain⟨u,OM,w,QV⟩:=i.list U;refine uG w.isList λh' v Q h3 P N A F=>?_;refine wpAny_pyIter_zip v ?_;obtain⟨_,l,_⟩:=w.isList;refine⟨_,_,_,_,H1,rfl,i.kept (t':=o.toks) F,vf x t (zipApart_new (ZY l) (ZY l)),⟨v,Q,⟨_,_,h3⟩,P,N⟩,λb L=>?_,q⟩;have f:o.heap.objs.size<=b:=by
    simp only[Zq,YM,or_false]at L;lia
   exact i.Hj f (i.xa.fresh f)
end
end td
namespace VS
open PySem PySem.Spec PyProof.Rows td
def Dp:Val->Val->Option (Md×V4)
 | (m,.str x),(n,.lst k)=>O (m.join (n.join .fr),lQ (x.map λc=>T.str [c]) k)
 |_,_=>Y
def t5(a b:Ex)(U:Env):Option (Md×V4):=(a U).bind λx=>(b U).bind λy=>Dp x y
section
variable{G:Gx}{X:Cx}{a b:Expr}{ca cb:Ex}{pos p Ip:Pos}{elts:List Expr}{n:Nat}
def AF{H:Hp}{b:GM}{d:List V}{x:Tx}{f:V4}{Ds:Yd}(K:Xd)(m:iE x)(e:H b=O (.lst d))(l:xh G H d f Ds):IC G (C1 K (sx x) b) (lQ (x.map λc=>T.str [c]) f) (b :: Ds.flatten) H:=by
 refine⟨λj k c=>?_,λc r=>?_⟩
 ·have v:j b=O (.lst d):=c b Zx _ e;have L:xh G j d f Ds:=l.keep k λb e o P=>c b (Zw _ e) o P;refine⟨λi t h=>?_,λi h=>⟨d,FF.of v,by
   have:=tV _ _ _ h;rw[Zv]at this;rw[l.len.1];simpa[sx] using this⟩⟩
  obtain⟨u,y,A,M,W⟩:=sO _ f i h;rw[ZT]at A;obtain⟨g,F,rfl⟩:=Zm.mp A;obtain⟨u,D,B,U,R⟩:=L.get i M;have I:(sx x).cps[i]?=O g:=by simpa[sx] using F
  refine⟨⟨d,u,FF.of v,(Array.getElem?_eq_some_iff.mp I).1,B⟩,λq H3 ⟨p,z,z',N,e1,e2,C,Z⟩=>?_⟩;subst e1 e2;rw[I]at C;cases C;have ex:=Z d (FF.of v);rw[B]at ex;cases ex;have w:aO j (upd j p (.tup [.str ⟨#[g]⟩,u])):=λb o q=>by rw[av (aQ q N)];exact q
  refine⟨w,D,?_,λb e=>.inl (Zw _ (dA U e))⟩;rw[W];have Q:D=([[],D]:Yd).flatten:=by simp
  rw[Q];exact .tup aw (.cons (.str [g] ⟨by show 1<=fC;decide,λc r=>by rw[Zh.mp r];exact m.2 g (YX F)⟩) (.cons (R.same w) .nil))
 ·rcases Zq.mp r with rfl | s
  ·rw[e];exact λz=>nomatch z
  ·exact FG.xb (l.F0 c s)
def vy(A:PV G X a ca)(z:PV G X b cb)(w:Gl X "zip")(v:X.mg "zip" = Y)(h:KM [a,b] X.env=(S,eval a X.env) :: KM [b] X.env)(I:K0 b [] X)(u:(backTo pos (KM [b] X.env)).any (·.1)=S) :
  PVI G X (.Tuple elts n Ip) (.Call (.Name "zip" p) [a,b] [] pos) (t5 ca cb) :=
 PI.weak (zH w v (aa A (aa z aj I) h) h u) λZ H R t=>by
  obtain⟨L,U,m,l,s,e,k⟩:=t;obtain⟨⟨r,x⟩,C,e1⟩:=Zy.mp e;obtain⟨⟨q,y⟩,B,e2⟩:=Zy.mp e1;refine⟨L,U,[(r,x),(q,y)],s,by simp[af,C,B],λM F W o d j=>?_⟩;cases x with
  |str P =>
   cases y with
   |lst Q =>
    cases e2;cases d with
    |cons r1 d =>
     cases d with
     |cons r2 d =>
      cases d;cases r1 with
      |str _ xa =>
      obtain⟨D,N,Fb,rfl,rfl,g,i⟩:=r2.lst_inv;have f:=j.join (by simp);refine⟨_,D,rfl,⟨_,FF.of g⟩,k _ F _ o (AF X.K xa g i) ?_⟩;have f2:=f.c;simp only[Zf,VL,ZP,HH]at f2;exact f2
   |_=>cases e2
  |_=>cases e2
end
end VS
end
section
namespace td
open PySem PySem.Spec PyProof.Rows
def ug{b a:Pos}{c v:IR}(l:Ws)(h:TriplesOk l)(e:codeAmong a (l++[rawInt b.line,rawInt b.col,c])=O v):codeAmong a l=O v\/v=c:=by
 fun_induction TriplesOk l
 ·simp only[HH,rawInt,codeAmong]at e;split at e
  ·cases e;exact .inr M
  ·cases e
 ·rename_i f;simp only[W7,codeAmong]at e ⊢;split at e
  ·rename_i d;rw[Zn d];exact .inl e
  ·rename_i d;rw[Zj d];exact f h e
 ·exact h.elim
def Bm(d:X3)(a:SC):Prop:=∃bm b,d "__builtins__" = O (.ref bm)/\bm≠builtinsNs/\a.get? bm=O b/\b.cls=.type "module" ∧ b.dict=O builtinsNs/\b.data=.plain
noncomputable abbrev CY(q:Str)(a:Arguments)(d:Expr)(b:Scope)(g:List (Str×GM))(e:IR)(c:GM)(f:IR):Obj:=PySem.W.kla_obj "<lambda>" q a d b g e c f
section
variable{X:Cx}{pins:Yf}{Z:St}{H:Hp}{s:FB}
def Inv.known{o:Obj}{a:SC}{t':Nat}(I:Inv X pins Z H { s with heap:=a,toks:=t' })(d:o.isFreed=false):Inv X pins Z (upd H a.objs.size (.frz o (.own a.objs.size))) { s with heap:=a.push o,toks:=t' } :=
 have e:(a.push o).get? a.objs.size=O o:=Zc _ d
 I.laid (t':=t') (λb u e=>Zt _ e) (Zo _) ⟨e,o,e⟩
def wG{A:Pi}{E:Yu}{Q:Yu}{a:Arguments}{l:Expr}{i:Scope}{x:Pos}{c P:GM}{q:Str}{KU:List (Str×GM)}(I:Inv X pins Z H s)(hq:X.env.qual ++ "<lambda>" = q)(JO:defaultsOf a X.env=([],[]))(KL:closureFor i X.env=pure KU)(hc:X.env.code=.ref c)(C:PySem.W.CodeHd X.base c P)(ht:Tb X.base P q)(B:Bm X.mg X.base)(h:∀f g ct j y p t H' s',Inv X pins Z H' s'->aO H H'->H' f=O (.frz (CY q a l i KU ((X.mg "__name__").getD .none) g ct) (.own f))->H' g=O (.frz j (.own y))->j.data=.fields p->p[1]?=O (.str q t)->Q (.ref f) s') :
  KB (FM X.prog X.w) A (eval (.Lambda a l i x) X.env) Q E s:=by
 have D:=I.tb P q ht;obtain⟨ps,e,tr,cs⟩:=I.xa P _ D;have hg:s.heap.Ns mainGlobals X.mg:=I.mod.glob.keeps I.bk;have C':=C.keeps I.bk;obtain⟨bm,ob,b1,b2,U,b4,b5,b6⟩:=B;obtain⟨og,_,_,eg,dg,_⟩:=I.mod.glob;have hgP:mainGlobals≠P:=λz=>by have:=(I.bs _ _ eg).2;rw[z,D]at this;cases this
 have hB:s.heap.BuiltinsAt X.mg P:=⟨bm,ob,b1,b2,(λz=>by rw[z,eg]at U;cases U;rw[dg]at b6;cases b6),(λz=>by have:=(I.bs _ _ U).2;rw[z,D]at this;cases this),I.bk _ _ U,b4,b5,b6⟩
 refine PySem.W.kla_eval JO ?_;rw[hq];cases hf:codeAmong x ps.toList with
 |some v =>
  obtain⟨g,j,y,p,t,rfl,r2,r3,r4⟩:=cs x v hf;refine PySem.W.kla_makeFunctionHit (mg:=X.mg) KL I.ok.glob hg hc C' e tr hf hB λct N F hk hsz=>?_;have J:Inv X pins Z H { s with heap:=N,toks:=F }:=I.kept (t':=F) hk;have R:H N.objs.size=Y:=J.xa.fresh (Zo _);exact h _ g ct j y p t _ _ (Inv.known J M) (λb o q=>by rw[av (aQ q R)];exact q) aw (by rw[av (aQ r2 R)];exact r2) r3 r4
 |none =>
  refine PySem.W.kla_makeFunction (mg:=X.mg) KL I.ok.glob hg hc C' e tr hf hgP hB λg ct N F G L HE Mc TF=>?_;obtain⟨c2,j,p,t,e2,NO,hd,hv⟩:=Mc;cases e2;have R:H g=Y:=I.xa.fresh L;have ne:∀b u,s.heap.get? b=O u->b≠g:=λb u q=>ZV (ZC (ZY q) L);have nP:∀b,H b=Y->b≠P:=λb n z=>by rw[z,D]at n;cases n
  have up:∀b o,H b=O o->upd H g (.frz j (.own g)) b=O o:=λb o q=>by rw[av (aQ q R)];exact q
  suffices J:Inv X pins Z (upd H g (.frz j (.own g))) { s with heap:=N,toks:=F } by
   have MU:upd H g (.frz j (.own g)) N.objs.size=Y:=J.xa.fresh (Zo _);exact h _ g ct j g p t _ _ (Inv.known J M) (λb o q=>by rw[av (aQ (up b o q) MU)];exact up b o q) aw (by rw[av (aQ aw MU)];exact aw) hd hv
  refine I.step (g':=s.gens) (d':=s.drawn) (t':=F) (ch:=[]) (λb z=>nomatch z) (λb o _ _ _ q n=>G b o (nP b n) q) (λb o _ _ _ q n=>⟨o.slots,G b o (nP b n) q⟩) (λb o _ q n=>by rw[av (ne b o q)];exact n) (λb o _ q=>?_)
   (λb xs q=>up b _ q) (λb o u q=>up b _ q) (λb n q=>up b _ q) (λm hm=>?_) (λb o q=>?_) I.bare
  ·by_cases B:b=P
   ·exact⟨_,by rw[B];exact TF⟩
   ·exact⟨o,G b o B q⟩
  ·obtain⟨o,es,ep,ho,r⟩:=hm;exact⟨o,es,ep,G _ o (nP _ I.free) ho,r⟩
  ·by_cases B:b=g
   ·subst B;rw[aw]at q;cases q;exact⟨NO,j,NO⟩
   ·rw[av B]at q;by_cases Iy:b=P
    ·subst Iy;rw[D]at q;cases q;refine⟨_,TF,?_,λpos' v r=>?_⟩
     ·rw[Yk];exact TriplesOk_snoc _ _ _ _ tr
     ·rw[Yk]at r;rcases ug _ tr r with r | r
      ·obtain⟨c3,o3,y3,LI,t3,r1,r2,r3⟩:=cs pos' v r;exact⟨c3,o3,y3,LI,t3,r1,up _ _ r2,r3⟩
      ·exact⟨g,j,g,p,t,r,aw,hd,hv⟩
    ·refine(I.xa b o q).Hv (λd v hd r=>G d v ?_ r) (λd r=>up d _ r) (λd xs r=>up d _ r) λd o y r=>up d _ r;rcases hd with z | z
     ·rw[z];exact Iy
     ·intro z';rw[z',D]at z;cases z
end
noncomputable def ym(X:Cx)(N:List Str)(q:Str)(a:Scope)(f c:GM)(b:List (Str×GM))(A:Pi)(s:FB)(H:Hp):Cx :=
 { X with A:=A.deeper (PySem.W.envX q a s.heap.objs.size f (.ref c) b),N:=N,s₀:=s,H₀:=H,env:=PySem.W.envX q a s.heap.objs.size f (.ref c) b,outer:=X.stack,stack:=PySem.W.envX q a s.heap.objs.size f (.ref c) b :: X.stack,ex:=[],fn:=λ_=>false,calm:=true,pn:=[],xe:=λ_ _=>False }
section
variable{X:Cx}{pins:Yf}{Z:St}{H:Hp}{s:FB}{N:List Str}{sc:Scope}{cl:List (Str×GM)}{q x:Str}{f c:GM}{A:Pi}{v:V}{u:IR}
def Inv.lam{t:SC}{tk:Nat}{m:X3}(I:Inv X pins Z H s)(B:iQ X.env sc=J)(Iv:i6 sc N X.N=J)(R:sc.names.lookup x=O .local)(j:∀x c,cl.lookup x=O c->X.env.cells.lookup x=O c)(F:∀y∈sc.names,y.2=.free->∃c,cl.lookup y.1=O c)(NW:A.frames=X.A.frames)(hh:A.handled=Y)(P:RelV v u)(Lj:t.Ns s.heap.objs.size m)(hm:m x=O u)(a:∀b o,s.heap.get? b=O o->t.get? b=O o) :
  Inv (ym X (x :: N) q sc f c cl A s H) [] (O v :: Z) H { s with heap:=t,toks:=tk }:=by
 unfold iQ at B;rw[Yz,ZD]at B;obtain⟨hk,G⟩:=B;have Gy:sc.kind=.function:=by simpa using hk
 obtain⟨hlen,Jn⟩:=nI Iv;have frees:∀y,sc.names.lookup y=O .cell\/sc.names.lookup y=O .free->sc.names.lookup y=O .free:=λy h=>h.elim (λz=>by have:=G _ (bY z);cases this) id;refine⟨⟨I.mod,Gy,rfl,rfl,Zo _,λx y c e1 e2=>I.ok.inj x y c (j x c e1) (j y c e2),λy Q=>F _ (bY (frees y Q)) M,λx c e=>(nomatch e),λ_=>hh,Around.frames_deeper (NW.trans I.ok.frames),.inr ⟨rfl,rfl⟩,λb g=>(nomatch g),
  I.tb,I.bs,ZU I.ok.Km I.sz,λb o e g=>(nomatch g),λb g hb'=>(nomatch g),I.stack,I.HP⟩,rfl,I.bare,Un.kept a,⟨m,Lj,λi y w e1 e2 n=>?_⟩,λy c e=>?_,I.xa.fresh (Zo _),λy c e=>I.Gk y c (j y c e),λp U=>(nomatch U),I.xa.kept a,?_⟩
 ·cases i with
  |zero =>
   have ex:x=y:=ZK (show (x :: N)[0]?=O y from e1);have ev:v=w:=by simpa using e2
   subst ex ev;exact⟨u,P,.inl ⟨R,hm⟩⟩
  |succ i =>
   have e1:N[i]?=O y:=by simpa using(show (x :: N)[i+1]?=O y from e1)
   have e2:Z[i]?=O (O w):=by simpa using e2
   have n:Ik sc y:=n;rcases Jn i y e1 with⟨hX,d⟩ | d | d
   ·have D:X.env.kindOf y=O .cell\/X.env.kindOf y=O .free:=by simpa using G _ (bY d)
    obtain⟨mX,W,Rq⟩:=I.loc;obtain⟨L,r,l⟩:=Rq _ y w hX e2 (D.elim (λz=>.inr (.inl z)) λz=>.inr (.inr z));obtain⟨c,C⟩:=F _ (bY d) M;refine⟨L,r,.inr ⟨.inr d,c,C,?_⟩⟩;rcases l with⟨z,_⟩ | ⟨_,c',GC,IU⟩
    ·rcases D with q | q<;>(rw[z]at q;cases q)
    ·have:=j y c C;rw[GC]at this;cases this;exact IU.keeps a
   ·rcases n with z | z | z<;>(rw[d]at z;cases z)
   ·rcases n with z | z | z<;>(rw[d]at z;cases z)
 ·obtain⟨v,z⟩:=I.cell y c (j y c e);exact⟨v,z.keeps a⟩
 ·show (O v :: Z).length=(x :: N).length;rw[Zl,Zl,I.len,hlen]
def zK{Q:VK}{t:TE}{a:Arguments}{d:Expr}{G M:IR}{B:Obj}{y:GM}{p:Array IR}{F:Tok}(I:Inv X pins Z H s)(hp:H f=O (.frz (CY q a d sc cl G c M) (.own f)))(Gc:H c=O (.frz B (.own y)))(C:B.data=.fields p)(hv:p[1]?=O (.str q F))(G0:iQ X.env sc=true)(Iv:i6 sc N X.N=true)(L:sc.names.lookup x=O .local)(HG:∀x c,cl.lookup x=O c->X.env.cells.lookup x=O c)(Ka:∀y∈sc.names,y.2=.free->∃c,cl.lookup y.1=O c)(hb:bindArgs (PySem.W.kla_fn "<lambda>" q a d sc cl G (.ref c) M) ⟨[u],[]⟩=pure [(x,u)])(RJ:sc.isCoroutine=S)(Mk:sc.isGenerator=S)(NW:A.frames=X.A.frames)(hh:A.handled=Y)(hd:A.depth<recursionLimit)(ru:RelV v u)(Hh:PE (ym X (x :: N) q sc f c cl A s H) d t)(h:t (O v :: Z) H Q) :
  KB (FM X.prog X.w) A (call (.ref f) [u]) (λr i=>∃w g,Inv X pins Z g i/\RelV w r/\Q w g/\∀b o,fU X pins H b->s.heap.get? b=O o->i.heap.get? b=O o/\fU X pins g b) (λ_ _=>False) s:=by
 have Rb:=I.xa f _ hp;have n:=G0;unfold iQ at n;rw[Yz,ZD]at n;have Gy:sc.kind=.function:=by simpa using n.1
 have G1:∀y∈sc.names,y.2 ≠ .cell:=λy hy e=>by have:=n.2 y hy;rw[e]at this;cases this
 have Mc:s.heap.CodeRec (.ref c) q:=⟨c,B,p,F,rfl,(I.xa c _ Gc).1,C,hv⟩
 refine wpAny_call (WH (R:=λr i=>match r with | .ok (.ret u)=>CE X.stack X.prog X.w H s Q u i | _=>False) (PySem.W.kla_callFunE hd Rb.1 rfl RJ Mk rfl Mc ?_) λr i j=>?_)
 ·rw[hb];refine Zs (wpAny_newFunctionEnv G1 (λz hz=>by rw[Zh.mp hz];exact L) (λh₁ Lj P=>⟨I.nolimit.fresh _ P,?_⟩) Gy);have NT:∀b o,s.heap.get? b=O o->h₁.get? b=O o:=λb o e=>P.extBut b o (ZV (ZY e)) (Zt _ e);have J:=I.lam (N:=N) (q:=q) (x:=x) (f:=f) (c:=c) (A:=A) (tk:=s.toks+([(x,u)]:List (Str×IR)).length) G0 Iv L HG Ka NW hh ru Lj (by show List.lookup x [(x,u)]=O u;simp) NT;refine PySem.W.kla_codeExpr (Yj (Hh [] _ _ H Q J h) (λr i hr=>?_) λ_ _ z=>z.elim);obtain⟨w,g,m,Jt,qw⟩:=hr;exact⟨w,g,m.os,m.bare,m.base,m.xa,Jt,qw⟩
 ·cases r with
  |error e=>exact j.elim
  |ok fl =>
   cases fl with
   |ret u =>
    obtain⟨v,g,os,bare,un,xa,r,q⟩:=j;obtain⟨v2,H2,I2,r2,rfl,rfl,q2⟩:=I.after (Q:=λD U=>D=v/\U=g/\Q D U) ⟨v,g,os,bare,un,xa,r,rfl,rfl,q⟩;refine⟨v2,H2,I2,r2,q2,λb o l e=>?_⟩;have nf:b∉GV X.stack:=λz=>(Zq.mp (I.GS b z)).elim l.2.1 l.2.2.1;exact⟨un.keep b o e l.1 nf (by simp),un.free b o e l.1 (by simp),l.2⟩
   |next=>exact False.elim j
   |brk=>exact False.elim j
   |cont=>exact False.elim j
end
end td
end
section
open PySem PyProof.Rows
namespace TS
variable{prog:PP}{w:SL}{A:Pi}{E:Yu}{s:FB}{G:KF->Prop}{r:KF->KF->Bool}
def uI{a:GM}{f:IR}{vs:Ws}{n:Nat}{P:PySem.Fin->FB->Prop}{J:Ws->FB->Prop}(t:(f != Value.none)=true)(m:s.heap.get? a=O (seqObj "list" vs.toArray n))(i:vs.length<=FS)(X:J [] { s with heap:=bR s.heap a vs })(p:KeyPre prog w A E P f a (dF s.heap a vs) ((bR s.heap a vs).get? a) vs J List.reverse) :
  KB (FM prog w) A (Builtin.«list.sort» ⟨[.ref a],[(("key" : Str),f),(("reverse" : Str),.bool true)]⟩) P E s:=by
 obtain⟨o,R⟩:∃k,(s.heap.update a (Obj.mapSeq λ_=>#[])).get? a=O (seqObj "list" #[] k):=⟨_,Xj m _⟩
 have at2:=oB (vs:=vs) (ZY m) R;have ne:a≠dF s.heap a vs:=by rw[i3];exact ZV (Xc (ZY m))
 unfold Builtin.«list.sort»;refine(show KB (FM prog w) A (Builtin.List.listItems (.ref a)>>=_) P E s from ?_);refine Zz (Wx m M (Zz (YV m M (Zz (X9 R M (Zz (Vc (Zz (Wb (YU ?_))))))))));refine(show KB (FM prog w) A (if (f != Value.none)=true then _ else _) P E { s with heap:=bR s.heap a vs } from ?_);rw[Zn t];refine Zz (XW (Zz ?_));rw[← X0];refine Xk _ (λrest _ g=>∃b,J b g/\rest=vs.drop b.length/\b.length<=vs.length) _ ?turn ?fin _ _ ⟨[],X,by simp,by simp⟩
 case turn =>
  rintro x rest r g ⟨b,l,e,B⟩;have F:b.length<vs.length:=by
   have:=congrArg List.length e;rw[Zl,ZE]at this;omega
  have e2:x :: rest=vs[b.length] :: vs.drop (b.length+1):=by rw[e];exact YD F
  injection e2 with ex er
  have y:vs[b.length]?=O x:=by rw[Zi F,ex]
  refine Zz (XR (Yj (p.step b x g y l) (λk v ⟨⟨e2,Z⟩,W⟩=>?_) λ_ _ z=>z.elim));have sz:b.toArray.size<=sizeLine:=by rw[Zd];exact ZU B i
  exact(show KB (FM prog w) A (Builtin.List.listUpdate (.ref (dF s.heap a vs)) (λU=>U.push k)>>=_) _ _ _ from Zz (YV Z M (Zs ⟨b++[k],W,by rw[er];simp,by simp;exact WN F⟩) (hsz:=sz) (hsz2:=by rw[Array.size_push];exact YO sz)))
 case fin =>
  rintro r g ⟨b,l,e,B⟩;have G7:b.length=vs.length:=by
   have:=congrArg List.length e;rw[Ya,ZE]at this;lia
  obtain⟨eK,C⟩:=p.keys b g l;have L:=p.self b g l;rw[at2]at L;obtain⟨kd,G,r,hC,hG,Lm,hP⟩:=p.fin b g l G7;have fin:∀d:Pv,(arrOf d).Perm (b.zip vs).reverse.toArray->failedOf d=Y->(arrOf d).toList.Pairwise (le r)->P (.done (.ret .none)) { g with heap:=(g.heap.update (dF s.heap a vs) (Obj.mapSeq λ_=>#[])).update a (Obj.mapSeq λ_=>((arrOf d).map (·.2)).reverse) }:=λd h _ j=>by
   have:=hP (arrOf d).toList ((show (arrOf d).toList.Perm (b.zip vs).reverse by simpa using YG.mp h).trans (List.reverse_perm _)) j
   rwa [← W8,← Wn,Vq]at this
  have u:(g.heap.update (dF s.heap a vs) (Obj.mapSeq λ_=>#[])).get? a=O (seqObj "list" #[] o):=by rw[XU _ _ (Y2 ne)];exact L
  refine(show KB (FM prog w) A (if (f != Value.none)=true then _ else _) P E g from ?_);rw[Zn t];refine(show KB (FM prog w) A (Builtin.List.listItems (.ref (dF s.heap a vs))>>=_) P E g from Zz (Wx C M ?_));have room:∀d:Pv,(arrOf d).Perm (b.zip vs).reverse.toArray->((arrOf d).map (·.2)).reverse.size<=FS+1:=λd h=>by
   rw[Array.size_reverse,Array.size_map,h.size_eq,Zd,List.length_reverse,Yx];lia
  have N:b.toArray.size<=sizeLine:=by rw[Zd];exact ZU B i
  have D:(b.toArray.zip vs.toArray).reverse=(b.zip vs).reverse.toArray:=by simp
  by_cases two:2<=vs.length
  ·have no:¬(vs.toArray.size<2):=by rw[Zd];exact VO two
   refine(show KB (FM prog w) A (if vs.toArray.size<2 then _ else _) P E g from ?_);rw[Zj no];refine Zz (Lm two _ ?_);refine(show KB (FM prog w) A (StateT.run (if vs.toArray.size<2 then pure () else sortRuns') (SortSt.mk' kd (b.toArray.zip vs.toArray).reverse #[] 7 Y)>>=_) P E g from ?_);rw[Zj no];refine Zz (Yj (oF hC (a₀:=(b.zip vs).reverse.toArray) (st:=SortSt.mk' kd (b.toArray.zip vs.toArray).reverse #[] 7 Y)
    (Q:=λ_ d=>(arrOf d).Perm (b.zip vs).reverse.toArray/\failedOf d=Y/\(arrOf d).toList.Pairwise (le r)) M (λx y=>hG x (by simpa using y)) D M M λd a1 a2 a3=>⟨a1,a2,a3⟩) ?_ λ_ _ e=>e)
   rintro⟨⟨⟩,d⟩ v ⟨rfl,h,I,j⟩;refine(show KB (FM prog w) A (if (f != Value.none)=true then _ else _) P E v from ?_);rw[Zn t];refine(show KB (FM prog w) A (Builtin.List.listUpdate (.ref (dF s.heap a vs)) (λ_=>#[])>>=_) P E v from Zz (YV C M (Zz (WZ (Zz (X9 u M (Zz (YV u M ?_ (hsz2:=room d h))))))) (hsz:=N)));have H:=I;unfold failedOf at H;rw[H];simp only[bne_self_eq_false,Ij,↓reduceIte];exact Zs (fin d h I j)
  ·have yes:vs.toArray.size<2:=by rw[Zd];exact W0 two
   have h:(arrOf (SortSt.mk' general' (b.toArray.zip vs.toArray).reverse #[] 7 Y)).Perm (b.zip vs).reverse.toArray:=by
    show (b.toArray.zip vs.toArray).reverse.Perm _;rw[D]
   have j:(arrOf (SortSt.mk' general' (b.toArray.zip vs.toArray).reverse #[] 7 Y)).toList.Pairwise (le r):=by
    show (b.toArray.zip vs.toArray).reverse.toList.Pairwise (le r);rw[D]
    match vs,b,two with
    |[],_,_=>simp
    |[_],[],_=>simp
    |[_],_ :: _,_=>simp
    |_ :: _ :: _,_,q=>simp at q
   refine(show KB (FM prog w) A (if vs.toArray.size<2 then _ else _) P E g from ?_);rw[Zn yes];refine Zz (Zs ?_);refine(show KB (FM prog w) A (StateT.run (if vs.toArray.size<2 then pure () else sortRuns') (SortSt.mk' general' (b.toArray.zip vs.toArray).reverse #[] 7 Y)>>=_) P E g from ?_);rw[Zn yes,StateT.run_pure];refine Zz (Zs ?_);refine(show KB (FM prog w) A (if (f != Value.none)=true then _ else _) P E g from ?_);rw[Zn t];refine(show KB (FM prog w) A (Builtin.List.listUpdate (.ref (dF s.heap a vs)) (λ_=>#[])>>=_) P E g from Zz (YV C M (Zz (WZ (Zz (X9 u M (Zz (YV u M ?_ (hsz2:=room _ h))))))) (hsz:=N)));have b0:(o != o)=S:=bne_self_eq_false _;refine(show KB (FM prog w) A (if (o != o)=true then _ else ret Value.none) P E _ from ?_);rw[Zj (by rw[b0];simp)];exact Zs (fin _ h M j)
end TS
end
section
open PySem PyProof.Rows
namespace TS
variable{prog:PP}{w:SL}{A:Pi}{E:Yu}{s:FB}
def nH:IR->Int
 |.int i _=>i
 |_=>0
def yy:GE prog w A E s oneType' (λp=>∃i t,p.1=Value.int i t) (λp q=>decide (nH p.1<nH q.1)):=by
 refine⟨?_,?_,?_⟩
 ·rintro st ⟨x,g⟩ ⟨y,f⟩ Q a ⟨i,t,ex⟩ ⟨j,u,e⟩ h;cases (show x=_ from ex);cases (show y=_ from e);rw[lt'_eq];refine ZX (WR ?_);rw[a,keyLt'_oneType];exact ZX (wpS_lift (XR (oneLt_int ⟨rfl,Zg h⟩)))
 ·rintro x y _ _ h;have:=of_decide_eq_true h;exact ZJ (by lia)
 ·rintro x y z _ _ _ d b;have:=of_decide_eq_false d;have:=of_decide_eq_false b;exact ZJ (by lia)
theorem ints_in:∀{l:Ws},(∀u∈l,∃i t,u=Value.int i t)->IntsAre l (l.map nH)
 |[],_=>.nil
 |u :: l,h=>by
  obtain⟨i,t,rfl⟩:=h u Zx;exact .cons _ _ (ints_in λv a=>h v (Zw _ a))
def rW{R:Ws->FB->Prop}{r:GM}{j:Int}{t u v:Tok}(H:A.handled=Y)(G:IsRange s.heap r 0 j 1 t u v)(Q:0<=j)(P:j<=16777216)(h:∀(d:SC)(g:Nat)(acc:Array IR),(∀b o,s.heap.get? b=O o->d.get? b=O o)->ItemsOf (λi v=>∃t,v=.int (0+i*1) t) acc j.toNat->R acc.toList { s with heap:=d,toks:=g }) :
  KB (FM prog w) A (collect (.ref r)) R E s:=by
 unfold collect;refine Zz (wpAny_runValue (WO entry_proto_collect' ?_));rw[XD PySem.F.plain_proto_collect _];show KB _ A.in1 (newList [] >>= λl=>again (.builtin "list.__iadd__" ⟨[l,.ref r],[]⟩)) _ _ s;refine Zz (Wt ?_);refine Zs ⟨plainId_quiet PySem.F.plain_list_iadd _,WO entry_list_iadd' ?_⟩;rw[XD PySem.F.plain_list_iadd _];have L:(s.heap.push { cls:=.type "list",data:=.seq ([]:Ws).toArray }).get? s.heap.objs.size=O { cls:=.type "list",data:=.seq #[] }:=Zc _ M;show KB _ A.in1 (Builtin.List.listExtendWith (.ref s.heap.objs.size) (.ref r) (.ref s.heap.objs.size)) _ _ _;have key:=wpAny_extend_range (prog:=prog) (w:=w) (A:=A) (s:={ s with heap:=s.heap.push { cls:=.type "list",data:=.seq ([]:Ws).toArray } })
  (R:=λ(q:Result) (D:FB)=>∃(d:SC)(g:Nat)(m:Array IR)(z:Nat),q=.ok (.ret (.ref s.heap.objs.size))/\D={ s with heap:=d,toks:=g } ∧
   (∀b o,s.heap.get? b=O o->d.get? b=O o)/\d.get? s.heap.objs.size=O { cls:=.type "list",dict:=Y,data:=.seq m z,slots:=#[] }/\ItemsOf (λi v=>∃t,v=.int (0+i*1) t) m j.toNat)
  (r:=r) (a:=0) (b:=j) (c:=1) (n:=j.toNat) H (Zt _ G) (small_one (by lia) (by lia) (by lia) (by lia)) (by rw[rangeSize_one];split<;>lia) (by lia) s.heap.objs.size (.ref s.heap.objs.size) 0 L
  (λd g m z p B C=>⟨d,g,m,z,rfl,rfl,λb o e=>p b o (ZV (ZY e)) (Zt _ e),B,C⟩)
 refine Yj key (λfin D x=>?_) λe D x=>?_
 ·cases fin with
  |done f =>
   obtain⟨d,g,m,z,e,rfl,p,B,C⟩:=x;cases e;show KB _ A (load s.heap.objs.size>>=_) _ _ _;exact Zz (wpAny_load B (Zs (h d g m p C)))
  |again c₁ =>
   refine⟨x.1,WH x.2 λq N y=>?_⟩;obtain⟨d,g,m,z,rfl,rfl,p,B,C⟩:=y;show KB _ A (load s.heap.objs.size>>=_) _ _ _;exact Zz (wpAny_load B (Zs (h d g m p C)))
 ·obtain⟨_,_,_,_,I,_⟩:=x;cases I
def n6(a f:IR):argsOk "sorted" ⟨[a],[(("key" : Str),f),(("reverse" : Str),.bool J)]⟩:=by unfold argsOk;kernel_rfl
def rH(a f:IR):argsOk "list.sort" ⟨[a],[(("key" : Str),f),(("reverse" : Str),.bool J)]⟩:=by unfold argsOk;kernel_rfl
def qK{x f:IR}{Q:Yu}(l:(f != Value.none)=true)(o:∀(i:Pi)(p:Yu),i.handled=A.handled->KB (FM prog w) i (collect x) (λb a=>b.length<=FS/\∃J,J [] { a with heap:=fB a.heap b } ∧
   KeyPre prog w A.in1.in1 E (λfin d=>fin=.done (.ret .none)/\Q (.ref a.heap.objs.size) d) f a.heap.objs.size (a.heap.objs.size+2) ((fB a.heap b).get? a.heap.objs.size) b J List.reverse) p s) :
  KB (FM prog w) A (call (.builtin "sorted") [x] [(("key" : Str),f),(("reverse" : Str),.bool true)]) Q E s:=by
 refine call_function_entry_kw kind_sorted plain_sorted entry_sorted (n6 _ _) (show KB _ _ (Builtin.«sorted» _) _ _ _ from ?_);unfold Builtin.«sorted»;refine Zz (m:=checkCount "sorted" 1 1 _) (Zs (Zz (Yj (o A.in1 (λ_ _=>False) M) ?_ λ_ _ e=>e.elim)));rintro b a ⟨hlen,J,j,kp⟩;refine Zz (Wb ?_ (by exact hlen));have g:(a.heap.push (seqObj "list" b.toArray 0)).get? a.heap.objs.size=O (seqObj "list" b.toArray 0):=Zc _ M;have n:dF (a.heap.push (seqObj "list" b.toArray 0)) a.heap.objs.size b=a.heap.objs.size+2:=by rw[i3,Xp]
 refine(show KB _ _ _ _ _ { a with heap:=a.heap.push (seqObj "list" b.toArray 0) } from ?_);have main:=uI (J:=J) (s:={ a with heap:=a.heap.push (seqObj "list" b.toArray 0) }) l g hlen j (P:=λfin d=>fin=.done (.ret .none)/\Q (.ref a.heap.objs.size) d) (by rw[n];exact kp);exact Zz (YU (wpAny_call_entry_kw slot_list_sort ⟨_,g,rfl⟩ entry_list_sort (Yj main (λfin d h=>⟨_,h.1,Zs ⟨_,rfl,h.2⟩⟩) λ_ _ e=>e) (rH _ _)))
end TS
namespace td
open PySem PySem.Spec PyProof.Rows TS
section
variable{X:Cx}{pins:Yf}{Z:St}{H:Hp}{s:FB}
def JR(X:Cx)(a:Yf)(Z:St)(H:Hp)(g:Nat->Int)(b j:Nat)(h:Ws)(f:FB):Prop:=∃d,Inv X a Z d f/\aO H d/\fU X a d b/\fU X a d (b+2)/\(∃e,f.heap.get? (b+2)=O (seqObj "list" h.toArray e))/\f.heap.get? b=O (seqObj "list" #[] j) ∧
  ∀(i:Nat)(u:IR),h[i]?=O u->∃t,u=Value.int (g i) t
def ml{f p:GM}{j:Int}{key:Nat->Int}{Q:VK}(D:X.calm=J)(I:Inv X pins Z H s)(hp:H p=O (.rng 0 j))(h0:0<=j)(m:j<=16777216)(run:∀(i:Nat)(u:IR)(y:FB)(n:Hp),i<j.toNat->RelV (.int i) u->Inv X pins Z n y->aO H n->KB (FM X.prog X.w) X.A.in1.in1 (call (.ref f) [u]) (λr R=>∃w W,Inv X pins Z W R/\RelV w r/\(w=.int (key i)/\aO n W)/\∀b o,fU X pins n b->y.heap.get? b=O o->R.heap.get? b=O o/\fU X pins W b) (λ_ _=>False) y)(q:∀(l:GM)(n:Hp)(ys:Vi),aO H n->n l=Y->ys.Perm (List.range j.toNat)->ys.Pairwise (λa b=>key b<=key a)->Q (.ref l) (upd n l (.lst (ys.map λi:Nat=>V.int (i:Int))))) :
  KB (FM X.prog X.w) X.A (call (.builtin "sorted") [.ref p] [(("key" : Str),.ref f),(("reverse" : Str),.bool J)]) (EP X pins Z Q) X.xe s:=by
 obtain⟨t,u,v,g⟩:=(show bg X.prog X.w H s.heap p (.rng 0 j) from I.xa p _ hp)
 refine qK M λA' E' hA=>rW (hA.trans (I.ok.hd D)) g h0 m λm tk acc kp GL=>?_;have U:Inv X pins Z H { s with heap:=m,toks:=tk }:=I.kept kp;have N2:acc.toList.length=j.toNat:=by rw[Yg,GL.1]
 have each:∀(i:Nat)(v:IR),acc.toList[i]?=O v->∃t,v=Value.int (i:Int) t:=λi v hv=>by
  rw[Jb]at hv;obtain⟨t,e⟩:=GL.2 i v hv;exact⟨t,by rw[e];congr 1;lia⟩
 generalize hvv:acc.toList=G at *;obtain⟨e0,N7⟩:=iY m G;have LK:m.objs.size≠m.objs.size+2:=by lia
 refine⟨by show _<=16777216;lia,JR X pins Z H key m.objs.size e0,?_,?_⟩
 ·exact⟨H,U.kept (t':=tk) λb o e=>jY e,aO.refl _,U.Hj (Zo _) (U.xa.fresh (Zo _)),U.Hj (ZI _ 2) (U.xa.fresh (ZI _ 2)),⟨0,iZ m G⟩,N7,λi u e=>by simp at e⟩
 ·refine⟨λd y ⟨n,_,_,_,_,e,_⟩=>e,λd y ⟨n,_,_,_,_,_,e,_⟩=>e.trans N7.symm,?_,?_⟩
  ·rintro d x y hx ⟨n,I2,sm,fL,F,⟨eK,hK⟩,hL,Jz⟩;obtain⟨t,rfl⟩:=each _ _ hx;have hil:d.length<j.toNat:=by rw[← N2];exact(ZW.mp hx).1
   refine Yj (run d.length _ y n hil ⟨t,rfl⟩ I2 sm) ?_ λ_ _ e=>e;rintro u R ⟨w,W,I3,ru,⟨rfl,IJ⟩,FE⟩;obtain⟨L,rfl⟩:=ru;obtain⟨kK,P⟩:=FE _ _ F hK;obtain⟨QS,RZ⟩:=FE _ _ fL hL;have RS:∃e,(R.heap.update (m.objs.size+2) (Obj.mapSeq λxs=>xs.push (Value.int (key d.length) L))).get? (m.objs.size+2)=O (seqObj "list" (d++[Value.int (key d.length) L]).toArray e):=by
    have:=Xj kK λxs=>xs.push (Value.int (key d.length) L);rw[this,show d.toArray.push (Value.int (key d.length) L)=(d++[Value.int (key d.length) L]).toArray by simp];exact⟨_,rfl⟩
   refine⟨⟨eK,kK⟩,W,I3.turned (it:=m.objs.size+2) (t':=R.toks) (λc o D e=>by rw[Yn _ _ _ _ D];exact e) P.1 P.2.1 P.2.2.2.1 P.2.2.2.2.1 P.2.2.2.2.2,sm.trans IJ,RZ,P,RS,?_,λi u B=>?_⟩
   ·rw[Yn _ _ _ _ LK];exact QS
   ·by_cases N:i<d.length
    ·rw[Yp N]at B;exact Jz i u B
    ·rw[JS (by exact Y5 N)]at B;have Rw:i=d.length:=by
      by_cases z:i-d.length=0
      ·lia
      ·rw[Xe (by simp;lia)]at B;cases B
     subst Rw;simp at B;exact⟨L,B.symm⟩
  ·rintro d y ⟨n,I2,sm,fL,F,⟨eK,hK⟩,hL,Jz⟩ G7;have kz:∀z∈d.zip G,∃(i:Nat)(t t':Tok),z=(Value.int (key i) t,Value.int (i:Int) t'):=λz C=>by
    obtain⟨i,N,e⟩:=Ja C;have e':(d.zip G)[i]?=O z:=by rw[Zi N,e]
    obtain⟨z1,z2⟩:=z;rw[XI]at e';obtain⟨t,rfl⟩:=Jz i z1 e'.1;obtain⟨t',rfl⟩:=each i z2 e'.2;exact⟨i,t,t',rfl⟩
   refine⟨oneType',_,_,yy,λz C=>?_,λtwo Q1 q1=>?_,λout o1 o2=>⟨rfl,?_⟩⟩
   ·obtain⟨i,t,t',rfl⟩:=kz z C;exact⟨_,_,rfl⟩
   ·have hI:IntsAre d (d.map nH):=ints_in λu B=>by
     obtain⟨i,N,e⟩:=Ja B;obtain⟨t,e2⟩:=Jz i u (by rw[Zi N,e]);exact⟨_,t,e2⟩
    match d,G7,hI with
    |v₁ :: v₂ :: Hs,_,hI =>
     rw[keyKind_ints hI];exact Zs q1
    |[],G7,_=>rw[← G7]at two;exact absurd two (by decide)
    |[_],G7,_=>rw[← G7]at two;exact absurd two (by simp)
   ·have I3:=I2.turned (it:=m.objs.size+2) (t':=y.toks) (h':=y.heap.update (m.objs.size+2) (Obj.mapSeq λ_=>#[])) (λc o D e=>by rw[Yn _ _ _ _ D];exact e) F.1 F.2.1 F.2.2.2.1 F.2.2.2.2.1 F.2.2.2.2.2;have N6:(y.heap.update (m.objs.size+2) (Obj.mapSeq λ_=>#[])).get? m.objs.size=O (seqObj "list" #[] e0):=by rw[Yn _ _ _ _ LK];exact hL
    have N5:=Xj N6 λ_=>(out.map (·.2)).reverse.toArray;have ho:∀z∈out.reverse,∃(i:Nat)(t t':Tok),z=(Value.int (key i) t,Value.int (i:Int) t'):=λz C=>kz z (o1.mem_iff.mp (YL.mp C));have LS:out.reverse.length=j.toNat:=by
     rw[List.length_reverse,o1.length_eq,Yx];lia
    have vals:∀{out:List KF},(∀z∈out,∃(i:Nat)(t t':Tok),z=(Value.int (key i) t,Value.int (i:Int) t'))->aT ((out.map λz=>(nH z.2).toNat).map λi:Nat=>V.int (i:Int)) (out.map (·.2)):=by
     intro out
     induction out with
     |nil=>intro _;exact .nil
     |cons z out ih =>
      intro h;obtain⟨i,t,t',rfl⟩:=h z Zx;exact .cons ⟨t',rfl⟩ (ih λz C=>h z (Zw _ C))
    refine⟨.ref m.objs.size,_,I3.adopt (o:=.lst ((out.reverse.map λz=>(nH z.2).toNat).map λi:Nat=>V.int (i:Int))) (t':=y.toks) fL (λc o D e=>by rw[Yn _ _ _ _ D];exact e) ⟨_,N5⟩ (show bg X.prog X.w _ _ _ (.lst _) from⟨by rw[Zv,Zv,LS];show _<=16777216;lia,out.reverse.map (·.2),_,vals ho,by rw[List.map_reverse];exact N5⟩),rfl,q _ n _ sm fL.1 ?_ ?_⟩
    ·have:=((List.reverse_perm out).trans o1).map λz=>(nH z.2).toNat;refine this.trans (List.Perm.of_eq ?_);have e:(d.zip G).map (λz=>(nH z.2).toNat)=((d.zip G).map Prod.snd).map λv=>(nH v).toNat:=by rw[Yw];rfl
     rw[e,Ww (by lia)];refine List.ext_getElem (by rw[Zv,IA,N2]) λi m h2=>?_;rw[List.getElem_map,Vh];obtain⟨t,e⟩:=each i _ (Zi (by simpa using m));rw[e];exact Ye i
    ·rw[X6,List.pairwise_reverse];refine Xu (λ{a b} ha hb h=>?_) o2;obtain⟨i,t,t',rfl⟩:=ho a (YL.mpr ha);obtain⟨k,t2,t3,rfl⟩:=ho b (YL.mpr hb);have:=of_decide_eq_false (show decide (key k<key i)=S from h);show key ((i:Int).toNat)<=key ((k:Int).toNat);rw[Ye,Ye];lia
end
end td
end
section
namespace td
open PySem PySem.Spec PyProof.Rows
abbrev Fo(X:Cx)(b:Scope)(a:List (Str×GM)):Prop:=(∀x c,a.lookup x=O c->X.env.cells.lookup x=O c)/\∀y∈b.names,y.2=.free->∃c,a.lookup y.1=O c
structure IB(X:Cx)(q:Str)(params:Arguments)(body:Expr)(sc:Scope)(H:Hp)(f:GM):Prop where
 ex:∃cl c ct oc y vs t,Fo X sc cl/\H f=some (.frz (CY q params body sc cl ((X.mg "__name__").getD .none) c ct) (.own f))/\H c=some (.frz oc (.own y))/\oc.data=.fields vs/\vs[1]?=some (.str q t)
section
variable{X:Cx}{params:Arguments}{body:Expr}{sc:Scope}{pos:Pos}{q:Str}{c P:GM}
def IB.same{H a:Hp}{f:GM}(l:IB X q params body sc H f)(e:aO H a):IB X q params body sc a f:=by
 obtain⟨cl,c,ct,d,y,b,t,i,h,h3,g⟩:=l.ex;exact⟨cl,c,ct,d,y,b,t,i,e _ _ h,e _ _ h3,g⟩
def BL(n:X.env.qual ++ "<lambda>" = q)(A:defaultsOf params X.env=([],[]))(F:iQ X.env sc=J)(p:X.env.code=.ref c)(C:PySem.W.codeHdIn X.K c P=J)(m:Tb X.base P q)(r:Bm X.mg X.base) :
  PE X (.Lambda params body sc pos) (λZ H Q=>∀f a,aO H a->IB X q params body sc a f->Q (.ref f) a):=by
 intro d s Z H Q I h;have b:=F;unfold iQ at b;rw[Yz,ZD]at b;obtain⟨cl,z,D,x⟩:=r6 (sc:=sc) (env:=X.env) λy l e=>I.ok.has y.1 (by
  have:=b.2 y l;rw[e]at this;simpa using this)
 refine wG I n A z p (PySem.W.codeHd_of_K I.mod.OX C) m r λf w ct j y g t a G B i o v h3 u=>?_;exact⟨.ref f,a,B,rfl,h f a i ⟨cl,w,ct,j,y,g,t,⟨D,x⟩,o,v,h3,u⟩⟩
end
end td
namespace VS
open PySem PySem.Spec PyProof.Rows td
def lg(a:Ex)(U:VS.Env)(i:Nat):Option Int:=(a (O (.pu (.int i)) :: U)).bind λv=>int? v.2
def u6(f e:Ex)(U:VS.Env):Option (V4->Prop):=(f U).bind λx=>(int? x.2).bind λj=>if (0<=j/\j<=16777216)/\(List.range j.toNat).all (λi=>(lg e U i).isSome)=J then
 O λl=>∃d:Vi,l=d.map (λi:Nat=>T.int (i:Int))/\d.Perm (List.range j.toNat)/\d.Pairwise (λa b=>(lg e U b).getD 0<=(lg e U a).getD 0) else Y
open Classical in
noncomputable def mM(g:Tg)(S:VS.Env->Option (V4->Prop))(b:Sx):Sx:=λU=>(S U).bind λP=>if h:∃o,∀l,P l->forL g b l U=O o then O h.choose else Y
def S1(G:Gx)(S:VS.Env->Option (V4->Prop)):TI:=λZ H R=>∃L U P,SR G L U Z H/\S U=O P/\∀l,P l->∀J b C,aO H b->IC G J l C b->(∀a∈C,H a=Y)->R J b
def Eu(G:Gx)(X:Cx)(b a:Expr)(S:VS.Env->Option (V4->Prop)):Prop:=PI X b a (S1 G S)
section
variable{G:Gx}{X:Cx}{tg:Expr}{pos p p2 kp FE QH lp:Pos}
def yF{S:VS.Env->Option (V4->Prop)}{g:Tg}{cb:Sx}{D:Ends}{Z:td.St}{H:Hp}(d:tS G (mM g S cb) D Z H):BU (S1 G S) (tG G g) (tS G cb) D Z H:=by
 obtain⟨L,U,o,s,e,k⟩:=d;obtain⟨P,j,e1⟩:=Zy.mp e;split at e1
 ·rename_i h;cases e1;refine⟨L,U,P,s,j,λl f J q C b ok fr=>?_⟩;have:=vK (G:=G) (ci:=λ_=>O (.fr,l)) (g:=g) (cb:=cb) (D:=D) (Z:=Z) (H:=H) ⟨L,U,_,s,h.choose_spec l f,k⟩;obtain⟨w,v,m,u,t,n,r⟩:=this;cases n;exact r J q C b ok λa i=>.inl (fr a i)
 ·cases e1
def Cj{a:Expr}{b:List Stmt}{S:VS.Env->Option (V4->Prop)}{g:Tg}{d:Sx}(h:PassesOwn (FM X.prog X.w) X.A X.env X.xe)(l:X.calm=J)(i:Eu G X tg a S)(j:MJ G X tg g)(m:ka G X b d)(e:∀x,UF a X.env x=pure x):PSV G X (.For tg a b [] pos) (mM g S d):=PS.weak (vY h l i j m e) λD Z H f=>yF f
def SR.under{L:FH}{U:VS.Env}{Z:td.St}{H:Hp}(s:SR G L U Z H)(i:Int):SR G (λn=>match n with | 0=>[] | n+1=>L n) (some (.pu (.int i)) :: U) (some (.int i) :: Z) H:=by
 refine⟨by rw[Zl,Zl,s.len],λn c h=>?_,λn t h=>?_,λn m t c h d ne a b=>?_⟩
 ·cases n with
  |zero=>cases h;exact⟨_,rfl,.int i⟩
  |succ n=>exact s.rp n c h
 ·cases n with
  |zero=>cases h
  |succ n=>exact s.nd n t h
 ·cases n with
  |zero=>cases h
  |succ n =>
   cases m with
   |zero=>exact λz=>nomatch z
   |succ m=>exact s.sep n m t c h d (λe=>ne (by rw[e])) a b
def zm{a B er:Expr}{ca ck:Ex}{k0 k':Nat}{d:Arguments}{D:Scope}{q y:Str}{c P:GM}{N:List Str}(hr:AU k' X.A)(hk:k0+3<=k')(hm:X.mg "sorted" = Y)(hmr:X.mg "range" = Y)(ha:PV G X a ca)(he:PV G X er (eC (.bl J)))(Ro:∀(f c:GM)(cl:List (Str×GM))(A:Pi)(s:FB)(H:Hp),AU k0 (A.deeper (PySem.W.envX q D s.heap.objs.size f (.ref c) cl))->PV G (ym X (y :: N) q D f c cl A s H) B ck)(C:PySem.W.codeHdIn X.K c P=J)(ht:Tb X.base P q)(Mn:Bm X.mg X.base)(hg:Gl X "sorted")(hgr:Gl X "range")(hc:X.calm=J)(hs:K0 a [] X)(Iu:KM [a] X.env=[(S,eval a X.env)])(G4:KM [.Call (.Name "range" p2) [a] [] lp] X.env=(S,eval (.Call (.Name "range" p2) [a] [] lp) X.env) :: KM [] X.env)(hq:X.env.qual ++ "<lambda>" = q)(JO:defaultsOf d X.env=([],[]))(G0:iQ X.env D=J)(Iv:i6 D N X.N=J)(Gc:X.env.code=.ref c)(hx:D.names.lookup y=O .local)(RJ:D.isCoroutine=S)(Mk:D.isGenerator=S)(Kb:∀(cl:List (Str×GM))(pm ct u:IR)(c:GM),bindArgs (PySem.W.kla_fn "<lambda>" q d B D cl pm (.ref c) ct) ⟨[u],[]⟩=pure [(y,u)])(RG:backTo pos (KM [.Call (.Name "range" p2) [a] [] lp] X.env)=(S,eval (.Call (.Name "range" p2) [a] [] lp) X.env) :: backTo pos (KM [] X.env))(hpl:(backTo pos (KM [.Call (.Name "range" p2) [a] [] lp] X.env)).any (·.1)=S) :
  Eu G X tg (.Call (.Name "sorted" p) [.Call (.Name "range" p2) [a] [] lp] [⟨O "key",.Lambda d B D kp,FE⟩,⟨O "reverse",er,QH⟩] pos) (u6 ca ck):=by
 have inner:PE X (.Call (.Name "range" p2) [a] [] lp) (λZ H Q=>tE G ca Z H λv g=>∃j:Int,v=.int j/\∀b,g b=Y->Q (.ref b) (upd g b (.rng 0 j))):=by
  intro n s Z H Q I h;refine Call_ (gL I hgr hmr boot_range (Y1 (thn ((d5 ha fJ hs) lp n s Z H (λvs g=>∃j:Int,vs=[.int j]/\∀b,g b=Y->Q (.ref b) (upd g b (.rng 0 j))) I ?_) λus s1 ⟨vs,g,I1,r1,q1⟩=>?_) Iu M))
  ·obtain⟨L,U,m,r,s1,s2,s3⟩:=h;exact⟨L,U,m,r,s1,s2,λv H' F e1 e2 e3=>by
    obtain⟨j,e,z⟩:=s3 v H' F e1 e2 e3;exact⟨j,by rw[e],z⟩⟩
  ·obtain⟨j,e,q⟩:=q1;subst e;obtain⟨u,rfl,t,rfl⟩:=vals1 r1;exact call_range_1 ⟨.ref s1.heap.objs.size,_,I1.laid (a:=s1.heap.objs.size) (o:=.rng 0 j) (λ_ _ q=>Zt _ q) (Zo _) ⟨_,_,_,Zc _ M⟩,rfl,q _ (I1.xa.fresh (Zo _))⟩
 have pe:PE X (.Call (.Name "sorted" p) [.Call (.Name "range" p2) [a] [] lp] [⟨O "key",.Lambda d B D kp,FE⟩,⟨O "reverse",er,QH⟩] pos) (λZ H Q=>∃L U P,SR G L U Z H/\u6 ca ck U=O P/\∀(l:GM)(g:Hp)(ys:Vi),aO H g->g l=Y->P (ys.map λi:Nat=>T.int (i:Int))->Q (.ref l) (upd g l (.lst (ys.map λi:Nat=>V.int (i:Int))))):=by
  rintro n s Z H Q I ⟨L,U,P,sr,eS,k⟩;obtain⟨⟨mx,x⟩,ea,e1⟩:=Zy.mp eS;obtain⟨j,ej,e2⟩:=Zy.mp e1;split at e2
  ·rename_i hj;cases e2;refine Wz (gL I hg hm jB ?_ (by decide) M);refine PyProof.Rows.callWith_kw (thn ((d5 inner fJ G4) pos n s Z H (λvs g=>∃b,vs=[.ref b]/\aO H g/\g b=O (.rng 0 j)) I ⟨L,U,mx,x,sr,ea,λv H' F e1 e2 e3=>⟨j,?_,λb hb=>⟨b,rfl,λc o z=>by rw[av (aQ (e1 c o z) hb)];exact e1 c o z,aw⟩⟩⟩) λus s1 ⟨vs,g,I1,r1,b,ev,Iq,hb⟩=>?_) RG hpl M M
   ·cases e2 with
    |int i=>cases ej;rfl
    |_=>cases ej
   ·subst ev;obtain⟨u,rfl,ru⟩:=r1.one;obtain rfl:=(show u=Value.ref b from ru)
    refine thn ((nz (nm:=O "key") (kpos:=FE) (BL (pos:=kp) hq JO G0 Gc C ht Mn) (nz (nm:=O "reverse") (kpos:=QH) he xp)) pos n s1 Z g (λzs H2=>∃f,zs=[.ref f,.bl J]/\aO g H2/\IB X q d B D H2 f) I1 (λf H' sm la=>⟨L,U,.fr,.bl J,(sr.same Iq).same sm,rfl,λv H'' F S6 r _=>⟨f,by rw[r.GD],sm.trans S6,la.same S6⟩⟩)) λws s2 ⟨zs,H2,I2,rz,f,ez,IJ,la⟩=>?_;subst ez;cases rz with
    |cons z1 z2 =>
     cases z2 with
     |cons z2 z3 =>
      cases z3;cases z1;cases z2;refine(show KB (FM X.prog X.w) X.A (call (.builtin "sorted") [.ref b] [(("key" : Str),Value.ref f),(("reverse" : Str),.bool J)]) (EP X n Z Q) X.xe s2 from ?_);refine ml (key:=λi=>(lg ck U i).getD 0) hc I2 (IJ _ _ hb) hj.1.1 hj.1.2 (λi u s' H3 hi ru I3 Kg=>?_) λl H3 ys Kg hl hp hw=>k l H3 ys ((Iq.trans IJ).trans Kg) hl ⟨ys,rfl,hp,hw⟩;obtain⟨cl,c',ct,oc,y',vs,t,KL,hf,GC,h3,h4⟩:=(la.same Kg).ex;have hki:=ZD.mp hj.2 i (G9.mpr hi);obtain⟨kv,O6⟩:=XE.mp hki;obtain⟨⟨mk,tk⟩,ek,Uc⟩:=Zy.mp O6;have r2:AU (k0+1) X.A.in1.in1:=AU.in1 (AU.in1 (hr.mono hk));refine zK (A:=X.A.in1.in1) (N:=N) (x:=y) (t:=tE G ck) (Q:=λw H'=>w=.int ((lg ck U i).getD 0)/\aO H3 H') I3 hf GC h3 h4 G0 Iv hx KL.1 KL.2 (Kb _ _ _ _ _) RJ Mk M r2.hd r2.depth ru (Ro f c' cl _ s' H3 (r2.deeper _)) ⟨_,_,mk,tk,((sr.same Iq).same (IJ.trans Kg)).under i,ek,λw H' F sm r _=>⟨?_,sm⟩⟩;cases r with
      |int i=>cases Uc;rw[O6];rfl
      |_=>cases Uc
  ·cases e2
 refine PI.weak (AC pe) λZ H R hq=>?_;obtain⟨L,U,P,s,eP,k⟩:=hq;refine⟨L,U,P,s,eP,λl g ys sm hl hP=>⟨l,rfl,⟨_,FF.of aw⟩,?_⟩⟩;have IJ:aO g (upd g l (.lst (ys.map λi:Nat=>V.int (i:Int)))):=λb o z=>by rw[av (aQ z hl)];exact z
 refine k _ hP _ _ _ (sm.trans IJ) (tZ X.K aw (qq ys)) λa ha=>?_;rw[show (ys.map λ_=>([]:X4)).flatten=[] from List.flatten_eq_nil_iff.mpr λl hl=>by obtain⟨_,_,rfl⟩:=Yt.mp hl;rfl]at ha;cases Zh.mp ha;exact sm.free hl
end
end VS
end
section
namespace VS
open PySem PySem.Spec PyProof.Rows td
def zu:Fn:=λa=>match a with
 |[.scr ns]=>if ns.length<=63 then O (.fr,.bl J) else Y
 |_=>Y
section
variable{P:PP}{w:SL}{K:Xd}{mg:X3}{base:SC}{G:Gx}
def zt{k:Nat}{f:GM}{b:On}{y:Str}{g:Fn}(j:G.K=K)(F:FnOk P w K mg base HK k f b [y] (Js G g))(i:∀ns:Vb,ns.length<=63->g [.scr ns]=O (.fr,.bl J)) :
  FnOk P w K mg base HK k f b [y] (Js (FR K) zu):=F.imp λo H Q E h=>by
 obtain⟨p,s,m,r,l,a,q⟩:=h;unfold zu at a;split at a
 ·rename_i ns;split at a
  ·rename_i e;cases a;cases l with
   |cons r1 r2 =>
    cases r2;cases r1 with
    |scr d=>exact⟨[.scr ns],[[]],.fr,.bl J,.cons (.scr (by rw[j];exact d)) .nil,i ns e,λv n F e1 r f1=>q v n F e1 (by cases r;exact .bl _) f1⟩
  ·cases a
 ·cases a
end
end VS
end
section
namespace td
open PySem PySem.Spec PyProof.Rows
abbrev OC:=List (GM×GM×Str)
def qZ(a:OC)(b:GM):Option Str:=(a.find? λp=>p.2.1==b).map (·.2.2)
def i7{a:OC}{b:GM}{q:Str}(h:qZ a b=O q):∃c,(c,b,q)∈a:=by
 obtain⟨⟨c,P,d⟩,e,rfl⟩:=Zm.mp h;have:=List.find?_some e;cases (eq_of_beq this);exact⟨c,List.mem_of_find?_eq_some e⟩
def vj{P:PP}{w:SL}{K:Xd}{i N:X3}{k:Nat}{fa a:GM}{fd:On}{x:Str}{sp:Sp}{f:FB}{j:Ws}{B:Vb}{g:OC}(KX:K.In f.heap)(Lj:f.heap.Ns mainGlobals i)(Z:f.heap.Ns builtinsNs N)(X:∀x:Str,x ≠ "__name__" → N x=bootBuiltins x)(Rm:f.heap.NoLimit)(hg:f.gens=#[])(t:f.heap.get? a=O { cls:=.type "list",data:=.seq j.toArray })(hi:IntsAre j B)(hl:B.length<=FS)(hr:AU k callerA)(U:Bm i f.heap)(D:∀p∈g,PySem.W.CodeHd f.heap p.1 p.2.1/\f.heap.get? p.2.1=O (PySem.W.tabObj #[]))(hf:∀p∈g,qZ g p.2.1=O p.2.2)(hN:PySem.W.noTabs K=J)(F:∀base:SC,K.In base->base.Ns mainGlobals i->Bm i base->(∀p∈g,Tb base p.2.1 p.2.2)->FnOk P w K i base HK k fa fd [x] sp)(Kb:∀(s:FB)(u:IR),BindsTo s fd ⟨[u],[]⟩ [(x,u)])(Kj:∀H:Hp,VS.jb K H a B->sp [.ref a] H (λv _=>v=.bl J) λ_ _ _=>False) :
  codeAny (FM P w) callerA (.call (.ref fa) ⟨[.ref a],[]⟩) (λr A=>r=.ok (.ret (.bool J))/\OldK f.heap A.heap/\A.os=f.os/\AllBare A.gens) f:=by
 have rv:=mW hi;have QG:=hi.length;obtain⟨H,hH⟩:∃H:Hp,H=λb=>if b=a/\K.lookup a=Y then O (.frz { cls:=.type "list",data:=.seq j.toArray } (.lst (B.map V.int))) else (qZ g b).map HO.tbl:=⟨_,rfl⟩
 have Q:∀{b q},qZ g b=O q->b≠a:=λe z=>by
  obtain⟨c,l⟩:=i7 e;have:=(D _ l).2;rw[z,t]at this;cases this
 have cs:∀b,H b=Y\/(b=a/\K.lookup a=Y/\H b=O (.frz { cls:=.type "list",data:=.seq j.toArray } (.lst (B.map V.int))))\/∃q,qZ g b=O q/\H b=O (.tbl q):=λb=>by
  rw[hH];dsimp only;split
  ·rename_i z;exact .inr (.inl ⟨z.1,z.2,rfl⟩)
  ·cases e:qZ g b with
   |none=>exact .inl M
   |some q=>exact .inr (.inr ⟨q,rfl,rfl⟩)
 have hP:∀p∈g,H p.2.1=O (.tbl p.2.2):=λp G=>by
  have e:=hf p G;rw[hH];dsimp only;rw[Zj λz=>Q e z.1,e];rfl
 have xa:Gn P w H f.heap:=λb u e=>by
  rcases cs b with z | ⟨rfl,_,z⟩ | ⟨q,e2,z⟩
  ·rw[z]at e;cases e
  ·rw[z]at e;cases e;exact⟨t,by rw[Zv];exact hl,j,_,rv,t⟩
  ·rw[z]at e;cases e;obtain⟨c,l⟩:=i7 e2;exact⟨#[],(D _ l).2,trivial,λpos v e=>nomatch e⟩
 have none_of:∀{b:GM}{o:Obj},f.heap.get? b=O o->(b=a->K.lookup a≠Y)->o≠PySem.W.tabObj #[]->H b=Y:=λ{b o} e n d=>by
  rcases cs b with z | ⟨z1,z2,_⟩ | ⟨q,e2,_⟩
  ·exact z
  ·exact absurd z2 (n z1)
  ·obtain⟨c,l⟩:=i7 e2;have:=(D _ l).2;rw[show (c,b,q).2.1=b from rfl,e]at this;cases this;exact absurd M d
 have Ic:∀{b:GM}{o:Obj},f.heap.get? b=O o->(b=a->K.lookup a≠Y)->o≠PySem.W.tabObj #[]->(lD f.heap H).get? b=O o:=λe n d=>wH e (none_of e n d);have L:∀{b:GM}{m:X3},f.heap.Ns b m->(lD f.heap H).Ns b m:=λ{b m} ⟨o,es,ep,e,d,r⟩=>⟨o,es,ep,Ic e (λz=>by
  rw[z,t]at e;cases e;cases d) (λz=>by rw[z]at d;cases d),d,r⟩
 have T2:K.In (lD f.heap H):=λb o e=>Ic (KX b o e) (λz=>by rw[← z,e];exact λy=>nomatch y) λz=>by
  have C:=ZD.mp hN (b,o) (PySem.W.mem_of_lookupK e);subst z;exact absurd (show S=J from C) Za
 have hM:Mod K i (lD f.heap H):=⟨T2,L Lj,⟨N,L Z,X⟩,let ⟨mc,h1,C⟩:=Rm;⟨mc,L h1,C⟩⟩
 have hBm:Bm i (lD f.heap H):=by
  obtain⟨bm,ob,b1,b2,b3,b4,b5,I⟩:=U;exact⟨bm,ob,b1,b2,Ic b3 (λz=>by rw[z,t]at b3;cases b3;cases I) (λz=>by rw[z]at I;cases I),b4,b5,I⟩
 have e0:Kf P w K i (lD f.heap H) callerA [] f H:=⟨rfl,hM,λb q e=>(sy.mp e).1,λb o e=>Ak e,X5 (vb _ _),trivial,λb Z=>absurd (show b∈([]:X4) from Z) (by simp),xa,.of_eq hg⟩
 have Q2:VS.jb K H a B:=by
  cases R:K.lookup a with
  |some o =>
   have e:=KX a o R;rw[t]at e;cases e;exact .inr ⟨_,j.toArray,_,R,rfl,rfl,rfl,by rw[Zd,QG];exact hl,by simpa using rv⟩
  |none=>exact .inl ⟨{ cls:=.type "list",data:=.seq j.toArray },by rw[hH];exact Zn ⟨rfl,R⟩⟩
 refine WH ((F _ T2 (L Lj) hBm λp G=>sy.mpr ⟨hP p G,ZY (D p G).2⟩).run callerA [] f H ⟨[.ref a],[]⟩ [.ref a] [.ref a] _ _ hr e0 (Kb f (.ref a)) (.cons M .nil) (Kj H Q2)) λr A h=>?_;cases r with
 |error e=>exact h.elim
 |ok fl =>
  cases fl with
  |next=>exact False.elim h
  |brk=>exact False.elim h
  |cont=>exact False.elim h
  |ret u =>
   obtain⟨v,H',os,bare,un,NN,r',q⟩:=h;have q':v=.bl J:=q;subst q';obtain rfl:u=Value.bool J:=r';have main:∀b o,f.heap.get? b=O o->asItWas f.heap A.heap b o/\∃o',A.heap.get? b=O o':=λb o e=>by
    rcases cs b with z | ⟨rfl,_,z⟩ | ⟨q,e2,z⟩
    ·have:=un.keep b o e z (by intro z;exact absurd (show b∈([]:X4) from z) (by simp)) (by simp);exact⟨.inl this,o,this⟩
    ·obtain⟨e1,_⟩:=NN b _ (un.HY b _ _ z);rw[t]at e;cases e;exact⟨.inl e1,_,e1⟩
    ·obtain⟨c,l⟩:=i7 e2;obtain⟨h1,C⟩:=D _ l;obtain⟨ps,e1,_⟩:=NN b _ (un.Hu b _ z);have Oc:f.heap.get? b=O (PySem.W.tabObj #[]):=C;rw[Oc]at e;cases e;exact⟨.inr (.inl ⟨(h1.tab C).isCodeTable,rfl,#[],ps,rfl,by rw[Array.empty_append];exact e1⟩),_,e1⟩
   exact⟨rfl,⟨λb o e=>(main b o e).1,λb o e=>(main b o e).2⟩,os,bare⟩
end td
namespace VS
open PySem PySem.Spec PyProof.Rows td
def vJ{l:PySem.W.OpenLaw}{q:PP}{i:List Str}{Z:(X3)->SC->Prop}{d:DefRec}{K:Params->Xd}{B:X4}{e:∀P,B=(K P).map (·.1)}{z:X4}{x:Str}{k:Nat}{tb:OC}(D:l.most=O 63)(JO:d.params.defaults=[])(C:AU k callerA)(m:∀p∈tb,p.2.1∈z)(L:∀p∈tb,qZ tb p.2.1=O p.2.2)(Q:∀P,PySem.W.noTabs (K P)=J)(U:∀P,∀p∈tb,PySem.W.codeHdIn (K P) p.1 p.2.1=J)(F:∀(w:SL)(mg:X3)(j:GM)(h:SC),(K w.params).In h->h.Ns mainGlobals mg->mg d.name=O (.ref j) →
   ∃fd:On,(∀(s:FB)(u:IR),BindsTo s fd ⟨[u],[]⟩ [(x,u)])/\∀base:SC,(K w.params).In base->base.Ns mainGlobals mg->Bm mg base->(∀p∈tb,Tb base p.2.1 p.2.2)->FnOk l.prog w (K w.params) mg base HK k j fd [x] (Js (FR (K w.params)) zu)) :
  PySem.W.WalkO q i Z (PySem.W.kmHook K B e z).says l.row.toRowW d [] (λf y=>PySem.call f y):=by
 refine Uz.oM D JO λw s₀ s₁ mg mb j o pm cd doc a y ns G Y ho hd Gc n Mh hints hlen I=>?_;have t:=PySem.W.km_in_of Y;have X:=PySem.W.km_tabs_of Y;obtain⟨fd,M,R⟩:=F w mg j _ t G.T.g n;exact vj t G.T.g G.T.b G.T.builtins G.T.nolimit I Mh hints (ZU hlen (by decide)) C G.T.bmain (λp A=>⟨PySem.W.codeHd_of_K t (U _ p A),X _ (m p A)⟩) L (Q _) R M λH N=>⟨[.scr ns],[[]],.fr,.bl J,.cons (.scr N) .nil,Zn hlen,λv H' F _ r _=>r.GD⟩
end VS
namespace td
open PySem PySem.Spec PyProof.Rows
def GQ.Z0{P:PP}{w:SL}{K:Xd}{m:X3}{b:SC}{x a:Str}{e:Stmt}{f:GM}{g:On}{N j:List Str}{k:Nat}{i:Sp}(F:GQ K x a e f g)(S:tx N j (ao e))(l:∀d H Q E,i d H Q E->d.length=j.length)(r:∀(A:Pi)(outer:List Env)(s:FB)(H:Hp)(d:List V)(Q:VK)(E:XK),AU k (A.deeper (envOfC a (ao e) s.heap.objs.size f g.code))->i d H Q E →
   ∃t,HJ (mw HK P w K m b N a (ao e) f g.code A outer s H E).Kz (aU e) t/\t { nx:=λ_ u=>Q .non u,rt:=Q } (start N d) H):FnOk P w K m b HK (k+1) f g j i:=by
 obtain⟨z,y,kV,doc,pm,an,C,ct,B,rfl,n,v⟩:=F.ex;refine Bj n v S l λA outer s H d Q E o p=>?_;obtain⟨t,h,q⟩:=r A outer s H d Q E o p;exact⟨t,h.Kz,q⟩
end td
namespace VS
open PySem PySem.Spec PyProof.Rows td
section
variable{G:Gx}{P:PP}{w:SL}{K:Xd}{mg:X3}{base:SC}
def Cz{x:Str}{a:Stmt}{f c0:GM}{e:On}{N b:List Str}{k g i:Nat}{c:Sx}(F:GQ K x x a f e)(o:mg x=O (.ref f))(r:e.code=.ref c0)(S:tx N b (ao a))(m:b.length=g)(n:N.length=i)(q:∀(kV doc pm:IR)(an:Option GM)(t ct:IR)(d:Ws),d.length=b.length->bindArgs (PySem.W.fnOf x x (bh a) (aU a) (ao a) .none kV doc pm an t ct) ⟨d,[]⟩=pure (b.zip d))(p:∀(A:Pi)(outer:List PySem.Env)(s:FB)(H:Hp)(E:XK),AU k (A.deeper (envOfC x (ao a) s.heap.objs.size f (.ref c0)))->ka G (mw HK P w K mg base N x (ao a) f (.ref c0) A outer s H E).Kz (aU a) c) :
  FnAt P w K mg base (k+1) x b G (fn g i c):=by
 refine⟨f,e,F.Z0 S (λl H Q E h=>vI m h) λA outer s H l Q E j h=>?_,o,F.kp,F.binds q⟩;rw[r]at j ⊢;exact⟨_,p A outer s H E j,xA n h⟩
end
end VS
end
section
namespace T27
open VS
noncomputable section
noncomputable def bV:Sx :=
  (aq (aL 4 (eN jz (af (e2 aF (e2 aF (ae 0) (e2 aF (ae 2) (Q3 (-1)))) (Q3 3)) aA)))
  (aq (sIf (e2 eT (ae 3) (ae 4)) (ir 2) iu)
  (sX (mm 2 [] bz (af (e2 Jv (ae 4) (ae 3)) aA)))))
noncomputable def g0:Fn:=fn 2 5
  (aq (iF 2 (gP (af (Q3 0) aA)))
  (aq (dS (aZ 3) (fT (ae 1)) bV)
  (ir 2)))
noncomputable def dy:Fn:=fn 2 3
  (aq (aL 2 (aP g0 (af (ae 0) (af (ae 1) aA))))
  (d8 (Lv (e2 oEq (eN dh (af (ae 2) aA)) (e2 bq (eN dh (af (ae 1) aA)) (Q3 1))) (e2 aF (ae 2) (Q3 (-1))) (eC .non))))
def cL:Fn:=fn 3 3
  (d8 (eN rY (af (eX 1 (aZ 0) (fT (ae 0)) (O (e2 oLt (e2 aF (ae 0) (Q3 0)) (ae 3))) (e2 aF (ae 2) (e2 aF (ae 0) (Q3 1)))) aA)))
noncomputable def bF:Sx :=
  (tQ 1 [] (ae 2) (e2 bq (Q3 1) (eN rY (af (eX 1 (aZ 0) (fT (e2 aF (e2 aF (ae 0) (ae 2)) (Q3 3))) Y (e2 aF (ae 2) (e2 aF (ae 0) (Q3 1)))) aA))))
noncomputable def cm:Fn:=fn 1 3
  (aq (iF 1 (eX 1 (aZ 0) (fT (ae 0)) Y (Q3 1)))
  (aq (mM (aZ 2) (u6 (eN dh (af (ae 0) aA)) (e2 aF (e2 aF (ae 1) (ae 0)) (Q3 1))) bF)
  (ir 1)))
def cO:Sx :=
  (aL 3 (e2 bq (e2 bq (ae 3) (Q3 1)) (aP cL (af (e2 aF (e2 aF (ae 0) (ae 5)) (Q3 3)) (af (ae 2) (af (ae 4) aA))))))
noncomputable def dG:Fn:=fn 2 6
  (aq (sIf (M3 (e2 oEq (ae 1) (eC (.str []))) (mz (aP dy (af (ae 0) (af (ae 1) aA))))) (d8 (eC .non)) iu)
  (aq (aL 2 (aP cm (af (ae 0) aA)))
  (aq (aL 3 (Q3 0))
  (aq (dS (iN [(aZ 4),(aZ 5)]) (t5 (ae 1) (aP g0 (af (ae 0) (af (ae 1) aA)))) cO)
  (d8 (e2 rD (ae 3) (Q3 1)))))))
def eD:Fn:=fn 2 2
  (aq (sIf (e2 oLt (ae 1) (eN dh (af (ae 0) aA))) (d8 (e2 aF (ae 0) (ae 1))) iu)
  (d8 (Q3 0)))
noncomputable def ar:Fn:=fn 2 4
  (aq (aL 2 (Q3 7))
  (aq (sIf (e2 Ji (eN dh (af (ae 0) aA)) (Q3 0)) (aL 2 (e2 aF (ae 0) (e2 oMod (ae 1) (eN dh (af (ae 0) aA))))) iu)
  (aq (aL 3 (e2 oMod (e2 fu (e2 bq (e2 bq (e2 oMod (ae 2) (Q3 2147483629)) (e2 fu (Q3 40503) (ae 1))) (Q3 1)) (Q3 48271)) (Q3 2147483647)))
  (aq (aL 3 (e2 oMod (e2 fu (ae 3) (ae 3)) (Q3 2147483629)))
  (aq (aL 3 (e2 oMod (e2 fu (e2 bq (ae 3) (ae 1)) (Q3 69621)) (Q3 2147483587)))
  (d8 (e2 fN (e2 oMod (e2 fu (ae 3) (ae 3)) (Q3 2147483563)) (Q3 3))))))))
noncomputable def bE:Fn:=fn 1 3
  (aq (aL 1 (e2 oMod (ae 0) (Q3 26)))
  (aq (aL 2 (e2 aF (gP (af (Q3 1) (af (Q3 3) (af (Q3 5) (af (Q3 7) (af (Q3 9) aA)))))) (e2 oMod (e2 fN (ae 0) (Q3 26)) (Q3 5))))
  (d8 (eX 1 (aZ 0) (cF (Q3 26)) Y (e2 aF (eC (.str [97,98,99,100,101,102,103,104,105,106,107,108,109,110,111,112,113,114,115,116,117,118,119,120,121,122])) (e2 oMod (e2 bq (ae 2) (e2 fu (ae 3) (ae 0))) (Q3 26)))))))
def dz:Sx :=
  (aq (aL 8 (e2 bq (ae 8) (e2 aF (ae 1) (e2 oMod (ae 0) (ae 2)))))
  (aL 0 (e2 fN (ae 0) (ae 2))))
noncomputable def b9:Sx :=
  (aq (aL 7 (eN pC (af (ae 4) (af (e2 oMod (ae 0) (Q3 25)) aA))))
  (aq (aL 0 (e2 fN (ae 0) (Q3 25)))
  (aq (aL 4 (e2 rD (ae 4) (ae 7)))
  (aq (aL 8 (eC (.str [])))
  (aq (dS (aZ 9) (cF (ae 7)) dz)
  (sX (mm 5 [] bz (af (ae 8) aA))))))))
noncomputable def cx:Fn:=fn 1 10
  (aq (aL 1 (aP bE (af (ae 0) aA)))
  (aq (aL 2 (e2 aF (gP (af (Q3 1) (af (Q3 2) (af (Q3 3) (af (Q3 4) (af (Q3 2) (af (Q3 3) (af (Q3 4) (af (Q3 26) aA))))))))) (e2 oMod (e2 fN (ae 0) (Q3 130)) (Q3 8))))
  (aq (aL 3 (e2 oMod (e2 fN (ae 0) (Q3 1040)) (Q3 5)))
  (aq (aL 0 (e2 fN (ae 0) (Q3 5200)))
  (aq (aL 4 (Q3 24))
  (aq (iF 5 (gP aA))
  (aq (dS (aZ 6) (cF (ae 3)) b9)
  (ir 5))))))))
noncomputable def b7:Sx :=
  (aq (aL 11 (aP ar (af (ae 0) (af (e2 bq (e2 bq (e2 fu (Q3 20) (ae 6)) (Q3 6)) (ae 10)) aA))))
  (sIf (iV (e2 K9 (eN dh (af (ae 9) aA)) (ae 8)) (e2 Ji (e2 oMod (ae 11) (Q3 4)) (Q3 0))) (aL 9 (e2 bq (ae 9) (e2 aF (ae 9) (e2 rD (eN dh (af (ae 9) aA)) (ae 8))))) (aL 9 (e2 bq (ae 9) (e2 aF (ae 2) (e2 oMod (e2 fN (ae 11) (Q3 4)) (ae 3)))))))
noncomputable def bZ:Sx :=
  (aq (aL 7 (eN pC (af (ae 4) (af (e2 oMod (aP ar (af (ae 0) (af (e2 bq (e2 fu (Q3 20) (ae 6)) (Q3 4)) aA))) (e2 bq (ae 1) (Q3 1))) aA))))
  (aq (aL 4 (e2 rD (ae 4) (ae 7)))
  (aq (aL 8 (e2 bq (Q3 1) (e2 oMod (aP ar (af (ae 0) (af (e2 bq (e2 fu (Q3 20) (ae 6)) (Q3 5)) aA))) (Q3 5))))
  (aq (aL 9 (eC (.str [])))
  (aq (dS (aZ 10) (cF (ae 7)) b7)
  (aq (sX (mm 5 [] bz (af (ae 9) aA)))
  (sIf (iV (e2 Ji (ae 7) (Q3 2)) (iV (e2 oEq (e2 oMod (aP ar (af (ae 0) (af (e2 bq (e2 fu (Q3 20) (ae 6)) (Q3 5)) aA))) (Q3 3)) (Q3 0)) (e2 K9 (ae 4) (Q3 2)))) (aq (sX (mm 5 [] bz (af (Hk (ae 9) (O (Q3 1)) (O (Q3 3))) aA)))
  (aL 4 (e2 rD (ae 4) (Q3 2)))) iu)))))))
noncomputable def cz:Fn:=fn 2 12
  (aq (aL 2 (aP bE (af (aP ar (af (ae 0) (af (Q3 1) aA))) aA)))
  (aq (aL 3 (e2 aF (gP (af (Q3 1) (af (Q3 2) (af (Q3 3) (af (Q3 4) (af (Q3 2) (af (Q3 3) (af (Q3 9) (af (Q3 26) aA))))))))) (e2 oMod (aP ar (af (ae 0) (af (Q3 2) aA))) (Q3 8))))
  (aq (aL 4 (ae 1))
  (aq (iF 5 (gP aA))
  (aq (dS (aZ 6) (cF (e2 oMod (aP ar (af (ae 0) (af (Q3 3) aA))) (Q3 6))) bZ)
  (aq (wj 5)
  (d8 (Hk (ae 5) Y (O (Q3 8))))))))))
noncomputable def dP:Fn:=fn 1 4
  (aq (aL 1 (aP bE (af (aP ar (af (ae 0) (af (Q3 1) aA))) aA)))
  (aq (aL 2 (e2 pO (e2 aF (ae 1) (Q3 0)) (e2 bq (Q3 100) (e2 oMod (aP ar (af (ae 0) (af (Q3 2) aA))) (Q3 21)))))
  (aq (sIf (e2 oEq (e2 oMod (aP ar (af (ae 0) (af (Q3 3) aA))) (Q3 2)) (Q3 0)) (aq (aL 3 (e2 oMod (aP ar (af (ae 0) (af (Q3 4) aA))) (eN dh (af (ae 2) aA))))
  (aL 2 (e2 bq (e2 bq (Hk (ae 2) Y (O (ae 3))) (e2 aF (ae 1) (Q3 1))) (Hk (ae 2) (O (e2 bq (ae 3) (Q3 1))) Y)))) iu)
  (d8 (gP (af (ae 2) aA))))))
noncomputable def eL:Fn:=fn 2 2
  (aq (sIf (e2 oEq (e2 oMod (aP eD (af (ae 0) (af (Q3 0) aA))) (Q3 2)) (Q3 0)) (d8 (aP cx (af (e2 fN (aP eD (af (ae 0) (af (Q3 0) aA))) (Q3 2)) aA))) iu)
  (aq (sIf (iV (e2 Ji (ae 1) (Q3 30)) (e2 oEq (e2 oMod (aP ar (af (ae 0) (af (Q3 5) aA))) (Q3 16)) (Q3 0))) (d8 (aP dP (af (ae 0) aA))) iu)
  (d8 (aP cz (af (ae 0) (af (e2 aF (gP (af (Q3 24) (af (Q3 24) (af (Q3 24) (af (ae 1) aA))))) (e2 oMod (aP ar (af (ae 0) (af (Q3 0) aA))) (Q3 4))) aA))))))
noncomputable def du:Sx :=
  (i8 1 (Hk (ae 3) (O (ae 5)) (O (ae 4))) (af (rL (af (ae 2) (af (ae 4) aA))) aA))
noncomputable def dn:Sx :=
  (dS (aZ 5) (cF (e2 bq (ae 4) (Q3 1))) du)
noncomputable def cq:Sx :=
  (dS (aZ 4) (cF (e2 bq (eN dh (af (ae 3) aA)) (Q3 1))) dn)
noncomputable def cT:Fn:=fn 1 6
  (aq (iF 1 (n8 0 [((eC (.str [])),(gP aA))]))
  (aq (dS (iN [(aZ 2),(aZ 3)]) (m9 (ae 0)) cq)
  (ir 1)))
def eR:Fn:=fn 1 1
  (d8 (rL (af (eN dh (af (ae 0) aA)) (af (ae 0) aA))))
def dq:Sx :=
  (ip 1 (eN gM (af (e2 Jv (ae 0) (ae 2)) aA)) (af (ae 2) aA))
def cZ:Fn:=fn 1 3
  (aq (iF 1 (n8 2 []))
  (aq (dS (aZ 2) (fT (eN jw (af (ae 0) aA))) dq)
  (kX 1)))
def cW:Sx :=
  (mF 1 (ae 4) (ae 2))
def eM:Sx :=
  (dS (aZ 4) (fT (ae 3)) cW)
def bP:Fn:=fn 1 5
  (aq (iF 1 (n8 0 []))
  (aq (dS (iN [(aZ 2),(aZ 3)]) (m9 (ae 0)) eM)
  (ir 1)))
noncomputable def g9:Sx :=
  (sIf (e2 lZ (e2 bq (e2 aF (ae 3) (Q3 0)) (ae 5)) (ae 1)) (sX (mm 4 [] bz (af (rL (af (ae 5) (af (e2 Jv (ae 1) (e2 bq (e2 aF (ae 3) (Q3 0)) (ae 5))) aA))) aA))) iu)
noncomputable def d6:Sx :=
  (aq (iF 4 (gP aA))
  (aq (dS (aZ 5) (fT (eC (.str [97,98,99,100,101,102,103,104,105,106,107,108,109,110,111,112,113,114,115,116,117,118,119,120,121,122]))) g9)
  (aq (wj 4)
  (aq (aL 6 (eC .non))
  (aq (sIf (e2 LU (e2 aF (ae 3) (Q3 0)) (eC (.str []))) (aL 6 (e2 Jv (ae 1) (Hk (e2 aF (ae 3) (Q3 0)) (O (Q3 1)) Y))) iu)
  (sX (mm 2 [] bz (af (rL (af (eN dh (af (e2 aF (ae 3) (Q3 0)) aA)) (af (eN dh (af (e2 aF (ae 3) (Q3 (-1))) aA)) (af (ae 6) (af (eN gM (af (ae 4) aA)) aA))))) aA))))))))
noncomputable def dB:Fn:=fn 2 7
  (aq (iF 2 (gP aA))
  (aq (dS (aZ 3) (fT (ae 0)) d6)
  (ir 2)))
noncomputable def cM:Fn:=fn 3 4
  (aq (aL 3 (aP dG (af (ae 0) (af (ae 2) aA))))
  (aq (sIf (e2 eT (ae 2) (ae 1)) (d8 (mz (ae 3))) iu)
  (d8 (iV (Mx .int (ae 3)) (iV (pW (Mx .bool (ae 3))) (e2 oEq (ae 3) (e2 Jv (ae 1) (ae 2))))))))
def g8:Sx :=
  (mF 7 (ae 9) (ae 8))
noncomputable def i5:Sx :=
  (sIf (pW (aP cM (af (ae 5) (af (ae 7) (af (ae 14) aA))))) (d8 (eC (.bl S))) iu)
noncomputable def il:Sx :=
  (aq (aL 11 (e2 oMod (aP ar (af (ae 0) (af (e2 bq (Q3 301) (ae 8)) aA))) (eN dh (af (e2 aF (ae 6) (ae 8)) aA))))
  (aq (aL 12 (e2 aF (e2 bq (e2 aF (ae 1) (Q3 0)) (eC (.str [113]))) (e2 oMod (aP ar (af (ae 0) (af (e2 bq (Q3 360) (ae 8)) aA))) (e2 bq (eN dh (af (e2 aF (ae 1) (Q3 0)) aA)) (Q3 1)))))
  (aq (aL 13 (e2 bq (e2 bq (Hk (e2 aF (ae 6) (ae 8)) Y (O (ae 11))) (ae 12)) (Hk (e2 aF (ae 6) (ae 8)) (O (e2 bq (ae 11) (Q3 1))) Y)))
  (dS (aZ 14) (fT (gP (af (e2 aF (ae 6) (ae 8)) (af (ae 13) (af (Hk (e2 bq (e2 bq (e2 aF (ae 6) (ae 8)) (e2 aF (ae 1) (Q3 0))) (e2 aF (ae 6) (ae 8))) Y (O (Q3 200))) aA))))) i5))))
noncomputable def qg:Fn:=fn 1 15
  (aq (aL 1 (aP eL (af (ae 0) (af (Q3 60) aA))))
  (aq (aL 2 (aP cT (af (ae 1) aA)))
  (aq (aL 3 (aP cZ (af (ae 2) aA)))
  (aq (aL 4 (aP dB (af (ae 3) (af (aP bP (af (ae 3) aA)) aA))))
  (aq (aL 5 (eN lR (af (ae 4) aA)))
  (aq (aL 6 (Hk (eN lj (af (ae 2) aA)) (O (Q3 1)) Y))
  (aq (iF 7 (n8 0 []))
  (aq (dS (iN [(aZ 8),(aZ 9)]) (m9 (ae 6)) g8)
  (aq (wj 7)
  (aq (aL 10 (e2 bq (Q3 1) (e2 fN (eN dh (af (ae 6) aA)) (Q3 40))))
  (aq (sIf (e2 Ji (ae 10) (Q3 1)) (aL 6 (e2 bq (uh (ae 6) (O (e2 oMod (aP ar (af (ae 0) (af (Q3 300) aA))) (ae 10))) Y (O (ae 10))) (Hk (ae 6) (O (Q3 (-1))) Y))) iu)
  (aq (dS (aZ 8) (cF (eN dh (af (ae 6) aA))) il)
  (d8 (iV (aP cM (af (ae 5) (af (ae 7) (af (eC (.str [])) aA)))) (e2 oEq (ae 5) (ae 4))))))))))))))))
end
end T27
end
section
namespace T27
open VS
def e2v{f:Val->Val->V3}{a b:Ex}{U:Env}{x y z:Val}(e:a U=O x)(d:b U=O y)(h3:f x y=O z):e2 f a b U=O z:=by
 show (a U).bind _=_;rw[e,Zr,d];exact h3
def xv{a:Ex}{r:Gd}{U:Env}{x:Val}{xs:V2}(d:a U=O x)(b:r U=O xs):af a r U=O (x :: xs):=by
 show (a U).bind _=_;rw[d,Zr,b];rfl
def jH{c:Ex}{a b:Sx}{U:Env}{m:Md}(h:c U=O (m,.bl J)):sIf c a b U=a U:=by
 show (c U).bind _=_;rw[h];rfl
def jy{c:Ex}{a b:Sx}{U:Env}{m:Md}(h:c U=O (m,.bl S)):sIf c a b U=b U:=by
 show (c U).bind _=_;rw[h];rfl
def qm{f:V2->V3}{a:Gd}{U:Env}{xs:V2}{v:Val}(h:a U=O xs)(b:f xs=O v):eN f a U=O v:=by
 show (a U).bind f=_;rw[h,Zr,b]
def jU{e:Ex}{U:Env}{t:T}(h:e U=O (.fr,t)):d8 e U=O (.rt (.fr,t) U):=by
 show (e U).bind _=_;rw[h];rfl
def om{a b:Sx}{U d:Env}{v:Val}(h:a U=O (.rt v d)):aq a b U=O (.rt v d):=by
 show (a U).bind _=_;rw[h];rfl
def Bg{n:Nat}{i:Int}(b:0<=i)(a:i<n):GF n i=O i.toNat:=by rw[GF,Zn b,Zn a]
def t7{m n:Md}(l:Vb)(i:Int)(b:0<=i)(a:i<l.length):aF (m,.scr l) (n,.int i)=O (.fr,.int (l.getD i.toNat 0)):=by
 have d:i.toNat<l.length:=by lia
 show (GF l.length i).bind _=_;rw[Bg b a,Zr,ZO,Zi d];rfl
def CG(d:Vb):∃c,eD [.scr d,.int 0]=O (.fr,.int c):=by
 cases d with
 |cons a r =>
  have e:(0:Int)<((a :: r).length:Int):=by rw[Zl];lia
  exact⟨_,xf [O (.pu (.scr (a :: r))),O (.pu (.int 0))] M M (om ((jH (m:=.fr) (e2v (x:=(.fr,.int 0)) M (qm (xv M M) M) (congrArg (λb=>O (Md.fr,T.bl b)) (ZR e)))).trans (jU (e2v (x:=(.fr,.scr (a :: r))) M M (t7 _ 0 (by decide) e)))))⟩
 |nil=>exact⟨0,rfl⟩
def cf(d:Vb)(k:Int)(B:0<=k)(A:k<1000000):∃n,ar [.scr d,.int k]=O (.fr,.int n)/\0<=n/\n<2147483648:=by
 obtain⟨c,q⟩:∃c,(sIf (e2 Ji (eN dh (af (ae 0) aA)) (Q3 0)) (aL 2 (e2 aF (ae 0) (e2 oMod (ae 1) (eN dh (af (ae 0) aA))))) iu) [O (.pu (.scr d)),O (.pu (.int k)),O (.pu (.int 7)),Y]=O (.nx [O (.pu (.scr d)),O (.pu (.int k)),O (.pu (.int c)),Y]):=by
  cases d with
  |nil=>exact⟨7,rfl⟩
  |cons a r =>
   have e:(0:Int)<((a :: r).length:Int):=by rw[Zl];lia
   exact⟨_,(jH (m:=.fr) (e2v (qm (xv M M) M) M (congrArg (λb=>O (Md.fr,T.bl b)) (ZR e)))).trans (aE (m:=.fr) (e2v (x:=(.fr,.scr (a :: r))) M (e2v (x:=(.fr,.int k)) M (qm (xv M M) M) (aY e)) (t7 _ _ (ZF k (Int.ne_of_gt e)) (ZQ k e))) (by decide) (by decide:2<4))⟩
 have a0:=ZF c (b:=2147483629) (by decide);have a1:=ZQ c (b:=2147483629) (by decide);generalize y:c%2147483629=x1 at a0 a1;have w:=ZF ((x1+40503*k+1)*48271) (b:=2147483647) (by decide);have v:=ZQ ((x1+40503*k+1)*48271) (b:=2147483647) (by decide);generalize z:(x1+40503*k+1)*48271%2147483647=x2 at w v;have c0:=ZF (x2*x2) (b:=2147483629) (by decide);have c1:=ZQ (x2*x2) (b:=2147483629) (by decide);generalize h:x2*x2%2147483629=x3 at c0 c1;have u:=ZF ((x3+k)*69621) (b:=2147483587) (by decide);have s:=ZQ ((x3+k)*69621) (b:=2147483587) (by decide);generalize g:(x3+k)*69621%2147483587=x4 at u s;have C:=ZF (x4*x4) (b:=2147483563) (by decide);have e1:=ZQ (x4*x4) (b:=2147483563) (by decide);refine⟨x4*x4%2147483563/3,?_,by lia,by lia⟩;have o:∀m n,fu (m,.int (x1+40503*k+1)) (n,.int 48271)=O (.fr,.int ((x1+40503*k+1)*48271)):=λm n=>jO (by lia);have l:∀m n,fu (m,.int x2) (n,.int x2)=O (.fr,.int (x2*x2)):=λm n=>jO (by lia);have j:∀m n,fu (m,.int (x3+k)) (n,.int 69621)=O (.fr,.int ((x3+k)*69621)):=λm n=>jO (by lia);have i:∀m n,fu (m,.int x4) (n,.int x4)=O (.fr,.int (x4*x4)):=λm n=>jO (by lia);have p:∀m n,fu (m,.int 40503) (n,.int k)=O (.fr,.int (40503*k)):=λm n=>jO (by decide);unfold ar;refine xf [O (.pu (.scr d)),O (.pu (.int k)),Y,Y] (U':=[O (.pu (.scr d)),O (.pu (.int k)),O (.pu (.int c)),O (.pu (.int x4))]) M M ?_;rw[fH (U':=[O (.pu (.scr d)),O (.pu (.int k)),O (.pu (.int 7)),Y]) M,fH q];rw[fH (aE (m:=.fr) (t:=.int x2) (e2v (e2v (e2v (e2v (e2v M M ((aY (by decide)).trans (by rw[y]))) (e2v M M (p _ _)) M) M M) M (o _ _)) M ((aY (by decide)).trans (by rw[z]))) (by decide) (by decide:3<4))];refine(show aq _ _ [O (.pu (.scr d)),O (.pu (.int k)),O (.pu (.int c)),O (.pu (.int x2))]=_ from ?_);rw[fH (aE (m:=.fr) (t:=.int x3) (e2v (e2v M M (l _ _)) M ((aY (by decide)).trans (by rw[h]))) (by decide) (by decide:3<4))];refine(show aq _ _ [O (.pu (.scr d)),O (.pu (.int k)),O (.pu (.int c)),O (.pu (.int x3))]=_ from ?_);rw[fH (aE (m:=.fr) (t:=.int x4) (e2v (e2v (e2v M M M) M (j _ _)) M ((aY (by decide)).trans (by rw[g]))) (by decide) (by decide:3<4))];refine(show d8 _ [O (.pu (.scr d)),O (.pu (.int k)),O (.pu (.int c)),O (.pu (.int x4))]=_ from ?_);refine jU ?_;have r:=e2v (f:=fN) (U:=[O (.pu (.scr d)),O (.pu (.int k)),O (.pu (.int c)),O (.pu (.int x4))]) (e2v (f:=oMod) (a:=e2 fu (ae 3) (ae 3)) (b:=Q3 2147483563) (e2v M M (i _ _)) M (aY (by decide))) (show Q3 3 _=O (.fr,.int 3) from rfl) (eU (by decide));exact r
abbrev KW:Tx:=[97,98,99,100,101,102,103,104,105,106,107,108,109,110,111,112,113,114,115,116,117,118,119,120,121,122]
def qR{m n:Md}(t:Tx)(i:Int)(b:0<=i)(a:i<t.length):aF (m,.str t) (n,.int i)=O (.fr,.str [t.getD i.toNat 0]):=by
 have d:i.toNat<t.length:=by lia
 show (GF t.length i).bind _=_;rw[Bg b a,Zr,ZO,Zi d];rfl
def Cg(i:Nat)(h:i<26):97<=KW.getD i 0/\KW.getD i 0<=122:=by
 have:∀i,i<26->97<=KW.getD i 0/\KW.getD i 0<=122:=by decide
 exact this i h
def nA(c:Int):∃a:Vi,bE [.int c]=O (.fr,.lst (a.map λx=>T.str [x]))/\a.length=26/\∀x∈a,97<=x/\x<=122:=by
 have a0:=ZF (c/26) (b:=5) (by decide);have a1:=ZQ (c/26) (b:=5) (by decide);have li:=kJ (m:=.fr) (n:=.fr) T.int [1,3,5,7,9] (c/26%5) 0 a0 (by simpa using a1) M;simp only[Zp,YI]at li;obtain⟨st,o,q,p⟩:∃st:Int,List.getD [1,3,5,7,9] (c/26%5).toNat 0=st/\0<=st/\st<10:=by
  have e:∀i,i<5->0<=(List.getD [1,3,5,7,9] i 0:Int)/\(List.getD [1,3,5,7,9] i 0:Int)<10:=by decide
  have h:=e (c/26%5).toNat (by lia);exact⟨_,rfl,h.1,h.2⟩
 rw[o]at li;have k0:=ZF c (b:=26) (by decide);have k1:=ZQ c (b:=26) (by decide);generalize l:c%26=s at k0 k1;have comp:=jx (k:=1) (tg:=aZ 0) (it:=cF (Q3 26)) (elt:=e2 aF (eC (.str KW)) (e2 oMod (e2 bq (ae 2) (e2 fu (ae 3) (ae 0))) (Q3 26)))
  (U:=[O (.pu (.int c)),O (.pu (.int s)),O (.pu (.int st))]) (m:=.fr) (λ(j:Nat)=>T.int (j:Int)) (λj:Nat=>T.str [KW.getD ((s+st*(j:Int))%26).toNat 0]) (List.range 26)
  (by rw[iU (m:=.fr) (j:=26) M (by lia),lU];rfl) M (by decide) (λj r=>⟨[O (.pu (.int j)),O (.pu (.int c)),O (.pu (.int s)),O (.pu (.int st))],rfl,by
   have d:=ZF (s+st*(j:Int)) (b:=26) (by decide);have e1:=ZQ (s+st*(j:Int)) (b:=26) (by decide);have ix:=qR (m:=.fr) (n:=.fr) KW ((s+st*(j:Int))%26) d (by exact e1);have f:∀m n,fu (m,.int st) (n,.int (j:Int))=O (.fr,.int (st*(j:Int))):=λm n=>jO (by lia);exact e2v (x:=(.fr,.str KW)) M (e2v (x:=(.fr,.int (s+st*(j:Int)))) (e2v (x:=(.fr,.int s)) M (e2v (x:=(.fr,.int st)) M M (f _ _)) M) M (aY (by decide))) ix⟩)
 refine⟨(List.range 26).map λj:Nat=>KW.getD ((s+st*(j:Int))%26).toNat 0,?_,by simp,λx g=>?_⟩
 ·unfold bE;refine xf [O (.pu (.int c)),Y,Y] (U':=[O (.pu (.int c)),O (.pu (.int s)),O (.pu (.int st))]) M M ?_;rw[fH (U':=[O (.pu (.int c)),O (.pu (.int s)),Y]) (aE (m:=.fr) (e2v (x:=(.fr,.int c)) M M ((aY (by decide)).trans (by rw[l]))) (by decide) (by decide:1<3)),
   fH (U':=[O (.pu (.int c)),O (.pu (.int s)),O (.pu (.int st))]) (aE (m:=.fr) (e2v M (e2v (e2v (x:=(.fr,.int c)) M M (eU (by decide))) M (aY (by decide))) li) (by decide) (by decide:2<3))]
  refine(jU comp).trans ?_;rw[Yw];rfl
 ·obtain⟨j,_,rfl⟩:=Yt.mp g;have d:=ZF (s+st*(j:Int)) (b:=26) (by decide);have e1:=ZQ (s+st*(j:Int)) (b:=26) (by decide);exact Cg _ (by lia)
def Az(t:Vi):Prop:=∀x∈t,97<=x/\x<=122
def Az.app{s t:Vi}(a:Az s)(b:Az t):Az (s++t):=λx d=>(Zb.mp d).elim (a x) (b x)
abbrev Ha(a:Vi):T:=.lst (a.map λx=>T.str [x])
def nJ{m n:Md}(a:Vi)(i:Int)(d:0<=i)(b:i<a.length):aF (m,Ha a) (n,.int i)=O (.fr,.str [a.getD i.toNat 0]):=kJ (λx=>T.str [x]) a i 0 d b M
def jc{a:Vi}(h:Az a){i:Nat}(b:i<a.length):Az [a.getD i 0]:=λx d=>by
 rw[Zh.mp d,ZO,Zi b];exact h _ (Xs b)
abbrev ED(c:Int)(i:Vi)(h b a:Int)(j:V4)(g f e d:V1):Env:=[O (.pu (.int c)),O (.pu (Ha i)),O (.pu (.int h)),O (.pu (.int b)),O (.pu (.int a)),O (.ow (.lst j)),g,f,e,d]
def ak{a b:Sx}{U U1:Env}(h:a U=O (.nx U1)):aq a b U=b U1:=by simp[aq,h]
def Fz(h:Vi)(y:Az h)(a g f d:Int)(q:0<a)(B:a<=h.length)(A:a<1000)(l:V4)(k6:V1)(j:Vi):∀(c:Int)(t:Tx)(z:V1),t.length+j.length<=1000->Az t →
  ∃p i n,forL (aZ 9) dz (j.map λ(k:Nat)=>T.int (k:Int)) (ED c h a g f l k6 (O (.pu (.int d))) (O (.pu (.str t))) z)=O (.nx (ED p h a g f l k6 (O (.pu (.int d))) (O (.pu (.str i))) n))/\i.length=t.length+j.length/\Az i:=by
 induction j with
 |nil=>exact λc t z _ o=>⟨c,t,z,rfl,rfl,o⟩
 |cons k j r =>
  intro c t z s o;have u:=ZF c (b:=a) (by lia);have e1:=ZQ c (b:=a) q;rw[Zl]at s;have ad:bq (.fr,.str t) (.fr,.str [h.getD (c%a).toNat 0])=O (.fr,.str (t++[h.getD (c%a).toNat 0])):=iq (show t.length+1<=16777216 by lia);obtain⟨p,i,n,e,w,v⟩:=r (c/a) (t++[h.getD (c%a).toNat 0]) (O (.pu (.int k))) (by rw[Zu,ZZ];lia) (o.app (jc y (by lia)));refine⟨p,i,n,?_,by rw[w,Zu,ZZ,Zl];lia,v⟩;rw[Zp,bD (U1:=ED c h a g f l k6 (O (.pu (.int d))) (O (.pu (.str t))) (O (.pu (.int k)))) (U2:=ED (c/a) h a g f l k6 (O (.pu (.int d))) (O (.pu (.str (t++[h.getD (c%a).toNat 0])))) (O (.pu (.int k)))) M (by
   unfold dz;rw[ak (U1:=ED c h a g f l k6 (O (.pu (.int d))) (O (.pu (.str (t++[h.getD (c%a).toNat 0])))) (O (.pu (.int k)))) (aE (m:=.fr) (e2v (x:=(.fr,.str t)) M (e2v (x:=(.pu,Ha h)) M (e2v M M (aY q)) (nJ h _ u (by lia))) ad) (by decide) (by decide:8<10))];exact aE (m:=.fr) (e2v M M (eU (show 0<a/\a<1073741824 by lia))) (by decide) (by decide:0<10)),e]
structure Bk(most:Nat)(bk:List Tx):Prop where
 n:bk.flatten.length<=most
 az:∀t∈bk,Az t
def Bk.snoc{m b:Nat}{d:List Tx}{t:Tx}(B:Bk m d)(h:m+t.length<=b)(e:Az t):Bk b (d++[t]):=by
 refine⟨?_,λs a=>?_⟩
 ·have:=B.n;rw[IG,Zu,show [t].flatten=t by simp];lia
 ·rcases Zb.mp a with a | a
  ·exact B.az s a
  ·rw[Zh.mp a];exact e
def m8{a:Ex}{U:Env}{m:Md}{n:Nat}(e:a U=O (m,.int (n:Int)))(h:n<100000):cF a U=O (.fr,(List.range n).map λ(k:Nat)=>T.int (k:Int)):=by
 rw[iU e (by lia),lU];rfl
def fQ{b:Tg}{d:GB}{a:Sx}{U:Env}{l:V4}(h:d U=O (.fr,l)):dS b d a U=forL b a l U:=by
 simp[dS,h]
def jF{i:Nat}{U:Env}{l:V4}{t:T}{e:Ex}(h:U[i]?=O (O (.ow (.lst l))))(b:e U=O (.fr,t))(a:l.length<16777216):(sX (mm i [] bz (af e aA))) U=O (.nx (U.set i (O (.ow (.lst (l++[t])))))):=by
 simp[h,b,fO a,VS.keys,VS.wu]
def ve(g:Vi)(G:Az g)(f d:Int)(A:0<f)(z:f<=g.length)(y:f<1000)(k:Nat)(c:Int)(a:Nat)(e:List Tx)(s o j:V1)(w:a<=24)(B:Bk (24-a) e)(I:e.length<1000) :
  ∃(c1:Int)(sz:Nat)(i:Tx)(p:V1),sz<=a/\Bk (24-(a-sz)) (e++[i])/\b9 (ED c g f d a (e.map T.str) (O (.pu (.int k))) s o j)=O (.nx (ED c1 g f d ((a-sz:Nat):Int) ((e++[i]).map T.str) (O (.pu (.int k))) (O (.pu (.int sz))) (O (.pu (.str i))) p)):=by
 have L:=ZF c (b:=25) (by decide);have e1:=ZQ c (b:=25) (by decide);obtain⟨sz,q,D,N⟩:∃sz:Nat,(if c%25<(a:Int) then c%25 else (a:Int))=(sz:Int)/\sz<=a/\sz<=24:=by
  by_cases h:c%25<(a:Int)
  ·exact⟨(c%25).toNat,by rw[Zn h];lia,by lia,by lia⟩
  ·exact⟨a,by rw[Zj h],Zo _,w⟩
 have r:((a:Int)-(sz:Int))=((a-sz:Nat):Int):=by lia
 generalize v:(a-sz:Nat)=r1 at r;obtain⟨c1,i,p,C,H,F⟩:=Fz g G f d (r1:Int) (sz:Int) A z y (e.map T.str) (O (.pu (.int k))) (List.range sz) (c/25) [] j (by rw[IA,Ya];lia) (λx u=>nomatch u);rw[IA,Ya,Y3]at H;refine⟨c1,sz,i,p,D,B.snoc (by lia) F,?_⟩;rw[v];unfold b9;rw[ak (U1:=ED c g f d a (e.map T.str) (O (.pu (.int k))) (O (.pu (.int sz))) o j) (aE (m:=.fr) (t:=.int sz) (by rw[← q];rfl) (by decide) (by decide:7<10))];rw[ak (U1:=ED (c/25) g f d a (e.map T.str) (O (.pu (.int k))) (O (.pu (.int sz))) o j) M];rw[ak (U1:=ED (c/25) g f d r1 (e.map T.str) (O (.pu (.int k))) (O (.pu (.int sz))) o j) (aE (m:=.fr) (t:=.int r1) (by rw[← r];rfl) (by decide) (by decide:4<10))];rw[ak (U1:=ED (c/25) g f d r1 (e.map T.str) (O (.pu (.int k))) (O (.pu (.int sz))) (O (.pu (.str []))) j) M];rw[ak (U1:=ED c1 g f d r1 (e.map T.str) (O (.pu (.int k))) (O (.pu (.int sz))) (O (.pu (.str i))) p) (by rw[fQ (m8 (m:=.fr) (n:=sz) M (by lia))];exact C)];rw[jF (l:=e.map T.str) (t:=.str i) M M (by rw[Zv];lia),Yy];rfl
def EN(h:Vi)(F:Az h)(b a:Int)(A:0<b)(z:b<=h.length)(y:b<1000)(i:Vi):∀(c:Int)(room:Nat)(bk:List Tx)(l g f d:V1),room<=24->Bk (24-room) bk->bk.length+i.length<=1000 →
  ∃p m j t q r s,forL (aZ 6) b9 (i.map λ(k:Nat)=>T.int (k:Int)) (ED c h b a room (bk.map T.str) l g f d)=O (.nx (ED p h b a m (j.map T.str) t q r s))/\Bk 24 j/\j.length=bk.length+i.length:=by
 induction i with
 |nil=>exact λc room bk l g f d o B _=>⟨c,room,bk,l,g,f,d,rfl,⟨ZU B.n (YK _ _),B.az⟩,rfl⟩
 |cons k i w =>
  intro c room bk l g f d o B x;rw[Zl]at x;obtain⟨c1,sz,u,v,I,G,C⟩:=ve h F b a A z y k c room bk g f d o B (by lia);obtain⟨p,m,j,t,q,r,s,e,H,D⟩:=w c1 (room-sz) (bk++[u]) (O (.pu (.int k))) (O (.pu (.int sz))) (O (.pu (.str u))) v (ZU (YK _ _) o) G (by rw[Zu,ZZ];lia);refine⟨p,m,j,t,q,r,s,?_,H,by rw[D,Zu,ZZ,Zl];lia⟩;rw[Zp,bD M C,e]
def dE{d e:Nat}{b:Sx}{a:V4}{v:Val}{U:Env}(f:a.length=d)(h:b (a.map (λt=>O (.pu t))++List.replicate (e-d) Y)=O (.rt v U)):fn d e b a=O v:=by
 unfold fn;rw[Zn f];subst f;rw[h];rfl
def xP(c:Int):∃bk:List Tx,cx [.int c]=O (.fr,.lst (bk.map T.str))/\Bk 24 bk/\bk.length<=4:=by
 obtain⟨d,p,F,A⟩:=nA c;have a0:=ZF (c/130) (b:=8) (by decide);have a1:=ZQ (c/130) (b:=8) (by decide);have li:aF (.fr,.lst [.int 1,.int 2,.int 3,.int 4,.int 2,.int 3,.int 4,.int 26]) (.fr,.int (c/130%8))=_:=kJ T.int [1,2,3,4,2,3,4,26] (c/130%8) 0 a0 a1 M;obtain⟨so,r,f,C⟩:∃so:Int,List.getD [1,2,3,4,2,3,4,26] (c/130%8).toNat 0=so/\0<so/\so<=26:=by
  have l:∀i,i<8->0<(List.getD [1,2,3,4,2,3,4,26] i 0:Int)/\(List.getD [1,2,3,4,2,3,4,26] i 0:Int)<=26:=by decide
  have h:=l (c/130%8).toNat (by lia);exact⟨_,rfl,h.1,h.2⟩
 rw[r]at li;have H:=ZF (c/1040) (b:=5) (by decide);have G:=ZQ (c/1040) (b:=5) (by decide);obtain⟨a,s,D⟩:∃a:Nat,c/1040%5=(a:Int)/\a<=4:=⟨(c/1040%5).toNat,by lia,by lia⟩
 obtain⟨q,g,z,y,u,w,x,e,B,v⟩:=EN d A so a f (by lia) (by lia) (List.range a) (c/5200) 24 [] Y Y Y Y (Zo _) ⟨ZN _,λt o=>nomatch o⟩ (by rw[IA,Ya];lia);rw[IA,Ya,Y3]at v;refine⟨z,?_,B,by lia⟩;unfold cx;refine dE M (U:=[O (.pu (.int q)),O (.pu (Ha d)),O (.pu (.int so)),O (.pu (.int a)),O (.pu (.int g)),Y,y,u,w,x]) ?_;refine(show aq _ _ [O (.pu (.int c)),Y,Y,Y,Y,Y,Y,Y,Y,Y]=_ from ?_);rw[ak (U1:=[O (.pu (.int c)),O (.pu (Ha d)),Y,Y,Y,Y,Y,Y,Y,Y]) (aE (aM (xs:=[(.fr,.int c)]) M p) (by decide) (by decide:1<10))];rw[ak (U1:=[O (.pu (.int c)),O (.pu (Ha d)),O (.pu (.int so)),Y,Y,Y,Y,Y,Y,Y]) (aE (m:=.fr) (e2v M (e2v (e2v M M (eU (j:=130) (by decide))) M (aY (j:=8) (by decide))) li) (by decide) (by decide:2<10))];rw[ak (U1:=[O (.pu (.int c)),O (.pu (Ha d)),O (.pu (.int so)),O (.pu (.int a)),Y,Y,Y,Y,Y,Y]) (aE (m:=.fr) (e2v (e2v M M (eU (j:=1040) (by decide))) M (by rw[← s];exact aY (j:=5) (by decide))) (by decide) (by decide:3<10))];rw[ak (U1:=[O (.pu (.int (c/5200))),O (.pu (Ha d)),O (.pu (.int so)),O (.pu (.int a)),Y,Y,Y,Y,Y,Y]) M];rw[ak (U1:=[O (.pu (.int (c/5200))),O (.pu (Ha d)),O (.pu (.int so)),O (.pu (.int a)),O (.pu (.int ((24:Nat):Int))),Y,Y,Y,Y,Y]) M];rw[ak (U1:=ED (c/5200) d so a ((24:Nat):Int) (([]:List Tx).map T.str) Y Y Y Y) M];rw[ak (show dS _ _ _ _=_ from by
  rw[fQ (m8 (m:=.fr) (n:=a) M (by lia))];exact e)]
 rfl
abbrev EM(i:Vb)(h:Vi)(b g a:Int)(j:V4)(k:Nat)(f e d l m:V1):Env:=[O (.pu (.scr i)),O (.pu (.int b)),O (.pu (Ha h)),O (.pu (.int g)),O (.pu (.int a)),O (.ow (.lst j)),O (.pu (.int k)),f,e,d,l,m]
abbrev cI(i:Int):V1:=O (.pu (.int i))
abbrev cS(t:Tx):V1:=O (.pu (.str t))
def iW{a b:Ex}{U:Env}{x y:Bool}(e:a U=O (.fr,.bl x))(d:b U=O (.fr,.bl y)):iV a b U=O (.fr,.bl (x&&y)):=by
 unfold iV;rw[e,Zr];cases x with
 |true=>exact d
 |false=>rfl
def uz(o:Vb)(l:Vi)(z:Az l)(g i f d:Int)(r:0<i)(H:i<=l.length)(q:V4)(k a:Nat)(D:k<6)(G:1<=a)(I:a<=5)(j:Nat)(F:j<200)(t:Tx)(s:Az t)(v:t.length<=1000)(A:V1) :
  ∃x n,Az [x]/\b7 (EM o l g i f q k (cI d) (cI a) (cS t) (cI j) A)=O (.nx (EM o l g i f q k (cI d) (cI a) (cS (t++[x])) (cI j) (cI n))):=by
 obtain⟨n,u,C,B⟩:=cf o (20*(k:Int)+6+(j:Int)) (by lia) (by lia);have ad:∀x:Nat,bq (.fr,.str t) (.fr,.str [x])=O (.fr,.str (t++[x])):=λx=>iq (ZU (Nat.add_le_add_right v 1) (by decide));have c1:e2 K9 (eN dh (af (ae 9) aA)) (ae 8) (EM o l g i f q k (cI d) (cI a) (cS t) (cI j) (cI n))=O (.fr,.bl (decide ((a:Int)<=(t.length:Int)))):=rfl;have c2:e2 Ji (e2 oMod (ae 11) (Q3 4)) (Q3 0) (EM o l g i f q k (cI d) (cI a) (cS t) (cI j) (cI n))=O (.fr,.bl (decide (0<n%4))):=e2v (e2v M M (aY (by decide))) M M;have st:∀{e:Ex}{x:Nat},e (EM o l g i f q k (cI d) (cI a) (cS t) (cI j) (cI n))=O (.fr,.str [x])->aL 9 (e2 bq (ae 9) e) (EM o l g i f q k (cI d) (cI a) (cS t) (cI j) (cI n))=O (.nx (EM o l g i f q k (cI d) (cI a) (cS (t++[x])) (cI j) (cI n))):=λ{e x} h =>
  aE (m:=.fr) (e2v (x:=(.fr,.str t)) M h (ad x)) (by decide) (by decide:9<12)
 unfold b7;rw[ak (U1:=EM o l g i f q k (cI d) (cI a) (cS t) (cI j) (cI n)) (aE (aM (xs:=[(.fr,.scr o),(.fr,.int (20*(k:Int)+6+(j:Int)))]) M u) (by decide) (by decide:11<12))];by_cases p:(a:Int)<=(t.length:Int)/\0<n%4
 ·refine⟨t.getD ((t.length:Int)-(a:Int)).toNat 0,n,jc s (by lia),?_⟩;rw[jH (m:=.fr) (by rw[iW c1 c2,ZR p.1,ZR p.2];rfl)];exact st (e2v (x:=(.fr,.str t)) (y:=(.fr,.int ((t.length:Int)-(a:Int)))) M M (qR t _ (by lia) (by lia)))
 ·have w:=ZF (n/4) (b:=i) (by lia);have e1:=ZQ (n/4) (b:=i) r;refine⟨l.getD (n/4%i).toNat 0,n,jc z (by lia),?_⟩;rw[jy (m:=.fr) (by
   rw[iW c1 c2,← Bool.decide_and,ZJ p])]
  exact st (e2v (x:=(.pu,Ha l)) M (e2v (e2v M M (eU (by decide))) M (aY r)) (nJ l _ w (by lia)))
def E4(u:Vb)(p:Vi)(Q:Az p)(h o g f:Int)(G:0<o)(F:o<=p.length)(v:V4)(k d:Nat)(B:k<6)(D:1<=d)(R:d<=5)(l:Vi):∀(t:Tx)(s q:V1),(∀j∈l,j<200)->t.length+l.length<=1000->Az t →
  ∃m L N,forL (aZ 10) b7 (l.map λ(j:Nat)=>T.int (j:Int)) (EM u p h o g v k (cI f) (cI d) (cS t) s q)=O (.nx (EM u p h o g v k (cI f) (cI d) (cS m) L N))/\m.length=t.length+l.length/\Az m:=by
 induction l with
 |nil=>exact λt s q _ _ r=>⟨t,s,q,rfl,rfl,r⟩
 |cons j l y =>
  intro t s q w A r;rw[Zl]at A;obtain⟨x,n,z,H⟩:=uz u p Q h o g f G F v k d B D R j (w j Zx) t r (by lia) q;obtain⟨m,a,b,e,P,I⟩:=y (t++[x]) (cI j) (cI n) (λi C=>w i (Zw _ C)) (by rw[Zu,ZZ];lia) (r.app z);refine⟨m,a,b,?_,by rw[P,Zu,ZZ,Zl];lia,I⟩;rw[Zp,bD M H,e]
def sq(t:Tx)(i a:Nat)(h:i<=t.length):cut t (O (i:Int)) (O ((i:Int)+(a:Int)))=(t.drop i).take a:=by
 have d:¬((i:Int)<0):=by lia
 have b:¬((i:Int)+(a:Int)<0):=by lia
 simp only[cut,clip,Zj d,Zj b,Ye];rw[show ((i:Int)+(a:Int)).toNat=i+a by lia,Ym h];by_cases q:i+a<=t.length
 ·rw[Ym q,show i+a-i=a by exact YN _ _]
 ·rw[WA (by exact XM q),Jd (l:=t.drop i) (by simp),Jd (l:=t.drop i) (by simp;lia)]
def u5(o:Vb)(s:Vi)(Jx:Az s)(d p:Int)(O5:0<=d)(Lk:d<=120)(h0:0<p)(h1:p<=s.length)(k:Nat)(hk:k<6)(e:Nat)(hr:(e:Int)<=d)(i:List Tx)(B:Bk (d.toNat-e) i)(hl:i.length<=100)(I G D A C:V1) :
  ∃(R:Nat)(W:List Tx)(y7 y8 y9 v w:V1),R<=e/\Bk (d.toNat-R) W/\W.length<=i.length+2/\bZ (EM o s d p e (i.map T.str) k I G D A C)=O (.nx (EM o s d p R (W.map T.str) k y7 y8 y9 v w)):=by
 obtain⟨F,Rj,n40,n41⟩:=cf o (20*(k:Int)+4) (by lia) (by lia);obtain⟨H,Ri,n50,n51⟩:=cf o (20*(k:Int)+5) (by lia) (by lia);have e0:=ZF F (b:=d+1) (by lia);have e1:=ZQ F (b:=d+1) (by lia);have f0:=ZF H (b:=5) (by decide);have f1:=ZQ H (b:=5) (by decide);obtain⟨sz,N,QZ⟩:∃sz:Nat,(if F%(d+1)<(e:Int) then F%(d+1) else (e:Int))=(sz:Int)/\sz<=e:=by
  by_cases h:F%(d+1)<(e:Int)
  ·exact⟨(F%(d+1)).toNat,by rw[Zn h];lia,by lia⟩
  ·exact⟨e,by rw[Zj h],Zo _⟩
 have Z:((e:Int)-(sz:Int))=((e-sz:Nat):Int):=by lia
 generalize ht:(e-sz:Nat)=r1 at Z;obtain⟨u,RN,c0,c1⟩:∃u:Nat,1+H%5=(u:Int)/\1<=u/\u<=5:=⟨(1+H%5).toNat,by lia,by lia,by lia⟩
 obtain⟨f,v,w,ee,JN,O1⟩:=E4 o s Jx d p (r1:Int) (sz:Int) h0 h1 (i.map T.str) k u hk c0 c1 (List.range sz) [] A C (λj hj=>by have:=G9.mp hj;lia) (by rw[IA,Ya];lia) (λx L=>nomatch L);rw[IA,Ya,Y3]at JN;have B1:Bk (d.toNat-r1) (i++[f]):=B.snoc (by lia) O1;have X:∀(r:Int)(b:V4)(I G D A C:V1),aP ar (af (ae 0) (af (e2 bq (e2 fu (Q3 20) (ae 6)) (Q3 5)) aA)) (EM o s d p r b k I G D A C)=O (.fr,.int H):=λr b _ _ _ _ _=>aM (xs:=[(.fr,.scr o),(.fr,.int (20*(k:Int)+5))]) M Ri;have m4:aP ar (af (ae 0) (af (e2 bq (e2 fu (Q3 20) (ae 6)) (Q3 4)) aA)) (EM o s d p e (i.map T.str) k I G D A C)=O (.fr,.int F):=aM (xs:=[(.fr,.scr o),(.fr,.int (20*(k:Int)+4))]) M Rj;have mp:∀(b:List Tx)(t:Tx),(b++[t]).map T.str=b.map T.str++[T.str t]:=λb t=>by rw[Yy];rfl
 unfold bZ;rw[ak (U1:=EM o s d p e (i.map T.str) k (cI sz) G D A C) (aE (m:=.fr) (t:=.int sz) (by
  have a:=xv (a:=ae 4) (x:=(.fr,.int e)) (U:=EM o s d p e (i.map T.str) k I G D A C) M (xv (e2v (z:=(.fr,.int (F%(d+1)))) m4 (b:=e2 bq (ae 1) (Q3 1)) (y:=(.fr,.int (d+1))) M (aY (by lia))) (xs:=[]) (r:=aA) M);show (af _ _ _).bind _=_;rw[a,← N];rfl) (by decide) (by decide:7<12))]
 rw[ak (U1:=EM o s d p r1 (i.map T.str) k (cI sz) G D A C) (aE (m:=.fr) (t:=.int r1) (by rw[← Z];rfl) (by decide) (by decide:4<12))];rw[ak (U1:=EM o s d p r1 (i.map T.str) k (cI sz) (cI u) D A C) (aE (m:=.fr) (t:=.int u) (e2v (x:=(.fr,.int 1)) M (e2v (X r1 _ _ _ _ _ _) M (aY (j:=5) (by decide))) (by rw[← RN];rfl)) (by decide) (by decide:8<12))];rw[ak (U1:=EM o s d p r1 (i.map T.str) k (cI sz) (cI u) (cS []) A C) M];rw[ak (U1:=EM o s d p r1 (i.map T.str) k (cI sz) (cI u) (cS f) v w) (by rw[fQ (m8 (m:=.fr) (n:=sz) M (by lia))];exact ee)];rw[ak (U1:=EM o s d p r1 ((i++[f]).map T.str) k (cI sz) (cI u) (cS f) v w) (by rw[mp,jF (l:=i.map T.str) (t:=.str f) M M (by rw[Zv];lia)];rfl)];have g1:e2 Ji (ae 7) (Q3 2) (EM o s d p r1 ((i++[f]).map T.str) k (cI sz) (cI u) (cS f) v w)=O (.fr,.bl (decide ((2:Int)<(sz:Int)))):=rfl;have g2:e2 oEq (e2 oMod (aP ar (af (ae 0) (af (e2 bq (e2 fu (Q3 20) (ae 6)) (Q3 5)) aA))) (Q3 3)) (Q3 0) (EM o s d p r1 ((i++[f]).map T.str) k (cI sz) (cI u) (cS f) v w)=O (.fr,.bl (H%3==0)):=e2v (e2v (X _ _ _ _ _ _ _) M (aY (by decide))) M M;have g3:e2 K9 (ae 4) (Q3 2) (EM o s d p r1 ((i++[f]).map T.str) k (cI sz) (cI u) (cS f) v w)=O (.fr,.bl (decide ((2:Int)<=(r1:Int)))):=rfl;have g:=iW g1 (iW g2 g3);cases P:(decide ((2:Int)<(sz:Int))&&((H%3==0)&&decide ((2:Int)<=(r1:Int)))) with
 |true =>
  rw[P]at g;have q:=Wo.mp P;have q3:=of_decide_eq_true (Wo.mp q.2).2;have q1:=of_decide_eq_true q.1;have cu:cut f (O 1) (O 3)=(f.drop 1).take 2:=sq f 1 2 (by lia);have Q:Az ((f.drop 1).take 2):=λx L=>O1 x (Yc (Yi L));have l2:((f.drop 1).take 2).length<=2:=by rw[ZM];exact Nat.min_le_left _ _
  have Mz:((r1:Int)-2)=((r1-2:Nat):Int):=by lia
  refine⟨r1-2,i++[f]++[(f.drop 1).take 2],cI sz,cI u,cS f,v,w,by lia,B1.snoc (by lia) Q,by rw[Zu,Zu,ZZ,ZZ];exact Zo _,?_⟩;rw[jH (m:=.fr) g];rw[ak (U1:=EM o s d p r1 ((i++[f]++[(f.drop 1).take 2]).map T.str) k (cI sz) (cI u) (cS f) v w) (by
   rw[mp (i++[f]),jF (l:=(i++[f]).map T.str) (t:=.str ((f.drop 1).take 2)) M (by rw[← cu];rfl) (by rw[Zv,Zu,ZZ];lia)];rfl)]
  rw[← Mz];rfl
 |false =>
  rw[P]at g;refine⟨r1,i++[f],cI sz,cI u,cS f,v,w,by lia,B1,by rw[Zu,ZZ];exact Nat.le_succ _,?_⟩;rw[jy (m:=.fr) g];rfl
def EK(s:Vb)(j:Vi)(Z:Az j)(a h:Int)(U:0<=a)(X:a<=120)(N:0<h)(L:h<=j.length)(b:Vi):∀(room:Nat)(bk:List Tx)(o g f d l m:V1),(∀k∈b,k<6)->(room:Int)<=a->Bk (a.toNat-room) bk->bk.length+2*b.length<=100 →
  ∃(Ir:Int)(u:List Tx)(y r q p t v:V1),Bk a.toNat u/\u.length<=bk.length+2*b.length/\forL (aZ 6) bZ (b.map λ(k:Nat)=>T.int (k:Int)) [O (.pu (.scr s)),O (.pu (.int a)),O (.pu (Ha j)),O (.pu (.int h)),O (.pu (.int (room:Int))),O (.ow (.lst (bk.map T.str))),o,g,f,d,l,m] =
   O (.nx [O (.pu (.scr s)),O (.pu (.int a)),O (.pu (Ha j)),O (.pu (.int h)),O (.pu (.int Ir)),O (.ow (.lst (u.map T.str))),y,r,q,p,t,v]):=by
 induction b with
 |nil=>exact λroom bk o g f d l m _ w B _=>⟨room,bk,o,g,f,d,l,m,⟨ZU B.n (YK _ _),B.az⟩,Zo _,rfl⟩
 |cons k b F =>
  intro room bk o g f d l m x w B H;rw[Zl]at H;obtain⟨r1,R,r,q,p,t,v,G,B1,JN,P⟩:=u5 s j Z a h U X N L k (x k Zx) room w bk B (by lia) g f d l m;obtain⟨r2,Q,D,C,A,z,W,Ih,B2,Ge,e⟩:=F r1 R (cI k) r q p t v (λi I=>x i (Zw _ I)) (by lia) B1 (by lia);refine⟨r2,Q,D,C,A,z,W,Ih,B2,by rw[Zl];lia,?_⟩;rw[Zp,bD M P,e]
def Ff{α:Type}(l:List α):cut l Y (O 8)=l.take 8:=by
 simp only[cut,clip];by_cases h:8<=l.length
 ·simp[Ym h]
 ·simp[WA (ZH (W0 h))];rw[Jd (by exact XM h)]
theorem Bk.take{m:Nat}{a:List Tx}(B:Bk m a)(n:Nat):Bk m (a.take n):=by
 refine⟨?_,λt b=>B.az t (Yi b)⟩;have h:a.flatten=(a.take n).flatten++(a.drop n).flatten:=by rw[← IG,YR]
 have:=B.n;rw[h,Zu]at this;lia
def w6(l:List Tx):fA (l.map T.str)=J:=by
 induction l with
 |nil=>rfl
 |cons a l b=>simpa[fA,FY] using b
def yx(d:Vb)(a:Int)(P:0<=a)(X:a<=120):∃bk:List Tx,cz [.scr d,.int a]=O (.fr,.lst (bk.map T.str))/\Bk a.toNat bk/\bk.length<=8:=by
 obtain⟨x,L,_,_⟩:=cf d 1 (by decide) (by decide);obtain⟨o,W,_,_⟩:=cf d 2 (by decide) (by decide);obtain⟨p,R,_,_⟩:=cf d 3 (by decide) (by decide);obtain⟨l,H,hl,Z⟩:=nA x;have a0:=ZF o (b:=8) (by decide);have a1:=ZQ o (b:=8) (by decide);have li:aF (.fr,.lst [.int 1,.int 2,.int 3,.int 4,.int 2,.int 3,.int 9,.int 26]) (.fr,.int (o%8))=_:=kJ T.int [1,2,3,4,2,3,9,26] (o%8) 0 a0 a1 M;obtain⟨so,N,C,s1⟩:∃so:Int,List.getD [1,2,3,4,2,3,9,26] (o%8).toNat 0=so/\0<so/\so<=26:=by
  have D:∀i,i<8->0<(List.getD [1,2,3,4,2,3,9,26] i 0:Int)/\(List.getD [1,2,3,4,2,3,9,26] i 0:Int)<=26:=by decide
  have h:=D (o%8).toNat (by lia);exact⟨_,rfl,h.1,h.2⟩
 rw[N]at li;have b0:=ZF p (b:=6) (by decide);have b1:=ZQ p (b:=6) (by decide);obtain⟨q,Q,F⟩:∃q:Nat,p%6=(q:Int)/\q<6:=⟨(p%6).toNat,by lia,by lia⟩
 obtain⟨f,rfl⟩:∃f:Nat,a=(f:Int):=⟨a.toNat,by lia⟩
 obtain⟨r2,g,w,v,u,s,z,A,B2,Ge,e⟩:=EK d l Z f so P X C (by lia) (List.range q) f [] Y Y Y Y Y Y (λk I=>Wd (G9.mp I) F) (Int.le_refl _) ⟨ZN _,λt G=>nomatch G⟩ (by rw[IA,Ya];lia);have y:∀(i n:Int)(r:Env),ar [.scr d,.int i]=O (.fr,.int n)->aP ar (af (ae 0) (af (Q3 i) aA)) (O (.pu (.scr d)) :: r)=O (.fr,.int n):=λi n r h=>aM (xs:=[(.fr,.scr d),(.fr,.int i)]) M h;have mk:Hw .pu ((g.take 8).map T.str)=O (.fr,.lst ((g.take 8).map T.str)):=by
  unfold Hw;rw[Zn (show ((g.take 8).map T.str).length<=fC by rw[Zv,ZM];exact ZU (Nat.min_le_left _ _) (by decide)),Zn (w6 _)]
 refine⟨g.take 8,?_,B2.take 8,by rw[ZM];exact Nat.min_le_left _ _⟩;unfold cz;refine dE M (U:=[O (.pu (.scr d)),O (.pu (.int f)),O (.pu (Ha l)),O (.pu (.int so)),O (.pu (.int r2)),O (.pu (.lst (g.map T.str))),w,v,u,s,z,A]) ?_;refine(show aq _ _ [O (.pu (.scr d)),O (.pu (.int f)),Y,Y,Y,Y,Y,Y,Y,Y,Y,Y]=_ from ?_);rw[ak (U1:=[O (.pu (.scr d)),O (.pu (.int f)),O (.pu (Ha l)),Y,Y,Y,Y,Y,Y,Y,Y,Y]) (aE (aM (xs:=[(.fr,.int x)]) (xv (y 1 x _ L) M) H) (by decide) (by decide:2<12))];rw[ak (U1:=[O (.pu (.scr d)),O (.pu (.int f)),O (.pu (Ha l)),O (.pu (.int so)),Y,Y,Y,Y,Y,Y,Y,Y]) (aE (m:=.fr) (e2v M (e2v (y 2 o _ W) M (aY (j:=8) (by decide))) li) (by decide) (by decide:3<12))];rw[ak (U1:=[O (.pu (.scr d)),O (.pu (.int f)),O (.pu (Ha l)),O (.pu (.int so)),O (.pu (.int (f:Int))),Y,Y,Y,Y,Y,Y,Y]) M];rw[ak (U1:=[O (.pu (.scr d)),O (.pu (.int f)),O (.pu (Ha l)),O (.pu (.int so)),O (.pu (.int (f:Int))),O (.ow (.lst (([]:List Tx).map T.str))),Y,Y,Y,Y,Y,Y]) M];rw[ak (show dS _ _ _ _=_ from by
  rw[fQ (m8 (m:=.fr) (n:=q) (e2v (y 3 p _ R) M (by rw[← Q];exact aY (by decide))) (by lia))];exact e)]
 rw[ak (U1:=[O (.pu (.scr d)),O (.pu (.int f)),O (.pu (Ha l)),O (.pu (.int so)),O (.pu (.int r2)),O (.pu (.lst (g.map T.str))),w,v,u,s,z,A]) M];have B:Hk (ae 5) Y (O (Q3 8)) [O (.pu (.scr d)),O (.pu (.int f)),O (.pu (Ha l)),O (.pu (.int so)),O (.pu (.int r2)),O (.pu (.lst (g.map T.str))),w,v,u,s,z,A]=O (.fr,.lst ((g.take 8).map T.str)):=by
  show Hw .pu (cut (g.map T.str) Y (O 8))=_;rw[Ff,← List.map_take,mk]
 simp only[d8,B,Zr]
def CU{α:Type}(l:List α)(n:Nat)(h:n<=l.length):cut l Y (O (n:Int))=l.take n:=by
 have a:¬((n:Int)<0):=by lia
 simp only[cut,clip,Zj a,Ye,Ym h];simp
def yk{α:Type}(l:List α)(n:Nat)(h:n<=l.length):cut l (O (n:Int)) Y=l.drop n:=by
 have a:¬((n:Int)<0):=by lia
 simp only[cut,clip,Zj a,Ye,Ym h];rw[Jd (by simp)]
def vE(n x:Nat):(List.replicate n [x]).flatten=List.replicate n x:=by
 induction n with
 |zero=>rfl
 |succ n a=>rw[Wh,Zf,a];rfl
abbrev EG(e:Vb)(d:Vi)(b a:V1):Env:=[O (.pu (.scr e)),O (.pu (Ha d)),b,a]
def yC(a:Vb):∃bk:List Tx,dP [.scr a]=O (.fr,.lst (bk.map T.str))/\Bk 120 bk/\bk.length<=8:=by
 obtain⟨B,Rk,_,_⟩:=cf a 1 (by decide) (by decide);obtain⟨g,MU,_,_⟩:=cf a 2 (by decide) (by decide);obtain⟨A,NP,_,_⟩:=cf a 3 (by decide) (by decide);obtain⟨f,Rj,_,_⟩:=cf a 4 (by decide) (by decide);obtain⟨d,C,v,P⟩:=nA B;have a0:=ZF g (b:=21) (by decide);have a1:=ZQ g (b:=21) (by decide);obtain⟨e,W,l0,l1⟩:∃e:Nat,100+g%21=(e:Int)/\100<=e/\e<=120:=⟨(100+g%21).toNat,by lia,by lia,by lia⟩
 have L:=nJ (m:=.pu) (n:=.fr) d 0 (by decide) (by rw[v];decide);have N:=nJ (m:=.pu) (n:=.fr) d 1 (by decide) (by rw[v];decide);have z0:Az [d.getD (0:Int).toNat 0]:=jc P (by rw[v];decide);have F:Az [d.getD (1:Int).toNat 0]:=jc P (by rw[v];decide);generalize d.getD (0:Int).toNat 0=x at L z0;generalize d.getD (1:Int).toNat 0=y at N F;have rp:pO (.fr,.str [x]) (.fr,.int (e:Int))=O (.fr,.str (List.replicate e x)):=by
  refine(Zn ⟨?_,?_,?_⟩).trans (by rw[Ye,vE])
  ·show 1*(e:Int).toNat<=16777216;rw[Ye,Nat.one_mul];exact ZU l1 (by decide)
  ·show -4611686018427387904<=(e:Int);lia
  ·show (e:Int)<4611686018427387904;lia
 have w:(List.replicate e x).length=e:=Y7;have o:Az (List.replicate e x):=λc l=>by
  rw[(List.mem_replicate.mp l).2];exact z0 x Zx
 generalize List.replicate e x=t at rp w o;have I:∀p:Tx,p.length<=120->Az p->Bk 120 [p]:=λp Z X=>⟨by rw[Zf,VL,ZP];exact Z,λs C=>by rw[Zh.mp C];exact X⟩
 have u:∀(i n:Int)(r:Env),ar [.scr a,.int i]=O (.fr,.int n)->aP ar (af (ae 0) (af (Q3 i) aA)) (O (.pu (.scr a)) :: r)=O (.fr,.int n):=λi n r h=>aM (xs:=[(.fr,.scr a),(.fr,.int i)]) M h;have Ga:(aL 1 (aP bE (af (aP ar (af (ae 0) (af (Q3 1) aA))) aA))) [O (.pu (.scr a)),Y,Y,Y]=O (.nx (EG a d Y Y)) :=
  aE (aM (xs:=[(.fr,.int B)]) (xv (u 1 B _ Rk) M) C) (by decide) (by decide:1<4)
 have Q:(aL 2 (e2 pO (e2 aF (ae 1) (Q3 0)) (e2 bq (Q3 100) (e2 oMod (aP ar (af (ae 0) (af (Q3 2) aA))) (Q3 21))))) (EG a d Y Y)=O (.nx (EG a d (O (.pu (.str t))) Y)) :=
  aE (m:=.fr) (e2v (e2v (x:=(.pu,Ha d)) M M L) (e2v (x:=(.fr,.int 100)) M (e2v (u 2 g _ MU) M (aY (j:=21) (by decide))) (z:=(.fr,.int e)) (by rw[← W];rfl)) rp) (by decide) (by decide:2<4)
 have cd:e2 oEq (e2 oMod (aP ar (af (ae 0) (af (Q3 3) aA))) (Q3 2)) (Q3 0) (EG a d (O (.pu (.str t))) Y)=O (.fr,.bl (A%2==0)):=e2v (e2v (u 3 A _ NP) M (aY (by decide))) M M;cases H:(A%2==0) with
 |true =>
  rw[H]at cd;have G:(0:Int)<(t.length:Int):=by lia
  have b0:=ZF f (b:=(t.length:Int)) (by lia);have b1:=ZQ f (b:=(t.length:Int)) G;obtain⟨q,R,D⟩:∃q:Nat,f%(t.length:Int)=(q:Int)/\q<t.length:=⟨(f%(t.length:Int)).toNat,by lia,by lia⟩
  have c1:=CU t q (ZH D);have c2:=yk t (q+1) (WN D);have l3:(t.take q++[y]++t.drop (q+1)).length=t.length:=by
   rw[Zu,Zu,ZM,ZE,ZZ,Ym (ZH D)];lia
  have len:(t.take q++[y]++t.drop (q+1)).length<=120:=by rw[l3,w];exact l1
  have az:Az (t.take q++[y]++t.drop (q+1)):=(Az.app (Az.app (λc l=>o c (Yi l)) F) (λc l=>o c (Yc l)))
  refine⟨[t.take q++[y]++t.drop (q+1)],?_,I _ len az,(by decide:1<=8)⟩;have big:e2 bq (e2 bq (Hk (ae 2) Y (O (ae 3))) (e2 aF (ae 1) (Q3 1))) (Hk (ae 2) (O (e2 bq (ae 3) (Q3 1))) Y) (EG a d (O (.pu (.str t))) (O (.pu (.int q))))=O (.fr,.str (t.take q++[y]++t.drop (q+1))) :=
   e2v (e2v (x:=(.fr,.str (t.take q))) (by rw[← c1];rfl) (e2v (x:=(.pu,Ha d)) M M N) (iq (ZU (ZU (ZI _ (t.drop (q+1)).length) (by rw[← Zu,← Zu];exact len)) (by decide)))) (y:=(.fr,.str (t.drop (q+1)))) (by rw[← c2];rfl) (iq (ZU (by rw[← Zu];exact len) (by decide)))
  unfold dP;refine dE M (U:=EG a d (O (.pu (.str (t.take q++[y]++t.drop (q+1))))) (O (.pu (.int q)))) ?_;refine(show aq _ _ [O (.pu (.scr a)),Y,Y,Y]=_ from ?_);rw[ak Ga,ak Q];rw[ak (U1:=EG a d (O (.pu (.str (t.take q++[y]++t.drop (q+1))))) (O (.pu (.int q)))) (by
   rw[jH (m:=.fr) cd];rw[ak (U1:=EG a d (O (.pu (.str t))) (O (.pu (.int q)))) (aE (m:=.fr) (t:=.int q) (e2v (u 4 f _ Rj) (y:=(.fr,.int t.length)) M (by rw[← R];exact aY G)) (by decide) (by decide:3<4))];exact aE big (by decide) (by decide:2<4))]
  rfl
 |false =>
  rw[H]at cd;refine⟨[t],?_,I t (by rw[w];exact l1) o,(by decide:1<=8)⟩;unfold dP;refine dE M (U:=EG a d (O (.pu (.str t))) Y) ?_;refine(show aq _ _ [O (.pu (.scr a)),Y,Y,Y]=_ from ?_);rw[ak Ga,ak Q];rw[ak (U1:=EG a d (O (.pu (.str t))) Y) (by
   rw[jy (m:=.fr) cd];rfl)]
  rfl
def Bk.up{m n:Nat}{a:List Tx}(B:Bk m a)(h:m<=n):Bk n a:=⟨ZU B.n h,B.az⟩
def Ub{m n:Md}(i:Int):oEq (m,.int i) (n,.int 0)=O (.fr,.bl (decide (i=0))):=by
 show (if _ then O (Md.fr,T.bl (eqT (.int i) (.int 0))) else Y)=_;rw[Zn ⟨rfl,rfl⟩];rfl
def BJ(d:Vb):∃bk:List Tx,eL [.scr d,.int 60]=O (.fr,.lst (bk.map T.str))/\Bk 120 bk/\bk.length<=8:=by
 obtain⟨c,v⟩:=CG d;obtain⟨q,w,_,_⟩:=cf d 5 (by decide) (by decide);obtain⟨e,l,_,_⟩:=cf d 0 (by decide) (by decide);have ca:aP eD (af (ae 0) (af (Q3 0) aA)) [O (.pu (.scr d)),O (.pu (.int 60))]=O (.fr,.int c):=aM (xs:=[(.fr,.scr d),(.fr,.int 0)]) M v;have c1:=e2v (f:=oEq) (b:=Q3 0) (e2v (f:=oMod) (b:=Q3 2) ca M (aY (by decide))) M (Ub (c%2));unfold eL;by_cases p:c%2=0
 ·rw[ZR p]at c1;obtain⟨bk,j,B,g⟩:=xP (c/2);exact⟨bk,dE M (om ((jH c1).trans (jU (aM (xs:=[(.fr,.int (c/2))]) (xv (e2v ca M (eU (by decide))) M) j)))),B.up (by decide),ZU g (by decide)⟩
 rw[ZJ p]at c1;have c2:=iW (a:=e2 Ji (ae 1) (Q3 30)) (x:=J) M (e2v (f:=oEq) (b:=Q3 0) (e2v (f:=oMod) (b:=Q3 16) (aM (as:=af (ae 0) (af (Q3 5) aA)) (U:=[O (.pu (.scr d)),O (.pu (.int 60))]) (xs:=[(.fr,.scr d),(.fr,.int 5)]) M w) M (aY (by decide))) M (Ub (q%16)));rw[Vl]at c2;by_cases r:q%16=0
 ·rw[ZR r]at c2;obtain⟨bk,j,B,g⟩:=yC d;exact⟨bk,dE M ((ak (jy c1)).trans (om ((jH c2).trans (jU (aM (xs:=[(.fr,.scr d)]) M j))))),B,g⟩
 rw[ZJ r]at c2;have a0:=ZF e (b:=4) (by decide);have a1:=ZQ e (b:=4) (by decide);have li:=λm n=>kJ (m:=m) (n:=n) T.int [24,24,24,60] (e%4) 0 a0 a1 M;obtain⟨mo,o,u,t⟩:∃mo:Int,List.getD [24,24,24,60] (e%4).toNat 0=mo/\0<=mo/\mo<=120:=by
  have s:∀i,i<4->0<=(List.getD [24,24,24,60] i 0:Int)/\(List.getD [24,24,24,60] i 0:Int)<=120:=by decide
  have h:=s (e%4).toNat (by lia);exact⟨_,rfl,h.1,h.2⟩
 rw[o]at li;obtain⟨bk,j,B,g⟩:=yx d mo u t;exact⟨bk,dE M ((ak (jy c1)).trans ((ak (jy c2)).trans (jU (aM (xs:=[(.fr,.scr d),(.fr,.int mo)]) (xv M (xv (e2v M (e2v (aM (xs:=[(.fr,.scr d),(.fr,.int 0)]) M l) M (aY (by decide))) (li _ _)) M)) j)))),B.up (by lia),g⟩
abbrev Pl:=Nat×Nat
def tP(p:Pl):T:=.tup [.int p.1,.int p.2]
abbrev Fd:=List (Tx×List Pl)
def dT(d:Fd):List (T×T):=d.map λp=>(T.str p.1,T.lst (p.2.map tP))
def cY:Fd->Tx->Pl->Fd
 |[],w,p=>[(w,[p])]
 | (x,l) :: d,w,p=>if x=w then (x,l++[p]) :: d else (x,l) :: cY d w p
def rM(f:T->Option (T×Val))(w:Tx)(a:List (T×T)):Option (List (T×T)):=(a.findIdx? λq=>eqT q.1 (.str w)).bind λi=>(a[i]?).bind λq=>(f q.2).map λz=>a.set i (q.1,z.1)
def ui{f:T->Option (T×Val)}{w:Tx}{a:T×T}{b:List (T×T)}(h:eqT a.1 (.str w)=S):rM f w (a :: b)=(rM f w b).map (a :: ·):=by
 unfold rM;rw[YW,Zj (by rw[h];simp)];cases e:b.findIdx? λq=>eqT q.1 (.str w) with
 |none=>rfl
 |some i =>
  simp only[Ys,Zr,X1];cases e2:b[i]? with
  |none=>rfl
  |some q =>
   simp only[Zr];cases f q.2 with
   |none=>rfl
   |some z=>rfl
def oR{f:T->Option (T×Val)}{w:Tx}{a:T×T}{b:List (T×T)}(h:eqT a.1 (.str w)=J):rM f w (a :: b)=(f a.2).map λz=>(a.1,z.1) :: b:=by
 unfold rM;rw[YW,Zn h];rfl
def qi{k:T}{a:T×T}{b:List (T×T)}(h:eqT a.1 k=S):cE (a :: b) k=a :: cE b k:=by
 unfold cE bO;rw[Yr,h];dsimp only;by_cases q:(Option.map (λx=>x.2) (b.find? λp=>eqT p.1 k)).isSome=J
 ·rw[Zn q,Zn q]
 ·rw[Zj q,Zj q];rfl
def rP{k:T}{a:T×T}{b:List (T×T)}(h:eqT a.1 k=J):cE (a :: b) k=a :: b:=by
 unfold cE bO;rw[Yr,h];rfl
def lz(d:Fd)(w:Tx)(p:Pl)(b:∀q∈d,q.2.length<16777216):rM (λx=>bz x [(.fr,tP p)]) w (cE (dT d) (.str w))=O (dT (cY d w p)):=by
 induction d with
 |nil =>
  have:cE (dT []) (.str w)=[(.str w,.lst [])]:=rfl;rw[this,oR (by simp),fO (by decide)];rfl
 |cons a d f =>
  obtain⟨x,l⟩:=a;by_cases e:x=w
  ·subst e;have h:eqT (T.str x) (.str x)=J:=by simp
   rw[show dT ((x,l) :: d)=(T.str x,T.lst (l.map tP)) :: dT d from rfl,rP h,oR h,fO (by rw[Zv];exact b (x,l) Zx)];simp[cY,dT]
  ·have h:eqT (T.str x) (.str w)=S:=by simpa using e
   rw[show dT ((x,l) :: d)=(T.str x,T.lst (l.map tP)) :: dT d from rfl,qi h,ui h,f λq g=>b q (Zw _ g)];simp[cY,dT,e]
def uY{i:Nat}{f:Ex}{b:Ex}{U:Env}{d:Fd}{w:Tx}{p:Pl}{m:Md}(h:U[i]?=O (O (.ow (.dct 0 (dT d)))))(o:f U=O (m,.str w))(g:∀c,b (U.set i c)=O (.fr,tP p))(n:∀q∈d,q.2.length<16777216)(r:d.length<16777216) :
  i8 i f (af b aA) U=O (.nx (U.set i (O (.ow (.dct 0 (dT (cY d w p))))))):=by
 unfold i8;simp only[h];rw[o,Zr,Zn ⟨rfl,by rw[dT,Zv];exact r⟩];have e:af b aA (U.set i (O (.ow (.dct 0 (cE (dT d) (.str w))))))=O [(.fr,tP p)]:=by simp[g]
 rw[e,Zr];have a:=lz d w p n;unfold rM at a;obtain⟨j,t,a⟩:=Zy.mp a;obtain⟨q,s,a⟩:=Zy.mp a;obtain⟨z,h3,a⟩:=Zm.mp a;have l:pm (λx=>bz x [(.fr,tP p)]) [.at (.str w)] (.dct 0 (cE (dT d) (.str w)))=O (.dct 0 (dT (cY d w p)),z.2):=by
  show (if gG (.str w) then _ else Y)=_;rw[Zn (show gG (.str w)=J from rfl),t,Zr,s,Zr];show (bz q.2 [(.fr,tP p)]).map _=_;rw[show bz q.2 [(.fr,tP p)]=O z from h3,Ys,a]
 rw[l];rfl
def Sz(N:Nat)(d:Fd):Prop:=d.length<=N/\∀q∈d,q.2.length<=N
def yp(d:Fd)(w:Tx)(p:Pl):(cY d w p).length<=d.length+1:=by
 induction d with
 |nil=>simp[cY]
 |cons a d b =>
  obtain⟨x,l⟩:=a;unfold cY;split
  ·simp
  ·simp only[Zl];exact YO b
def xD(d:Fd)(w:Tx)(p:Pl)(N:Nat)(h:∀q∈d,q.2.length<=N):∀q∈cY d w p,q.2.length<=N+1:=by
 induction d with
 |nil=>intro q b;simp[cY]at b;rw[b];simp
 |cons a d f =>
  obtain⟨x,l⟩:=a;have e:=h (x,l) Zx;have f:=f λq b=>h q (Zw _ b);unfold cY;split
  ·intro q b;rcases Zq.mp b with rfl | b
   ·simp only[Zu,ZZ];simp only at e;exact YO e
   ·have:=h q (Zw _ b);exact Xo this
  ·intro q b;rcases Zq.mp b with rfl | b
   ·simp only at e ⊢;exact Xo e
   ·exact f q b
def Sz.add{N:Nat}{d:Fd}(h:Sz N d)(w:Tx)(p:Pl):Sz (N+1) (cY d w p):=⟨by have:=yp d w p;have:=h.1;lia,xD d w p N h.2⟩
def adds(n:Nat)(t:Tx)(e:Nat)(a:Vi)(d:Fd):Fd:=a.foldl (λd s=>cY d ((t.drop s).take (e-s)) (n,e)) d
def XN(b:T)(n:Nat)(t:Tx)(e:Nat)(v:e<=t.length)(a:Vi):∀(d:Fd)(N:Nat)(z:V1),(∀s∈a,s<=e)->Sz N d->N+a.length<16777216 →
  ∃f,forL (aZ 5) du (a.map λ(s:Nat)=>T.int (s:Int)) [O (.pu b),O (.ow (.dct 0 (dT d))),O (.pu (.int n)),O (.pu (.str t)),O (.pu (.int e)),z] =
   O (.nx [O (.pu b),O (.ow (.dct 0 (dT (adds n t e a d)))),O (.pu (.int n)),O (.pu (.str t)),O (.pu (.int e)),f])/\Sz (N+a.length) (adds n t e a d):=by
 induction a with
 |nil=>exact λd N z _ h _=>⟨z,by simp[forL,adds],by simpa[adds] using h⟩
 |cons s a l =>
  intro d N z j h hN;rw[Zl]at hN;have g:s<=e:=j s Zx;have y:cut t (O (s:Int)) (O (e:Int))=(t.drop s).take (e-s):=by
   have:=sq t s (e-s) (by exact ZU g v)
   rwa [show ((s:Int)+((e-s:Nat):Int))=(e:Int) by lia]at this
  obtain⟨f,x,o⟩:=l (cY d ((t.drop s).take (e-s)) (n,e)) (N+1) (O (.pu (.int s))) (λi u=>j i (Zw _ u)) (h.add _ _) (by lia);refine⟨f,?_,by rw[Zl];rw[show N+(a.length+1)=N+1+a.length by lia];exact o⟩;have bo:du [O (.pu b),O (.ow (.dct 0 (dT d))),O (.pu (.int n)),O (.pu (.str t)),O (.pu (.int e)),O (.pu (.int s))] =
    O (.nx [O (.pu b),O (.ow (.dct 0 (dT (cY d ((t.drop s).take (e-s)) (n,e))))),O (.pu (.int n)),O (.pu (.str t)),O (.pu (.int e)),O (.pu (.int s))]):=by
   unfold du;rw[uY (d:=d) (w:=(t.drop s).take (e-s)) (p:=(n,e)) (m:=.fr) M (by simp[y]) (λc=>by simp[p8,tP,up,FY,fA]) (λq r=>by have:=h.2 q r;lia) (by have:=h.1;lia)];simp
  rw[Zp,bD M bo,x];rfl
def gQ(n:Nat)(t:Tx)(a:Vi)(d:Fd):Fd:=a.foldl (λd e=>adds n t e (List.range (e+1)) d) d
def XH(f:T)(n:Nat)(t:Tx)(D:t.length<=120)(a:Vi):∀(d:Fd)(N:Nat)(g b:V1),(∀e∈a,e<=t.length)->Sz N d->N+121*a.length<16777216 →
  ∃C B,forL (aZ 4) dn (a.map λ(e:Nat)=>T.int (e:Int)) [O (.pu f),O (.ow (.dct 0 (dT d))),O (.pu (.int n)),O (.pu (.str t)),g,b] =
   O (.nx [O (.pu f),O (.ow (.dct 0 (dT (gQ n t a d)))),O (.pu (.int n)),O (.pu (.str t)),C,B])/\Sz (N+121*a.length) (gQ n t a d):=by
 induction a with
 |nil=>exact λd N g b _ h _=>⟨g,b,by simp[forL,gQ],by simpa[gQ] using h⟩
 |cons e a u =>
  intro d N g b j h hN;rw[Zl]at hN;have y:e<=t.length:=j e Zx;obtain⟨o,e1,l⟩:=XN f n t e y (List.range (e+1)) d N b (λs j=>by have:=G9.mp j;exact YS this) h (by rw[IA];lia);rw[IA]at l;have z:Sz (N+121) (adds n t e (List.range (e+1)) d):=⟨by have:=l.1;lia,λq w=>by have:=l.2 q w;lia⟩
  obtain⟨r,p,A,v⟩:=u (adds n t e (List.range (e+1)) d) (N+121) (O (.pu (.int e))) o (λi x=>j i (Zw _ x)) z (by lia);refine⟨r,p,?_,by rw[Zl,show N+121*(a.length+1)=N+121+121*a.length by lia];exact v⟩;have bo:dn [O (.pu f),O (.ow (.dct 0 (dT d))),O (.pu (.int n)),O (.pu (.str t)),O (.pu (.int e)),b] =
    O (.nx [O (.pu f),O (.ow (.dct 0 (dT (adds n t e (List.range (e+1)) d)))),O (.pu (.int n)),O (.pu (.str t)),O (.pu (.int e)),o]):=by
   unfold dn;rw[fQ (m8 (m:=.fr) (n:=e+1) M (by lia))];exact e1
  rw[Zp,bD M bo,A];rfl
def WY(b:T)(n:Nat)(t:Tx)(l:t.length<=120)(d:Fd)(N:Nat)(j i:V1)(h:Sz N d)(r:N+14641<16777216):∃g f,cq [O (.pu b),O (.ow (.dct 0 (dT d))),O (.pu (.int n)),O (.pu (.str t)),j,i] =
   O (.nx [O (.pu b),O (.ow (.dct 0 (dT (gQ n t (List.range (t.length+1)) d)))),O (.pu (.int n)),O (.pu (.str t)),g,f])/\Sz (N+14641) (gQ n t (List.range (t.length+1)) d):=by
 obtain⟨g,f,e,a⟩:=XH b n t l (List.range (t.length+1)) d N j i (λe p=>by have:=G9.mp p;exact YS this) h (by rw[IA];lia);rw[IA]at a;refine⟨g,f,?_,⟨by have:=a.1;lia,λq o=>by have:=a.2 q o;lia⟩⟩;unfold cq;rw[fQ (m8 (m:=.fr) (n:=t.length+1) M (by lia))];exact e
def iG:Nat->List Tx->Fd->Fd
 |_,[],d=>d
 |n,t :: l,d=>iG (n+1) l (gQ n t (List.range (t.length+1)) d)
def V9(g:T)(l:List Tx):∀(n:Nat)(d:Fd)(N:Nat)(f e b a:V1),(∀t∈l,t.length<=120)->Sz N d->N+14641*l.length<16000000 →
  ∃z A C B,forL (iN [aZ 2,aZ 3]) cq ((l.zipIdx n).map λp=>T.tup [.int p.2,.str p.1]) [O (.pu g),O (.ow (.dct 0 (dT d))),f,e,b,a] =
   O (.nx [O (.pu g),O (.ow (.dct 0 (dT (iG n l d)))),z,A,C,B])/\Sz (N+14641*l.length) (iG n l d):=by
 induction l with
 |nil=>exact λn d N f e b a _ h _=>⟨f,e,b,a,by simp[forL,iG],by simpa[iG] using h⟩
 |cons t l u =>
  intro n d N f e b a i h hN;rw[Zl]at hN;obtain⟨m,j,e1,x⟩:=WY g n t (i t Zx) d N b a h (by lia);obtain⟨x2,r,q,o,y,v⟩:=u (n+1) (gQ n t (List.range (t.length+1)) d) (N+14641) (O (.pu (.int n))) (O (.pu (.str t))) m j (λs w=>i s (Zw _ w)) x (by lia);refine⟨x2,r,q,o,?_,by rw[Zl,show N+14641*(l.length+1)=N+14641+14641*l.length by lia];exact v⟩;rw[XJ,Zp,bD (U1:=[O (.pu g),O (.ow (.dct 0 (dT d))),O (.pu (.int n)),O (.pu (.str t)),b,a]) M e1,y];rfl
def enum_zip(l:List Tx):∀n:Nat,d9 n (l.map T.str)=(l.zipIdx n).map λp=>T.tup [.int p.2,.str p.1]:=by
 induction l with
 |nil=>intro n;rfl
 |cons t l a=>intro n;rw[XJ,Zp,Zp,d9,a (n+1)]
def found(a:List Tx):Fd:=iG 0 a [([],[])]
def yo(d:List Tx)(B:Bk 120 d)(r:d.length<=8):cT [.lst (d.map T.str)]=O (.fr,.dct 0 (dT (found d)))/\Sz 117129 (found d):=by
 have hlen:∀t∈d,t.length<=120:=λt o=>by
  have h:t.length<=d.flatten.length:=by
   obtain⟨a,b,rfl⟩:=WS o;simp only[IG,Zf,Zu];lia
  have:=B.n;exact ZU h this
 obtain⟨l,j,i,g,e,m⟩:=V9 (.lst (d.map T.str)) d 0 [([],[])] 1 Y Y Y Y hlen ⟨by simp,λq f=>by rw[Zh.mp f];simp⟩ (by lia);refine⟨?_,⟨by have:=m.1;unfold found;lia,λq f=>by have:=m.2 q f;lia⟩⟩;unfold cT;refine dE M (U:=[O (.pu (.lst (d.map T.str))),Y,l,j,i,g]) ?_;refine(show aq _ _ [O (.pu (.lst (d.map T.str))),Y,Y,Y,Y,Y]=_ from ?_);rw[ak (U1:=[O (.pu (.lst (d.map T.str))),O (.ow (.dct 0 (dT [([],[])]))),Y,Y,Y,Y]) (by
  have:n8 0 [((eC (.str [])),(gP aA))] [O (.pu (.lst (d.map T.str))),Y,Y,Y,Y,Y]=O (.fr,.dct 0 (dT [([],[])])):=rfl;simp only[iF,this,Zr];rfl)]
 have p:dS (iN [aZ 2,aZ 3]) (m9 (ae 0)) cq [O (.pu (.lst (d.map T.str))),O (.ow (.dct 0 (dT [([],[])]))),Y,Y,Y,Y]=O (.nx [O (.pu (.lst (d.map T.str))),O (.ow (.dct 0 (dT (iG 0 d [([],[])])))),l,j,i,g]):=by
  rw[← enum_zip]at e;simp[-forL,Bq];exact e
 rw[ak p];simp[found]
def aR(d:Fd):List Tx:=d.map (·.1)
def q9(d:Fd)(w:Tx)(p:Pl):aR (cY d w p)=if w∈aR d then aR d else aR d++[w]:=by
 induction d with
 |nil=>simp[aR,cY]
 |cons a d b =>
  obtain⟨x,l⟩:=a;unfold cY;by_cases e:x=w
  ·rw[Zn e];subst e;simp[aR]
  ·rw[Zj e];have:aR ((x,l) :: cY d w p)=x :: aR (cY d w p):=rfl;rw[this,b];have f:¬w=x:=λz=>e z.symm;by_cases m:w∈aR d
   ·rw[Zn m,Zn (by simp only[aR,Zp,Zq];exact .inr m)];rfl
   ·rw[Zj m,Zj (by simp only[aR,Zp,Zq,not_or];exact⟨f,m⟩)];rfl
def yz{d:Fd}{w x:Tx}{p:Pl}:x∈aR (cY d w p)↔x∈aR d\/x=w:=by
 rw[q9];by_cases m:w∈aR d
 ·rw[Zn m];constructor
  ·exact .inl
  ·rintro (h | rfl)
   ·exact h
   ·exact m
 ·rw[Zj m];simp
def BN{d:Fd}(w:Tx)(p:Pl)(h:(aR d).Nodup):(aR (cY d w p)).Nodup:=by
 rw[q9];by_cases m:w∈aR d
 ·rw[Zn m];exact h
 ·rw[Zj m];exact ZG.mpr ⟨h,by simp,λa g b f e=>m (by rw[Zh]at f;rw[← f,← e];exact g)⟩
def BF{d:Fd}{r:List Tx}(w:Tx)(p:Pl)(h:aR d=[] :: r):∃a,aR (cY d w p)=[] :: a:=by
 rw[q9];split
 ·exact⟨r,h⟩
 ·exact⟨r++[w],by rw[h];rfl⟩
def mT{P:Fd->Prop}(g:∀d w p,P d->P (cY d w p)):∀(l:List Tx)(n:Nat)(d:Fd),P d->P (iG n l d):=by
 have j:∀(n:Nat)(t:Tx)(e:Nat)(b:Vi)(d:Fd),P d->P (adds n t e b d):=by
  intro n t e b
  induction b with
  |nil=>exact λd h=>h
  |cons s b a=>exact λd h=>a _ (g _ _ _ h)
 have i:∀(n:Nat)(t:Tx)(f:Vi)(d:Fd),P d->P (gQ n t f d):=by
  intro n t f
  induction f with
  |nil=>exact λd h=>h
  |cons e f a=>exact λd h=>a _ (j n t e _ d h)
 intro l
 induction l with
 |nil=>exact λn d h=>h
 |cons t l a=>exact λn d h=>a (n+1) _ (i n t _ d h)
def qB(a:List Tx):(aR (found a)).Nodup:=mT (P:=λd=>(aR d).Nodup) (λd w p h=>BN w p h) a 0 _ (by simp[aR])
def qE(a:List Tx):∃r,aR (found a)=[] :: r:=mT (P:=λd=>∃r,aR d=[] :: r) (λd w p ⟨r,h⟩=>BF w p h) a 0 _ ⟨[],rfl⟩
def vO(n:Nat)(t:Tx)(e:Nat)(x:Tx)(a:Vi):∀d,x∈aR (adds n t e a d)↔x∈aR d\/∃s∈a,x=(t.drop s).take (e-s):=by
 induction a with
 |nil=>intro d;simp[adds]
 |cons s a b =>
  intro d;have:=b (cY d ((t.drop s).take (e-s)) (n,e));rw[show adds n t e (s :: a) d=adds n t e a (cY d ((t.drop s).take (e-s)) (n,e)) from rfl,this,yz];simp[or_assoc]
def xT(n:Nat)(t:Tx)(x:Tx)(a:Vi):∀d,x∈aR (gQ n t a d)↔x∈aR d\/∃e∈a,∃s∈List.range (e+1),x=(t.drop s).take (e-s):=by
 induction a with
 |nil=>intro d;simp[gQ]
 |cons e a b =>
  intro d;rw[show gQ n t (e :: a) d=gQ n t a (adds n t e (List.range (e+1)) d) from rfl,b,vO,or_assoc];simp only[Zq,exists_eq_or_imp]
def lF(x:Tx)(l:List Tx):∀n d,x∈aR (iG n l d)↔x∈aR d\/∃t∈l,∃e∈List.range (t.length+1),∃s∈List.range (e+1),x=(t.drop s).take (e-s):=by
 induction l with
 |nil=>intro n d;simp[iG]
 |cons t l a =>
  intro n d;rw[show iG n (t :: l) d=iG (n+1) l (gQ n t (List.range (t.length+1)) d) from rfl,a,xT,or_assoc];simp only[Zq,exists_eq_or_imp]
def rR(b:List Tx)(x:Tx)(h:x∈aR (found b)):x.drop 1∈aR (found b):=by
 unfold found at h ⊢;rw[lF]at h ⊢;rcases h with h | ⟨t,d,e,a,s,f,rfl⟩
 ·left;simp[aR]at h ⊢;rw[h];rfl
 ·have i:=G9.mp a;have g:=G9.mp f;by_cases q:s=e
  ·left;subst q;simp[aR]
  ·right;refine⟨t,d,e,a,s+1,G9.mpr (by lia),?_⟩;rw[WT,List.drop_drop];congr 1
def qj(f:List Tx)(B:Bk 120 f)(x:Tx)(h:x∈aR (found f)):Az x/\x.length<=120:=by
 unfold found at h;rw[lF]at h;rcases h with h | ⟨t,g,e,i,s,j,rfl⟩
 ·simp[aR]at h;subst h;exact⟨λc d=>by simp at d,by simp⟩
 ·refine⟨λc d=>B.az t g c (Yc (Yi d)),?_⟩;have m:=G9.mp i;have l:t.length<=f.flatten.length:=by
   obtain⟨a,b,rfl⟩:=WS g;simp only[IG,Zf,Zu];lia
  have:=B.n;rw[ZM];lia
end T27
end
section
namespace T27
open VS td
abbrev Gr:=List (List Pl×List Tx)
def HR(l:List Pl):bu:=l.map λq=>[.inl (q.1:Int),.inl (q.2:Int)]
theorem tX:∀{x y:List Pl},HR x=HR y->x=y
 |[],[],_=>rfl
 |[],_ :: _,h=>by simp[HR]at h
 |_ :: _,[],h=>by simp[HR]at h
 | (a,b) :: x,(c,d) :: y,h=>by
  simp only[HR,Zp,YE,Sum.inl.injEq,Int.natCast_inj,and_true]at h;obtain⟨⟨rfl,rfl⟩,h⟩:=h;rw[tX h]
def Dw(l:List Pl):FP (HR l)=T.tup (l.map tP):=by simp[FP,HR,tP,aK]
def zE(l:List Pl):Al (T.tup (l.map tP))=O (HR l):=by
 show (l.map tP).mapM OU=_
 induction l with
 |nil=>rfl
 |cons a l b =>
  rw[Zp,List.mapM_cons,b];rfl
def gT(g:Gr):List (T×T):=g.map λp=>(FP (HR p.1),T.lst (p.2.map T.str))
def df:Gr->List Pl->Tx->Gr
 |[],k,w=>[(k,[w])]
 | (x,l) :: g,k,w=>if x=k then (x,l++[w]) :: g else (x,l) :: df g k w
def vc{f:T->Option (T×Val)}{k:T}{a:T×T}{b:List (T×T)}(h:eqT a.1 k=S):pj f (a :: b) k=(pj f b k).map (a :: ·):=by
 unfold pj;rw[YW,Zj (by rw[h];simp)];cases e:b.findIdx? λq=>eqT q.1 k with
 |none=>rfl
 |some i =>
  simp only[Ys,Zr,X1];cases e2:b[i]? with
  |none=>rfl
  |some q =>
   simp only[Zr];cases f q.2 with
   |none=>rfl
   |some z=>rfl
def pI{f:T->Option (T×Val)}{k:T}{a:T×T}{b:List (T×T)}(h:eqT a.1 k=J):pj f (a :: b) k=(f a.2).map λz=>(a.1,z.1) :: b:=by
 unfold pj;rw[YW,Zn h];rfl
def nV{k:T}{a:T×T}{b:List (T×T)}(h:eqT a.1 k=S):bI (a :: b) k=a :: bI b k:=by
 have q:(a :: b).findIdx? (λq=>eqT q.1 k)=(b.findIdx? λq=>eqT q.1 k).map (·+1):=by
  rw[YW,Zj (by rw[h];exact Za)]
 unfold bI;rw[q];cases e:b.findIdx? λq=>eqT q.1 k with
 |none=>rfl
 |some i=>rfl
def pK{k:T}{a:T×T}{b:List (T×T)}(h:eqT a.1 k=J):bI (a :: b) k=a :: b:=by
 unfold bI;rw[YW,Zn h];rfl
def yS(g:Gr)(k:List Pl)(w:Tx)(b:∀q∈g,q.2.length<16777216):pj (λx=>bz x [(.fr,.str w)]) (bI (gT g) (FP (HR k))) (FP (HR k))=O (gT (df g k w)):=by
 induction g with
 |nil =>
  have:bI (gT []) (FP (HR k))=[(FP (HR k),.lst [])]:=rfl;rw[this,pI (by rw[kY];simp),fO (by decide)];rfl
 |cons a g d =>
  obtain⟨x,l⟩:=a;by_cases e:x=k
  ·subst e;have h:eqT (FP (HR x)) (FP (HR x))=J:=by rw[kY];simp
   rw[show gT ((x,l) :: g)=(FP (HR x),T.lst (l.map T.str)) :: gT g from rfl,pK h,pI h,fO (by rw[Zv];exact b (x,l) Zx)];simp[df,gT]
  ·have h:eqT (FP (HR x)) (FP (HR k))=S:=by rw[kY];exact ZJ λz=>e (tX z)
   rw[show gT ((x,l) :: g)=(FP (HR x),T.lst (l.map T.str)) :: gT g from rfl,nV h,vc h,d λq f=>b q (Zw _ f)];simp[df,gT,e]
def qY{i:Nat}{b:Ex}{a:Ex}{U:Env}{g:Gr}{w:Tx}{k:List Pl}{m:Md}(h:U[i]?=O (O (.ow (.dct 2 (gT g)))))(j:b U=O (m,.tup (k.map tP)))(d:∀c,a (U.set i c)=O (.fr,.str w))(f:∀q∈g,q.2.length<16777216)(l:g.length<16777216) :
  ip i b (af a aA) U=O (.nx (U.set i (O (.ow (.dct 2 (gT (df g k w))))))):=by
 unfold ip;simp only[h];rw[j,Zr,Zn ⟨by rw[zE];rfl,by rw[gT,Zv];exact l⟩];have e:af a aA (U.set i (O (.ow (.dct 2 (bI (gT g) (T.tup (k.map tP)))))))=O [(.fr,.str w)]:=xv (d _) M;rw[e,Zr,← Dw,yS g k w f];rfl
def look:Fd->Tx->List Pl
 |[],_=>[]
 | (x,l) :: d,w=>if x=w then l else look d w
def yu(d:Fd)(w:Tx)(h:w∈aR d):bO (dT d) (.str w)=O (.lst ((look d w).map tP)):=by
 induction d with
 |nil=>simp[aR]at h
 |cons a d b =>
  obtain⟨x,l⟩:=a;rw[show dT ((x,l) :: d)=(T.str x,T.lst (l.map tP)) :: dT d from rfl];unfold bO;by_cases e:x=w
  ·rw[Yr,show eqT (T.str x) (T.str w)=J by simp[e]];simp[look,e]
  ·rw[Yr,show eqT (T.str x) (T.str w)=S by simpa using e];have f:w∈aR d:=by
    rcases Zq.mp (show w∈x :: aR d from h) with h | h
    ·exact absurd h.symm e
    ·exact h
   rw[show look ((x,l) :: d) w=look d w by simp[look,e]];exact b f
def yf(d:Fd)(w:Tx)(N:Nat)(h:∀q∈d,q.2.length<=N):(look d w).length<=N:=by
 induction d with
 |nil=>simp[look]
 |cons a d b =>
  obtain⟨x,l⟩:=a;unfold look;split
  ·exact h _ Zx
  ·exact b λq e=>h q (Zw _ e)
def JQ(d:Fd)(a:List Tx)(g:Gr):Gr:=a.foldl (λg w=>df g (look d w) w) g
def zd(g:Gr)(k:List Pl)(w:Tx)(N:Nat)(h:g.length<=N/\∀q∈g,q.2.length<=N):(df g k w).length<=N+1/\∀q∈df g k w,q.2.length<=N+1:=by
 induction g generalizing N with
 |nil=>simp[df]
 |cons a g f =>
  obtain⟨x,l⟩:=a;have e:=h.2 (x,l) Zx;have d:=h.1;unfold df;split
  ·refine⟨by simp only[Zl]at d ⊢;exact Xo d,λq b=>?_⟩;rcases Zq.mp b with rfl | b
   ·simp only[Zu,ZZ];simp only at e;exact YO e
   ·have:=h.2 q (Zw _ b);exact Xo this
  ·have hN:∀(g:Gr),(df g k w).length<=g.length+1:=by
    intro g
    induction g with
    |nil=>simp[df]
    |cons a g f=>obtain⟨x,l⟩:=a;unfold df;split<;>simp only[Zl]<;>lia
   refine⟨by have:=hN g;simp only[Zl]at d ⊢;lia,λq b=>?_⟩;rcases Zq.mp b with rfl | b
   ·simp only at e ⊢;exact Xo e
   ·exact(f N ⟨by simp only[Zl]at d;exact Xa d,λq b=>h.2 q (Zw _ b)⟩).2 q b
def Ga(d:Fd)(o:∀q∈d,q.2.length<=117129)(a:List Tx):∀(g:Gr)(N:Nat)(z:V1),(∀w∈a,w∈aR d)->(g.length<=N/\∀q∈g,q.2.length<=N)->N+a.length<16777216 →
  ∃b,forL (aZ 2) dq (a.map T.str) [O (.pu (.dct 0 (dT d))),O (.ow (.dct 2 (gT g))),z]=O (.nx [O (.pu (.dct 0 (dT d))),O (.ow (.dct 2 (gT (JQ d a g)))),b]):=by
 induction a with
 |nil=>exact λg N z _ _ _=>⟨z,rfl⟩
 |cons w a i =>
  intro g N z hw hN n;rw[Zl]at n;obtain⟨b,e⟩:=i (df g (look d w) w) (N+1) (O (.pu (.str w))) (λx j=>hw x (Zw _ j)) (zd g _ w N hN) (by lia);refine⟨b,?_⟩;have h:=yu d w (hw w Zx);have f:=yf d w 117129 o;have bo:dq [O (.pu (.dct 0 (dT d))),O (.ow (.dct 2 (gT g))),O (.pu (.str w))]=O (.nx [O (.pu (.dct 0 (dT d))),O (.ow (.dct 2 (gT (df g (look d w) w)))),O (.pu (.str w))]):=by
   unfold dq;have im:fA ((look d w).map tP)=J:=gz tP (λ_=>rfl) _;have p:gM [(.pu,.lst ((look d w).map tP))]=O (.fr,.tup ((look d w).map tP)):=by
    show (if _ then _ else _)=_;rw[Zn (by rw[Zv];exact ZU f (by decide)),up,FY,im];rfl
   exact qY (g:=g) (w:=w) (k:=look d w) (m:=.fr) M (qm (xv (e2v (x:=(.pu,.dct 0 (dT d))) (y:=(.fr,.str w)) M M (by
    show (bO (dT d) (.str w)).map _=_;rw[h];rfl)) M) p) (λc=>rfl) (λq l=>by have:=hN.2 q l;lia) (by have:=hN.1;lia)
  rw[Zp,bD M bo,e];rfl
def F5(a:V0):T:=.lst (a.map λs=>T.lst (s.map T.str))
def dU(d:Fd):V0:=(JQ d (cy (aR d)) []).map (·.2)
def v7(d:Fd)(a:Sz 117129 d)(m:∀x∈aR d,Az x/\x.length<=120):cZ [.dct 0 (dT d)]=O (.fr,F5 (dU d)):=by
 have pm:=dv (aR d);obtain⟨b,e⟩:=Ga d a.2 (cy (aR d)) [] 0 Y (λw hw=>pm.mem_iff.mp hw) ⟨by simp,λq g=>by simp at g⟩ (by rw[pm.length_eq,aR,Zv];have:=a.1;lia);have so:jw [(.pu,.dct 0 (dT d))]=O (.fr,.lst ((cy (aR d)).map T.str)):=by
  show ((strs? ((dT d).map (·.1))).bind _)=_;rw[show (dT d).map (·.1)=d.map λp=>T.str p.1 by simp[dT],strs_map (λp:Tx×List Pl=>p.1) d,Zr,show d.map (λp=>p.1)=aR d from rfl,Zn (show ((aR d).all K4)=J from ZD.mpr λx f=>by
   obtain⟨j,i⟩:=m x f;simp only[K4,Yz,decide_eq_true_eq,ZD];exact⟨ZU i (by decide),λc h=>by have:=j c h;lia⟩)]
 unfold cZ;refine dE M (U:=[O (.pu (.dct 0 (dT d))),Y,b]) ?_;refine(show aq _ _ [O (.pu (.dct 0 (dT d))),Y,Y]=_ from ?_);rw[ak (U1:=[O (.pu (.dct 0 (dT d))),O (.ow (.dct 2 (gT []))),Y]) M,
  ak ((fQ (l:=(cy (aR d)).map T.str) (by
   show (eN jw (af (ae 0) aA) _).bind _=_;rw[qm (xv (x:=(.pu,.dct 0 (dT d))) M M) so];rfl)).trans e)]
 show O _=_;rw[gT,Yw,F5,dU,Yw];rfl
structure Stn(st:V0)(ks:List Tx):Prop where
 ne:∀s∈st,s≠[]
 pm:st.flatten.Perm ks
 hd:∃a b,st=([] :: a) :: b
def yT(g:Gr)(k:List Pl)(w:Tx)(h:∀q∈g,q.2≠[]):∀q∈df g k w,q.2≠[]:=by
 induction g with
 |nil=>intro q b;simp[df]at b;rw[b];simp
 |cons a g d =>
  obtain⟨x,l⟩:=a;have d:=d λq b=>h q (Zw _ b);unfold df;split
  ·intro q b;rcases Zq.mp b with rfl | b
   ·simp
   ·exact h q (Zw _ b)
  ·intro q b;rcases Zq.mp b with rfl | b
   ·exact h _ Zx
   ·exact d q b
def Ai(g:Gr)(k:List Pl)(w:Tx):((df g k w).map (·.2)).flatten.Perm (w :: (g.map (·.2)).flatten):=by
 induction g with
 |nil=>simp[df]
 |cons a g b =>
  obtain⟨x,l⟩:=a;unfold df;split
  ·rw[Zp,Zf,Zp,Zf];show (l++[w]++_).Perm (w :: (l++_));rw[Zk];exact VN
  ·rw[Zp,Zf,Zp,Zf];exact(List.Perm.append_left l b).trans VN
def Aj(g:Gr)(k:List Pl)(w:Tx)(k0:List Pl)(a:List Tx)(b:Gr)(h:g=(k0,[] :: a) :: b):∃e d,df g k w=(k0,[] :: e) :: d:=by
 subst h;unfold df;split
 ·exact⟨a++[w],b,rfl⟩
 ·exact⟨a,_,rfl⟩
def Cf(d:Fd)(a:List Tx):∀g:Gr,(∀q∈g,q.2≠[])->∀q∈JQ d a g,q.2≠[]:=by
 induction a with
 |nil=>exact λg h=>h
 |cons w a b=>exact λg h=>b _ (yT g _ w h)
def CB(d:Fd)(a:List Tx):∀g:Gr,((JQ d a g).map (·.2)).flatten.Perm (a++(g.map (·.2)).flatten):=by
 induction a with
 |nil=>exact λg=>by simp[JQ]
 |cons w a b =>
  intro g;refine(b (df g (look d w) w)).trans ?_;refine((Ai g (look d w) w).append_left a).trans ?_;exact VN
def BO(d:Fd)(e:List Tx):∀(g:Gr)(k0:List Pl)(a:List Tx)(b:Gr),g=(k0,[] :: a) :: b->∃i f,JQ d e g=(k0,[] :: i) :: f:=by
 induction e with
 |nil=>exact λg k0 a b h=>⟨a,b,h⟩
 |cons w e j =>
  intro g k0 a b h;obtain⟨i,f,l⟩:=Aj g (look d w) w k0 a b h;exact j _ k0 i f l
def yn(l:List Tx)(h:[]∈l):∃r,cy l=[] :: r:=by
 have pm:=dv l;have pw:=jo l;have m:[]∈cy l:=pm.mem_iff.mpr h;cases e:cy l with
 |nil=>rw[e]at m;simp at m
 |cons x r =>
  rw[e]at m pw;rcases Zq.mp m with b | a
  ·exact⟨r,by rw[b]⟩
  ·cases x with
   |nil=>exact⟨r,rfl⟩
   |cons c x=>exact absurd (.inl (by simp)) ((YY.mp pw).1 [] a)
def xO(d:Fd)(h:[]∈aR d):Stn (dU d) (aR d):=by
 refine⟨λs g=>?_,?_,?_⟩
 ·obtain⟨q,f,rfl⟩:=Yt.mp g;exact Cf d _ [] (λq f=>by simp at f) q f
 ·have:=CB d (cy (aR d)) [];simp only[YI,VL,ZP]at this;exact this.trans (dv _)
 ·obtain⟨r,e⟩:=yn _ h;obtain⟨a,b,i⟩:=BO d r (df [] (look d []) []) (look d []) [] [] M;refine⟨a,b.map (·.2),?_⟩;unfold dU;rw[e,show JQ d ([] :: r) []=JQ d r (df [] (look d []) []) from rfl,i];rfl
def num:V0->Tx->Nat
 |[],_=>0
 |s :: st,w=>if w∈s then 0 else num st w+1
def jK(a:V0)(w:Tx)(h:w∈a.flatten):num a w<a.length:=by
 induction a with
 |nil=>simp at h
 |cons s a b =>
  unfold num;split
  ·simp
  ·rename_i d;have:w∈a.flatten:=by
    rw[Zf]at h;exact(Zb.mp h).resolve_left d
   have:=b this;simp only[Zl];exact Nat.succ_lt_succ this
def nT(m:List (Tx×Nat)):List (T×T):=m.map λp=>(T.str p.1,T.int (p.2:Int))
def nums:Nat->V0->List (Tx×Nat)
 |_,[]=>[]
 |k,s :: st=>s.map (λw=>(w,k))++nums (k+1) st
def qI(a b:List (T×T))(k:T):bO (a++b) k=(bO a k).or (bO b k):=by
 unfold bO;rw[List.find?_append];cases a.find? λp=>eqT p.1 k<;>rfl
def wD(s:List Tx)(k:Nat)(w:Tx):bO (nT (s.map λw=>(w,k))) (.str w)=if w∈s then O (.int (k:Int)) else Y:=by
 induction s with
 |nil=>rfl
 |cons x s a =>
  rw[Zp,show nT ((x,k) :: s.map λw=>(w,k))=(T.str x,T.int (k:Int)) :: nT (s.map λw=>(w,k)) from rfl];by_cases e:x=w
  ·rw[bO,Yr,show eqT (T.str x) (T.str w)=J by simp[e],Zn (by rw[e];simp)];rfl
  ·rw[bO,Yr,show eqT (T.str x) (T.str w)=S by simpa using e];have b:¬w=x:=λz=>e z.symm;refine(show bO (nT (s.map λw=>(w,k))) (.str w)=_ from ?_);rw[a];by_cases q:w∈s
   ·rw[Zn q,Zn (Zw _ q)]
   ·rw[Zj q,Zj λz=>(Zq.mp z).elim b q]
def jD(a:V0)(w:Tx):∀k,bO (nT (nums k a)) (.str w)=if w∈a.flatten then O (.int ((k+num a w:Nat):Int)) else Y:=by
 induction a with
 |nil=>exact λk=>rfl
 |cons s a d =>
  intro k;rw[nums,nT,Yy,qI];rw[show bO ((s.map λw=>(w,k)).map λp=>(T.str p.1,T.int (p.2:Int))) (.str w)=_ from wD s k w];rw[show bO ((nums (k+1) a).map λp=>(T.str p.1,T.int (p.2:Int))) (.str w)=_ from d (k+1),Zf];by_cases h:w∈s
  ·rw[Zn h,Zn (Zb.mpr (.inl h)),show num (s :: a) w=0 by simp[num,h]];rfl
  ·rw[Zj h];by_cases b:w∈a.flatten
   ·rw[Zn b,Zn (Zb.mpr (.inr b)),show num (s :: a) w=num a w+1 by simp[num,h],show k+(num a w+1)=k+1+num a w by lia];rfl
   ·rw[Zj b,Zj λz=>(Zb.mp z).elim h b];rfl
def tU(m:List (Tx×Nat))(w:Tx)(k:Nat)(h:w∉m.map (·.1)):dput (nT m) (.str w) (.int (k:Int))=nT (m++[(w,k)]):=by
 unfold dput;rw[Zj (by
  simp only[List.any_eq_true,not_exists,not_and];intro p b;obtain⟨q,a,rfl⟩:=Yt.mp b;simp only[eqT,beq_iff_eq];intro e;exact h (Yt.mpr ⟨q,a,e⟩))]
 simp[nT]
def sE{i:Nat}{k e:Ex}{U:Env}{l:List (T×T)}{kv v:T}{m n:Md}(h:U[i]?=O (O (.ow (.dct 0 l))))(b:e U=O (m,v))(a:k U=O (n,kv))(f:gG kv=J)(d:FY v=J)(h3:l.length<16777216):mF i k e U=O (.nx (U.set i (O (.ow (.dct 0 (dput l kv v)))))):=by
 unfold mF;rw[b,Zr,h,a];exact Zn ⟨f,d,h3⟩
def nm1(a:T)(b:T)(k:Nat)(s:List Tx):∀(m:List (Tx×Nat))(z:V1),(m.map (·.1)++s).Nodup->m.length+s.length<16777216 →
  ∃d,forL (aZ 4) cW (s.map T.str) [O (.pu a),O (.ow (.dct 0 (nT m))),O (.pu (.int k)),O (.pu b),z]=O (.nx [O (.pu a),O (.ow (.dct 0 (nT (m++s.map λw=>(w,k))))),O (.pu (.int k)),O (.pu b),d]):=by
 induction s with
 |nil=>exact λm z _ _=>⟨z,by simp[forL]⟩
 |cons w s g =>
  intro m z f i;rw[Zl]at i;obtain⟨d,e⟩:=g (m++[(w,k)]) (O (.pu (.str w))) (by simpa using f) (by rw[Zu,ZZ];lia);refine⟨d,?_⟩;have nw:w∉m.map (·.1):=λh=>by
   have:=(ZG.mp f).2.2 w h w Zx;exact this M
  have bo:cW [O (.pu a),O (.ow (.dct 0 (nT m))),O (.pu (.int k)),O (.pu b),O (.pu (.str w))]=O (.nx [O (.pu a),O (.ow (.dct 0 (nT (m++[(w,k)])))),O (.pu (.int k)),O (.pu b),O (.pu (.str w))]):=by
   unfold cW;rw[sE (l:=nT m) (kv:=.str w) (v:=.int (k:Int)) (m:=.fr) (n:=.fr) M M M M M (by rw[nT,Zv];lia),tU m w k nw];rfl
  rw[Zp,bD M bo,e];simp
def nm2(f:T)(l:V0):∀(n:Nat)(m:List (Tx×Nat))(d b a:V1),(m.map (·.1)++l.flatten).Nodup->m.length+l.flatten.length<16777216 →
  ∃q r t,forL (iN [aZ 2,aZ 3]) eM (d9 n (l.map λs=>T.lst (s.map T.str))) [O (.pu f),O (.ow (.dct 0 (nT m))),d,b,a]=O (.nx [O (.pu f),O (.ow (.dct 0 (nT (m++nums n l)))),q,r,t]):=by
 induction l with
 |nil=>exact λn m d b a _ _=>⟨d,b,a,by simp[forL,d9,nums]⟩
 |cons s l o =>
  intro n m d b a g p;rw[Zf,Zu]at p;rw[Zf,← Zk]at g;obtain⟨h,e1⟩:=nm1 f (.lst (s.map T.str)) n s m a (ZG.mp g).1 (by lia);obtain⟨x2,j,i,e⟩:=o (n+1) (m++s.map λw=>(w,n)) (O (.pu (.int n))) (O (.pu (.lst (s.map T.str)))) h (by rw[Yy,Yw,show ((λx:Tx×Nat=>x.1) ∘ λw:Tx=>(w,n))=id from rfl,WM];exact g) (by rw[Zu,Zv];lia);refine⟨x2,j,i,?_⟩;rw[Zp,d9,bD (U1:=[O (.pu f),O (.ow (.dct 0 (nT m))),O (.pu (.int n)),O (.pu (.lst (s.map T.str))),a]) M (by
   unfold eM;rw[jd (m:=.pu) (l:=s.map T.str) M M,e1]),e,Zk]
  rfl
def uv(a:V0)(g:a.flatten.Nodup)(h:a.flatten.length<16777216):bP [F5 a]=O (.fr,.dct 0 (nT (nums 0 a))):=by
 obtain⟨f,d,b,e⟩:=nm2 (F5 a) a 0 [] Y Y Y (by simpa using g) (by simpa using h);unfold bP;refine dE M (U:=[O (.pu (F5 a)),Y,f,d,b]) ?_;refine(show aq _ _ [O (.pu (F5 a)),Y,Y,Y,Y]=_ from ?_);rw[ak (U1:=[O (.pu (F5 a)),O (.ow (.dct 0 (nT []))),Y,Y,Y]) (by
  have:n8 0 [] [O (.pu (F5 a)),Y,Y,Y,Y]=O (.fr,.dct 0 (nT [])):=rfl;simp only[iF,this,Zr];rfl)]
 rw[ak (U1:=[O (.pu (F5 a)),O (.ow (.dct 0 (nT (nums 0 a)))),f,d,b]) (by
  rw[jd (m:=.pu) (l:=d9 0 (a.map λs=>T.lst (s.map T.str))) M M];exact e)]
 simp
def FC(s:List Tx):Tx:=s.headD []
def Jw(s:List Tx):Tx:=s.getLast?.getD []
def t4{m n:Md}{s:List Tx}(h:s≠[]):aF (m,.lst (s.map T.str)) (n,.int 0)=O (.fr,.str (FC s)):=by
 cases s with
 |nil=>exact absurd M h
 |cons a s =>
  have:GF ((T.str a :: s.map T.str).length) 0=O 0:=je (k:=0) (by simp);show (GF ((T.str a :: s.map T.str).length) 0).bind _=_;rw[this];rfl
def C6{m n:Md}{s:List Tx}(h:s≠[]):aF (m,.lst (s.map T.str)) (n,.int (-1))=O (.fr,.str (Jw s)):=by
 have a:0<s.length:=Vp.mpr h;have:GF ((s.map T.str).length) (-1)=O (s.length-1):=by
  unfold GF;rw[Zj (by lia),Zv,Zn (by lia)];congr 1;lia
 show (GF ((s.map T.str).length) (-1)).bind _=_;rw[this,Zr,ZT,Zi (show s.length-1<s.length by omega)];unfold Jw;rw[List.getLast?_eq_getElem?,Zi (show s.length-1<s.length by omega)];rfl
def wT(p:Nat×Nat):T:=.tup [.str [p.1],.int (p.2:Int)]
def eW(a:V0)(h:Tx)(c:Nat):List (Nat×Nat):=if h++[c]∈a.flatten then [(c,num a (h++[c]))] else []
def aX(a:V0)(h:Tx)(b:Vi):List (Nat×Nat):=b.flatMap (eW a h)
def oS(b:V0)(h:Tx)(a:Vi):(aX b h a).length<=a.length:=by
 induction a with
 |nil=>simp[aX]
 |cons c a d =>
  have:aX b h (c :: a)=eW b h c++aX b h a:=rfl;rw[this,Zu,Zl];have:(eW b h c).length<=1:=by unfold eW;split<;>simp
  lia
abbrev ET(f:V0)(S e:T)(s:List Tx)(d b a:V1):Env:=[O (.pu S),O (.pu (.dct 0 (nT (nums 0 f)))),O (.ow e),O (.pu (.lst (s.map T.str))),d,b,a]
def Et{m n:Md}{l:List (T×T)}{k:Tx}{r:Option T}(h:bO l (.str k)=r):lZ (m,.str k) (n,.dct 0 l)=O (.fr,.bl r.isSome):=by
 subst h;rfl
def AV{m n:Md}{l:List (T×T)}{k:Tx}{i:Int}(h:bO l (.str k)=O (.int i)):Jv (m,.dct 0 l) (n,.str k)=O (.fr,.int i):=by
 show (bO l (.str k)).map _=_;rw[h];rfl
def wC{a:Gd}{U:Env}{l:V2}{t:T}(h:a U=O l)(d:l.length<=16777216)(b:T.tup (trees l)=t)(e:FY t=J):rL a U=O (.fr,t):=by
 subst b;show (a U).bind qb=_;rw[h,Zr,p8 d,up,e];rfl
def UL(a:V0)(S:T)(j:T)(s:List Tx)(n:s≠[])(o:(FC s).length<=120)(l6:V1)(g:Vi):∀(d:List (Nat×Nat))(z:V1),d.length+g.length<1000 →
  ∃h,forL (aZ 5) g9 (g.map λc=>T.str [c]) (ET a S j s (O (.ow (.lst (d.map wT)))) z l6)=O (.nx (ET a S j s (O (.ow (.lst ((d++aX a (FC s) g).map wT)))) h l6)):=by
 induction g with
 |nil=>exact λd z _=>⟨z,by rw[show aX a (FC s) []=[] from rfl,ZP];rfl⟩
 |cons c g m =>
  intro d z hw;rw[Zl]at hw;have i:=jD a (FC s++[c]) 0;rw[Y3]at i;have ad:e2 bq (e2 aF (ae 3) (Q3 0)) (ae 5) (ET a S j s (O (.ow (.lst (d.map wT)))) (O (.pu (.str [c]))) l6)=O (.fr,.str (FC s++[c])):=e2v (y:=(.fr,.str [c])) (e2v M M (t4 n)) M (iq (show (FC s).length+1<=16777216 by lia));have cd:=e2v (f:=lZ) (b:=ae 1) ad M (Et i);rw[show aX a (FC s) (c :: g)=eW a (FC s) c++aX a (FC s) g from rfl,← Zk,Zp];by_cases p:FC s++[c]∈a.flatten
  ·rw[Zn p]at i cd;rw[eW,Zn p];obtain⟨h,e⟩:=m (d++[(c,num a (FC s++[c]))]) (O (.pu (.str [c]))) (by rw[Zu,ZZ];lia);refine⟨h,?_⟩;rw[← e];refine bD M ((jH cd).trans ((jF (l:=d.map wT) (t:=wT (c,num a (FC s++[c]))) M (wC (l:=[(.fr,.str [c]),(.fr,.int (num a (FC s++[c])))]) (xv M (xv (e2v M ad (AV i)) M)) (show 2<=16777216 by decide) M M) (by rw[Zv];lia)).trans ?_));rw[Yy];rfl
  ·rw[Zj p]at cd;rw[eW,Zj p,ZP];obtain⟨h,e⟩:=m d (O (.pu (.str [c]))) (by lia);exact⟨h,(bD M (jy cd)).trans e⟩
def ba:Vi:=[97,98,99,100,101,102,103,104,105,106,107,108,109,110,111,112,113,114,115,116,117,118,119,120,121,122]
def Ki(a:V0)(s:List Tx):T:=if FC s=[] then .non else .int (num a ((FC s).drop 1):Nat)
def ft(a:V0)(s:List Tx):T:=.tup [.int (FC s).length,.int (Jw s).length,Ki a s,.tup ((aX a (FC s) ba).map wT)]
def ji(l:List (Nat×Nat)):fA (l.map wT)=J:=gz wT (λx=>rfl) l
def zr(a:V0)(s:List Tx):FY (Ki a s)=J:=by unfold Ki;split<;>rfl
def lY(a:V0)(s:List Tx):FY (ft a s)=J:=by
 have h:(FY (Ki a s)&&(fA ((aX a (FC s) ba).map wT)&&J))=J:=by rw[zr,ji];rfl
 exact h
def E8(t:Tx):cut t (O 1) Y=t.drop 1:=by
 unfold cut clip;simp only[show ¬((1:Int)<0) by lia,if_false];by_cases h:1<=t.length
 ·rw[Ym (by simpa using h),show (1:Int).toNat=1 from rfl,Jd (by simp)]
 ·have:t=[]:=W5.mp (by lia);subst this;rfl
def ne_nil{m n:Md}(t:Tx):LU (m,.str t) (n,.str [])=O (.fr,.bl (!decide (t=[]))):=by
 cases t with
 |nil=>rfl
 |cons a t=>rfl
def vz(d:V0)(S:T)(s:List Tx)(i:s≠[])(w:(FC s).length<=120)(v:FC s≠[]->(FC s).drop 1∈d.flatten)(g:V4)(z:g.length<16777216)(q n j:V1) :
  ∃C B A,d6 (ET d S (.lst g) s q n j)=O (.nx (ET d S (.lst (g++[ft d s])) s C B A)):=by
 obtain⟨h,e⟩:=UL d S (.lst g) s i w j ba [] n (by decide);rw[HH]at e;refine⟨O (.pu (.lst ((aX d (FC s) ba).map wT))),h,O (.pu (Ki d s)),?_⟩;unfold d6;rw[ak (U1:=ET d S (.lst g) s (O (.ow (.lst (([]:List (Nat×Nat)).map wT)))) n j) M,
  ak ((fQ (l:=ba.map λc=>T.str [c]) M).trans e),
  ak (U1:=ET d S (.lst g) s (O (.pu (.lst ((aX d (FC s) ba).map wT)))) h j) M,
  ak (U1:=ET d S (.lst g) s (O (.pu (.lst ((aX d (FC s) ba).map wT)))) h (O (.pu .non))) M,
  ak (U1:=ET d S (.lst g) s (O (.pu (.lst ((aX d (FC s) ba).map wT)))) h (O (.pu (Ki d s)))) (by
  have cd:=e2v (f:=LU) (U:=ET d S (.lst g) s (O (.pu (.lst ((aX d (FC s) ba).map wT)))) h (O (.pu .non))) (b:=eC (.str [])) (e2v (a:=ae 3) (b:=Q3 0) M M (t4 i)) M (ne_nil _);unfold Ki;by_cases p:FC s=[]
  ·rw[ZR p]at cd;rw[Zn p];exact jy cd
  ·have o:=jD d ((FC s).drop 1) 0;rw[Y3,Zn (v p)]at o;rw[ZJ p]at cd;rw[Zj p];refine(jH cd).trans (aE (m:=.fr) (e2v (y:=(.fr,.str ((FC s).drop 1))) M ?_ (AV o)) (by decide) (by decide:6<7));show (e2 aF (ae 3) (Q3 0) _).bind _=_;rw[e2v (a:=ae 3) (b:=Q3 0) M M (t4 i),Zr];exact congrArg (λt=>O (Md.fr,T.str t)) (E8 _))]
 have r:=ji (aX d (FC s) ba);have wl:(aX d (FC s) ba).length<=16777216:=ZU (oS _ _ _) (by decide);have u:∀m,gM [(m,.lst ((aX d (FC s) ba).map wT))]=O (.fr,.tup ((aX d (FC s) ba).map wT)):=λm=>by
  show (if _ then _ else _)=_;rw[Zn (by rw[Zv];exact wl),up,FY,r];rfl
 exact jF (l:=g) (t:=ft d s) M (wC (xv (qm (xv (e2v M M (t4 i)) M) M) (xv (qm (xv (e2v M M (C6 i)) M) M) (xv (x:=(_,Ki d s)) M (xv (qm (xv M M) (u _)) (xs:=[]) M)))) (show 4<=16777216 by decide) M (lY d s)) z
def UK(a:V0)(S:T)(l:V0):∀(tb:V4)(g f d b:V1),(∀s∈l,s≠[]/\(FC s).length<=120/\(FC s≠[]->(FC s).drop 1∈a.flatten))->tb.length+l.length<16777216 →
  ∃z C B A,forL (aZ 3) d6 (l.map λs=>T.lst (s.map T.str)) [O (.pu S),O (.pu (.dct 0 (nT (nums 0 a)))),O (.ow (.lst tb)),g,f,d,b] =
   O (.nx [O (.pu S),O (.pu (.dct 0 (nT (nums 0 a)))),O (.ow (.lst (tb++l.map (ft a)))),z,C,B,A]):=by
 induction l with
 |nil=>exact λtb g f d b _ _=>⟨g,f,d,b,by rw[YI,YI,ZP];rfl⟩
 |cons s l r =>
  intro tb g f d b h u;rw[Zl]at u;obtain⟨w,v,h3⟩:=h s Zx;obtain⟨m,j,i,y⟩:=vz a S s w v h3 tb (by lia) f d b;obtain⟨q,p,o,n,e⟩:=r (tb++[ft a s]) (O (.pu (.lst (s.map T.str)))) m j i (λx t=>h x (Zw _ t)) (by rw[Zu,ZZ];lia);refine⟨q,p,o,n,?_⟩;rw[Zp,bD M y,e,Zk];rfl
def aV(a:V0):T:=.lst (a.map (ft a))
def AD(a:V0)(h:∀s∈a,s≠[]/\(FC s).length<=120/\(FC s≠[]->(FC s).drop 1∈a.flatten))(i:a.length<16777216):dB [F5 a,.dct 0 (nT (nums 0 a))]=O (.fr,aV a):=by
 obtain⟨g,f,d,b,e⟩:=UK a (F5 a) a [] Y Y Y Y h (by simpa using i);rw[HH]at e;unfold dB;refine dE M (U:=[O (.pu (F5 a)),O (.pu (.dct 0 (nT (nums 0 a)))),Y,g,f,d,b]) ?_;refine(show aq _ _ [O (.pu (F5 a)),O (.pu (.dct 0 (nT (nums 0 a)))),Y,Y,Y,Y,Y]=_ from ?_);rw[ak (U1:=[O (.pu (F5 a)),O (.pu (.dct 0 (nT (nums 0 a)))),O (.ow (.lst [])),Y,Y,Y,Y]) M];rw[ak (U1:=[O (.pu (F5 a)),O (.pu (.dct 0 (nT (nums 0 a)))),O (.ow (.lst (a.map (ft a)))),g,f,d,b]) (by
  rw[jd (m:=.pu) (l:=a.map λs=>T.lst (s.map T.str)) M M];exact e)]
 simp[aV]
structure GI(f:Tx->List Pl)(g:Gr)(pre:List Tx):Prop where
 nd:(g.map (·.1)).Nodup
 eq:∀q∈g,q.2=pre.filter λw=>decide (f w=q.1)
 al:∀w∈pre,f w∈g.map (·.1)
def mV(g:Gr)(k:List Pl)(w:Tx):(df g k w).map (·.1)=if k∈g.map (·.1) then g.map (·.1) else g.map (·.1)++[k]:=by
 induction g with
 |nil=>simp[df]
 |cons a g b =>
  obtain⟨x,l⟩:=a;unfold df;by_cases e:x=k
  ·rw[Zn e];subst e;simp
  ·rw[Zj e,Zp,b];have d:¬k=x:=λz=>e z.symm;by_cases m:k∈g.map (·.1)
   ·rw[Zn m,Zn (by rw[Zp];exact Zw _ m)];rfl
   ·rw[Zj m,Zj (by rw[Zp,Zq,not_or];exact⟨d,m⟩)];rfl
def vL(g:Gr)(k:List Pl)(w:Tx)(f:(g.map (·.1)).Nodup)(q:List Pl×List Tx)(h:q∈df g k w):(q.1≠k/\q∈g)\/(q.1=k/\((∃l,(k,l)∈g/\q.2=l++[w])\/(k∉g.map (·.1)/\q.2=[w]))):=by
 induction g with
 |nil =>
  simp only[df,Zh]at h;subst h;exact .inr ⟨rfl,.inr ⟨by simp,rfl⟩⟩
 |cons a g j =>
  obtain⟨x,l⟩:=a;rw[Zp,ZS]at f;unfold df at h;by_cases e:x=k
  ·rw[Zn e]at h;rcases Zq.mp h with rfl | h
   ·exact .inr ⟨e,.inl ⟨l,by rw[← e];exact Zx,rfl⟩⟩
   ·exact .inl ⟨λz=>f.1 (Yt.mpr ⟨q,h,z.trans e.symm⟩),Zw _ h⟩
  ·rw[Zj e]at h;rcases Zq.mp h with rfl | h
   ·exact .inl ⟨e,Zx⟩
   ·rcases j f.2 h with⟨d,b⟩ | ⟨d,⟨i,b,h3⟩ | ⟨b,h3⟩⟩
    ·exact .inl ⟨d,Zw _ b⟩
    ·exact .inr ⟨d,.inl ⟨i,Zw _ b,h3⟩⟩
    ·exact .inr ⟨d,.inr ⟨by rw[Zp,Zq,not_or];exact⟨λz=>e z.symm,b⟩,h3⟩⟩
def GI.add{f:Tx->List Pl}{g:Gr}{d:List Tx}(I:GI f g d)(w:Tx):GI f (df g (f w) w) (d++[w]):=by
 refine⟨?_,λq p=>?_,λx h=>?_⟩
 ·rw[mV];by_cases m:f w∈g.map (·.1)
  ·rw[Zn m];exact I.nd
  ·rw[Zj m];exact ZG.mpr ⟨I.nd,by simp,λa r b o e=>m (by rw[Zh]at o;rw[← o,← e];exact r)⟩
 ·rw[Vg];rcases vL g (f w) w I.nd q p with⟨n,j⟩ | ⟨n,⟨l,j,h3⟩ | ⟨j,h3⟩⟩
  ·rw[I.eq q j,show [w].filter (λw=>decide (f w=q.1))=[] by rw[X2 (by simp only[decide_eq_true_eq];exact λz=>n z.symm)];rfl,ZP]
  ·rw[h3,show l=d.filter λi=>decide (f i=f w) from I.eq (f w,l) j,n,show [w].filter (λi=>decide (f i=f w))=[w] by simp]
  ·rw[h3,n,show [w].filter (λi=>decide (f i=f w))=[w] by simp,Vz.mpr λx h=>by
    have:=I.al x h;simp only[decide_eq_true_eq];intro z;rw[z]at this;exact j this]
   rfl
 ·rw[mV];rcases Zb.mp h with h | h
  ·have:=I.al x h;by_cases m:f w∈g.map (·.1)
   ·rw[Zn m];exact this
   ·rw[Zj m];exact Zb.mpr (.inl this)
  ·rw[Zh.mp h];by_cases m:f w∈g.map (·.1)
   ·rw[Zn m];exact m
   ·rw[Zj m];simp
theorem GI.JQ{d:Fd}(a:List Tx):∀{g:Gr}{pre:List Tx},GI (look d) g pre->GI (look d) (JQ d a g) (pre++a):=by
 induction a with
 |nil=>intro g pre I;rw[ZP];exact I
 |cons w a b =>
  intro g pre I;have:=b (I.add w);rw[Zk]at this;exact this
def EE(d:Fd):GI (look d) (JQ d (cy (aR d)) []) (cy (aR d)):=GI.JQ (cy (aR d)) (g:=[]) (pre:=[]) ⟨by simp,λq a=>by simp at a,λw hw=>by simp at hw⟩
def Bb(d:Fd)(s:List Tx)(h:s∈dU d):∃k,s=(cy (aR d)).filter λw=>decide (look d w=k):=by
 obtain⟨q,a,rfl⟩:=Yt.mp h;exact⟨q.1,(EE d).eq q a⟩
def Eo(d:Fd)(s:List Tx)(h:s∈dU d):s.Pairwise (λa b=>¬lL b a):=by
 obtain⟨k,rfl⟩:=Bb d s h;exact(jo _).filter _
def kh(a:V0)(w:Tx)(h:w∈a.flatten):w∈a.getD (num a w) []:=by
 induction a with
 |nil=>simp at h
 |cons s a b =>
  by_cases m:w∈s
  ·rw[show num (s :: a) w=0 by simp[num,m]];exact m
  ·rw[show num (s :: a) w=num a w+1 by simp[num,m],Wg];rw[Zf]at h;exact b ((Zb.mp h).resolve_left m)
def getD_mem(a:V0)(i:Nat)(h:i<a.length):a.getD i []∈a:=by
 rw[ZO,Zi h];exact Xs h
def wb(d:Fd)(w x:Tx)(p:Pl):look (cY d w p) x=if x=w then look d x++[p] else look d x:=by
 induction d with
 |nil =>
  by_cases e:x=w
  ·simp[cY,look,e]
  ·have g:¬w=x:=λz=>e z.symm;simp[cY,look,e,g]
 |cons a d f =>
  obtain⟨y,l⟩:=a;unfold cY;by_cases e:y=w
  ·rw[Zn e];subst e;by_cases e2:y=x
   ·simp[look,e2]
   ·have b:¬x=y:=λz=>e2 z.symm;simp[look,e2,b]
  ·rw[Zj e];by_cases e2:y=x
   ·have b:¬x=w:=λz=>e (e2.trans z);simp[look,e2,b]
   ·rw[show look ((y,l) :: cY d w p) x=look (cY d w p) x by simp[look,e2],show look ((y,l) :: d) x=look d x by simp[look,e2],f]
def ud(n:Nat)(t:Tx)(e:Nat)(x:Tx)(a:Vi):∀d,look (adds n t e a d) x=look d x++(a.filter λs=>decide ((t.drop s).take (e-s)=x)).map λ_=>(n,e):=by
 induction a with
 |nil=>intro d;simp[adds]
 |cons s a b =>
  intro d;rw[show adds n t e (s :: a) d=adds n t e a (cY d ((t.drop s).take (e-s)) (n,e)) from rfl,b,wb];by_cases h:x=(t.drop s).take (e-s)
  ·rw[Zn h,W6 (by simpa using h.symm)];simp
  ·rw[Zj h,X2 (by simpa using λz=>h z.symm)]
theorem lB{P:Nat->Bool}{s0:Nat}:∀{l:Vi},l.Nodup->(∀s∈l,P s=J->s=s0)->l.filter P=if s0∈l/\P s0=J then [s0] else []
 |[],_,_=>by simp
 |a :: l,i,h=>by
  obtain⟨m,j⟩:=ZS.mp i;have f:=lB j λs g=>h s (Zw _ g);by_cases q:P a=J
  ·have e:=h a Zx q;subst e;rw[W6 q,f,Zj λz=>m z.1,Zn ⟨Zx,q⟩]
  ·rw[X2 q,f];by_cases z:s0∈l/\P s0=J
   ·rw[Zn z,Zn ⟨Zw _ z.1,z.2⟩]
   ·rw[Zj z,Zj];rintro⟨b,d⟩;rcases Zq.mp b with rfl | b
    ·exact q d
    ·exact z ⟨b,d⟩
def starts(t x:Tx)(e:Nat)(i:e<=t.length):((List.range (e+1)).filter λs=>decide ((t.drop s).take (e-s)=x)).map (λ_=>())=if x <:+ t.take e then [()] else []:=by
 have cut:∀s,s<=e->(t.drop s).take (e-s)=(t.take e).drop s:=λs d=>by rw[WT]
 have len:∀s,s<=e->((t.take e).drop s).length=e-s:=λs d=>by rw[ZE,ZM];lia
 rw[lB (s0:=e-x.length) List.nodup_range λs d g=>by
  have b:=G9.mp d;have a:=of_decide_eq_true g;rw[cut s (by exact YS b)]at a;have:=len s (by exact YS b);rw[a]at this;omega]
 by_cases h:x <:+ t.take e
 ·have j:x.length<=e:=by have:=h.length_le;rw[ZM]at this;lia
  rw[Zn h,Zn]
  ·rfl
  ·refine⟨G9.mpr (by omega),ZR ?_⟩;rw[cut _ (by exact YK _ _)];obtain⟨y,f⟩:=h;have b:(t.take e).length=e:=by rw[ZM];exact Ym i
   rw[← f,Zu]at b;rw[← f,show e-x.length=y.length by lia,List.drop_left]
 ·rw[Zj h,Zj]
  ·rfl
  ·rintro⟨b,a⟩;have b:=G9.mp b;have a:=of_decide_eq_true a;rw[cut _ (by exact YK _ _)]at a;exact h (by rw[← a];exact List.drop_suffix _ _)
def uX(n:Nat)(t x:Tx)(a:Vi):∀d,(∀e∈a,e<=t.length)->look (gQ n t a d) x=look d x++(a.filter λe=>decide (x <:+ t.take e)).map λe=>(n,e):=by
 induction a with
 |nil=>intro d _;simp[gQ]
 |cons e a b =>
  intro d h;rw[show gQ n t (e :: a) d=gQ n t a (adds n t e (List.range (e+1)) d) from rfl,b _ λi f=>h i (Zw _ f),ud];have st:=starts t x e (h e Zx);have:((List.range (e+1)).filter λs=>decide ((t.drop s).take (e-s)=x)).map (λ_=>(n,e))=(if x <:+ t.take e then [()] else []).map λ_=>(n,e):=by
   rw[← st,Yw];rfl
  rw[this];by_cases q:x <:+ t.take e
  ·rw[Zn q,W6 (by simpa using q)];simp
  ·rw[Zj q,X2 (by simpa using q)];simp
def ja:Nat->List Tx->List Pl
 |_,[]=>[]
 |n,t :: l=>(List.range (t.length+1)).map (λe=>(n,e))++ja (n+1) l
def AO(l:List Tx):∀n p,p∈ja n l->n<=p.1:=by
 induction l with
 |nil=>intro n p h;simp[ja]at h
 |cons t l a =>
  intro n p h;rcases Zb.mp h with h | h
  ·obtain⟨e,_,rfl⟩:=Yt.mp h;exact Zo _
  ·have:=a (n+1) p h;exact Xa this
def vi(x:Tx)(l:List Tx):∀n d,look (iG n l d) x=look d x++(ja n l).filter λp=>decide (x <:+ (l.getD (p.1-n) []).take p.2):=by
 induction l with
 |nil=>intro n d;simp[iG,ja]
 |cons t l a =>
  intro n d;rw[show iG n (t :: l) d=iG (n+1) l (gQ n t (List.range (t.length+1)) d) from rfl,a,uX n t x _ d λe f=>by have:=G9.mp f;exact YS this,Zk];congr 1;rw[ja,Vg,List.filter_map];congr 1
  ·congr 1;apply WL;intro e _;simp
  ·apply WL;intro p b;have:=AO l (n+1) p b;rw[show p.1-n=(p.1-(n+1))+1 by lia,Wg]
def En(a:List Tx)(x:Tx)(p:Pl):Prop:=x <:+ (a.getD p.1 []).take p.2
instance (bk:List Tx) (x:Tx) (p:Pl):Decidable (En bk x p):=inferInstanceAs (Decidable (_ <:+ _))
def iP(a:List Tx)(x:Tx):look (found a) x=(ja 0 a).filter λp=>decide (En a x p):=by
 unfold found;rw[vi,show look [([],[])] x=[] by unfold look;split<;>rfl,HH];rfl
def qu{bk:List Tx}{x:Tx}{p:Pl}:p∈look (found bk) x↔p∈ja 0 bk/\En bk x p:=by
 rw[iP,YF,decide_eq_true_eq]
def look_same{bk:List Tx}{x y:Tx}:look (found bk) x=look (found bk) y ↔ ∀p∈ja 0 bk,En bk x p↔En bk y p:=by
 constructor
 ·intro h p a;have b:=qu (bk:=bk) (x:=x) (p:=p);have d:=qu (bk:=bk) (x:=y) (p:=p);rw[h]at b;exact⟨λz=>(d.mp (b.mpr ⟨a,z⟩)).2,λz=>(b.mp (d.mpr ⟨a,z⟩)).2⟩
 ·intro h;rw[iP,iP];apply WL;intro p a;exact decide_eq_decide.mpr (h p a)
def fg(l:List Tx):∀n p,p∈ja n l↔n<=p.1/\p.1<n+l.length/\p.2<=(l.getD (p.1-n) []).length:=by
 induction l with
 |nil=>intro n p;simp[ja];lia
 |cons t l f =>
  intro n p;obtain⟨i,e⟩:=p;rw[ja,Zb,f,Yt];simp only[G9,Prod.mk.injEq,Zl];constructor
  ·rintro (⟨a,b,d,h3⟩ | ⟨b,d,h3⟩)
   ·subst d h3;simp;exact YS b
   ·refine⟨by exact Xa b,by lia,?_⟩;rw[show i-n=(i-(n+1))+1 by lia,Wg];exact h3
  ·rintro⟨b,d,h3⟩;by_cases q:i=n
   ·subst q;simp at h3;exact .inl ⟨e,by exact Nat.lt_succ_of_le h3,rfl,rfl⟩
   ·rw[show i-n=(i-(n+1))+1 by lia,Wg]at h3;exact .inr ⟨by lia,by lia,h3⟩
def nW{a:List Tx}{x:Tx}:x∈aR (found a)↔x=[]\/∃p∈ja 0 a,En a x p:=by
 unfold found;rw[lF];constructor
 ·rintro (h | ⟨t,g,e,m,s,r,rfl⟩)
  ·left;simpa[aR] using h
  ·right;obtain⟨i,b,rfl⟩:=Ja g;have q:=G9.mp m;refine⟨(i,e),(fg a 0 (i,e)).mpr ⟨ZN _,by simpa using b,?_⟩,?_⟩
   ·simp[b];exact YS q
   ·show _ <:+ (a.getD i []).take e;rw[ZO,Zi b,XO,← WT];exact List.drop_suffix _ _
 ·rintro (h | ⟨⟨i,e⟩,j,h⟩)
  ·left;rw[h];simp[aR]
  ·right;obtain⟨_,o,h3⟩:=(fg a 0 (i,e)).mp j;have b:i<a.length:=by simpa using o
   have l:a.getD i []=a[i]:=by rw[ZO,Zi b,XO]
   have h3:e<=a[i].length:=by simpa[b] using h3
   have f:x <:+ a[i].take e:=by rw[← l];exact h
   have u:x.length<=e:=by have:=f.length_le;rw[ZM]at this;lia
   refine⟨a[i],Xs b,e,G9.mpr (by exact Nat.lt_succ_of_le h3),e-x.length,G9.mpr (by lia),?_⟩;obtain⟨y,d⟩:=f;have n:(a[i].take e).length=e:=by rw[ZM];exact Ym h3
   rw[← d,Zu]at n;rw[← WT,← d,show e-x.length=y.length by lia,List.drop_left]
def sJ{s:List Tx}(h:s≠[]):FC s∈s:=by
 cases s with
 |nil=>exact absurd M h
 |cons a s=>exact Zx
def tj{s:List Tx}(h:s≠[]):Jw s∈s:=by
 unfold Jw;rw[List.getLast?_eq_some_getLast h];exact List.getLast_mem h
def oj{d:Fd}{s:List Tx}(a:s∈dU d)(f:s≠[])(w:Tx):w∈s↔w∈aR d/\look d w=look d (FC s):=by
 obtain⟨k,e⟩:=Bb d s a;have b:look d (FC s)=k:=by
  have:=sJ f;rw[e]at this;have:=(YF.mp this).2;rw[← e]at this;exact of_decide_eq_true this
 rw[b]
 conv=>lhs;rw[e]
 rw[YF,decide_eq_true_eq,(dv (aR d)).mem_iff]
def uK(a:V0)(u v:Tx)(h:∀s∈a,u∈s↔v∈s):num a u=num a v:=by
 induction a with
 |nil=>rfl
 |cons s a b =>
  have e:=b λx d=>h x (Zw _ d);have e2:=h s Zx;unfold num;by_cases q:u∈s
  ·rw[Zn q,Zn (e2.mp q)]
  ·rw[Zj q,Zj λz=>q (e2.mpr z),e]
def ly{d:Fd}(b:∀s∈dU d,s≠[]){u v:Tx}(f:u∈aR d)(e:v∈aR d)(h:look d u=look d v):num (dU d) u=num (dU d) v :=
 uK _ u v λs a=>by rw[oj a (b s a),oj a (b s a),h];exact⟨λz=>⟨e,z.2⟩,λz=>⟨f,z.2⟩⟩
def qT{a:List Tx}{x:Tx}{c n e:Nat}(h:e+1<=(a.getD n []).length):En a (x++[c]) (n,e+1)↔En a x (n,e)/\(a.getD n [])[e]?=O c:=by
 unfold En;dsimp only;have f:(a.getD n []).take (e+1)=(a.getD n []).take e++[(a.getD n [])[e]]:=by rw[List.take_add_one,Zi (show e<(a.getD n []).length by exact VX h)];rfl
 rw[f,Zi (show e<(a.getD n []).length by exact VX h)];constructor
 ·rintro⟨y,b⟩;rw[← Zk]at b;obtain⟨g,d⟩:=List.append_inj' b M;refine⟨⟨y,g⟩,?_⟩;simp only[YE,and_true]at d;rw[d]
 ·rintro⟨⟨y,b⟩,d⟩;refine⟨y,?_⟩;rw[← Zk,b,ZK d]
def ki{a:List Tx}{x:Tx}{n:Nat}(h:En a x (n,0)):x=[]:=by
 unfold En at h;simpa using h
def gC{a:List Tx}{x y:Tx}(c:Nat)(h:look (found a) x=look (found a) y):look (found a) (x++[c])=look (found a) (y++[c]):=by
 rw[look_same]at h ⊢;rintro⟨n,e⟩ g;cases e with
 |zero=>exact⟨λz=>absurd (ki z) (by simp),λz=>absurd (ki z) (by simp)⟩
 |succ e =>
  have d:=(fg a 0 (n,e+1)).mp g;have b:e+1<=(a.getD n []).length:=by simpa using d.2.2
  rw[qT b,qT b];have f:(n,e)∈ja 0 a:=(fg a 0 (n,e)).mpr ⟨d.1,d.2.1,by simpa using(by(exact Xa b):e<=(a.getD n []).length)⟩;rw[h _ f]
def kD{b:List Tx}{x y:Tx}(e:x≠[])(d:y≠[])(h:look (found b) x=look (found b) y):x∈aR (found b)↔y∈aR (found b):=by
 rw[look_same]at h;rw[nW,nW];constructor
 ·rintro (z | ⟨p,a,z⟩)
  ·exact absurd z e
  ·exact .inr ⟨p,a,(h p a).mp z⟩
 ·rintro (z | ⟨p,a,z⟩)
  ·exact absurd z d
  ·exact .inr ⟨p,a,(h p a).mpr z⟩
def ze{a:List Tx}{x:Tx}{c:Nat}(h:x++[c]∈aR (found a)):x∈aR (found a):=by
 rw[nW]at h ⊢;rcases h with h | ⟨⟨n,e⟩,f,h⟩
 ·simp at h
 ·cases e with
  |zero=>have:=ki h;simp at this
  |succ e =>
   have b:=(fg a 0 (n,e+1)).mp f;have d:e+1<=(a.getD n []).length:=by simpa using b.2.2
   exact .inr ⟨(n,e),(fg a 0 (n,e)).mpr ⟨b.1,b.2.1,by simpa using(by(exact Xa d):e<=(a.getD n []).length)⟩,((qT d).mp h).1⟩
def v5{a:List Tx}{x:Tx}(d:x∈aR (found a))(h:look (found a) x=look (found a) []):x=[]:=by
 rcases nW.mp d with z | ⟨p,e,z⟩
 ·exact z
 ·have b:=(fg a 0 p).mp e;rw[look_same]at h;exact ki ((h (p.1,0) ((fg a 0 (p.1,0)).mpr ⟨b.1,b.2.1,ZN _⟩)).mpr (by unfold En;simp))
def zG(d:Fd)(s:List Tx)(h:s∈dU d)(w:Tx)(hw:w∈s):w.length<=(Jw s).length:=by
 have p:=Eo d s h;have e:s≠[]:=List.ne_nil_of_mem hw;obtain⟨a,b,rfl⟩:∃a b,s=a++[b]:=⟨_,_,(List.dropLast_concat_getLast e).symm⟩
 rw[show Jw (a++[b])=b by simp[Jw]];rcases Zb.mp hw with hw | hw
 ·have:=(ZL.mp p).2.2 w hw b (by simp);unfold lL at this;lia
 ·rw[Zh.mp hw];exact Zo _
def bx{f:Val->Val->V3}{a b:Ex}{U:Env}{x y:Val}(e:a U=O x)(d:b U=O y):e2 f a b U=f x y:=by simp[e,d]
def gh{a:Ex}{r:Gd}{U:Env}{x:Val}{xs:V2}(d:a U=O x)(b:r U=O xs):af a r U=O (x :: xs):=by simp[d,b]
def yR(a:V0)(s:List Tx)(n:Nat):GN (n+3) (ft a s)=J:=by
 have e:GN (n+2) (Ki a s)=J:=by unfold Ki;split<;>rfl
 have d:((aX a (FC s) ba).map wT).all (GN (n+1))=J:=by
  rw[ZD];intro x b;obtain⟨p,_,rfl⟩:=Yt.mp b;simp[wT]
 unfold ft;rw[GN];simp only[WD,List.all_nil,e,GN,d,Bool.and_self,Vl]
def zY(a:V0):GN 60 (aV a)=J:=by
 unfold aV;rw[GN,ZD];intro x b;obtain⟨s,_,rfl⟩:=Yt.mp b;exact yR a s 56
def Bn(l:V0):(∀s∈l,s≠[])->l.length<=l.flatten.length:=by
 induction l with
 |nil=>exact λ_=>by simp
 |cons s l a =>
  intro h;have e:=Vp.mpr (h s Zx);have d:=a λx b=>h x (Zw _ b);rw[Zf,Zu,Zl];lia
def Bw(a:V0)(h:a.length<16777216):lR [(.pu,aV a)]=O (.fr,aV a):=by
 have im:fA (a.map (ft a))=J:=gz (ft a) (λs=>lY a s) a;show Hw .pu (a.map (ft a))=_;rw[jT (by rw[Zv];lia),im];rfl
def iM{f:V2->V3}{a:Gd}{U:Env}{xs:V2}(h:a U=O xs):eN f a U=f xs:=by simp[h]
section
variable(p:Tx->Bool)
def dZ(x:Tx):Vi:=ba.filter λc=>p (x++[c])
def ext:Nat->Tx->List Tx
 |0,x=>[x]
 |n+1,x=>x :: (dZ p x).flatMap λc=>ext n (x++[c])
theorem pN(a:∀y,p y=J->y.length<=120):∀(n:Nat)(x:Tx),120<=x.length+n->ext p (n+1) x=ext p n x
 |0,x,h=>by
  have:dZ p x=[]:=by
   unfold dZ;rw[Vz];intro c _ b;have:=a _ b;rw[Zu,ZZ]at this;lia
  show x :: (dZ p x).flatMap (λc=>ext p 0 (x++[c]))=[x];rw[this];rfl
 |n+1,x,h=>by
  have e:(λc=>ext p (n+1) (x++[c]))=λc=>ext p n (x++[c]):=funext λc=>pN a n (x++[c]) (by rw[Zu,ZZ];lia);show x :: (dZ p x).flatMap (λc=>ext p (n+1) (x++[c]))=x :: (dZ p x).flatMap λc=>ext p n (x++[c]);rw[e]
def E(x:Tx):List Tx:=ext p 120 x
def AH(a:∀y,p y=J->y.length<=120)(x:Tx):E p x=x :: (dZ p x).flatMap λc=>E p (x++[c]):=(pN p a 120 x (by lia)).symm
theorem kA:∀(n:Nat)(x y:Tx),y∈ext p n x->∃r,y=x++r
 |0,x,y,h=>⟨[],by rw[Zh.mp h,ZP]⟩
 |n+1,x,y,h=>by
  rcases Zq.mp h with h | h
  ·exact⟨[],by rw[h,ZP]⟩
  ·obtain⟨c,_,h⟩:=W3.mp h;obtain⟨r,e⟩:=kA n _ y h;exact⟨c :: r,by rw[e,Zk];rfl⟩
theorem vT:∀(n:Nat)(x y:Tx),p x=J->y∈ext p n x->p y=J
 |0,x,y,a,h=>by rw[Zh.mp h];exact a
 |n+1,x,y,a,h=>by
  rcases Zq.mp h with h | h
  ·rw[h];exact a
  ·obtain⟨c,b,h⟩:=W3.mp h;exact vT n _ y (YF.mp b).2 h
theorem xW(a:∀y c,p (y++[c])=J->p y=J)(x:Tx):∀r:Tx,p (x++r.reverse)=J->p x=J
 |[],h=>by simpa using h
 |c :: r,h=>xW a x r (a _ c (by rw[List.reverse_cons,← Zk]at h;exact h))
theorem gr(b:∀y c,p (y++[c])=J->p y=J)(d:∀y,p y=J->∀c∈y,c∈ba):∀(n:Nat)(x r:Tx),p (x++r)=J->r.length<=n->x++r∈ext p n x
 |n,x,[],h,_=>by cases n<;>simp[ext]
 |0,x,c :: r,h,a=>by simp at a
 |n+1,x,c :: r,h,a=>by
  have e:x++c :: r=(x++[c])++r:=by rw[Zk];rfl
  rw[e]at h ⊢;have f:p (x++[c])=J:=xW p b (x++[c]) r.reverse (by rw[List.reverse_reverse];exact h);exact Zw _ (W3.mpr ⟨c,YF.mpr ⟨d _ f c (by simp),f⟩,gr b d n (x++[c]) r h (by simpa using a)⟩)
theorem nt:∀(x a b:Tx),GY (x++a) (x++b)=GY a b
 |[],_,_=>rfl
 |c :: x,a,b=>by
  rw[W7,W7,GY,Zj (YZ c),Zj (YZ c),nt x a b]
def AM(x r:Tx)(c:Nat):GY x (x++c :: r)=J:=by
 have:=nt x [] (c :: r);rw[ZP]at this;exact this
def AK(x r q:Tx){c d:Nat}(h:c<d):GY (x++c :: r) (x++d :: q)=J:=by
 rw[nt,GY,Zn h]
def sI:ba.Pairwise (· < ·):=by decide
theorem rK:∀(n:Nat)(x:Tx),(ext p n x).Pairwise λa b=>GY a b=J
 |0,x=>W1 _ _
 |n+1,x=>by
  refine YY.mpr ⟨λy h=>?_,List.pairwise_flatMap.mpr ⟨λc _=>rK n _,?_⟩⟩
  ·obtain⟨c,_,h⟩:=W3.mp h;obtain⟨r,e⟩:=kA p n _ y h;rw[e,Zk];exact AM x r c
  ·refine List.Pairwise.imp (λ{c d} j y g z f=>?_) (sI.filter λc=>p (x++[c]));obtain⟨r,e⟩:=kA p n _ y g;obtain⟨q,i⟩:=kA p n _ z f;rw[e,i,Zk,Zk];exact AK x r q j
theorem ou:∀x:Tx,GY x x=S
 |[]=>rfl
 |c :: x=>by rw[GY,Zj (YZ c),Zj (YZ c),ou x]
def zv{a b:Tx}(h:GY a b=J):¬b<a:=by
 rw[jA]at h;exact λg=>absurd (of_decide_eq_true h) (List.lt_asymm g)
def CL{l:List Tx}(g:l.Nodup)(f:∀x,x∈l↔p x=J)(n:p []=J)(i:∀y,p y=J->y.length<=120)(j:∀y c,p (y++[c])=J->p y=J)(m:∀y,p y=J->∀c∈y,c∈ba):E p []=di l:=by
 have pw:=rK p 120 [];have nd:(ext p 120 []).Nodup:=pw.imp λ{a b} h e=>by rw[e,ou]at h;cases h
 refine mZ ((List.perm_ext_iff_of_nodup nd g).mpr λx=>⟨λh=>(f x).mpr (vT p 120 [] x n h),λh=>?_⟩) (pw.imp λ{a b} h=>zv h);have d:=(f x).mp h;exact gr p j m 120 [] x d (i x d)
end
abbrev pS(a:V0):Tx->Bool:=λx=>decide (x∈a.flatten)
def gH(a:V0)(x:Tx):aX a x ba=(dZ (pS a) x).map λc=>(c,num a (x++[c])):=by
 unfold aX dZ;generalize ba=l
 induction l with
 |nil=>rfl
 |cons c l b =>
  rw[List.flatMap_cons,List.filter_cons,b];unfold eW;by_cases h:x++[c]∈a.flatten
  ·rw[Zn h,Zn (ZR h)];rfl
  ·rw[Zj h,Zj (λz=>h (of_decide_eq_true z))];rfl
abbrev on(a:V0)(i:Nat):Nat:=(E (pS a) (FC (a.getD i []))).length
structure Od(st:V0):Prop where
 len:st.length<1000000
 fl:st.flatten.length<=117129
 nf:st.flatten.Nodup
 ne:∀s∈st,s≠[]
 z0:∃b,st=[[]] :: b
 IK:∀y,pS st y=true->y.length<=120
 cl:∀y c,pS st (y++[c])=true->pS st y=true
 ab:∀y,pS st y=true->∀c∈y,c∈ba
 way:∀x,x∈st.flatten->aX st (FC (st.getD (num st x) [])) ba=aX st x ba
 Tf:∀x,x∈st.flatten->on st (num st x)=(E (pS st) x).length
 asc:∀i,i<st.length->∀p∈aX st (FC (st.getD i [])) ba,p.2<st.length/\(Jw (st.getD i [])).length<(Jw (st.getD p.2 [])).length
def Od.PH{a:V0}(D:Od a)(i:Nat)(d:i<a.length):on a i=1+((aX a (FC (a.getD i [])) ba).map λp=>on a p.2).sum:=by
 unfold on;rw[AH _ D.IK,Zl,XF,gH,Yw,Nat.add_comm];congr 2;refine YA λc b=>?_;exact(D.Tf _ (of_decide_eq_true (YF.mp b).2)).symm
def ph{a:List Tx}{q:Tx->Bool}(b:∀x,q x=J↔x∈aR (found a)){x y:Tx}(h:look (found a) x=look (found a) y):dZ q x=dZ q y:=by
 unfold dZ;refine WL λc _=>?_;have:=kD (x:=x++[c]) (y:=y++[c]) (by simp) (by simp) (gC c h);rw[Wj,b,b];exact this
theorem qo{a:List Tx}{q:Tx->Bool}(b:∀x,q x=J↔x∈aR (found a)):∀(n:Nat)(x y:Tx),look (found a) x=look (found a) y->(ext q n x).length=(ext q n y).length
 |0,_,_,_=>rfl
 |n+1,x,y,h=>by
  show (x :: (dZ q x).flatMap λc=>ext q n (x++[c])).length=(y :: (dZ q y).flatMap λc=>ext q n (y++[c])).length;rw[Zl,Zl,XF,XF,ph b h];congr 2;exact YA λc _=>qo b n _ _ (gC c h)
def vR{d:V0}(h:d.flatten.Nodup){s:List Tx}(e:s∈d):s.Nodup:=by
 obtain⟨a,b,rfl⟩:=WS e;rw[IG,Zf]at h;exact(ZG.mp (ZG.mp h).2.1).1
def DX(d:List Tx)(B:Bk 120 d)(F:Sz 117129 (found d)):Od (dU (found d)):=by
 obtain⟨r,hd⟩:=qE d;have C:=qj d B;have g:=xO (found d) (by rw[hd];exact Zx);have nf:(dU (found d)).flatten.Nodup:=g.pm.nodup_iff.mpr (qB d);have fl:(dU (found d)).flatten.length<=117129:=by rw[g.pm.length_eq,aR,Zv];exact F.1
 have L:=Bn _ g.ne;have n:=λ{s:List Tx} (t:s∈dU (found d)) w=>oj t (g.ne s t) w;have j:∀x,pS (dU (found d)) x=J↔x∈aR (found d):=λx=>decide_eq_true_iff.trans g.pm.mem_iff;have v:∀{x},x∈(dU (found d)).flatten↔x∈aR (found d):=g.pm.mem_iff;have nl:∀x,x∈(dU (found d)).flatten->num (dU (found d)) x<(dU (found d)).length:=λx f=>jK _ x f;have z:∀x,x∈(dU (found d)).flatten->look (found d) x=look (found d) (FC ((dU (found d)).getD (num (dU (found d)) x) [])):=λx f=>((n (getD_mem _ _ (nl x f)) x).mp (kh _ x f)).2;have z0:∃b,dU (found d)=[[]] :: b:=by
  obtain⟨a,b,D⟩:=g.hd;have m:([] :: a)∈dU (found d):=by rw[D];exact Zx
  have nd:=vR nf m;have I:a=[]:=by
   cases a with
   |nil=>rfl
   |cons x a =>
    have f:=(n m x).mp (Zw _ Zx);have:x=[]:=v5 f.1 f.2;rw[this]at nd;exact absurd Zx (ZS.mp nd).1
  exact⟨b,by rw[D,I]⟩
 refine⟨by lia,fl,nf,g.ne,z0,λy o=>(C y ((j y).mp o)).2,λy c h=>(j y).mpr (ze ((j _).mp h)),λy o c l=>?_,λx f=>?_,λx f=>?_,λi H p u=>?_⟩
 ·have:=(C y ((j y).mp o)).1 c l;have:c∈List.range' 97 26:=List.mem_range'_1.mpr ⟨this.1,by lia⟩;exact this
 ·have e:=z x f;rw[gH,gH,← ph j e];refine YA λc l=>?_;have k1:x++[c]∈aR (found d):=(j _).mp (YF.mp l).2;rw[ly g.ne ((kD (by simp) (by simp) (gC c e)).mp k1) k1 (gC c e).symm]
 ·exact(qo j 120 _ _ (z x f)).symm
 ·rw[gH]at u;obtain⟨c,l,rfl⟩:=Yt.mp u;have k1:=(j _).mp (YF.mp l).2;have m:=getD_mem (dU (found d)) i H;have q:=(n m _).mp (tj (g.ne _ m));have e:=gC c q.2;have k2:=(kD (by simp) (by simp) e).mpr k1;have A:=nl _ (v.mpr k1);refine⟨A,?_⟩;have G:=ly g.ne k2 k1 e;have:=zG _ _ (getD_mem _ _ A) _ (G ▸ kh _ _ (v.mpr k2));rw[Zu,ZZ]at this;exact this
def ot{m n:Md}(a:V0)(i:Nat)(h:i<a.length):aF (m,aV a) (n,.int (i:Int))=O (.fr,ft a (a.getD i [])):=by
 show (GF ((a.map (ft a)).length) (i:Int)).bind _=_;rw[je (by rw[Zv];exact h),Zr,ZT,Zi h,ZO,Zi h,Ys,Ys,XO];unfold sub up;rw[lY,Zn M]
def qk{a:Ex}{U:Env}{m:Md}{l:V4}(e:a U=O (m,.tup l)):fT a U=O (m,l):=by
 show (a U).bind Cs=_;rw[e];rfl
def Dx{m n:Md}(a:V0)(s:List Tx):aF (m,ft a s) (n,.int 1)=O (.fr,.int (Jw s).length):=rfl
def xV{m n:Md}(a:V0)(s:List Tx):aF (m,ft a s) (n,.int 3)=O (.fr,.tup ((aX a (FC s) ba).map wT)):=by
 show O (up _ _)=_;unfold up;have h:FY (T.tup ((aX a (FC s) ba).map wT))=J:=ji _;rw[h,Zn M]
def A7{m n:Md}(q:Nat×Nat):aF (m,wT q) (n,.int 1)=O (.fr,.int (q.2:Int)):=rfl
def wK{m n:Md}(O:Vb)(j:Nat)(h:j<O.length):aF (m,.lst (O.map T.int)) (n,.int (j:Int))=some (.fr,.int (O.getD j 0)):=by
 show (GF ((O.map T.int).length) (j:Int)).bind _=_;rw[je (by rw[Zv];exact h),Zr,ZT,Zi h,ZO,Zi h,Ys,Ys,XO];rfl
theorem ints_map{α:Type}(f:α->Int):∀l:List α,j3 (l.map λx=>T.int (f x))=O (l.map f)
 |[]=>rfl
 |x :: l=>by
  show (j3 (l.map λx=>T.int (f x))).map (f x :: ·)=_;rw[ints_map f l];rfl
abbrev oE(a:V0)(O:Vb)(z:V1):Env:=[some (.pu (aV a)),some (.ow (.lst (O.map T.int))),z]
def sv(a:V0)(x:Tx):(aX a x ba).length<=16777216:=ZU (oS a x ba) (by decide)
abbrev wsum(O:Vb)(ws:List (Nat×Nat)):Int:=(ws.map λq=>O.getD q.2 0).sum
def yP{a:V0}(O:Vb)(d:O.length=a.length)(i:Nat)(b:i<a.length)(hw:∀q∈aX a (FC (a.getD i [])) ba,q.2<a.length) :
  bF (oE a O (some (.pu (.int i))))=some (.nx (oE a (O.set i (1+wsum O (aX a (FC (a.getD i [])) ba))) (some (.pu (.int i))))):=by
 have e1:e2 aF (ae 0) (ae 2) (oE a O (some (.pu (.int i))))=some (.fr,ft a (a.getD i [])):=by
  rw[bx (x:=(.pu,aV a)) (y:=(.fr,.int i)) M M,ot a i b]
 have g:e2 aF (e2 aF (ae 0) (ae 2)) (Q3 3) (oE a O (some (.pu (.int i))))=some (.fr,.tup ((aX a (FC (a.getD i [])) ba).map wT)):=by
  rw[bx e1 (y:=(.fr,.int 3)) M,xV]
 have co:eX 1 (aZ 0) (fT (e2 aF (e2 aF (ae 0) (ae 2)) (Q3 3))) Y (e2 aF (ae 2) (e2 aF (ae 0) (Q3 1))) (oE a O (some (.pu (.int i))))=some (.fr,.lst ((aX a (FC (a.getD i [])) ba).map λq=>T.int (O.getD q.2 0))) :=
  jx (m:=.fr) wT (λq=>T.int (O.getD q.2 0)) (aX a (FC (a.getD i [])) ba) (qk g) M (sv _ _) λq f=>⟨some (.pu (wT q)) :: oE a O (some (.pu (.int i))),rfl,by
   have k:e2 aF (ae 0) (Q3 1) (some (.pu (wT q)) :: oE a O (some (.pu (.int i))))=some (.fr,.int (q.2:Int)):=by
    rw[bx (x:=(.fr,wT q)) (y:=(.fr,.int 1)) M M,A7]
   rw[bx (x:=(.bo,.lst (O.map T.int))) M k,wK O q.2 (by rw[d];exact hw q f)]⟩
 have e:e2 bq (Q3 1) (eN rY (af (eX 1 (aZ 0) (fT (e2 aF (e2 aF (ae 0) (ae 2)) (Q3 3))) Y (e2 aF (ae 2) (e2 aF (ae 0) (Q3 1)))) aA)) (oE a O (some (.pu (.int i))))=some (.fr,.int (1+wsum O (aX a (FC (a.getD i [])) ba))):=by
  rw[bx (x:=(.fr,.int 1)) (y:=(.fr,.int (wsum O (aX a (FC (a.getD i [])) ba)))) M (by
   rw[iM (gh co M)];show (j3 ((aX a (FC (a.getD i [])) ba).map λq=>T.int (O.getD q.2 0))).bind _=_;rw[ints_map (λq:Nat×Nat=>O.getD q.2 0),Zr])]
  rfl
 unfold bF tQ;rw[e,Zr];show Option.map _ (Option.map _ (GF (O.map T.int).length (i:Int)))=_;rw[je (by rw[Zv,d];exact b),Ys,Ys];show some (Out.nx (oE a O (some (.pu (.int i))) |>.set 1 _))=_;rw[← List.map_set];rfl
abbrev ky(a:V0)(i:Nat):Nat:=(Jw (a.getD i [])).length
def qd(l:Vi):((l.sum:Nat):Int)=(l.map λn:Nat=>(n:Int)).sum:=by
 induction l with
 |nil=>rfl
 |cons a l b=>rw[List.sum_cons,Zp,List.sum_cons,← b];lia
theorem tL{d:V0}(D:Od d):∀(g done:Vi)(f:Vb)(z:V1),f.length=d.length->(∀i∈done,f.getD i 0=on d i)->(done++g).Perm (List.range d.length)->(done++g).Pairwise (λa b=>ky d b<=ky d a) →
  ∃r:Vb,r.length=d.length/\(∀i∈done++g,r.getD i 0=on d i)/\forL (aZ 2) bF (g.map λi:Nat=>T.int (i:Int)) (oE d f z)=some (.nx (oE d r ((g.getLast?.map λi:Nat=>Cell.pu (.int (i:Int))).or z)))
 |[],done,f,z,o,hd,_,_=>⟨f,o,by rw[ZP];exact hd,by rfl⟩
 |i :: g,done,f,z,o,hd,pm,pw=>by
  have s:i<d.length:=G9.mp (pm.mem_iff.mp (by simp));have hw:∀q∈aX d (FC (d.getD i [])) ba,q.2<d.length/\f.getD q.2 0=on d q.2:=λq m=>by
   obtain⟨t,p⟩:=D.asc i s q m;refine⟨t,hd _ ?_⟩;have A:q.2∈done++i :: g:=pm.mem_iff.mpr (G9.mpr t);rcases Zb.mp A with h | h
   ·exact h
   ·rcases Zq.mp h with h | h
    ·rw[h]at p;exact absurd p (YZ _)
    ·have:=(YY.mp (ZL.mp pw).2.1).1 _ h;exact absurd this (Nat.not_le_of_lt p)
  have b:=yP f o i s λq m=>(hw q m).1;have v:1+wsum f (aX d (FC (d.getD i [])) ba)=(on d i:Int):=by
   rw[D.PH i s];have:(aX d (FC (d.getD i [])) ba).map (λq=>f.getD q.2 0)=((aX d (FC (d.getD i [])) ba).map λq=>on d q.2).map λn:Nat=>(n:Int):=by
    rw[Yw];exact YA λq m=>(hw q m).2
   unfold wsum;rw[this,← qd];lia
  rw[v]at b;have e:done++i :: g=(done++[i])++g:=by rw[Zk];rfl
  rw[e]at pm pw ⊢;obtain⟨r,t,p,h3⟩:=tL D g (done++[i]) (f.set i (on d i:Int)) (some (.pu (.int i))) (by rw[XB];exact o) (λj w=>by
   rw[ZO,VU];by_cases c:i=j
   ·rw[Zn c,Zn (by rw[o];exact s),← c];rfl
   ·rw[Zj c,← ZO];rcases Zb.mp w with h | h
    ·exact hd j h
    ·exact absurd (Zh.mp h).symm c) pm pw
  refine⟨r,t,p,?_⟩;rw[Zp,bD (U1:=oE d f (some (.pu (.int i)))) M b,h3];cases g with
  |nil=>rfl
  |cons y g =>
   obtain⟨l,u⟩:∃l,(y :: g).getLast?=some l:=⟨_,List.getLast?_eq_some_getLast (by simp)⟩
   have x:(i :: y :: g).getLast?=some l:=by rw[List.getLast?_cons_cons,u]
   rw[u,x];rfl
def xg{g:Tg}{S:Env->Option (V4->Prop)}{b:Sx}{U:Env}{P:V4->Prop}{o:Out}(f:S U=O P)(e:∃l,P l)(h:∀l,P l->forL g b l U=O o):mM g S b U=O o:=by
 unfold mM;rw[f,Zr];split
 ·rename_i a;obtain⟨l,d⟩:=e;have:=a.choose_spec l d;rw[h l d]at this;exact this.symm
 ·rename_i a;exact absurd ⟨o,h⟩ a
abbrev LR(a:V0):Vb:=(List.range a.length).map λi=>(on a i:Int)
def C9{d:V0}(D:Od d)(f:Vi)(j:f.Perm (List.range d.length))(p:f.Pairwise (λa b=>ky d b<=ky d a)):f.getLast?=O 0:=by
 obtain⟨b,e⟩:=D.z0;have t:0<d.length:=by rw[e];simp
 have i:0∈f:=j.mem_iff.mpr (G9.mpr t);rcases List.eq_nil_or_concat f with h | ⟨r,g,h⟩
 ·rw[h]at i;exact absurd i (by simp)
 ·rw[List.concat_eq_append]at h;subst h;rw[List.getLast?_append,List.getLast?_singleton];show O g=O 0;have m:g<d.length:=G9.mp (j.mem_iff.mp (by simp));have k:ky d g<=ky d 0:=by
   rcases Zb.mp i with h | h
   ·exact(ZL.mp p).2.2 0 h g (by simp)
   ·rw[Zh.mp h];exact Zo _
  cases g with
  |zero=>rfl
  |succ n =>
   exfalso;have k0:ky d 0=0:=by unfold ky;rw[e];rfl
   rw[k0]at k;have q:d.getD (n+1) []=b.getD n []:=by rw[e];rfl
   have s:n<b.length:=by rw[e]at m;simpa using m
   have o:b.getD n []∈b:=getD_mem b n s;have u:Jw (b.getD n [])=[]:=W5.mp (by unfold ky at k;rw[q]at k;lia);have l:=tj (D.ne _ (by rw[e];exact Zw _ o));rw[u]at l;have nf:=D.nf;rw[e,Zf]at nf;exact(ZG.mp nf).2.2 [] (by simp) [] (W2.mpr ⟨_,o,l⟩) M
def xn{d:V0}(D:Od d):cm [aV d]=O (.fr,.lst ((LR d).map T.int)):=by
 have C:=D.len;have it:fT (ae 0) [O (.pu (aV d)),Y,Y]=O (.pu,d.map (ft d)):=pf M;have co:eX 1 (aZ 0) (fT (ae 0)) Y (Q3 1) [O (.pu (aV d)),Y,Y]=O (.fr,.lst (d.map λ_=>T.int 1)) :=
  jx (m:=.pu) (ft d) (λ_=>T.int 1) d it M (by lia) λs F=>⟨[O (.pu (ft d s)),O (.pu (aV d)),Y,Y],rfl,rfl⟩
 have j:∀i,i<d.length->lg (e2 aF (e2 aF (ae 1) (ae 0)) (Q3 1)) (oE d (d.map λ_=>1) Y) i=O (ky d i:Int):=λi g=>by
  unfold lg;have e1:e2 aF (ae 1) (ae 0) (O (.pu (.int i)) :: oE d (d.map λ_=>1) Y)=O (.fr,ft d (d.getD i [])):=by
   rw[bx (x:=(.pu,aV d)) (y:=(.fr,.int i)) M M,ot d i g]
  rw[bx e1 (y:=(.fr,.int 1)) M,Dx];rfl
 have z:u6 (eN dh (af (ae 0) aA)) (e2 aF (e2 aF (ae 1) (ae 0)) (Q3 1)) (oE d (d.map λ_=>1) Y)=O λl=>∃f:Vi,l=f.map (λi:Nat=>T.int (i:Int))/\f.Perm (List.range d.length)/\f.Pairwise (λa b=>(lg (e2 aF (e2 aF (ae 1) (ae 0)) (Q3 1)) (oE d (d.map λ_=>1) Y) b).getD 0<=(lg (e2 aF (e2 aF (ae 1) (ae 0)) (Q3 1)) (oE d (d.map λ_=>1) Y) a).getD 0):=by
  unfold u6;have e:eN dh (af (ae 0) aA) (oE d (d.map λ_=>1) Y)=O (.fr,.int (d.length:Int)):=by
   rw[iM (xs:=[(.pu,aV d)]) M];show O (Md.fr,T.int (((d.map (ft d)).length:Nat):Int))=_;rw[Zv]
  rw[e,Zr];show (O (d.length:Int)).bind _=_;rw[Zr,Zn ⟨⟨by lia,by lia⟩,ZD.mpr λi g=>by rw[j i (by simpa using g)];rfl⟩,Ye]
 have v:∀f:Vi,f.Perm (List.range d.length)->(f.Pairwise (λa b=>(lg (e2 aF (e2 aF (ae 1) (ae 0)) (Q3 1)) (oE d (d.map λ_=>1) Y) b).getD 0<=(lg (e2 aF (e2 aF (ae 1) (ae 0)) (Q3 1)) (oE d (d.map λ_=>1) Y) a).getD 0)↔f.Pairwise (λa b=>ky d b<=ky d a)):=λf pm=>by
  have n:∀i∈f,i<d.length:=λi g=>G9.mp (pm.mem_iff.mp g);constructor
  ·intro h;refine Xu (λ{a b} p o q=>?_) h;rw[j a (n a p),j b (n b o)]at q;exact Int.ofNat_le.mp q
  ·intro h;refine Xu (λ{a b} p o q=>?_) h;rw[j a (n a p),j b (n b o)];exact Int.ofNat_le.mpr q
 have A:mM (aZ 2) (u6 (eN dh (af (ae 0) aA)) (e2 aF (e2 aF (ae 1) (ae 0)) (Q3 1))) bF (oE d (d.map λ_=>1) Y)=O (.nx (oE d (LR d) (O (.pu (.int (0:Nat)))))):=by
  refine xg z ?_ ?_
  ·have pm:=List.mergeSort_perm (List.range d.length) (λa b=>decide (ky d b<=ky d a));refine⟨_,_,rfl,pm,(v _ pm).mpr ?_⟩;have:=List.pairwise_mergeSort (le:=λa b=>decide (ky d b<=ky d a)) (λa b c r t=>by simp at *;lia) (λa b=>by simp;lia) (List.range d.length);exact this.imp λ{a b} h=>of_decide_eq_true h
  ·rintro l ⟨f,rfl,pm,pw⟩;have u:=(v f pm).mp pw;obtain⟨B,r,t,h3⟩:=tL D f [] (d.map λ_=>1) Y (by rw[Zv]) (λi g=>absurd g (by simp)) pm u;rw[h3,C9 D f pm u];have:B=LR d:=by
    refine List.ext_getElem (by rw[r,Zv,IA]) λi g w=>?_;have:=t i (pm.mem_iff.mpr (G9.mpr (by rw[← r];exact g)));rw[ZO,Zi g,XO]at this;rw[this,List.getElem_map,Vh]
   rw[this];rfl
 unfold cm;refine dE M (U:=[O (.pu (aV d)),Y,O (.pu (.int (0:Nat)))]) ?_;refine(show aq _ _ [O (.pu (aV d)),Y,Y]=_ from ?_);rw[ak (U1:=oE d (d.map λ_=>1) Y) (by
  simp only[iF,co,Zr];show O (Out.nx [O (.pu (aV d)),O (.ow (.lst (d.map λ_=>T.int 1))),Y])=O (Out.nx [O (.pu (aV d)),O (.ow (.lst ((d.map λ_=>(1:Int)).map T.int))),Y]);rw[Yw];rfl)]
 rw[ak A];rfl
def xG{m n:Md}(l:V4)(t:T):aF (m,.lst (l++[t])) (n,.int (-1))=O (sub m t):=by
 have:GF ((l++[t]).length) (-1)=O l.length:=by
  unfold GF;rw[Zj (by lia),Zu,ZZ,Zn (by lia)];congr 1;lia
 show (GF ((l++[t]).length) (-1)).bind _=_;rw[this,Zr,JS (Zo _)];simp
def JC(a:Nat->Nat)(C:Vi)(c:Nat):Nat:=((C.filter λd=>decide (d<c)).map a).sum
def yO(b:Nat->Nat){a post:Vi}{c:Nat}(e:(a++c :: post).Pairwise (· < ·)):JC b (a++c :: post) c=(a.map b).sum:=by
 unfold JC;obtain⟨j,g,f⟩:=ZL.mp e;have i:a.filter (λd=>decide (d<c))=a:=List.filter_eq_self.mpr λd hd=>ZR (f d hd c Zx);have h:(c :: post).filter (λd=>decide (d<c))=[]:=Vz.mpr λd hd=>by
  rw[decide_eq_true_iff];rcases Zq.mp hd with z | z
  ·rw[z];exact YZ c
  ·have:=(YY.mp g).1 d z;lia
 rw[Vg,i,h,ZP]
def kE{f:Nat->List Tx}{b post:Vi}{c a:Nat}(e:(b.map λd=>(f d).length).sum<=a)(g:a<(b.map λd=>(f d).length).sum+(f c).length):((b++c :: post).flatMap f)[a]?=(f c)[a-(b.map λd=>(f d).length).sum]?:=by
 rw[List.flatMap_append,List.flatMap_cons,JS (by rw[XF];exact e),XF,Yp (by lia)]
def Au(p:Tx->Bool)(x:Tx):(dZ p x).Pairwise (· < ·):=sI.filter _
abbrev NL(a:V0)(x:Tx)(c:Nat):Nat:=(E (pS a) (x++[c])).length
abbrev JH(a:V0)(x:Tx):T:=.tup ((aX a x ba).map wT)
abbrev JM(a:V0):T:=.lst ((LR a).map T.int)
def C4{a:V0}(D:Od a)(x:Tx)(q:Nat×Nat)(d:q∈aX a x ba):q.2<(LR a).length/\(LR a).getD q.2 0=(NL a x q.1:Int):=by
 rw[gH]at d;obtain⟨c,g,rfl⟩:=Yt.mp d;have b:=of_decide_eq_true (YF.mp g).2;have f:=jK a _ b;refine⟨by rw[Zv,IA];exact f,?_⟩;have e:(LR a).getD (num a (x++[c])) 0=(on a (num a (x++[c])):Int):=by
  rw[ZO,ZT,Zi (by rw[IA];exact f),Vh];rfl
 rw[e,D.Tf _ b]
def yX{a:V0}(D:Od a)(x:Tx)(c:Nat):cL [JH a x,JM a,.str [c]]=O (.fr,.int (JC (NL a x) (dZ (pS a) x) c:Nat)):=by
 have i:ae 0 [O (.pu (JH a x)),O (.pu (JM a)),O (.pu (.str [c]))]=O (.fr,JH a x):=by
  show O (up .pu (JH a x))=_;unfold up;have h:FY (JH a x)=J:=ji _;rw[h,Zn M]
 have co:eX 1 (aZ 0) (fT (ae 0)) (O (e2 oLt (e2 aF (ae 0) (Q3 0)) (ae 3))) (e2 aF (ae 2) (e2 aF (ae 0) (Q3 1))) [O (.pu (JH a x)),O (.pu (JM a)),O (.pu (.str [c]))]=O (.fr,.lst (((aX a x ba).filter λq=>decide (q.1<c)).map λq=>T.int (NL a x q.1:Int))) :=
  n9 (m:=.fr) wT (λq=>decide (q.1<c)) (λq=>T.int (NL a x q.1:Int)) (aX a x ba) (qk i) M (sv _ _) λq b=>⟨[O (.pu (wT q)),O (.pu (JH a x)),O (.pu (JM a)),O (.pu (.str [c]))],(.fr,.bl (GY [q.1] [c])),rfl,by
   rw[bx (x:=(.fr,.str [q.1])) (y:=(.fr,.str [c])) M M];rfl,by
   show O (GY [q.1] [c])=_;rw[GY];by_cases h:q.1<c
   ·rw[Zn h,ZR h]
   ·rw[Zj h,ZJ h,GY,ite_self],λ_=>by
   have k:e2 aF (ae 0) (Q3 1) [O (.pu (wT q)),O (.pu (JH a x)),O (.pu (JM a)),O (.pu (.str [c]))]=O (.fr,.int (q.2:Int)):=by
    rw[bx (x:=(.fr,wT q)) (y:=(.fr,.int 1)) M M,A7]
   obtain⟨g,f⟩:=C4 D x q b;rw[bx (x:=(.pu,JM a)) M k,wK _ q.2 g,f]⟩
 unfold cL;refine dE M (U:=[O (.pu (JH a x)),O (.pu (JM a)),O (.pu (.str [c]))]) ?_;refine(show d8 _ [O (.pu (JH a x)),O (.pu (JM a)),O (.pu (.str [c]))]=_ from ?_);have e:eN rY (af (eX 1 (aZ 0) (fT (ae 0)) (O (e2 oLt (e2 aF (ae 0) (Q3 0)) (ae 3))) (e2 aF (ae 2) (e2 aF (ae 0) (Q3 1)))) aA) [O (.pu (JH a x)),O (.pu (JM a)),O (.pu (.str [c]))]=O (.fr,.int (JC (NL a x) (dZ (pS a) x) c:Nat)):=by
  rw[iM (gh co M)];show (j3 (((aX a x ba).filter λq=>decide (q.1<c)).map λq=>T.int (NL a x q.1:Int))).bind _=_;rw[ints_map (λq:Nat×Nat=>(NL a x q.1:Int)),Zr];have:((aX a x ba).filter λq=>decide (q.1<c)).map (λq=>(NL a x q.1:Int))=(((dZ (pS a) x).filter λd=>decide (d<c)).map (NL a x)).map λn:Nat=>(n:Int):=by
   rw[gH,List.filter_map,Yw,Yw];rfl
  rw[this,← qd];rfl
 simp only[d8,e,Zr]
def wd(a:List (Nat×Nat)):List (T×T):=a.map λp=>(T.str [p.1],T.int (p.2:Int))
def D6(a:List (Nat×Nat)):nr (a.map wT)=O (wd a):=by
 induction a with
 |nil=>rfl
 |cons w a b =>
  show (if gG (T.str [w.1])/\FY (T.int (w.2:Int)) then (nr (a.map wT)).map _ else Y)=_;rw[Zn ⟨rfl,rfl⟩,b];rfl
theorem pX:∀(a acc:List (Nat×Nat)),((acc++a).map (·.1)).Nodup->(wd a).foldl (λd q=>dput d q.1 q.2) (wd acc)=wd (acc++a)
 |[],acc,_=>by rw[ZP];rfl
 |w :: a,acc,h=>by
  have g:w.1∉acc.map (·.1):=λz=>by
   rw[Yy,Zp]at h;exact(ZG.mp h).2.2 w.1 z w.1 Zx M
  have e:dput (wd acc) (T.str [w.1]) (T.int (w.2:Int))=wd (acc++[w]):=by
   unfold dput;rw[Zj (by
    simp only[List.any_eq_true,not_exists,not_and];intro p f;obtain⟨q,b,rfl⟩:=Yt.mp f;simp only[eqT,beq_iff_eq,YE,and_true];intro z;exact g (Yt.mpr ⟨q,b,z⟩))]
   simp[wd]
  show (wd a).foldl _ (dput (wd acc) (T.str [w.1]) (T.int (w.2:Int)))=_;rw[e,pX a (acc++[w]) (by rw[Zk];exact h),Zk];rfl
theorem sR(b:V0)(h:Tx):∀(a:Vi),a.Nodup->((aX b h a).map (·.1)).Sublist a
 |[],_=>by simp[aX]
 |c :: a,e=>by
  obtain⟨g,f⟩:=ZS.mp e;have d:=sR b h a f;have:aX b h (c :: a)=eW b h c++aX b h a:=rfl;rw[this,Yy];unfold eW;split
  ·exact d.cons₂ c
  ·exact d.cons c
def Cu{m:Md}(a:V0)(h:Tx):jz [(m,.tup ((aX a h ba).map wT))]=O (.fr,.dct 0 (wd (aX a h ba))):=by
 show (nr ((aX a h ba).map wT)).map _=_;rw[D6,Ys];have nd:((aX a h ba).map (·.1)).Nodup:=(sR a h ba (by decide)).nodup (by decide);have:=pX (aX a h ba) [] (by simpa using nd);rw[HH]at this;exact congrArg (λz=>O (Md.fr,T.dct 0 z)) this
theorem mU(b:V0)(h:Tx)(c:Nat):∀(d:Vi),bO (wd (aX b h d)) (.str [c])=if c∈d/\h++[c]∈b.flatten then O (.int (num b (h++[c]):Nat)) else Y
 |[]=>by simp[aX,wd,bO]
 |a :: d=>by
  have i:=mU b h c d;have e:aX b h (a :: d)=eW b h a++aX b h d:=rfl;rw[e,wd,Yy,qI,show bO ((aX b h d).map λp=>(T.str [p.1],T.int (p.2:Int))) (.str [c])=_ from i];by_cases q:a=c
  ·subst q;by_cases p:h++[a]∈b.flatten
   ·have f:bO ((eW b h a).map λp=>(T.str [p.1],T.int (p.2:Int))) (.str [a])=O (.int (num b (h++[a]):Nat)):=by rw[eW,Zn p];simp[bO]
    rw[f];exact(Zn ⟨Zx,p⟩).symm
   ·have f:bO ((eW b h a).map λp=>(T.str [p.1],T.int (p.2:Int))) (.str [a])=Y:=by rw[eW,Zj p];rfl
    rw[f,Zj λz=>p z.2];exact(Zj λz=>p z.2).symm
  ·have j:bO ((eW b h a).map λp=>(T.str [p.1],T.int (p.2:Int))) (.str [c])=Y:=by
    unfold eW;split
    ·simp[bO,q]
    ·rfl
   rw[j];have g:¬c=a:=λz=>q z.symm;by_cases z:c∈d/\h++[c]∈b.flatten
   ·rw[Zn z,Zn ⟨Zw _ z.1,z.2⟩];rfl
   ·rw[Zj z,Zj λy=>z ⟨(Zq.mp y.1).resolve_left g,y.2⟩];rfl
def wl(a:V0):Tx->Tx->Vi
 |_,[]=>[]
 |u,c :: b=>if u++[c]∈a.flatten then num a (u++[c]) :: wl a (u++[c]) b else []
structure Wk(st:V0):Prop where
 ne:∀s∈st,s≠[]
 len:st.length<=117129
 z0:num st []=0
 nil:[]∈st.flatten
 az:∀x∈st.flatten,Az x
 ext:∀u∈st.flatten,∀c,(FC (st.getD (num st u) [])++[c]∈st.flatten↔u++[c]∈st.flatten)/\(u++[c]∈st.flatten->num st (FC (st.getD (num st u) [])++[c])=num st (u++[c]))
def AL:∀c,c<123->97<=c->c∈ba:=by decide
def Wk.way{a:V0}(W:Wk a){u:Tx}(b:u∈a.flatten)(c:Nat):bO (wd (aX a (FC (a.getD (num a u) [])) ba)) (.str [c])=if u++[c]∈a.flatten then O (.int (num a (u++[c]):Nat)) else Y:=by
 rw[mU];obtain⟨e1,e2⟩:=W.ext u b c;by_cases p:u++[c]∈a.flatten
 ·have d:=W.az _ p c (by simp);rw[Zn p,Zn ⟨AL c (by lia) d.1,e1.mpr p⟩,e2 p]
 ·rw[Zj p,Zj λz=>p (e1.mp z.2)]
def Fc{m n:Md}(a:V0)(s:List Tx):aF (m,ft a s) (n,.int 3)=O (.fr,.tup ((aX a (FC s) ba).map wT)):=by
 have b:=ji (aX a (FC s) ba);exact xV a s
abbrev iL(a:Vi):T:=.lst (a.map λi:Nat=>T.int (i:Int))
abbrev E5(d:V0)(w:Tx)(e:Vi)(b a:V1):Env:=[O (.pu (aV d)),O (.pu (.str w)),O (.ow (iL e)),b,a]
def oN{a b:Ex}{U:Env}{m n:Md}{k:T}{l:List (T×T)}(f:a U=O (m,k))(e:b U=O (n,.dct 0 l))(d:gG k=J):e2 eT a b U=O (.fr,.bl (!(bO l k).isSome)):=by
 rw[bx f e];simp[d]
def wV{m n:Md}{k v:T}{l:List (T×T)}(b:gG k=J)(h:bO l k=O v)(a:FY v=J):Jv (m,.dct 0 l) (n,k)=O (.fr,v):=by
 show (if gG k=J then (bO l k).map (sub m) else Y)=_;rw[Zn b,h];simp[a]
def yW{a:V0}(W:Wk a)(w:Tx){u:Tx}(e:u∈a.flatten)(b:Vi)(c:Nat)(d:V1) :
  aL 4 (eN jz (af (e2 aF (e2 aF (ae 0) (e2 aF (ae 2) (Q3 (-1)))) (Q3 3)) aA)) (E5 a w (b++[num a u]) (O (.pu (.str [c]))) d)=O (.nx (E5 a w (b++[num a u]) (O (.pu (.str [c]))) (O (.pu (.dct 0 (wd (aX a (FC (a.getD (num a u) [])) ba))))))):=by
 have f:=jK a u e;have h:e2 aF (ae 2) (Q3 (-1)) (E5 a w (b++[num a u]) (O (.pu (.str [c]))) d)=O (.fr,.int (num a u:Nat)):=by
  rw[bx (x:=(.bo,.lst ((b.map λi:Nat=>T.int (i:Int))++[.int (num a u:Nat)]))) (y:=(.fr,.int (-1))) (by simp) M,xG];rfl
 have g:e2 aF (e2 aF (ae 0) (e2 aF (ae 2) (Q3 (-1)))) (Q3 3) (E5 a w (b++[num a u]) (O (.pu (.str [c]))) d)=O (.fr,.tup ((aX a (FC (a.getD (num a u) [])) ba).map wT)):=by
  rw[bx (x:=(.fr,ft a (a.getD (num a u) []))) (y:=(.fr,.int 3)) (by rw[bx (x:=(.pu,aV a)) M h,ot a _ f]) M,Fc]
 rw[aE (m:=.fr) (t:=.dct 0 (wd (aX a (FC (a.getD (num a u) [])) ba))) (by rw[iM (gh g M),Cu]) (by decide) (by simp)];rfl
def UE{a:V0}(W:Wk a)(w:Tx)(e:Tx):∀(u:Tx)(b:Vi)(f d:V1),u∈a.flatten->b.length+e.length<1000000 →
  (∃s z,forL (aZ 3) bV (e.map λc=>T.str [c]) (E5 a w (b++[num a u]) f d)=O (.nx (E5 a w (b++[num a u]++wl a u e) s z))) ∨
  ∃U',forL (aZ 3) bV (e.map λc=>T.str [c]) (E5 a w (b++[num a u]) f d)=O (.rt (.fr,iL (b++[num a u]++wl a u e)) U'):=by
 induction e with
 |nil=>exact λu b f d _ _=>.inl ⟨f,d,by simp[forL,wl]⟩
 |cons c e q =>
  intro u b f d o r;rw[Zl]at r;have g:=W.way o c;have h:=yW W w o b c d;have j:e2 eT (ae 3) (ae 4) (E5 a w (b++[num a u]) (O (.pu (.str [c]))) (O (.pu (.dct 0 (wd (aX a (FC (a.getD (num a u) [])) ba))))))=O (.fr,.bl (!(bO (wd (aX a (FC (a.getD (num a u) [])) ba)) (.str [c])).isSome)):=oN (m:=.fr) (n:=.pu) M M M;by_cases p:u++[c]∈a.flatten
  ·rw[Zn p]at g;have bo:bV (E5 a w (b++[num a u]) (O (.pu (.str [c]))) d)=O (.nx (E5 a w (b++[num a u]++[num a (u++[c])]) (O (.pu (.str [c]))) (O (.pu (.dct 0 (wd (aX a (FC (a.getD (num a u) [])) ba))))))):=by
    unfold bV;rw[ak h,ak (U1:=E5 a w (b++[num a u]) (O (.pu (.str [c]))) (O (.pu (.dct 0 (wd (aX a (FC (a.getD (num a u) [])) ba)))))) (by rw[jy (m:=.fr) (by rw[j,g];rfl)];rfl)];rw[jF (l:=(b++[num a u]).map λi:Nat=>T.int (i:Int)) (t:=.int (num a (u++[c]):Nat)) M (by rw[bx (x:=(.pu,.dct 0 (wd (aX a (FC (a.getD (num a u) [])) ba)))) (y:=(.fr,.str [c])) M M];exact wV M g M) (by rw[Zv,Zu,ZZ];lia)];simp
   have hw:wl a u (c :: e)=num a (u++[c]) :: wl a (u++[c]) e:=by rw[wl,Zn p]
   rw[hw];have:=q (u++[c]) (b++[num a u]) (O (.pu (.str [c]))) (O (.pu (.dct 0 (wd (aX a (FC (a.getD (num a u) [])) ba))))) p (by rw[Zu,ZZ];lia);rw[Zp,bD (U1:=E5 a w (b++[num a u]) (O (.pu (.str [c]))) d) M bo];simpa[Zk] using this
  ·rw[Zj p]at g;right;have hw:wl a u (c :: e)=[]:=by rw[wl,Zj p]
   rw[hw,ZP];have bo:bV (E5 a w (b++[num a u]) (O (.pu (.str [c]))) d)=O (.rt (.fr,iL (b++[num a u])) [O (.pu (aV a)),O (.pu (.str w)),Y,O (.pu (.str [c])),O (.pu (.dct 0 (wd (aX a (FC (a.getD (num a u) [])) ba))))]):=by
    unfold bV;rw[ak h,jv (U':=[O (.pu (aV a)),O (.pu (.str w)),Y,O (.pu (.str [c])),O (.pu (.dct 0 (wd (aX a (FC (a.getD (num a u) [])) ba))))]) (v:=(.fr,iL (b++[num a u]))) (by rw[jH (m:=.fr) (by rw[j,g];rfl)];rfl)]
   exact⟨_,zR (U1:=E5 a w (b++[num a u]) (O (.pu (.str [c]))) d) M bo⟩
def xq{a:V0}(W:Wk a)(w:Tx)(hw:w.length<=1000):g0 [aV a,.str w]=O (.fr,iL (0 :: wl a [] w)):=by
 have key:=UE W w w [] [] Y Y W.nil (by simp;lia);rw[HH,W.z0]at key;have b:aq (iF 2 (gP (af (Q3 0) aA))) (aq (dS (aZ 3) (fT (ae 1)) bV) (ir 2)) [O (.pu (aV a)),O (.pu (.str w)),Y,Y,Y]=aq (dS (aZ 3) (fT (ae 1)) bV) (ir 2) (E5 a w [0] Y Y):=by
  rw[ak (U1:=E5 a w [0] Y Y) M]
 have it:dS (aZ 3) (fT (ae 1)) bV (E5 a w [0] Y Y)=forL (aZ 3) bV (w.map λc=>T.str [c]) (E5 a w [0] Y Y):=fQ M;unfold g0;rcases key with⟨f,d,e⟩ | ⟨g,e⟩
 ·refine dE M (U:=[O (.pu (aV a)),O (.pu (.str w)),Y,f,d]) ?_;refine(show aq _ _ [O (.pu (aV a)),O (.pu (.str w)),Y,Y,Y]=_ from ?_);rw[b,ak (it.trans e)];rfl
 ·refine dE M (U:=g) ?_;refine(show aq _ _ [O (.pu (aV a)),O (.pu (.str w)),Y,Y,Y]=_ from ?_);rw[b,jv (it.trans e)];rfl
def DY{c a b:Ex}{U:Env}{m:Md}(h:c U=O (m,.bl J)):Lv c a b U=a U:=by simp only[Lv,h,Zr];rfl
def Em{c a b:Ex}{U:Env}{m:Md}(h:c U=O (m,.bl S)):Lv c a b U=b U:=by simp only[Lv,h,Zr];rfl
section
variable{st:V0}(pc:∀x c,x++[c]∈st.flatten->x∈st.flatten)
include pc
theorem nM:∀(y x:Tx),x++y∈st.flatten->x∈st.flatten
 |[],x,h=>by rw[ZP]at h;exact h
 |c :: y,x,h=>pc x c (nM y (x++[c]) (by rw[Zk];exact h))
theorem wy:∀(a u:Tx),u++a∈st.flatten->(wl st u a).length=a.length/\(num st u :: wl st u a).getLast?=O (num st (u++a))
 |[],u,_=>⟨rfl,by rw[ZP];rfl⟩
 |c :: a,u,h=>by
  have b:u++[c]++a∈st.flatten:=by rw[Zk];exact h
  obtain⟨e,d⟩:=wy a (u++[c]) b;have h3:=nM pc a (u++[c]) b;rw[wl,Zn h3];refine⟨by rw[Zl,Zl,e],?_⟩;rw[List.getLast?_cons_cons,d,Zk];rfl
omit pc in
theorem Bl:∀(a u:Tx),u++a∉st.flatten->u∈st.flatten->(wl st u a).length<a.length
 |[],u,h,b=>by rw[ZP]at h;exact absurd b h
 |c :: a,u,h,b=>by
  by_cases q:u++[c]∈st.flatten
  ·have:=Bl a (u++[c]) (by rw[Zk];exact h) q;rw[wl,Zn q,Zl,Zl];lia
  ·rw[wl,Zj q,Zl];exact Nat.succ_pos _
def Kw(a:V0)(w:Tx):T:=if w∈a.flatten then .int (num a w:Nat) else .non
theorem zA(W:Wk st)(w:Tx)(hw:w.length<=1000):dy [aV st,.str w]=O (.fr,Kw st w):=by
 have d:=xq W w hw;have z0:=W.z0;unfold dy;refine dE M (U:=[O (.pu (aV st)),O (.pu (.str w)),O (.pu (iL (0 :: wl st [] w)))]) ?_;refine(show aq _ _ [O (.pu (aV st)),O (.pu (.str w)),Y]=_ from ?_);rw[ak (U1:=[O (.pu (aV st)),O (.pu (.str w)),O (.pu (iL (0 :: wl st [] w)))]) (by
  rw[aE (aM (xs:=[(.pu,aV st),(.fr,.str w)]) M d) (by decide) (by decide:2<3)];rfl)]
 have c1:e2 oEq (eN dh (af (ae 2) aA)) (e2 bq (eN dh (af (ae 1) aA)) (Q3 1)) [O (.pu (aV st)),O (.pu (.str w)),O (.pu (iL (0 :: wl st [] w)))]=O (.fr,.bl (((((0 :: wl st [] w).map λi:Nat=>T.int (i:Int)).length:Nat):Int)==(w.length:Int)+1)):=rfl;rw[Zv,Zl]at c1;have e:Lv (e2 oEq (eN dh (af (ae 2) aA)) (e2 bq (eN dh (af (ae 1) aA)) (Q3 1))) (e2 aF (ae 2) (Q3 (-1))) (eC .non) [O (.pu (aV st)),O (.pu (.str w)),O (.pu (iL (0 :: wl st [] w)))]=O (.fr,Kw st w):=by
  unfold Kw;by_cases h:w∈st.flatten
  ·obtain⟨b,a⟩:=wy pc w [] (by rw[HH];exact h);rw[Zn h];rw[b,show ((((w.length+1:Nat):Int))==(w.length:Int)+1)=J from beq_iff_eq.mpr (by lia)]at c1;rw[DY c1];rw[z0,HH]at a;have e1:ae 2 [O (.pu (aV st)),O (.pu (.str w)),O (.pu (iL (0 :: wl st [] w)))]=O (.pu,iL (0 :: wl st [] w)):=rfl;rw[bx e1 (y:=(.fr,.int (-1))) M];obtain⟨l,f⟩:∃l,0 :: wl st [] w=l++[num st w]:=List.getLast?_eq_some_iff.mp a;rw[iL,f,Yy,Zp,YI,xG];rfl
  ·have b:=Bl w [] (by rw[HH];exact h) W.nil;rw[show ((((wl st [] w).length+1:Nat):Int)==(w.length:Int)+1)=S from beq_eq_false_iff_ne.mpr (by lia)]at c1;rw[Zj h,Em c1];rfl
 simp only[d8,e,Zr]
end
abbrev JI(a:V0):List Tx:=E (pS a) []
def rk(a:V0):Tx->Tx->Nat
 |_,[]=>0
 |u,c :: b=>1+JC (NL a u) (dZ (pS a) u) c+rk a (u++[c]) b
theorem Bp{a:V0}(D:Od a):∀(b u:Tx),u++b∈a.flatten->(E (pS a) u)[rk a u b]?=O (u++b)
 |[],u,h=>by
  rw[AH _ D.IK,ZP];rfl
 |c :: b,u,h=>by
  have e:u++[c]++b∈a.flatten:=by rw[Zk];exact h
  have d:=Bp D b (u++[c]) e;have g:u++[c]∈a.flatten:=nM (λx c i=>of_decide_eq_true (D.cl x c (ZR i))) b (u++[c]) e;have j:c∈dZ (pS a) u:=YF.mpr ⟨D.ab _ (ZR g) c (by simp),ZR g⟩;obtain⟨pre,post,hC⟩:=WS j;have pw:=Au (pS a) u;have l:JC (NL a u) (dZ (pS a) u) c=(pre.map (NL a u)).sum:=by rw[hC]at pw ⊢;exact yO _ pw
  have m:=(ZW.mp d).1;rw[rk,l,AH _ D.IK,show 1+(pre.map (NL a u)).sum+rk a (u++[c]) b=((pre.map (NL a u)).sum+rk a (u++[c]) b)+1 by lia,X1,hC,kE (f:=λc=>E (pS a) (u++[c])) (by show (pre.map (NL a u)).sum<=_;lia) (by show _<(pre.map (NL a u)).sum+(E (pS a) (u++[c])).length;lia)];show (E (pS a) (u++[c]))[(pre.map (NL a u)).sum+rk a (u++[c]) b-(pre.map (NL a u)).sum]?=_;rw[YN,d,Zk];rfl
abbrev E6(b:V0)(w:Tx)(a:Int)(e d:V1):Env:=[O (.pu (aV b)),O (.pu (.str w)),O (.pu (JM b)),O (.pu (.int a)),e,d]
def zq{b:V0}(D:Od b)(w:Tx)(a:Nat)(u:Tx)(d:u∈b.flatten)(c:Nat):cO (E6 b w a (O (.pu (.str [c]))) (O (.pu (.int (num b u:Nat)))))=O (.nx (E6 b w ((a+(1+JC (NL b u) (dZ (pS b) u) c):Nat):Int) (O (.pu (.str [c]))) (O (.pu (.int (num b u:Nat)))))):=by
 have e1:e2 aF (e2 aF (ae 0) (ae 5)) (Q3 3) (E6 b w a (O (.pu (.str [c]))) (O (.pu (.int (num b u:Nat)))))=O (.fr,JH b u):=by
  rw[bx (x:=(.fr,ft b (b.getD (num b u) []))) (y:=(.fr,.int 3)) (by
   rw[bx (x:=(.pu,aV b)) (y:=(.fr,.int (num b u:Nat))) M M,ot b _ (jK b _ d)]) M,xV,D.way _ d]
 unfold cO;rw[aE (m:=.fr) (t:=.int ((a+(1+JC (NL b u) (dZ (pS b) u) c):Nat):Int)) (by
  rw[bx (x:=(.fr,.int ((a:Int)+1))) (y:=(.fr,.int (JC (NL b u) (dZ (pS b) u) c:Nat))) M (aM (gh e1 (gh (x:=(.pu,JM b)) M (gh (x:=(.fr,.str [c])) M M))) (yX D u c))];show O (Md.fr,T.int ((a:Int)+1+(JC (NL b u) (dZ (pS b) u) c:Nat)))=_;rw[show (a:Int)+1+(JC (NL b u) (dZ (pS b) u) c:Nat)=((a+(1+JC (NL b u) (dZ (pS b) u) c):Nat):Int) by lia]) (by decide) (by decide:3<6)]
 rfl
theorem tF{b:V0}(D:Od b)(w:Tx):∀(d u:Tx)(a:Nat)(g f:V1),u++d∈b.flatten →
  ∃r q,forL (iN [aZ 4,aZ 5]) cO (lQ (d.map λc=>T.str [c]) ((num b u :: wl b u d).map λi:Nat=>T.int (i:Int))) (E6 b w a g f)=O (.nx (E6 b w ((a+rk b u d:Nat):Int) r q))
 |[],u,a,g,f,_=>⟨g,f,rfl⟩
 |c :: d,u,a,g,f,h=>by
  have pc:∀x c,x++[c]∈b.flatten->x∈b.flatten:=λx c o=>of_decide_eq_true (D.cl x c (ZR o));have j:u++[c]++d∈b.flatten:=by rw[Zk];exact h
  have l:u++[c]∈b.flatten:=nM pc d (u++[c]) j;have p:u∈b.flatten:=pc u c l;obtain⟨n,m,e⟩:=tF D w d (u++[c]) (a+(1+JC (NL b u) (dZ (pS b) u) c)) (O (.pu (.str [c]))) (O (.pu (.int (num b u:Nat)))) j;refine⟨n,m,?_⟩;have hw:wl b u (c :: d)=num b (u++[c]) :: wl b (u++[c]) d:=by rw[wl,Zn l]
  rw[hw];show forL (iN [aZ 4,aZ 5]) cO (T.tup [.str [c],.int (num b u:Nat)] :: lQ (d.map λc=>T.str [c]) ((num b (u++[c]) :: wl b (u++[c]) d).map λi:Nat=>T.int (i:Int))) (E6 b w a g f)=_;rw[bD (U1:=E6 b w a (O (.pu (.str [c]))) (O (.pu (.int (num b u:Nat))))) M (zq D w a u p c),e,rk,Xf a]
def KA(a:V0)(w:Tx):T:=if w∈a.flatten/\w≠[] then .int ((rk a [] w:Int)-1) else .non
def xX{b:V0}(D:Od b)(W:Wk b)(w:Tx)(hw:w.length<=1000):dG [aV b,.str w]=O (.fr,KA b w):=by
 have pc:∀x c,x++[c]∈b.flatten->x∈b.flatten:=λx c r=>of_decide_eq_true (D.cl x c (ZR r));have p:=zA pc W w hw;have o:e2 oEq (ae 1) (eC (.str [])) [O (.pu (aV b)),O (.pu (.str w)),Y,Y,Y,Y]=O (.fr,.bl (decide (w=[]))):=by
  cases w with
  |nil=>rfl
  |cons a w=>rfl
 have n:mz (aP dy (af (ae 0) (af (ae 1) aA))) [O (.pu (aV b)),O (.pu (.str w)),Y,Y,Y,Y]=O (.fr,.bl (isN (Kw b w))):=by
  unfold mz;rw[aM (xs:=[(.pu,aV b),(.fr,.str w)]) M p];rfl
 have d:M3 (e2 oEq (ae 1) (eC (.str []))) (mz (aP dy (af (ae 0) (af (ae 1) aA)))) [O (.pu (aV b)),O (.pu (.str w)),Y,Y,Y,Y]=O (.fr,.bl (decide (w=[])||isN (Kw b w))):=by
  unfold M3;rw[o,Zr,n];cases decide (w=[])<;>rfl
 by_cases h:w∈b.flatten/\w≠[]
 ·have f:KA b w=.int ((rk b [] w:Int)-1):=Zn h;have g:(decide (w=[])||isN (Kw b w))=S:=by
   rw[ZJ h.2];unfold Kw;rw[Zn h.1];rfl
  rw[g]at d;obtain⟨l,j,e⟩:=tF D w w [] 0 Y Y (by rw[HH];exact h.1);rw[W.z0]at e;unfold dG;refine dE M (U:=E6 b w (rk b [] w:Nat) l j) ?_;refine(show aq _ _ [O (.pu (aV b)),O (.pu (.str w)),Y,Y,Y,Y]=_ from ?_);rw[ak (U1:=[O (.pu (aV b)),O (.pu (.str w)),Y,Y,Y,Y]) (by rw[jy (m:=.fr) d];rfl)];rw[ak (U1:=[O (.pu (aV b)),O (.pu (.str w)),O (.pu (JM b)),Y,Y,Y]) (by
   rw[aE (aM (xs:=[(.pu,aV b)]) M (xn D)) (by decide) (by decide:2<6)];rfl)]
  rw[ak (U1:=E6 b w ((0:Nat):Int) Y Y) M];rw[ak (U1:=E6 b w (rk b [] w:Nat) l j) (by
   have it:t5 (ae 1) (aP g0 (af (ae 0) (af (ae 1) aA))) (E6 b w ((0:Nat):Int) Y Y)=O (.fr,lQ (w.map λc=>T.str [c]) ((0 :: wl b [] w).map λi:Nat=>T.int (i:Int))):=by
    unfold t5;rw[show ae 1 (E6 b w ((0:Nat):Int) Y Y)=O (.fr,.str w) from rfl,Zr,aM (xs:=[(.pu,aV b),(.fr,.str w)]) M (xq W w hw),Zr];rfl
   rw[fQ it,e,Y3])]
  rw[f];rfl
 ·have f:KA b w=.non:=Zj h;have g:(decide (w=[])||isN (Kw b w))=J:=by
   by_cases q:w=[]
   ·rw[ZR q];rfl
   ·unfold Kw;rw[Zj λz=>h ⟨z,q⟩];exact Bool.or_true _
  rw[g]at d;unfold dG;refine dE M (U:=[O (.pu (aV b)),O (.pu (.str w)),Y,Y,Y,Y]) ?_;refine(show aq _ _ [O (.pu (aV b)),O (.pu (.str w)),Y,Y,Y,Y]=_ from ?_);rw[jv (v:=(.fr,.non)) (U':=[O (.pu (aV b)),O (.pu (.str w)),Y,Y,Y,Y]) (by rw[jH (m:=.fr) d];rfl),f]
abbrev FT(a:V0):List Tx:=(JI a).drop 1
abbrev FZ(a:V0):T:=.dct 0 (nT (nums 0 ((FT a).map λw=>[w])))
theorem lq:∀l:List Tx,(l.map λw=>[w]).flatten=l
 |[]=>rfl
 |w :: l=>by rw[Zp,Zf,lq l];rfl
def BR{l:List Tx}{w:Tx}(h:w∈l):l[num (l.map λw=>[w]) w]?=O w:=by
 have d:w∈(l.map λw=>[w]).flatten:=by rw[lq];exact h
 have b:=kh _ w d;have a:=jK _ w d;rw[Zv]at a;rw[ZO,ZT,Zi a]at b;rw[Zi a];exact congrArg O (Zh.mp b).symm
def rh(d:V0):(JI d).Nodup:=(rK (pS d) 120 []).imp λ{a b} h e=>by rw[e,ou]at h;cases h
def yM{a:V0}(D:Od a)(x:Tx):x∈JI a↔x∈a.flatten:=by
 have e:([]:Tx)∈a.flatten:=by obtain⟨b,d⟩:=D.z0;rw[d];simp
 constructor
 ·exact λh=>of_decide_eq_true (vT (pS a) 120 [] x (ZR e) h)
 ·exact λh=>gr (pS a) D.cl D.ab 120 [] x (ZR h) (D.IK x (ZR h))
def qr{a:V0}(D:Od a):JI a=[] :: FT a:=by
 have:JI a=[] :: (dZ (pS a) []).flatMap λc=>E (pS a) ([]++[c]):=AH _ D.IK [];rw[FT,this];rfl
def i0{a:V0}(D:Od a)(x:Tx):x∈FT a↔x∈a.flatten/\x≠[]:=by
 have nd:=rh a;have b:=yM D x;rw[qr D]at nd b;rw[← b];constructor
 ·exact λh=>⟨Zw _ h,λe=>(ZS.mp nd).1 (e ▸ h)⟩
 ·exact λ⟨h,e⟩=>(Zq.mp h).resolve_left e
def BB{a:V0}(D:Od a)(w:Tx)(h:w∈a.flatten)(d:w≠[]):((rk a [] w:Int)-1)=(num ((FT a).map λw=>[w]) w:Nat):=by
 have b:=Bp D w [] (by rw[HH];exact h);have e:=BR ((i0 D w).mpr ⟨h,d⟩);have h3:(JI a)[num ((FT a).map λw=>[w]) w+1]?=O w:=by rw[qr D,X1];exact e
 rw[HH]at b;have nd:=rh a;have:=(List.getElem?_inj (ZW.mp b).1 nd).mp ((show (JI a)[rk a [] w]?=O w from b).trans h3.symm);lia
def sW{a:V0}(D:Od a)(W:Wk a)(w:Tx)(hw:w.length<=1000):cM [aV a,FZ a,.str w]=O (.fr,.bl J):=by
 have no:=xX D W w hw;have d:=jD ((FT a).map λw=>[w]) w 0;rw[lq]at d;unfold cM;refine dE M (U:=[O (.pu (aV a)),O (.pu (FZ a)),O (.pu (.str w)),O (.pu (KA a w))]) ?_;refine(show aq _ _ [O (.pu (aV a)),O (.pu (FZ a)),O (.pu (.str w)),Y]=_ from ?_);rw[ak (U1:=[O (.pu (aV a)),O (.pu (FZ a)),O (.pu (.str w)),O (.pu (KA a w))]) (by
  rw[aE (aM (xs:=[(.pu,aV a),(.fr,.str w)]) M no) (by decide) (by decide:3<4)];rfl)]
 have b:e2 eT (ae 2) (ae 1) [O (.pu (aV a)),O (.pu (FZ a)),O (.pu (.str w)),O (.pu (KA a w))]=O (.fr,.bl (!(bO (nT (nums 0 ((FT a).map λw=>[w]))) (.str w)).isSome)):=oN (m:=.fr) (n:=.pu) M M M;by_cases h:w∈FT a
 ·have e:=(i0 D w).mp h;have f:KA a w=.int (num ((FT a).map λw=>[w]) w:Nat):=by unfold KA;rw[Zn e,BB D w e.1 e.2]
  rw[Zn h,Y3]at d;rw[f]at b ⊢;rw[d]at b;rw[ak (U1:=[O (.pu (aV a)),O (.pu (FZ a)),O (.pu (.str w)),O (.pu (.int (num ((FT a).map λw=>[w]) w:Nat)))]) (by
   rw[jy (m:=.fr) b];rfl)]
  have ix:e2 Jv (ae 1) (ae 2) [O (.pu (aV a)),O (.pu (FZ a)),O (.pu (.str w)),O (.pu (.int (num ((FT a).map λw=>[w]) w:Nat)))]=O (.fr,.int (num ((FT a).map λw=>[w]) w:Nat)):=by
   rw[bx (x:=(.pu,FZ a)) (y:=(.fr,.str w)) M M,wV M d M]
  have eq:e2 oEq (ae 3) (e2 Jv (ae 1) (ae 2)) [O (.pu (aV a)),O (.pu (FZ a)),O (.pu (.str w)),O (.pu (.int (num ((FT a).map λw=>[w]) w:Nat)))]=O (.fr,.bl J):=by
   rw[bx (x:=(.fr,.int (num ((FT a).map λw=>[w]) w:Nat))) M ix];exact ql M
  have i:Mx .int (ae 3) [O (.pu (aV a)),O (.pu (FZ a)),O (.pu (.str w)),O (.pu (.int (num ((FT a).map λw=>[w]) w:Nat)))]=O (.fr,.bl J):=rfl;have g:pW (Mx .bool (ae 3)) [O (.pu (aV a)),O (.pu (FZ a)),O (.pu (.str w)),O (.pu (.int (num ((FT a).map λw=>[w]) w:Nat)))]=O (.fr,.bl J):=rfl;simp only[d8,iV,i,g,eq,Zr]
 ·have f:KA a w=.non:=Zj λz=>h ((i0 D w).mpr z);rw[Zj h]at d;rw[f]at b ⊢;rw[d]at b;rw[jv (v:=(.fr,.bl J)) (U':=[O (.pu (aV a)),O (.pu (FZ a)),O (.pu (.str w)),O (.pu .non)]) (by rw[jH (m:=.fr) b];rfl)]
end T27
end
section
namespace T27
open VS
def kZ(t:Tx)(h:iE t):eR [.str t]=O (.fr,.tup [.int t.length,.str t]):=by
 have a:=h.1;simp[eR,fn,dh,Dl,qb];rw[Zn (by decide)];rfl
end T27
end
section
namespace T27
open VS td
def DW{α:Type}(t:List α):cut t (O 1) Y=t.drop 1:=by
 unfold cut clip;simp only[show ¬((1:Int)<0) by lia,if_false];by_cases h:1<=t.length
 ·rw[Ym (by simpa using h),show (1:Int).toNat=1 from rfl,Jd (by simp)]
 ·have:t=[]:=W5.mp (by lia);subst this;rfl
def Ar{α β:Type}(f:α->β)(l:List α)(a b:Option Int):cut (l.map f) a b=(cut l a b).map f:=by
 unfold cut;rw[Zv,List.map_take,List.map_drop]
def Ao{α:Type}{l:List α}{a b:Option Int}{x:α}(h:x∈cut l a b):x∈l:=by
 unfold cut at h;exact Yc (Yi h)
def iA{α:Type}(l:List α)(a b:Option Int):(cut l a b).length<=l.length:=by
 unfold cut;rw[ZM,ZE];lia
def D5{x:Tx}(h:Az x)(a:x.length<=120):K4 x=J:=by
 unfold K4;rw[ZR (show x.length<=fC from ZU a (by decide)),Vl,ZD];intro c b;exact ZR (WX (h c b).2 (by decide))
def qM{m n:Md}{s t:Tx}(h:s.length+t.length<=16777216):bq (m,.str s) (n,.str t)=O (.fr,.str (s++t)):=Zn h
abbrev HC(l:List Tx):T:=.lst (l.map T.str)
abbrev lE(f:Vb)(h:List Tx)(a2 a3:V1)(a:V0)(g:List Tx)(e d b m n i j l:V1):Env:=[O (.pu (.scr f)),O (.pu (HC h)),a2,a3,O (.pu (aV a)),O (.pu (aV a)),O (.pu (HC g)),e,d,b,m,n,i,j,l]
def xZ{m n:Md}(l:List Tx)(i:Nat)(w:Tx)(h:l[i]?=O w):aF (m,HC l) (n,.int (i:Int))=O (.fr,.str w):=by
 have a:=(ZW.mp h).1;show (GF ((l.map T.str).length) (i:Int)).bind _=_;rw[je (by rw[Zv];exact a),Zr,ZT,h];rfl
theorem si(b:Vb)(f:List Tx)(a2 a3:V1)(a:V0)(d:List Tx):∀(l:List Tx)(k:Nat)(m:List (Tx×Nat))(i g:V1),(m.map (·.1)++l).Nodup->m.length+l.length<16777216 →
  ∃r s,forL (iN [aZ 8,aZ 9]) g8 (d9 k (l.map T.str)) (lE b f a2 a3 a d (O (.ow (.dct 0 (nT m)))) i g Y Y Y Y Y)=O (.nx (lE b f a2 a3 a d (O (.ow (.dct 0 (nT (m++nums k (l.map λw=>[w])))))) r s Y Y Y Y Y))
 |[],k,m,i,g,_,_=>⟨i,g,by show O _=O _;rw[show nums k (([]:List Tx).map λw=>[w])=[] from rfl,ZP]⟩
 |w :: l,k,m,i,g,nd,q=>by
  rw[Zl]at q;have hw:w∉m.map (·.1):=λh=>(ZG.mp nd).2.2 w h w Zx M;have p:g8 (lE b f a2 a3 a d (O (.ow (.dct 0 (nT m)))) (O (.pu (.int k))) (O (.pu (.str w))) Y Y Y Y Y)=O (.nx (lE b f a2 a3 a d (O (.ow (.dct 0 (nT (m++[(w,k)]))))) (O (.pu (.int k))) (O (.pu (.str w))) Y Y Y Y Y)):=by
   unfold g8;rw[sE (m:=.fr) (n:=.fr) (l:=nT m) (kv:=.str w) (v:=.int k) M M M M M (by unfold nT;rw[Zv];lia),tU m w k hw];rfl
  obtain⟨o,j,e⟩:=si b f a2 a3 a d l (k+1) (m++[(w,k)]) (O (.pu (.int k))) (O (.pu (.str w))) (by
   rw[Yy,Zk];exact nd) (by rw[Zu,ZZ];lia)
  refine⟨o,j,?_⟩;show forL (iN [aZ 8,aZ 9]) g8 (T.tup [.int k,.str w] :: d9 (k+1) (l.map T.str)) _=_;rw[bD (U1:=lE b f a2 a3 a d (O (.ow (.dct 0 (nT m)))) (O (.pu (.int k))) (O (.pu (.str w))) Y Y Y Y Y) M p,e,Zk];rfl
section
variable{st:V0}(D:Od st)(W:Wk st)(ns:Vb)(bk:List Tx)(a2 a3:V1)(js:List Tx)(z9 FV:V1)
include D W
theorem Tq(a f b d:V1):∀(g:List Tx),(∀t∈g,t.length<=1000)->∀i:V1,∃n,forL (aZ 14) i5 (g.map T.str) (lE ns bk a2 a3 st js (O (.pu (FZ st))) a z9 FV f b d i)=O (.nx (lE ns bk a2 a3 st js (O (.pu (FZ st))) a z9 FV f b d n))
 |[],_,i=>⟨i,rfl⟩
 |t :: g,h,i=>by
  have e:i5 (lE ns bk a2 a3 st js (O (.pu (FZ st))) a z9 FV f b d (O (.pu (.str t))))=O (.nx (lE ns bk a2 a3 st js (O (.pu (FZ st))) a z9 FV f b d (O (.pu (.str t))))):=by
   unfold i5;rw[jy (m:=.fr) (by
    unfold pW;rw[aM (xs:=[(.pu,aV st),(.pu,FZ st),(.fr,.str t)]) M (sW D W t (h t Zx))];rfl)]
   rfl
  obtain⟨y,l⟩:=Tq a f b d g (λx j=>h x (Zw _ j)) (O (.pu (.str t)));exact⟨y,by rw[Zp,bD (U1:=lE ns bk a2 a3 st js (O (.pu (FZ st))) a z9 FV f b d (O (.pu (.str t)))) M e,l]⟩
theorem wm(d:Tx)(B:List Tx)(G:bk=d :: B)(R:d.length<=120)(k:Nat)(Q:k<500000)(w:Tx)(hw:js[k]?=O w)(u:w≠[])(P:w.length<=120)(N s p f:V1) :
  ∃L H I o,il (lE ns bk a2 a3 st js (O (.pu (FZ st))) (O (.pu (.int k))) z9 FV N s p f)=O (.nx (lE ns bk a2 a3 st js (O (.pu (FZ st))) (O (.pu (.int k))) z9 FV L H I o)):=by
 have wp:0<w.length:=Vp.mpr u;have e:∀{q i j l:V1},e2 aF (ae 6) (ae 8) (lE ns bk a2 a3 st js (O (.pu (FZ st))) (O (.pu (.int k))) z9 FV q i j l)=O (.fr,.str w):=by
  intros
  rw[bx (x:=(.pu,HC js)) (y:=(.fr,.int k)) M M,xZ js k w hw]
 have h:∀{q i j l:V1},e2 aF (ae 1) (Q3 0) (lE ns bk a2 a3 st js (O (.pu (FZ st))) (O (.pu (.int k))) z9 FV q i j l)=O (.fr,.str d):=by
  intros
  rw[bx (x:=(.pu,HC bk)) (y:=(.fr,.int 0)) M M];exact xZ bk 0 d (by rw[G];rfl)
 obtain⟨a,F,_,_⟩:=cf ns (301+(k:Int)) (by lia) (by lia);obtain⟨g,C,_,_⟩:=cf ns (360+(k:Int)) (by lia) (by lia);have a0:=ZF a (b:=(w.length:Int)) (by lia);have a1:=ZQ a (b:=(w.length:Int)) (by lia);have c0:=ZF g (b:=(d.length:Int)+1) (by lia);have c1:=ZQ g (b:=(d.length:Int)+1) (by lia);obtain⟨c,v⟩:∃c:Nat,∀m n,aF (m,.str (d++[113])) (n,.int (g%((d.length:Int)+1)))=O (.fr,.str [c]):=⟨_,λm n=>qR (d++[113]) _ c0 (by rw[Zu,ZZ];lia)⟩
 have l1:=iA w Y (O (a%(w.length:Int)));have l2:=iA w (O (a%(w.length:Int)+1)) Y;obtain⟨o,A⟩:=Tq D W ns bk a2 a3 js z9 FV (O (.pu (.int k))) (O (.pu (.int (a%(w.length:Int))))) (O (.pu (.str [c]))) (O (.pu (.str (cut w Y (O (a%(w.length:Int)))++[c]++cut w (O (a%(w.length:Int)+1)) Y)))) [w,cut w Y (O (a%(w.length:Int)))++[c]++cut w (O (a%(w.length:Int)+1)) Y,cut (w++d++w) Y (O 200)] (λt r=>by
  simp only[Zq,YM,or_false]at r;rcases r with rfl | rfl | rfl
  ·lia
  ·rw[Zu,Zu,ZZ];lia
  ·have:=iA (w++d++w) Y (O 200);rw[Zu,Zu]at this;lia) f
 refine⟨O (.pu (.int (a%(w.length:Int)))),O (.pu (.str [c])),O (.pu (.str (cut w Y (O (a%(w.length:Int)))++[c]++cut w (O (a%(w.length:Int)+1)) Y))),o,?_⟩;unfold il;rw[ak (U1:=lE ns bk a2 a3 st js (O (.pu (FZ st))) (O (.pu (.int k))) z9 FV (O (.pu (.int (a%(w.length:Int))))) s p f) (by
  rw[aE (m:=.fr) (t:=.int (a%(w.length:Int))) (by
   rw[bx (x:=(.fr,.int a)) (y:=(.fr,.int (w.length:Int))) (aM (xs:=[(.fr,.scr ns),(.fr,.int (301+(k:Int)))]) M F) (by rw[iM (gh e M)];rfl),aY (by lia)]) (by decide) (by decide:11<15)]
  rfl)]
 rw[ak (U1:=lE ns bk a2 a3 st js (O (.pu (FZ st))) (O (.pu (.int k))) z9 FV (O (.pu (.int (a%(w.length:Int))))) (O (.pu (.str [c]))) p f) (by
  rw[aE (m:=.fr) (t:=.str [c]) (by
   rw[bx (x:=(.fr,.str (d++[113]))) (y:=(.fr,.int (g%((d.length:Int)+1)))) (by
    rw[bx h (y:=(.fr,.str [113])) M,qM (by rw[ZZ];lia)]) (by
    rw[bx (x:=(.fr,.int g)) (y:=(.fr,.int ((d.length:Int)+1))) (aM (xs:=[(.fr,.scr ns),(.fr,.int (360+(k:Int)))]) M C) (by
     rw[bx (x:=(.fr,.int (d.length:Int))) (y:=(.fr,.int 1)) (by rw[iM (gh h M)];rfl) M];rfl),aY (by lia)]),v]) (by decide) (by decide:12<15)]
  rfl)]
 rw[ak (U1:=lE ns bk a2 a3 st js (O (.pu (FZ st))) (O (.pu (.int k))) z9 FV (O (.pu (.int (a%(w.length:Int))))) (O (.pu (.str [c]))) (O (.pu (.str (cut w Y (O (a%(w.length:Int)))++[c]++cut w (O (a%(w.length:Int)+1)) Y)))) f) (by
  rw[aE (m:=.fr) (t:=.str (cut w Y (O (a%(w.length:Int)))++[c]++cut w (O (a%(w.length:Int)+1)) Y)) (by
   rw[bx (x:=(.fr,.str (cut w Y (O (a%(w.length:Int)))++[c]))) (y:=(.fr,.str (cut w (O (a%(w.length:Int)+1)) Y))) (by
    rw[bx (x:=(.fr,.str (cut w Y (O (a%(w.length:Int)))))) (y:=(.fr,.str [c])) (by unfold Hk;rw[e,Zr];rfl) M,qM (by rw[ZZ];lia)]) (by unfold Hk;rw[e,Zr];rfl),qM (by rw[Zu,ZZ];lia)]) (by decide) (by decide:13<15)]
  rfl)]
 have z:gP (af (e2 aF (ae 6) (ae 8)) (af (ae 13) (af (Hk (e2 bq (e2 bq (e2 aF (ae 6) (ae 8)) (e2 aF (ae 1) (Q3 0))) (e2 aF (ae 6) (ae 8))) Y (O (Q3 200))) aA))) (lE ns bk a2 a3 st js (O (.pu (FZ st))) (O (.pu (.int k))) z9 FV (O (.pu (.int (a%(w.length:Int))))) (O (.pu (.str [c]))) (O (.pu (.str (cut w Y (O (a%(w.length:Int)))++[c]++cut w (O (a%(w.length:Int)+1)) Y)))) f)=O (.fr,.lst ([w,cut w Y (O (a%(w.length:Int)))++[c]++cut w (O (a%(w.length:Int)+1)) Y,cut (w++d++w) Y (O 200)].map T.str)):=by
  unfold gP;rw[gh e (gh (x:=(.fr,.str (cut w Y (O (a%(w.length:Int)))++[c]++cut w (O (a%(w.length:Int)+1)) Y))) M (gh (x:=(.fr,.str (cut (w++d++w) Y (O 200)))) (by
   unfold Hk;rw[bx (x:=(.fr,.str (w++d))) (y:=(.fr,.str w)) (by rw[bx e h,qM (by lia)]) e,qM (by rw[Zu];lia),Zr];rfl) M))]
  rfl
 rw[jd (m:=.fr) (pf z) M];exact A
theorem Tp(l:Tx)(n:List Tx)(v:bk=l :: n)(u:l.length<=120)(t:∀w∈js,w≠[]/\w.length<=120)(B:js.length<=500000):∀(j:Vi),(∀k∈j,k<js.length)->∀g f a b d:V1,
  ∃m r p q o,forL (aZ 8) il (j.map λi:Nat=>T.int (i:Int)) (lE ns bk a2 a3 st js (O (.pu (FZ st))) g z9 FV f a b d)=O (.nx (lE ns bk a2 a3 st js (O (.pu (FZ st))) m z9 FV r p q o))
 |[],_,g,f,a,b,d=>⟨g,f,a,b,d,rfl⟩
 |k :: j,h,g,f,a,b,d=>by
  have s:=h k Zx;have hw:=Zi s;obtain⟨z,y⟩:=t _ (Xs s);obtain⟨H,C,F,G,e⟩:=wm D W ns bk a2 a3 js z9 FV l n v u k (by lia) _ hw z y f a b d;obtain⟨m,r,p,q,o,A⟩:=Tp l n v u t B j (λi x=>h i (Zw _ x)) (O (.pu (.int k))) H C F G;exact⟨m,r,p,q,o,by rw[Zp,bD (U1:=lE ns bk a2 a3 st js (O (.pu (FZ st))) (O (.pu (.int k))) z9 FV f a b d) M e,A]⟩
end
def AE(d:Vb)(o:List Tx)(a2 a3:V1)(n:V0)(l:List Tx)(a:Int)(g f e:V1)(C:l.length<200000)(D:0<a):∃p:List Tx,(∀w∈p,w∈l)/\p.length<=500000 ∧
  sIf (e2 Ji (ae 10) (Q3 1)) (aL 6 (e2 bq (uh (ae 6) (O (e2 oMod (aP ar (af (ae 0) (af (Q3 300) aA))) (ae 10))) Y (O (ae 10))) (Hk (ae 6) (O (Q3 (-1))) Y))) iu (lE d o a2 a3 n l g f e (O (.pu (.int a))) Y Y Y Y)=O (.nx (lE d o a2 a3 n p g f e (O (.pu (.int a))) Y Y Y Y)):=by
 by_cases h:1<a
 ·obtain⟨b,v,B,A⟩:=cf d 300 (by decide) (by decide);have l1:=iA l (O (-1)) Y;have l2:=pL l (O (b%a)) Y (O a);refine⟨gF l (O (b%a)) Y (O a)++cut l (O (-1)) Y,λj q=>?_,by rw[Zu];lia,?_⟩
  ·rcases Zb.mp q with h | h
   ·exact wY _ _ h
   ·exact Ao h
  ·rw[jH (m:=.fr) (by
    show O (Md.fr,T.bl (decide ((1:Int)<a)))=_;rw[ZR h])]
   have em:e2 oMod (aP ar (af (ae 0) (af (Q3 300) aA))) (ae 10) (lE d o a2 a3 n l g f e (O (.pu (.int a))) Y Y Y Y)=O (.fr,.int (b%a)):=by
    rw[bx (x:=(.fr,.int b)) (y:=(.fr,.int a)) (aM (xs:=[(.fr,.scr d),(.fr,.int 300)]) M v) M,aY (by lia)]
   have u:uh (ae 6) (O (e2 oMod (aP ar (af (ae 0) (af (Q3 300) aA))) (ae 10))) Y (O (ae 10)) (lE d o a2 a3 n l g f e (O (.pu (.int a))) Y Y Y Y)=O (.fr,HC (gF l (O (b%a)) Y (O a))):=by
    unfold uh;rw[show j4 (O (e2 oMod (aP ar (af (ae 0) (af (Q3 300) aA))) (ae 10))) (lE d o a2 a3 n l g f e (O (.pu (.int a))) Y Y Y Y)=O (O (b%a)) by simp only[j4,em,Zr];rfl];show Nl (.pu,HC l) (O (b%a)) Y (O a)=_;show (if (l.map T.str).all OL=J/\O a≠O 0 then O (Md.fr,T.lst (gF (l.map T.str) (O (b%a)) Y (O a))) else Y)=_;rw[Zn ⟨ZD.mpr λx r=>by obtain⟨i,_,rfl⟩:=Yt.mp r;rfl,λz=>by cases z;lia⟩,qL]
   have s:Hk (ae 6) (O (Q3 (-1))) Y (lE d o a2 a3 n l g f e (O (.pu (.int a))) Y Y Y Y)=O (.fr,HC (cut l (O (-1)) Y)):=by
    show Hw .pu (cut (l.map T.str) (O (-1)) Y)=_;rw[Ar,jT (by rw[Zv];lia),gz _ (λ_=>rfl)];rfl
   rw[aE (m:=.fr) (t:=HC (gF l (O (b%a)) Y (O a)++cut l (O (-1)) Y)) (by
    rw[bx u s];show Hw .fr ((gF l (O (b%a)) Y (O a)).map T.str++(cut l (O (-1)) Y).map T.str)=_;rw[← Yy,jT (by rw[Zv,Zu];lia),gz _ (λ_=>rfl)];rfl) (by decide) (by decide:6<15)]
   rfl
 ·refine⟨l,λj q=>q,by lia,?_⟩;rw[jy (m:=.fr) (by
   show O (Md.fr,T.bl (decide ((1:Int)<a)))=_;rw[ZJ h])]
  rfl
def B9(b:Vb)(f:List Tx)(d:Fd)(a:V0)(D:Od a)(W:Wk a)(hw:JI a=di (aR d))(N:∀x∈aR d,Az x/\x.length<=120)(H:(aR d).length=a.flatten.length)(KO:FT a≠[]->∃A F,f=A :: F/\A.length<=120)(hb:eL [.scr b,.int 60]=O (.fr,.lst (f.map T.str)))(R:cT [.lst (f.map T.str)]=O (.fr,.dct 0 (dT d)))(O2:cZ [.dct 0 (dT d)]=O (.fr,F5 a))(X:bP [F5 a]=O (.fr,.dct 0 (nT (nums 0 a))))(Q:dB [F5 a,.dct 0 (nT (nums 0 a))]=O (.fr,aV a)):qg [.scr b]=O (.fr,.bl J):=by
 have sl:=D.len;have fl:=D.fl;have O0:(JI a).length=(aR d).length:=by rw[hw];exact(gf _).length_eq
 have dl:(FT a).length<=117129:=by rw[ZE];lia
 have C:(FT a).Nodup:=(rh a).sublist (List.drop_sublist 1 _);obtain⟨p,o,er⟩:=si b f (O (.pu (.dct 0 (dT d)))) (O (.pu (F5 a))) a (FT a) (FT a) 0 [] Y Y (by simpa using C) (by simp only[Ya];lia);obtain⟨n,P,Ru,B⟩:=AE b f (O (.pu (.dct 0 (dT d)))) (O (.pu (F5 a))) a (FT a) (1+((FT a).length:Int)/40) (O (.pu (FZ a))) p o (by lia) (by lia);have Z:∀w∈n,w≠[]/\w.length<=120:=λw h=>by
  have:=(i0 D w).mp (P w h);exact⟨this.2,D.IK _ (ZR this.1)⟩
 obtain⟨q,v,s,u,r,ef⟩:∃q v s u r,forL (aZ 8) il ((List.range n.length).map λi:Nat=>T.int (i:Int)) (lE b f (O (.pu (.dct 0 (dT d)))) (O (.pu (F5 a))) a n (O (.pu (FZ a))) p o (O (.pu (.int (1+((FT a).length:Int)/40)))) Y Y Y Y)=O (.nx (lE b f (O (.pu (.dct 0 (dT d)))) (O (.pu (F5 a))) a n (O (.pu (FZ a))) q o (O (.pu (.int (1+((FT a).length:Int)/40)))) v s u r)):=by
  cases n with
  |nil=>exact⟨_,_,_,_,_,rfl⟩
  |cons j n =>
   obtain⟨A,F,N0,Iy⟩:=KO λz=>by
    have:=P j Zx;rw[z]at this;cases this
   exact Tp D W b f (O (.pu (.dct 0 (dT d)))) (O (.pu (F5 a))) (j :: n) o (O (.pu (.int (1+((FT a).length:Int)/40)))) A F N0 Iy Z Ru _ (λk H=>G9.mp H) p Y Y Y Y
 unfold qg;refine dE M (U:=lE b f (O (.pu (.dct 0 (dT d)))) (O (.pu (F5 a))) a n (O (.pu (FZ a))) q o (O (.pu (.int (1+((FT a).length:Int)/40)))) v s u r) ?_;refine(show aq _ _ [O (.pu (.scr b)),Y,Y,Y,Y,Y,Y,Y,Y,Y,Y,Y,Y,Y,Y]=_ from ?_);rw[ak (U1:=[O (.pu (.scr b)),O (.pu (HC f)),Y,Y,Y,Y,Y,Y,Y,Y,Y,Y,Y,Y,Y]) (by
  rw[aE (aM (xs:=[(.fr,.scr b),(.fr,.int 60)]) M hb) (by decide) (by decide:1<15)];rfl)]
 rw[ak (U1:=[O (.pu (.scr b)),O (.pu (HC f)),O (.pu (.dct 0 (dT d))),Y,Y,Y,Y,Y,Y,Y,Y,Y,Y,Y,Y]) (by
  rw[aE (aM (xs:=[(.pu,HC f)]) M R) (by decide) (by decide:2<15)];rfl)]
 rw[ak (U1:=[O (.pu (.scr b)),O (.pu (HC f)),O (.pu (.dct 0 (dT d))),O (.pu (F5 a)),Y,Y,Y,Y,Y,Y,Y,Y,Y,Y,Y]) (by
  rw[aE (aM (xs:=[(.pu,.dct 0 (dT d))]) M O2) (by decide) (by decide:3<15)];rfl)]
 rw[ak (U1:=[O (.pu (.scr b)),O (.pu (HC f)),O (.pu (.dct 0 (dT d))),O (.pu (F5 a)),O (.pu (aV a)),Y,Y,Y,Y,Y,Y,Y,Y,Y,Y]) (by
  have I:ae 3 [O (.pu (.scr b)),O (.pu (HC f)),O (.pu (.dct 0 (dT d))),O (.pu (F5 a)),Y,Y,Y,Y,Y,Y,Y,Y,Y,Y,Y]=O (.pu,F5 a):=rfl;have h2:=aM (g:=bP) (as:=af (ae 3) aA) (gh I M) X;rw[aE (aM (xs:=[(.pu,F5 a),(.fr,.dct 0 (nT (nums 0 a)))]) (gh I (gh h2 M)) Q) (by decide) (by decide:4<15)];rfl)]
 rw[ak (U1:=[O (.pu (.scr b)),O (.pu (HC f)),O (.pu (.dct 0 (dT d))),O (.pu (F5 a)),O (.pu (aV a)),O (.pu (aV a)),Y,Y,Y,Y,Y,Y,Y,Y,Y]) (by
  rw[aE (m:=.fr) (t:=aV a) (by
   rw[iM (xs:=[(.pu,aV a)]) M,Bw a (by lia)]) (by decide) (by decide:5<15)];rfl)]
 rw[ak (U1:=lE b f (O (.pu (.dct 0 (dT d)))) (O (.pu (F5 a))) a (FT a) Y Y Y Y Y Y Y Y) (by
  have es:eN lj (af (ae 2) aA) [O (.pu (.scr b)),O (.pu (HC f)),O (.pu (.dct 0 (dT d))),O (.pu (F5 a)),O (.pu (aV a)),O (.pu (aV a)),Y,Y,Y,Y,Y,Y,Y,Y,Y]=O (.fr,.lst ((JI a).map T.str)):=by
   rw[iM (xs:=[(.pu,.dct 0 (dT d))]) M];show (strs? ((dT d).map (·.1))).bind _=_;have e:(dT d).map (·.1)=(aR d).map T.str:=by unfold dT aR;rw[Yw,Yw];rfl
   have L:=strs_map (λx:Tx=>x) (aR d);rw[List.map_id']at L;rw[e,L,Zr,Zn (ZD.mpr λx G=>D5 (N x G).1 (N x G).2),hw]
  rw[aE (m:=.fr) (t:=HC (FT a)) (by
   unfold Hk;rw[es,Zr];show Hw .fr (cut ((JI a).map T.str) (O 1) Y)=_;rw[DW,← List.map_drop,jT (by rw[Zv];lia),ite_self]) (by decide) (by decide:6<15)]
  rfl)]
 rw[ak (U1:=lE b f (O (.pu (.dct 0 (dT d)))) (O (.pu (F5 a))) a (FT a) (O (.ow (.dct 0 (nT [])))) Y Y Y Y Y Y Y) M];rw[ak (U1:=lE b f (O (.pu (.dct 0 (dT d)))) (O (.pu (F5 a))) a (FT a) (O (.ow (FZ a))) p o Y Y Y Y Y) (by
  rw[jd (m:=.pu) (l:=d9 0 ((FT a).map T.str)) M M];exact er)]
 rw[ak (U1:=lE b f (O (.pu (.dct 0 (dT d)))) (O (.pu (F5 a))) a (FT a) (O (.pu (FZ a))) p o Y Y Y Y Y) M];rw[ak (U1:=lE b f (O (.pu (.dct 0 (dT d)))) (O (.pu (F5 a))) a (FT a) (O (.pu (FZ a))) p o (O (.pu (.int (1+((FT a).length:Int)/40)))) Y Y Y Y) (by
  have ln:eN dh (af (ae 6) aA) (lE b f (O (.pu (.dct 0 (dT d)))) (O (.pu (F5 a))) a (FT a) (O (.pu (FZ a))) p o Y Y Y Y Y)=O (.fr,.int ((FT a).length:Int)):=by
   rw[iM (xs:=[(.pu,HC (FT a))]) M];show O (Md.fr,T.int ((((FT a).map T.str).length:Nat):Int))=_;rw[Zv]
  rw[aE (m:=.fr) (t:=.int (1+((FT a).length:Int)/40)) (by
   rw[bx (x:=(.fr,.int 1)) (y:=(.fr,.int (((FT a).length:Int)/40))) M (by
    rw[bx ln (y:=(.fr,.int 40)) M,eU (by decide)])]
   rfl) (by decide) (by decide:10<15)]
  rfl)]
 rw[ak B];rw[ak (U1:=lE b f (O (.pu (.dct 0 (dT d)))) (O (.pu (F5 a))) a n (O (.pu (FZ a))) q o (O (.pu (.int (1+((FT a).length:Int)/40)))) v s u r) (by
  have ln:eN dh (af (ae 6) aA) (lE b f (O (.pu (.dct 0 (dT d)))) (O (.pu (F5 a))) a n (O (.pu (FZ a))) p o (O (.pu (.int (1+((FT a).length:Int)/40)))) Y Y Y Y)=O (.fr,.int (n.length:Int)):=by
   rw[iM (xs:=[(.pu,HC n)]) M];show O (Md.fr,T.int (((n.map T.str).length:Nat):Int))=_;rw[Zv]
  rw[fQ (by rw[iU ln (by lia),lU,Ye])];exact ef)]
 have cr:=aM (g:=cM) (as:=af (ae 5) (af (ae 7) (af (eC (.str [])) aA))) (U:=lE b f (O (.pu (.dct 0 (dT d)))) (O (.pu (F5 a))) a n (O (.pu (FZ a))) q o (O (.pu (.int (1+((FT a).length:Int)/40)))) v s u r) (xs:=[(.pu,aV a),(.pu,FZ a),(.fr,.str [])]) M (sW D W [] (by decide));have ce:e2 oEq (ae 5) (ae 4) (lE b f (O (.pu (.dct 0 (dT d)))) (O (.pu (F5 a))) a n (O (.pu (FZ a))) q o (O (.pu (.int (1+((FT a).length:Int)/40)))) v s u r)=O (.fr,.bl J):=by
  rw[bx (x:=(.pu,aV a)) (y:=(.pu,aV a)) M M];exact ql (zY a)
 simp only[d8,iV,cr,ce,Zr]
def wW(i:Vb)(_:i.length<=63):qg [.scr i]=O (.fr,.bl J):=by
 obtain⟨bk,o,B,m⟩:=BJ i;obtain⟨N,v⟩:=yo bk B m;obtain⟨r,hd⟩:=qE bk;have l:=qj bk B;have C:=v7 (found bk) v l;have d:=xO (found bk) (by rw[hd];exact Zx);have D:=DX bk B v;have nd:=qB bk;have H:=rR bk;have e:=λ{x:Tx}=>d.pm.mem_iff (a:=x);have L:[]∈aR (found bk):=by rw[hd];exact Zx
 have W:Wk (dU (found bk)):=by
  refine⟨d.ne,ZU (Bn _ d.ne) D.fl,?_,e.mpr L,λx g=>(l x (e.mp g)).1,λu w c=>?_⟩
  ·obtain⟨a,b,X⟩:=d.hd;rw[X];simp[num]
  ·have P:=jK _ _ w;have G:=getD_mem (dU (found bk)) _ P;have I:=((oj G (d.ne _ G) u).mp (kh _ _ w)).2;have q:=gC c I;have t:=kD (x:=u++[c]) (by simp) (by simp) q;refine⟨e.trans (t.symm.trans e.symm),λh=>?_⟩;have A:=e.mp h;exact ly d.ne (t.mp A) A q.symm
 have F:FT (dU (found bk))≠[]->∃j p,bk=j :: p/\j.length<=120:=λU=>by
  cases bk with
  |nil =>
   exfalso;obtain⟨x,g⟩:=List.exists_mem_of_ne_nil _ U;have z:=(i0 D x).mp g;have Q:x∈aR (found []):=e.mp z.1;exact z.2 (Zh.mp Q)
  |cons j p =>
   refine⟨j,p,rfl,?_⟩;have:=B.n;rw[Zf,Zu]at this;lia
 generalize dU (found bk)=st at C d D W F e;have nf:=D.nf;have Z:=D.len;have fl:=D.fl;have y:∀s∈st,FC s∈st.flatten:=λs f=>W2.mpr ⟨s,f,sJ (d.ne s f)⟩;have R:∀x∈st.flatten,x.drop 1∈st.flatten:=λx g=>d.pm.mem_iff.mpr (H x (d.pm.mem_iff.mp g));have M:=AD st (λs f=>⟨d.ne s f,(l _ (d.pm.mem_iff.mp (y s f))).2,λ_=>R _ (y s f)⟩) (by lia);have hw:JI st=di (aR (found bk)):=CL (pS st) nd (λx=>d.pm.mem_iff.symm.trans decide_eq_true_iff.symm) (by
  obtain⟨b,o⟩:=D.z0;exact ZR (by rw[o];simp)) D.IK D.cl D.ab
 exact B9 i bk (found bk) st D W hw l d.pm.length_eq.symm F o N C (uv st nf (by lia)) M
end T27
end
section
namespace T27
open PySem PySem.Spec PyProof.Rows td VS
def qv{G:Gx}{X:Cx}{x:Str}{p:Pos}(i:Nat)(a:X.N[i]?=O x:=by exact rfl)(b:Ik X.env.scope x:=by exact Or.inl M)(c:K2 x:=by rfl)(d:K3 x:=by rfl):PV G X (.Name x p) (ae i):=gw i a b c d
def Q4{α:Sort _}{x:α}{b:Prop}:x=x∨b:=.inl M
abbrev Q5:List Str:=["_law_cell_here"]
abbrev Q6:List Str:=["_law_k", "_law_cell_here", "_law_start", "_law_step"]
abbrev Q7:List Str:=["_law_script", "_law_k"]
abbrev Q8:List Str:=["_law_script", "_law_most"]
abbrev Q9:List Str:=["_law_script"]
abbrev Qa:List Str:=["_law_some", "_law_found", "_law_groups", "_law_word"]
abbrev Qb:List Str:=["_law_stands_here", "_law_numbers_here"]
abbrev Qc:List Str:=["_law_stands_here"]
abbrev Qd:List Str:=["_law_table_here", "_law_ranks", "_law_word"]
abbrev Qe:List Str:=["row", "table", "onward", "stand"]
abbrev Qf:List Str:=["table", "word"]
abbrev Qg:List Str:=["way", "table", "onward", "stand"]
abbrev Qh:List Str:=["ways", "onward", "sign"]
def top(i:Nat):Stmt:=PySem.Challenge.pw_allparts_k27_numbers_of_parts.main.body.getD i (.Pass ⟨0,0,0,0⟩)
structure HL(mg:X3):Prop where
 MF:mg "bool" = none
 ME:mg "dict" = none
 Gm:mg "enumerate" = none
 Oy:mg "int" = none
 GO:mg "isinstance" = none
 FO:mg "len" = none
 MD:mg "list" = none
 Ly:mg "min" = none
 FQ:mg "range" = none
 Hl:mg "sorted" = none
 Lx:mg "sum" = none
 Jo:mg "tuple" = none
 Ox:mg "zip" = none
section
variable{P:PP}{w:SL}{K:Xd}{mg:X3}{base:SC}
abbrev jP:Stmt:=top 1
def kf:tx ["table", "word", "stands", "sign", "ways"] Qf (ao jP):=⟨rfl,rfl,rfl,by decide +kernel,rfl,by decide +kernel,by decide +kernel⟩
def hV{f:GM}{e:On}(F:GQ K "walk" "walk" jP f e)(b:mg "walk" = O (.ref f))(B:HL mg) :
  FnAt P w K mg base 1 "walk" Qf (FR K) g0:=eV F b kf M M (λ_ _ _ _ _ _ g d=>by obtain⟨_,_,rfl⟩:=td.oG d;rfl) λh A outer s H E a =>
  (ah (eQ (fI (aa ag aj)) kf.nd M Q4)
  (ah (bM Yv M (fD (qv 1)) (aS 3 kf.nd M Q4 Q4)
  (ah (au (zP B.ME (aa (bj (bj (qv 0) (bj (qv 2) tm (λ_ _=>rfl)) (λ_ _=>rfl)) ag (λ_ _=>rfl)) aj)) kf.nd M Q4)
  (ah (d7 (xw a (qv 3) (qv 4) (by with_unfolding_all rfl) M) (aC (fP 2 M (Or.inl M) M M)) cV)
  (aC (gE 2 (aa (wq a (qv 4) (qv 3) (λ_ _=>rfl)) aj) M M Q4 M M)))))
  (aC (fP 2 M (Or.inl M) M M))))
abbrev eu:Stmt:=top 2
def j5:tx ["table", "word", "stands"] Qf (ao eu):=⟨rfl,rfl,rfl,by decide +kernel,rfl,by decide +kernel,by decide +kernel⟩
def fM{f:GM}{g:On}(F:GQ K "stand_of" "stand_of" eu f g)(b:mg "stand_of" = O (.ref f))(B:HL mg)(e:FnAt P w K mg base 1 "walk" Qf (FR K) g0) :
  FnAt P w K mg base 2 "stand_of" Qf (FR K) dy:=eV F b j5 M M (λ_ _ _ _ _ _ h d=>by obtain⟨_,_,rfl⟩:=td.oG d;rfl) λi A outer s H E a =>
  (ah (au (aW e a (aa (qv 0) (aa (qv 1) aj)) (by decide) M M) j5.nd M Q4)
  (aC (bH (DM (ng a (ff B.FO (aa (qv 2) aj)) (w_add (ff B.FO (aa (qv 1) aj)) ag)) (bj (qv 2) tm (λ_ _=>rfl)) rG))))
abbrev bS:Stmt:=top 6
def j7:tx Qh Qh (ao bS):=⟨rfl,rfl,rfl,by decide +kernel,rfl,by decide +kernel,by decide +kernel⟩
def cG{f:GM}{d:On}(F:GQ K "onward_below" "onward_below" bS f d)(a:mg "onward_below" = O (.ref f))(B:HL mg) :
  FnAt P w K mg base 1 "onward_below" Qh (FR K) cL:=eV F a j7 M M (λ_ _ _ _ _ _ e b=>by obtain⟨_,_,_,rfl⟩:=td.Ep b;rfl) λh A outer s H E g =>
  (aC (bH (w_sum B.Lx (aa (uP 1 ["way", "ways", "onward", "sign"] M (fD (qv 0)) (km) (λ_ _ _ _ _=>(aS 0 (show List.Nodup (["way", "ways", "onward", "sign"]:List Str) from by decide +kernel) M Q4 (Or.inr M))) (λ_ _ _ _ _=>(gp xU AS lN (bj (qv 0) ag (λ_ _=>rfl)) (gw 3 M (Or.inr Q4) M M) (ig _))) (λ_ _ _ _ _=>(bj (gw 2 M (Or.inr Q4) M M) (bj (qv 0) ag (λ_ _=>rfl)) (λ_ _=>rfl))) M M (by decide)) aj))))
abbrev bJ:Stmt:=top 5
def eJ:tx ["table", "onward", "stand"] ["table"] (ao bJ):=⟨rfl,rfl,rfl,by decide +kernel,rfl,by decide +kernel,by decide +kernel⟩
def cn{f:GM}{b:On}(F:GQ K "onward_counts" "onward_counts" bJ f b)(g:mg "onward_counts" = O (.ref f))(B:HL mg){e d:GM}(j:PySem.W.codeHdIn K e d=J)(LT:Tb base d "onward_counts.<locals>.<lambda>")(l:Bm mg base)(i:b.code=.ref e) :
  FnAt P w K mg base 4 "onward_counts" ["table"] (FR K) cm:=Cz F g i eJ M M (λ_ _ _ _ _ _ m h=>by obtain⟨_,rfl⟩:=td.nq h;rfl) λA outer s H E a=>(
  (ah (eQ (nj 1 Qe M (fD (gw 0 M (Or.inr Q4) M M)) (km) (λ_ _ _ _ _=>(aS 0 (show List.Nodup Qe from by decide +kernel) M Q4 (Or.inr M))) (λ_ _ _ _ _=>ag) M M (by decide)) eJ.nd M (Or.inr M))
  (ah (Cj Yv M (zm (k0:=0) (y := "number") (N:=["table", "onward", "stand"]) a (by decide) B.Hl B.FQ (ff B.FO (aa (gw 0 M (Or.inr Q4) M M) aj)) A9 (λ_ _ _ _ _ _ a=>((bj (bj (gw 1 M (Or.inr (Or.inr M)) M M) (qv 0) (λ_ _=>rfl)) ag (λ_ _=>rfl)))) j LT l M M M M M M M M M M M M M M (λ_ _ _ _ _=>rfl) M M) (aS 2 eJ.nd M Q4 Q4)
  (aC (DZ 1 (t6 _) a (qv 2) (w_add ag (w_sum B.Lx (aa (nj 1 Qg M (fD (bj (bj (gw 0 M (Or.inr Q4) M M) (qv 2) (λ_ _=>rfl)) ag (λ_ _=>rfl))) (km) (λ_ _ _ _ _=>(aS 0 (show List.Nodup Qg from by decide +kernel) M Q4 (Or.inr M))) (λ_ _ _ _ _=>(bj (gw 2 M (Or.inr Q4) M M) (bj (qv 0) ag (λ_ _=>rfl)) (λ_ _=>rfl))) M M (by decide)) aj))) M (Or.inr Q4) M M (λ_=>rfl) M M M)) (λ_=>rfl))
  (aC (fP 1 M (Or.inr Q4) M M)))))
abbrev dN:Stmt:=top 4
def cR:tx ["table", "word", "onward", "ahead", "sign", "stand"] Qf (ao dN):=⟨rfl,rfl,rfl,by decide +kernel,rfl,by decide +kernel,by decide +kernel⟩
def eY{f:GM}{g:On}(F:GQ K "number_of" "number_of" dN f g)(b:mg "number_of" = O (.ref f))(B:HL mg)(j:FnAt P w K mg base 1 "onward_below" Qh (FR K) cL)(i:FnAt P w K mg base 4 "onward_counts" ["table"] (FR K) cm)(h:FnAt P w K mg base 2 "stand_of" Qf (FR K) dy)(e:FnAt P w K mg base 1 "walk" Qf (FR K) g0) :
  FnAt P w K mg base 5 "number_of" Qf (FR K) dG:=eV F b cR M M (λ_ _ _ _ _ _ l d=>by obtain⟨_,_,rfl⟩:=td.oG d;rfl) λm A outer s H E a =>
  (ah (d7 (Kn.OO (B3 (ng a (qv 1) (gZ (by decide +kernel) (by decide))) (CW (CD (aW h a (aa (qv 0) (aa (qv 1) aj)) (by decide) M M))))) (aC (bH rG)) cV)
  (ah (au (aW i a (aa (qv 0) aj) (by decide) M M) cR.nd M Q4)
  (ah (au ag cR.nd M Q4)
  (ah (bM Yv M (vy (qv 1) (aW e a (aa (qv 0) (aa (qv 1) aj)) (by decide) M M) M B.Ox M M M) (kj M (dM (aS 4 cR.nd M Q4 Q4) (dM (aS 5 cR.nd M Q4 Q4) jt)))
  (aC (au (w_add (w_add (qv 3) ag) (aW j a (aa (bj (bj (qv 0) (qv 5) (λ_ _=>rfl)) ag (λ_ _=>rfl)) (aa (qv 2) (aa (qv 4) aj))) (by decide) M M)) cR.nd M Q4)))
  (aC (bH (iK kP kQ (qv 3) ag)))))))
abbrev eA:Stmt:=top 8
def pQ:tx Q7 Q7 (ao eA):=⟨rfl,rfl,rfl,by decide +kernel,rfl,by decide +kernel,by decide +kernel⟩
def eE{f:GM}{d:On}(F:GQ K "_law_cell" "_law_cell" eA f d)(a:mg "_law_cell" = O (.ref f))(B:HL mg) :
  FnAt P w K mg base 1 "_law_cell" Q7 (FR K) eD:=eV F a pQ M M (λ_ _ _ _ _ _ e b=>by obtain⟨_,_,rfl⟩:=td.oG b;rfl) λh A outer s H E g =>
  (ah (d7 (gp xU AS lN (qv 1) (ff B.FO (aa (qv 0) aj)) (ig _)) (aC (bH (bj (qv 0) (qv 1) (λ_ _=>rfl)))) cV)
  (aC (bH ag)))
abbrev dQ:Stmt:=top 9
def de:tx ["_law_script", "_law_k", "_law_cell_here", "_law_number"] Q7 (ao dQ):=⟨rfl,rfl,rfl,by decide +kernel,rfl,by decide +kernel,by decide +kernel⟩
def aG{f:GM}{d:On}(F:GQ K "_law_mixed" "_law_mixed" dQ f d)(a:mg "_law_mixed" = O (.ref f))(B:HL mg) :
  FnAt P w K mg base 1 "_law_mixed" Q7 (FR K) ar:=eV F a de M M (λ_ _ _ _ _ _ e b=>by obtain⟨_,_,rfl⟩:=td.oG b;rfl) λh A outer s H E g =>
  (ah (au ag de.nd M Q4)
  (ah (d7 (pq (ff B.FO (aa (qv 0) aj)) ag) (aC (au (bj (qv 0) (w_mod (qv 1) (ff B.FO (aa (qv 0) aj))) (λ_ _=>rfl)) de.nd M Q4)) cV)
  (ah (au (w_mod (w_mul (w_add (w_add (w_mod (qv 2) ag) (w_mul ag (qv 1))) ag) ag) ag) de.nd M Q4)
  (ah (au (w_mod (w_mul (qv 3) (qv 3)) ag) de.nd M Q4)
  (ah (au (w_mod (w_mul (w_add (qv 3) (qv 1)) ag) ag) de.nd M Q4)
  (aC (bH (gy (w_mod (w_mul (qv 3) (qv 3)) ag) ag))))))))
abbrev dC:Stmt:=top 10
def gJ:tx ["_law_cell_here", "_law_start", "_law_step"] Q5 (ao dC):=⟨rfl,rfl,rfl,by decide +kernel,rfl,by decide +kernel,by decide +kernel⟩
def bB{f:GM}{d:On}(F:GQ K "_law_signs" "_law_signs" dC f d)(a:mg "_law_signs" = O (.ref f))(B:HL mg) :
  FnAt P w K mg base 1 "_law_signs" Q5 (FR K) bE:=eV F a gJ M M (λ_ _ _ _ _ _ e b=>by obtain⟨_,rfl⟩:=td.nq b;rfl) λh A outer s H E g =>
  (ah (au (w_mod (qv 0) ag) gJ.nd M (Or.inr M))
  (ah (au (bj (fI (aa ag (aa ag (aa ag (aa ag (aa ag aj)))))) (w_mod (gy (qv 0) ag) ag) (λ_ _=>rfl)) gJ.nd M (Or.inr M))
  (aC (bH (nj 1 Q6 M (cH ag M B.FQ) (km) (λ_ _ _ _ _=>(aS 0 (show List.Nodup Q6 from by decide +kernel) M Q4 (Or.inr M))) (λ_ _ _ _ _=>(bj (gZ (by decide +kernel) (by decide)) (w_mod (w_add (gw 2 M (Or.inr Q4) M M) (w_mul (gw 3 M (Or.inr Q4) M M) (qv 0))) ag) (λ_ _=>rfl))) M M (by decide))))))
abbrev bK:Stmt:=top 11
def aI:tx ["_law_cell_here", "_law_signs_here", "_law_some", "_law_many", "_law_room", "_law_book_here", "_law_k", "_law_size", "_law_text", "_law_j"] Q5 (ao bK):=⟨rfl,rfl,rfl,by decide +kernel,rfl,by decide +kernel,by decide +kernel⟩
def cA{f:GM}{e:On}(F:GQ K "_law_by_digits" "_law_by_digits" bK f e)(b:mg "_law_by_digits" = O (.ref f))(B:HL mg)(g:FnAt P w K mg base 1 "_law_signs" Q5 (FR K) bE) :
  FnAt P w K mg base 2 "_law_by_digits" Q5 (FR K) cx:=eV F b aI M M (λ_ _ _ _ _ _ h d=>by obtain⟨_,rfl⟩:=td.nq d;rfl) λi A outer s H E a =>
  (ah (au (aW g a (aa (qv 0) aj) (by decide) M M) aI.nd M Q4)
  (ah (au (bj (fI (aa ag (aa ag (aa ag (aa ag (aa ag (aa ag (aa ag (aa ag aj))))))))) (w_mod (gy (qv 0) ag) ag) (λ_ _=>rfl)) aI.nd M Q4)
  (ah (au (w_mod (gy (qv 0) ag) ag) aI.nd M Q4)
  (ah (au (gy (qv 0) ag) aI.nd M Q4)
  (ah (au ag aI.nd M Q4)
  (ah (eQ (fI aj) aI.nd M Q4)
  (ah (bM Yv M (cH (qv 3) M B.FQ) (aS 6 aI.nd M Q4 Q4)
  (ah (au (wF B.Ly (aa (qv 4) (aa (w_mod (qv 0) ag) aj))) aI.nd M Q4)
  (ah (au (gy (qv 0) ag) aI.nd M Q4)
  (ah (au (iK kP kQ (qv 4) (qv 7)) aI.nd M Q4)
  (ah (au (gZ (by decide +kernel) (by decide)) aI.nd M Q4)
  (ah (bM Yv M (cH (qv 7) M B.FQ) (aS 9 aI.nd M Q4 Q4)
  (ah (au (w_add (qv 8) (bj (qv 1) (w_mod (qv 0) (qv 2)) (λ_ _=>rfl))) aI.nd M Q4)
  (aC (au (gy (qv 0) (qv 2)) aI.nd M Q4))))
  (aC (gE 5 (aa (qv 8) aj) M M Q4 M M))))))))
  (aC (fP 5 M (Or.inl M) M M)))))))))
abbrev bL:Stmt:=top 12
def aJ:tx ["_law_script", "_law_most", "_law_signs_here", "_law_some", "_law_room", "_law_book_here", "_law_k", "_law_size", "_law_back", "_law_text", "_law_j", "_law_number"] Q8 (ao bL):=⟨rfl,rfl,rfl,by decide +kernel,rfl,by decide +kernel,by decide +kernel⟩
def cw{f:GM}{g:On}(F:GQ K "_law_by_mixing" "_law_by_mixing" bL f g)(d:mg "_law_by_mixing" = O (.ref f))(B:HL mg)(b:FnAt P w K mg base 1 "_law_mixed" Q7 (FR K) ar)(h:FnAt P w K mg base 1 "_law_signs" Q5 (FR K) bE) :
  FnAt P w K mg base 2 "_law_by_mixing" Q8 (FR K) cz:=eV F d aJ M M (λ_ _ _ _ _ _ i e=>by obtain⟨_,_,rfl⟩:=td.oG e;rfl) λj A outer s H E a =>
  (ah (au (aW h a (aa (aW b a (aa (qv 0) (aa ag aj)) (by decide) M M) aj) (by decide) M M) aJ.nd M Q4)
  (ah (au (bj (fI (aa ag (aa ag (aa ag (aa ag (aa ag (aa ag (aa ag (aa ag aj))))))))) (w_mod (aW b a (aa (qv 0) (aa ag aj)) (by decide) M M) ag) (λ_ _=>rfl)) aJ.nd M Q4)
  (ah (au (qv 1) aJ.nd M Q4)
  (ah (eQ (fI aj) aJ.nd M Q4)
  (ah (bM Yv M (cH (w_mod (aW b a (aa (qv 0) (aa ag aj)) (by decide) M M) ag) M B.FQ) (aS 6 aJ.nd M Q4 Q4)
  (ah (au (wF B.Ly (aa (qv 4) (aa (w_mod (aW b a (aa (qv 0) (aa (w_add (w_mul ag (qv 6)) ag) aj)) (by decide) M M) (w_add (qv 1) ag)) aj))) aJ.nd M Q4)
  (ah (au (iK kP kQ (qv 4) (qv 7)) aJ.nd M Q4)
  (ah (au (w_add ag (w_mod (aW b a (aa (qv 0) (aa (w_add (w_mul ag (qv 6)) ag) aj)) (by decide) M M) ag)) aJ.nd M Q4)
  (ah (au (gZ (by decide +kernel) (by decide)) aJ.nd M Q4)
  (ah (bM Yv M (cH (qv 7) M B.FQ) (aS 10 aJ.nd M Q4 Q4)
  (ah (au (aW b a (aa (qv 0) (aa (w_add (w_add (w_mul ag (qv 6)) ag) (qv 10)) aj)) (by decide) M M) aJ.nd M Q4)
  (aC (d7 (Kn.OO (kB (Bh (ff B.FO (aa (qv 9) aj)) (qv 8)) (nQ (pq (w_mod (qv 11) ag) ag)))) (aC (au (w_add (qv 9) (bj (qv 9) (iK kP kQ (ff B.FO (aa (qv 9) aj)) (qv 8)) (λ_ _=>rfl))) aJ.nd M Q4)) (aC (au (w_add (qv 9) (bj (qv 2) (w_mod (gy (qv 11) ag) (qv 3)) (λ_ _=>rfl))) aJ.nd M Q4))))))
  (ah (gE 5 (aa (qv 9) aj) M M Q4 M M)
  (aC (d7 (Kn.OO (kB (pq (qv 7) ag) (kB (ng a (w_mod (aW b a (aa (qv 0) (aa (w_add (w_mul ag (qv 6)) ag) aj)) (by decide) M M) ag) ag) (nQ (Bh (qv 4) ag))))) (ah (gE 5 (aa (cJ (qv 9) (bG ag) (bG ag)) aj) M M Q4 M M)
  (aC (au (iK kP kQ (qv 4) ag) aJ.nd M Q4))) cV)))))))))
  (nR 5 (aC (bH (cJ (qv 5) dk (bG ag))))))))))
abbrev dJ:Stmt:=top 13
def d3:tx ["_law_script", "_law_signs_here", "_law_text", "_law_at"] Q9 (ao dJ):=⟨rfl,rfl,rfl,by decide +kernel,rfl,by decide +kernel,by decide +kernel⟩
def fj{f:GM}{g:On}(F:GQ K "_law_great" "_law_great" dJ f g)(d:mg "_law_great" = O (.ref f))(B:HL mg)(b:FnAt P w K mg base 1 "_law_mixed" Q7 (FR K) ar)(h:FnAt P w K mg base 1 "_law_signs" Q5 (FR K) bE) :
  FnAt P w K mg base 2 "_law_great" Q9 (FR K) dP:=eV F d d3 M M (λ_ _ _ _ _ _ i e=>by obtain⟨_,rfl⟩:=td.nq e;rfl) λj A outer s H E a =>
  (ah (au (aW h a (aa (aW b a (aa (qv 0) (aa ag aj)) (by decide) M M) aj) (by decide) M M) d3.nd M Q4)
  (ah (au (iK yJ zl (bj (qv 1) ag (λ_ _=>rfl)) (w_add ag (w_mod (aW b a (aa (qv 0) (aa ag aj)) (by decide) M M) ag))) d3.nd M Q4)
  (ah (d7 (ng a (w_mod (aW b a (aa (qv 0) (aa ag aj)) (by decide) M M) ag) ag) (ah (au (w_mod (aW b a (aa (qv 0) (aa ag aj)) (by decide) M M) (ff B.FO (aa (qv 2) aj))) d3.nd M Q4)
  (aC (au (w_add (w_add (cJ (qv 2) dk (bG (qv 3))) (bj (qv 1) ag (λ_ _=>rfl))) (cJ (qv 2) (bG (w_add (qv 3) ag)) dk)) d3.nd M Q4))) cV)
  (aC (bH (fI (aa (qv 2) aj)))))))
abbrev eI:Stmt:=top 14
def p6:tx Q8 Q8 (ao eI):=⟨rfl,rfl,rfl,by decide +kernel,rfl,by decide +kernel,by decide +kernel⟩
def fR{f:GM}{i:On}(F:GQ K "_law_book" "_law_book" eI f i)(e:mg "_law_book" = O (.ref f))(B:HL mg)(l:FnAt P w K mg base 2 "_law_by_digits" Q5 (FR K) cx)(j:FnAt P w K mg base 2 "_law_by_mixing" Q8 (FR K) cz)(b:FnAt P w K mg base 1 "_law_cell" Q7 (FR K) eD)(h:FnAt P w K mg base 2 "_law_great" Q9 (FR K) dP)(d:FnAt P w K mg base 1 "_law_mixed" Q7 (FR K) ar) :
  FnAt P w K mg base 3 "_law_book" Q8 (FR K) eL:=eV F e p6 M M (λ_ _ _ _ _ _ m g=>by obtain⟨_,_,rfl⟩:=td.oG g;rfl) λn A outer s H E a =>
  (ah (d7 (ng a (w_mod (aW b a (aa (qv 0) (aa ag aj)) (by decide) M M) ag) ag) (aC (bH (aW l a (aa (gy (aW b a (aa (qv 0) (aa ag aj)) (by decide) M M) ag) aj) (by decide) M M))) cV)
  (ah (d7 (Kn.OO (kB (pq (qv 1) ag) (nQ (ng a (w_mod (aW d a (aa (qv 0) (aa ag aj)) (by decide) M M) ag) ag)))) (aC (bH (aW h a (aa (qv 0) aj) (by decide) M M))) cV)
  (aC (bH (aW j a (aa (qv 0) (aa (bj (fI (aa ag (aa ag (aa ag (aa (qv 1) aj))))) (w_mod (aW d a (aa (qv 0) (aa ag aj)) (by decide) M M) ag) (λ_ _=>rfl)) aj)) (by decide) M M)))))
abbrev cX:Stmt:=top 15
def cC:tx ["_law_book_here", "_law_found", "_law_number", "_law_text", "_law_end", "_law_start"] ["_law_book_here"] (ao cX):=⟨rfl,rfl,rfl,by decide +kernel,rfl,by decide +kernel,by decide +kernel⟩
def dW{f:GM}{d:On}(F:GQ K "_law_places" "_law_places" cX f d)(a:mg "_law_places" = O (.ref f))(B:HL mg) :
  FnAt P w K mg base 1 "_law_places" ["_law_book_here"] (FR K) cT:=eV F a cC M M (λ_ _ _ _ _ _ e b=>by obtain⟨_,rfl⟩:=td.nq b;rfl) λh A outer s H E g =>
  (ah (eQ (yL (by decide +kernel) (by decide)) cC.nd M Q4)
  (ah (bM Yv M (kS (qv 0) M B.Gm) (kj M (dM (aS 2 cC.nd M Q4 Q4) (dM (aS 3 cC.nd M Q4 Q4) jt)))
  (aC (bM Yv M (cH (w_add (ff B.FO (aa (qv 3) aj)) ag) M B.FQ) (aS 4 cC.nd M Q4 Q4)
  (aC (bM Yv M (cH (w_add (qv 4) ag) M B.FQ) (aS 5 cC.nd M Q4 Q4)
  (aC (wU (t6 _) 1 (cJ (qv 3) (bG (qv 5)) (bG (qv 4))) (aa (oo (aa (qv 2) (aa (qv 4) aj))) aj)  rfl M Q4 M M M M M M M M M M M M M M)))))))
  (aC (fP 1 M (Or.inl M) M M))))
abbrev cB:Stmt:=top 16
def kF:tx ["_law_word"] ["_law_word"] (ao cB):=⟨rfl,rfl,rfl,by decide +kernel,rfl,by decide +kernel,by decide +kernel⟩
def dj{f:GM}{d:On}(F:GQ K "_law_by_size" "_law_by_size" cB f d)(a:mg "_law_by_size" = O (.ref f))(B:HL mg) :
  FnAt P w K mg base 1 "_law_by_size" ["_law_word"] (FR K) eR:=eV F a kF M M (λ_ _ _ _ _ _ e b=>by obtain⟨_,rfl⟩:=td.nq b;rfl) λh A outer s H E g =>
  (aC (bH (oo (aa (ff B.FO (aa (qv 0) aj)) (aa (qv 0) aj)))))
abbrev dc:Stmt:=top 17
def gv:tx ["_law_found", "_law_groups", "_law_word"] ["_law_found"] (ao dc):=⟨rfl,rfl,rfl,by decide +kernel,rfl,by decide +kernel,by decide +kernel⟩
def dX{f:GM}{e:On}(F:GQ K "_law_stands" "_law_stands" dc f e)(b:mg "_law_stands" = O (.ref f))(B:HL mg)(g:FnAt P w K mg base 1 "_law_by_size" ["_law_word"] (FR K) eR) :
  FnAt P w K mg base 4 "_law_stands" ["_law_found"] (FR K) cZ:=eV F b gv M M (λ_ _ _ _ _ _ h d=>by obtain⟨_,rfl⟩:=td.nq d;rfl) λi A outer s H E a =>
  (ah (eQ Ab gv.nd M (Or.inr M))
  (ah (bM Yv M (fD (uk g (by decide) kZ a B.Hl (aa (qv 0) aj) M M M M M M)) (aS 2 gv.nd M Q4 Q4)
  (aC (vd 1 a (su B.Jo (aa (wq a (qv 0) (qv 2) (λ_ _=>rfl)) aj)) (aa (qv 2) aj)  rfl M (Or.inr Q4) M M M M M M M M M M M M M M)))
  (aC (u9 1 Qa a M M (Or.inr Q4) M M (λ_ _ _ _ _=>⟨td.sZ (show List.Nodup Qa from by decide +kernel) M Q4 (Or.inr M),td.fF M (Or.inr Q4) M M,td.fF M Q4 M M,rfl⟩) (λ_ _=>rfl) M M (by decide) (λ_=>rfl)))))
abbrev cD:Stmt:=top 18
def cP:tx ["_law_stands_here", "_law_numbers_here", "_law_k", "_law_some", "_law_word"] Qc (ao cD):=⟨rfl,rfl,rfl,by decide +kernel,rfl,by decide +kernel,by decide +kernel⟩
def dm{f:GM}{e:On}(F:GQ K "_law_numbers" "_law_numbers" cD f e)(b:mg "_law_numbers" = O (.ref f))(B:HL mg) :
  FnAt P w K mg base 1 "_law_numbers" Qc (FR K) bP:=eV F b cP M M (λ_ _ _ _ _ _ g d=>by obtain⟨_,rfl⟩:=td.nq d;rfl) λh A outer s H E a =>
  (ah (eQ ye cP.nd M Q4)
  (ah (bM Yv M (kS (qv 0) M B.Gm) (kj M (dM (aS 2 cP.nd M Q4 Q4) (dM (aS 3 cP.nd M Q4 Q4) jt)))
  (aC (bM Yv M (fD (qv 3)) (aS 4 cP.nd M Q4 Q4)
  (aC (wQ 1 a (qv 4) (qv 2) M Q4 M M (λ_=>rfl) M M M)))))
  (aC (fP 1 M (Or.inl M) M M))))
abbrev dR:Stmt:=top 19
def cj:tx ["_law_stands_here", "_law_numbers_here", "_law_table_here", "_law_some", "_law_ways", "_law_sign", "_law_link"] Qb (ao dR):=⟨rfl,rfl,rfl,by decide +kernel,rfl,by decide +kernel,by decide +kernel⟩
def fi{f:GM}{e:On}(F:GQ K "_law_table" "_law_table" dR f e)(b:mg "_law_table" = O (.ref f))(B:HL mg) :
  FnAt P w K mg base 1 "_law_table" Qb (FR K) dB:=eV F b cj M M (λ_ _ _ _ _ _ g d=>by obtain⟨_,_,rfl⟩:=td.oG d;rfl) λh A outer s H E a =>
  (ah (eQ (fI aj) cj.nd M Q4)
  (ah (bM Yv M (fD (qv 0)) (aS 3 cj.nd M Q4 Q4)
  (ah (eQ (fI aj) cj.nd M Q4)
  (ah (bM Yv M (fD (gZ (by decide +kernel) (by decide))) (aS 5 cj.nd M Q4 Q4)
  (aC (d7 (Dj a (w_add (bj (qv 3) ag (λ_ _=>rfl)) (qv 5)) (qv 1) (by with_unfolding_all rfl) M) (aC (gE 4 (aa (oo (aa (qv 5) (aa (wq a (qv 1) (w_add (bj (qv 3) ag (λ_ _=>rfl)) (qv 5)) (λ_ _=>rfl)) aj))) aj) M M Q4 M M)) cV)))
  (nR 4 (ah (au rG cj.nd M Q4)
  (ah (d7 (gp (Cd a.units) C8 wO (bj (qv 3) ag (λ_ _=>rfl)) (gZ (by decide +kernel) (by decide)) (ig _)) (aC (au (wq a (qv 1) (cJ (bj (qv 3) ag (λ_ _=>rfl)) (bG ag) dk) (λ_ _=>rfl)) cj.nd M Q4)) cV)
  (aC (gE 2 (aa (oo (aa (ff B.FO (aa (bj (qv 3) ag (λ_ _=>rfl)) aj)) (aa (ff B.FO (aa (bj (qv 3) tm (λ_ _=>rfl)) aj)) (aa (qv 6) (aa (su B.Jo (aa (qv 4) aj)) aj))))) aj) M M Q4 M M))))))))
  (aC (fP 2 M (Or.inl M) M M))))
abbrev dD:Stmt:=top 20
def jm:tx ["_law_table_here", "_law_ranks", "_law_word", "_law_told"] Qd (ao dD):=⟨rfl,rfl,rfl,by decide +kernel,rfl,by decide +kernel,by decide +kernel⟩
def dH{f:GM}{e:On}(F:GQ K "_law_right" "_law_right" dD f e)(b:mg "_law_right" = O (.ref f))(B:HL mg)(g:FnAt P w K mg base 5 "number_of" Qf (FR K) dG) :
  FnAt P w K mg base 6 "_law_right" Qd (FR K) cM:=eV F b jm M M (λ_ _ _ _ _ _ h d=>by obtain⟨_,_,_,rfl⟩:=td.Ep d;rfl) λi A outer s H E a =>
  (ah (au (aW g a (aa (qv 0) (aa (qv 2) aj)) (by decide) M M) jm.nd M Q4)
  (ah (d7 (xw a (qv 2) (qv 1) (by with_unfolding_all rfl) M) (aC (bH (Cn (qv 3)))) cV)
  (aC (bH (qX (w_is .int B.GO B.Oy (qv 3)) (qX (BI (w_is .bool B.GO B.MF (qv 3))) (vF (vk (rB a.units) wJ (qv 3) (wq a (qv 1) (qv 2) (λ_ _=>rfl)) (ig _)))))))))
abbrev ju:Stmt:=top 21
def cK:tx ["_law_script", "_law_book_here", "_law_found", "_law_stands_here", "_law_table_here", "_law_handed", "_law_some", "_law_ranks", "_law_k", "_law_word", "_law_by", "_law_at", "_law_sign", "_law_other", "_law_one"] Q9 (ao ju):=⟨rfl,rfl,rfl,by decide +kernel,rfl,by decide +kernel,by decide +kernel⟩
def CP{f:GM}{d:On}(F:GQ K "law" "law" ju f d)(B:HL mg)(h:FnAt P w K mg base 3 "_law_book" Q8 (FR K) eL)(b:FnAt P w K mg base 1 "_law_mixed" Q7 (FR K) ar)(i:FnAt P w K mg base 1 "_law_numbers" Qc (FR K) bP)(l:FnAt P w K mg base 1 "_law_places" ["_law_book_here"] (FR K) cT)(e:FnAt P w K mg base 6 "_law_right" Qd (FR K) cM)(j:FnAt P w K mg base 4 "_law_stands" ["_law_found"] (FR K) cZ)(g:FnAt P w K mg base 1 "_law_table" Qb (FR K) dB) :
  FnOk P w K mg base HK 7 f d Q9 (Js (FR K) qg):=T9 F cK M M λm A outer s H E a =>
  (ah (au (aW h a (aa (qv 0) (aa ag aj)) (by decide) M M) cK.nd M Q4)
  (ah (au (aW l a (aa (qv 1) aj) (by decide) M M) cK.nd M Q4)
  (ah (au (aW j a (aa (qv 2) aj) (by decide) M M) cK.nd M Q4)
  (ah (au (aW g a (aa (qv 3) (aa (aW i a (aa (qv 3) aj) (by decide) M M) aj)) (by decide) M M) cK.nd M Q4)
  (ah (au (zV B.MD (aa (qv 4) aj)) cK.nd M Q4)
  (ah (au (cJ (xI B.Hl (aa (qv 2) aj)) (bG ag) dk) cK.nd M Q4)
  (ah (eQ ye cK.nd M Q4)
  (ah (bM Yv M (kS (qv 6) M B.Gm) (kj M (dM (aS 8 cK.nd M Q4 Q4) (dM (aS 9 cK.nd M Q4 Q4) jt)))
  (aC (wQ 7 a (qv 9) (qv 8) M Q4 M M (λ_=>rfl) M M M)))
  (nR 7 (ah (au (w_add ag (gy (ff B.FO (aa (qv 6) aj)) ag)) cK.nd M Q4)
  (ah (d7 (pq (qv 10) ag) (aC (au (w_add (xQ (qv 6) (bG (w_mod (aW b a (aa (qv 0) (aa ag aj)) (by decide) M M) (qv 10))) dk (bG (qv 10)) M) (cJ (qv 6) (bG tm) dk)) cK.nd M Q4)) cV)
  (ah (bM Yv M (cH (ff B.FO (aa (qv 6) aj)) M B.FQ) (aS 8 cK.nd M Q4 Q4)
  (ah (au (w_mod (aW b a (aa (qv 0) (aa (w_add ag (qv 8)) aj)) (by decide) M M) (ff B.FO (aa (bj (qv 6) (qv 8) (λ_ _=>rfl)) aj))) cK.nd M Q4)
  (ah (au (bj (w_add (bj (qv 1) ag (λ_ _=>rfl)) (gZ (by decide +kernel) (by decide))) (w_mod (aW b a (aa (qv 0) (aa (w_add ag (qv 8)) aj)) (by decide) M M) (w_add (ff B.FO (aa (bj (qv 1) ag (λ_ _=>rfl)) aj)) ag)) (λ_ _=>rfl)) cK.nd M Q4)
  (ah (au (w_add (w_add (cJ (bj (qv 6) (qv 8) (λ_ _=>rfl)) dk (bG (qv 11))) (qv 12)) (cJ (bj (qv 6) (qv 8) (λ_ _=>rfl)) (bG (w_add (qv 11) ag)) dk)) cK.nd M Q4)
  (aC (bM Yv M (fD (fI (aa (bj (qv 6) (qv 8) (λ_ _=>rfl)) (aa (qv 13) (aa (cJ (w_add (w_add (bj (qv 6) (qv 8) (λ_ _=>rfl)) (bj (qv 1) ag (λ_ _=>rfl))) (bj (qv 6) (qv 8) (λ_ _=>rfl))) dk (bG ag)) aj))))) (aS 14 cK.nd M Q4 Q4)
  (aC (d7 (zz (yQ (aW e a (aa (qv 5) (aa (qv 7) (aa (qv 14) aj))) (by decide) M M))) (aC (bH A9)) cV))))))))
  (aC (bH (qX (aW e a (aa (qv 5) (aa (qv 7) (aa (gZ (by decide +kernel) (by decide)) aj))) (by decide) M M) (vF (vk (rB a.units) wJ (qv 5) (qv 4) (ig _))))))))))))))))))
end
def all_mk{l:PySem.W.OpenLaw}{w:SL}{K:Xd}{h:SC}{a:X3}{fa f0 f1 f2 f3 f4 f5 f6 f7 f8 f9 Sb Sa R9 R8 R7 R6 R5 R3 R1:GM}(X:K.In h)(G:h.Ns mainGlobals a)(hfa:a "law" = O (.ref fa)){n an0 m an1 j an2 i an3 g an4 f an5 d an6 Z9 an7 Z8 an8 Z5 an9 Ql SQ Qk SO Qj SN Qi SM P9 SK P8 SJ P7 SI P6 SH P5 OA:Option GM}{PD U7 U6 Nl U5 UZ UY UX UW UU PB Pz Py Px Pw Pu Pt Pr Pq:Array (Vj)}{C kV0 dc0 V8 Ur ct0 A Z dc1 V7 Uq ct1 z U dc2 V6 Up ct2 y R dc3 V5 ct3 x Q dc4 VR Uo ct4 u N dc5 VJ Um ct5 t L dc6 VI Ul ct6 r I dc7 VH Uk ct7 q H dc8 VG Uj ct8 o D dc9 VF Ui ct9 Qu QR Sq PZ Ou SD Qt QP So PY Ot SA Qs QO Sn PX Os Sy Qr QN Sm PU Oq Sw Qq QM Sl PR Oo Sv Qp QL Sk PQ Om Su Qo QK Sj PN Ol Ss Qn QJ Si PM Oj Sr Qm NB Og Nr MB Oh:IR}{b F8:GM}(Rn:∀ns:Vb,ns.length<=63->qg [.scr ns]=O (.fr,.bl J))(a0:PySem.W.nsIn K mainGlobals "walk" = O (O (.ref f0)))(l0:K.lookup f0=O ⟨C,n,.func (PySem.W.fnOf "walk" "walk" (bh jP) (aU jP) (ao jP) .none kV0 dc0 V8 an0 Ur ct0),PD⟩)(c0:PySem.W.codeIn K Ur "walk" = J)(k0:PySem.W.keepIn K (.ref f0)=J)(a1:PySem.W.nsIn K mainGlobals "stand_of" = O (O (.ref f1)))(l1:K.lookup f1=O ⟨A,m,.func (PySem.W.fnOf "stand_of" "stand_of" (bh eu) (aU eu) (ao eu) .none Z dc1 V7 an1 Uq ct1),U7⟩)(c1:PySem.W.codeIn K Uq "stand_of" = J)(k1:PySem.W.keepIn K (.ref f1)=J)(a2:PySem.W.nsIn K mainGlobals "onward_below" = O (O (.ref f2)))(l2:K.lookup f2=O ⟨z,j,.func (PySem.W.fnOf "onward_below" "onward_below" (bh bS) (aU bS) (ao bS) .none U dc2 V6 an2 Up ct2),U6⟩)(c2:PySem.W.codeIn K Up "onward_below" = J)(k2:PySem.W.keepIn K (.ref f2)=J)(a3:PySem.W.nsIn K mainGlobals "onward_counts" = O (O (.ref f3)))(l3:K.lookup f3=O ⟨y,i,.func (PySem.W.fnOf "onward_counts" "onward_counts" (bh bJ) (aU bJ) (ao bJ) .none R dc3 V5 an3 (.ref b) ct3),Nl⟩)(c3:PySem.W.codeIn K (.ref b) "onward_counts" = J)(k3:PySem.W.keepIn K (.ref f3)=J)(h3:PySem.W.codeHdIn K b F8=J)(a4:PySem.W.nsIn K mainGlobals "number_of" = O (O (.ref f4)))(l4:K.lookup f4=O ⟨x,g,.func (PySem.W.fnOf "number_of" "number_of" (bh dN) (aU dN) (ao dN) .none Q dc4 VR an4 Uo ct4),U5⟩)(c4:PySem.W.codeIn K Uo "number_of" = J)(k4:PySem.W.keepIn K (.ref f4)=J)(a5:PySem.W.nsIn K mainGlobals "_law_cell" = O (O (.ref f5)))(l5:K.lookup f5=O ⟨u,f,.func (PySem.W.fnOf "_law_cell" "_law_cell" (bh eA) (aU eA) (ao eA) .none N dc5 VJ an5 Um ct5),UZ⟩)(c5:PySem.W.codeIn K Um "_law_cell" = J)(k5:PySem.W.keepIn K (.ref f5)=J)(a6:PySem.W.nsIn K mainGlobals "_law_mixed" = O (O (.ref f6)))(l6:K.lookup f6=O ⟨t,d,.func (PySem.W.fnOf "_law_mixed" "_law_mixed" (bh dQ) (aU dQ) (ao dQ) .none L dc6 VI an6 Ul ct6),UY⟩)(c6:PySem.W.codeIn K Ul "_law_mixed" = J)(k6:PySem.W.keepIn K (.ref f6)=J)(a7:PySem.W.nsIn K mainGlobals "_law_signs" = O (O (.ref f7)))(l7:K.lookup f7=O ⟨r,Z9,.func (PySem.W.fnOf "_law_signs" "_law_signs" (bh dC) (aU dC) (ao dC) .none I dc7 VH an7 Uk ct7),UX⟩)(c7:PySem.W.codeIn K Uk "_law_signs" = J)(k7:PySem.W.keepIn K (.ref f7)=J)(a8:PySem.W.nsIn K mainGlobals "_law_by_digits" = O (O (.ref f8)))(l8:K.lookup f8=O ⟨q,Z8,.func (PySem.W.fnOf "_law_by_digits" "_law_by_digits" (bh bK) (aU bK) (ao bK) .none H dc8 VG an8 Uj ct8),UW⟩)(c8:PySem.W.codeIn K Uj "_law_by_digits" = J)(k8:PySem.W.keepIn K (.ref f8)=J)(a9:PySem.W.nsIn K mainGlobals "_law_by_mixing" = O (O (.ref f9)))(l9:K.lookup f9=O ⟨o,Z5,.func (PySem.W.fnOf "_law_by_mixing" "_law_by_mixing" (bh bL) (aU bL) (ao bL) .none D dc9 VF an9 Ui ct9),UU⟩)(c9:PySem.W.codeIn K Ui "_law_by_mixing" = J)(k9:PySem.W.keepIn K (.ref f9)=J)(a10:PySem.W.nsIn K mainGlobals "_law_great" = O (O (.ref Sb)))(l10:K.lookup Sb=O ⟨Qu,Ql,.func (PySem.W.fnOf "_law_great" "_law_great" (bh dJ) (aU dJ) (ao dJ) .none QR Sq PZ SQ Ou SD),PB⟩)(c10:PySem.W.codeIn K Ou "_law_great" = J)(k10:PySem.W.keepIn K (.ref Sb)=J)(a11:PySem.W.nsIn K mainGlobals "_law_book" = O (O (.ref Sa)))(l11:K.lookup Sa=O ⟨Qt,Qk,.func (PySem.W.fnOf "_law_book" "_law_book" (bh eI) (aU eI) (ao eI) .none QP So PY SO Ot SA),Pz⟩)(c11:PySem.W.codeIn K Ot "_law_book" = J)(k11:PySem.W.keepIn K (.ref Sa)=J)(a12:PySem.W.nsIn K mainGlobals "_law_places" = O (O (.ref R9)))(l12:K.lookup R9=O ⟨Qs,Qj,.func (PySem.W.fnOf "_law_places" "_law_places" (bh cX) (aU cX) (ao cX) .none QO Sn PX SN Os Sy),Py⟩)(c12:PySem.W.codeIn K Os "_law_places" = J)(k12:PySem.W.keepIn K (.ref R9)=J)(a13:PySem.W.nsIn K mainGlobals "_law_by_size" = O (O (.ref R8)))(l13:K.lookup R8=O ⟨Qr,Qi,.func (PySem.W.fnOf "_law_by_size" "_law_by_size" (bh cB) (aU cB) (ao cB) .none QN Sm PU SM Oq Sw),Px⟩)(c13:PySem.W.codeIn K Oq "_law_by_size" = J)(k13:PySem.W.keepIn K (.ref R8)=J)(a14:PySem.W.nsIn K mainGlobals "_law_stands" = O (O (.ref R7)))(l14:K.lookup R7=O ⟨Qq,P9,.func (PySem.W.fnOf "_law_stands" "_law_stands" (bh dc) (aU dc) (ao dc) .none QM Sl PR SK Oo Sv),Pw⟩)(c14:PySem.W.codeIn K Oo "_law_stands" = J)(k14:PySem.W.keepIn K (.ref R7)=J)(a15:PySem.W.nsIn K mainGlobals "_law_numbers" = O (O (.ref R6)))(l15:K.lookup R6=O ⟨Qp,P8,.func (PySem.W.fnOf "_law_numbers" "_law_numbers" (bh cD) (aU cD) (ao cD) .none QL Sk PQ SJ Om Su),Pu⟩)(c15:PySem.W.codeIn K Om "_law_numbers" = J)(k15:PySem.W.keepIn K (.ref R6)=J)(a16:PySem.W.nsIn K mainGlobals "_law_table" = O (O (.ref R5)))(l16:K.lookup R5=O ⟨Qo,P7,.func (PySem.W.fnOf "_law_table" "_law_table" (bh dR) (aU dR) (ao dR) .none QK Sj PN SI Ol Ss),Pt⟩)(c16:PySem.W.codeIn K Ol "_law_table" = J)(k16:PySem.W.keepIn K (.ref R5)=J)(a17:PySem.W.nsIn K mainGlobals "_law_right" = O (O (.ref R3)))(l17:K.lookup R3=O ⟨Qn,P6,.func (PySem.W.fnOf "_law_right" "_law_right" (bh dD) (aU dD) (ao dD) .none QJ Si PM SH Oj Sr),Pr⟩)(c17:PySem.W.codeIn K Oj "_law_right" = J)(k17:PySem.W.keepIn K (.ref R3)=J)(a18:PySem.W.nsIn K mainGlobals "law" = O (O (.ref R1)))(l18:K.lookup R1=O ⟨Qm,P5,.func (PySem.W.fnOf "law" "law" (bh ju) (aU ju) (ao ju) .none NB Og Nr OA MB Oh),Pq⟩)(c18:PySem.W.codeIn K MB "law" = J)(k18:PySem.W.keepIn K (.ref R1)=J)(z_bool:PySem.W.nsIn K mainGlobals "bool" = O Y)(z_dict:PySem.W.nsIn K mainGlobals "dict" = O Y)(z_enumerate:PySem.W.nsIn K mainGlobals "enumerate" = O Y)(z_int:PySem.W.nsIn K mainGlobals "int" = O Y)(z_isinstance:PySem.W.nsIn K mainGlobals "isinstance" = O Y)(z_len:PySem.W.nsIn K mainGlobals "len" = O Y)(z_list:PySem.W.nsIn K mainGlobals "list" = O Y)(z_min:PySem.W.nsIn K mainGlobals "min" = O Y)(z_range:PySem.W.nsIn K mainGlobals "range" = O Y)(z_sorted:PySem.W.nsIn K mainGlobals "sorted" = O Y)(z_sum:PySem.W.nsIn K mainGlobals "sum" = O Y)(z_tuple:PySem.W.nsIn K mainGlobals "tuple" = O Y)(z_zip:PySem.W.nsIn K mainGlobals "zip" = O Y)
  : ∃fd:On,(∀(s:FB)(v:IR),BindsTo s fd ⟨[v],[]⟩ [("_law_script",v)])/\∀base:SC,K.In base->base.Ns mainGlobals a->Bm a base->(∀p∈([(b,F8, "onward_counts.<locals>.<lambda>")]:td.OC),Tb base p.2.1 p.2.2)->FnOk l.prog w K a base HK 7 fa fd Q9 (Js (FR K) zu):=by
 have e:=hfa.symm.trans (Yo X G a18);cases e;have B:HL a:=⟨Yl X G z_bool,Yl X G z_dict,Yl X G z_enumerate,Yl X G z_int,Yl X G z_isinstance,Yl X G z_len,Yl X G z_list,Yl X G z_min,Yl X G z_range,Yl X G z_sorted,Yl X G z_sum,Yl X G z_tuple,Yl X G z_zip⟩
 refine⟨PySem.W.fnOf "law" "law" (bh ju) (aU ju) (ao ju) .none NB Og Nr OA MB Oh,λs v=>.of_eq M,λbase _ _ Lb Lt=>?_⟩;have hV:=hV (P:=l.prog) (w:=w) (base:=base) (b8 (st:=jP) l0 c0 k0) (Yo X G a0) B;have fM:=fM (P:=l.prog) (w:=w) (base:=base) (b8 (st:=eu) l1 c1 k1) (Yo X G a1) B hV;have cG:=cG (P:=l.prog) (w:=w) (base:=base) (b8 (st:=bS) l2 c2 k2) (Yo X G a2) B;have cn:=cn (P:=l.prog) (w:=w) (base:=base) (b8 (st:=bJ) l3 c3 k3) (Yo X G a3) B h3 (Lt _ (.head _)) Lb M;have eY:=eY (P:=l.prog) (w:=w) (base:=base) (b8 (st:=dN) l4 c4 k4) (Yo X G a4) B cG cn fM hV;have eE:=eE (P:=l.prog) (w:=w) (base:=base) (b8 (st:=eA) l5 c5 k5) (Yo X G a5) B;have aG:=aG (P:=l.prog) (w:=w) (base:=base) (b8 (st:=dQ) l6 c6 k6) (Yo X G a6) B;have bB:=bB (P:=l.prog) (w:=w) (base:=base) (b8 (st:=dC) l7 c7 k7) (Yo X G a7) B;have cA:=cA (P:=l.prog) (w:=w) (base:=base) (b8 (st:=bK) l8 c8 k8) (Yo X G a8) B bB;have cw:=cw (P:=l.prog) (w:=w) (base:=base) (b8 (st:=bL) l9 c9 k9) (Yo X G a9) B aG bB;have fj:=fj (P:=l.prog) (w:=w) (base:=base) (b8 (st:=dJ) l10 c10 k10) (Yo X G a10) B aG bB;have fR:=fR (P:=l.prog) (w:=w) (base:=base) (b8 (st:=eI) l11 c11 k11) (Yo X G a11) B cA cw eE fj aG;have dW:=dW (P:=l.prog) (w:=w) (base:=base) (b8 (st:=cX) l12 c12 k12) (Yo X G a12) B;have dj:=dj (P:=l.prog) (w:=w) (base:=base) (b8 (st:=cB) l13 c13 k13) (Yo X G a13) B;have dX:=dX (P:=l.prog) (w:=w) (base:=base) (b8 (st:=dc) l14 c14 k14) (Yo X G a14) B dj;have dm:=dm (P:=l.prog) (w:=w) (base:=base) (b8 (st:=cD) l15 c15 k15) (Yo X G a15) B;have fi:=fi (P:=l.prog) (w:=w) (base:=base) (b8 (st:=dR) l16 c16 k16) (Yo X G a16) B;have dH:=dH (P:=l.prog) (w:=w) (base:=base) (b8 (st:=dD) l17 c17 k17) (Yo X G a17) B eY;exact zt M (CP (b8 (st:=ju) l18 c18 k18) B fR aG dm dW dH dX fi) Rn
end T27
open PySem PySem.W PyProof.Rows PySem.W.X PySem.W.ZRun
set_option maxRecDepth 100000 in
set_option maxHeartbeats 0 in
theorem PySem.Challenge.cw_allparts_k27_numbers_of_parts_holds : PySem.Challenge.rw_allparts_k27_numbers_of_parts.Holds := by
 w_on;o_law;k_head;(case hw=>w_witness2)
 k_fill
 refine VS.vJ (l:=PySem.Challenge.rw_allparts_k27_numbers_of_parts) (k:=7) (x := "_law_script") (tb:=[(39,37, "onward_counts.<locals>.<lambda>")]) rfl rfl ⟨rfl,by decide,by decide⟩ (by decide) (by decide +kernel) (fun _=>by kernel_rfl) (fun _=>(List.forall_mem_cons.mpr ⟨by kernel_rfl,(fun _ h=>nomatch h)⟩)) ?F
 case F =>
  intro w mg fa h KX G hmg
  refine' T27.all_mk KX G hmg T27.wW ?a0 ?l0 ?c0 ?k0 ?a1 ?l1 ?c1 ?k1 ?a2 ?l2 ?c2 ?k2 ?a3 ?l3 ?c3 ?k3 ?h3 ?a4 ?l4 ?c4 ?k4 ?a5 ?l5 ?c5 ?k5 ?a6 ?l6 ?c6 ?k6 ?a7 ?l7 ?c7 ?k7 ?a8 ?l8 ?c8 ?k8 ?a9 ?l9 ?c9 ?k9 ?a10 ?l10 ?c10 ?k10 ?a11 ?l11 ?c11 ?k11 ?a12 ?l12 ?c12 ?k12 ?a13 ?l13 ?c13 ?k13 ?a14 ?l14 ?c14 ?k14 ?a15 ?l15 ?c15 ?k15 ?a16 ?l16 ?c16 ?k16 ?a17 ?l17 ?c17 ?k17 ?a18 ?l18 ?c18 ?k18 ?z_bool ?z_dict ?z_enumerate ?z_int ?z_isinstance ?z_len ?z_list ?z_min ?z_range ?z_sorted ?z_sum ?z_tuple ?z_zip
  (case a0=>k_is)
  (case l0=>k_is)
  (case c0=>k_is)
  (case k0=>k_is)
  (case a1=>k_is)
  (case l1=>k_is)
  (case c1=>k_is)
  (case k1=>k_is)
  (case a2=>k_is)
  (case l2=>k_is)
  (case c2=>k_is)
  (case k2=>k_is)
  (case a3=>k_is)
  (case l3=>k_is)
  (case c3=>k_is)
  (case k3=>k_is)
  (case h3=>kernel_rfl)
  (case a4=>k_is)
  (case l4=>k_is)
  (case c4=>k_is)
  (case k4=>k_is)
  (case a5=>k_is)
  (case l5=>k_is)
  (case c5=>k_is)
  (case k5=>k_is)
  (case a6=>k_is)
  (case l6=>k_is)
  (case c6=>k_is)
  (case k6=>k_is)
  (case a7=>k_is)
  (case l7=>k_is)
  (case c7=>k_is)
  (case k7=>k_is)
  (case a8=>k_is)
  (case l8=>k_is)
  (case c8=>k_is)
  (case k8=>k_is)
  (case a9=>k_is)
  (case l9=>k_is)
  (case c9=>k_is)
  (case k9=>k_is)
  (case a10=>k_is)
  (case l10=>k_is)
  (case c10=>k_is)
  (case k10=>k_is)
  (case a11=>k_is)
  (case l11=>k_is)
  (case c11=>k_is)
  (case k11=>k_is)
  (case a12=>k_is)
  (case l12=>k_is)
  (case c12=>k_is)
  (case k12=>k_is)
  (case a13=>k_is)
  (case l13=>k_is)
  (case c13=>k_is)
  (case k13=>k_is)
  (case a14=>k_is)
  (case l14=>k_is)
  (case c14=>k_is)
  (case k14=>k_is)
  (case a15=>k_is)
  (case l15=>k_is)
  (case c15=>k_is)
  (case k15=>k_is)
  (case a16=>k_is)
  (case l16=>k_is)
  (case c16=>k_is)
  (case k16=>k_is)
  (case a17=>k_is)
  (case l17=>k_is)
  (case c17=>k_is)
  (case k17=>k_is)
  (case a18=>k_is)
  (case l18=>k_is)
  (case c18=>k_is)
  (case k18=>k_is)
  (case z_bool=>k_is)
  (case z_dict=>k_is)
  (case z_enumerate=>k_is)
  (case z_int=>k_is)
  (case z_isinstance=>k_is)
  (case z_len=>k_is)
  (case z_list=>k_is)
  (case z_min=>k_is)
  (case z_range=>k_is)
  (case z_sorted=>k_is)
  (case z_sum=>k_is)
  (case z_tuple=>k_is)
  (case z_zip=>k_is)
end
