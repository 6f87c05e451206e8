import PyProof.Rows.All
import Wide.All
import OpenK.AllK
import Wide.FinOn
import Lean
import PyProof.EqAt
import PyProof.EqKinds
import PyProof.TupleCall
import PyProof.Rows.SortShellK
import PyProof.Rows.SortStr
import PyProof.Rows.SortWalk
import PyProof.StrBlockH
import PyProof.StrLawsIn
import PyProof.Rows.SetFrom
import PyProof.CollectWalk
import KE.KDictSum
import PyProof.ListStr
import PyProof.SeqI3
import PyProof.Rows.CallKwBuiltin
import PyProof.ListRange
import PyProof.AttrMissSeq
import PyProof.DictUpdate
import PyProof.DictList
import PyProof.ListNew
import PyProof.FactsAll.dict_1
import PyProof.SliceList
import PyProof.WalkInts
import PyProof.StationsW
import OpenK.KOwn
import KE.KTryMore
import PyProof.NsDelKeeps
import PyProof.ExcArgsOwn
import PyProof.ExcAttrAll.Exception
import OpenK.KDescr
import KE.KIsAll
import PyProof.ExcBaseAll.ValueError
import PyProof.StrBlock
import PyProof.StrCalls
import PyProof.StrLawsOccR
import KE.KDictOf
import PyProof.Rows.Range3
import PySem.Challenge.RW_allparts_k17_whole_each_part_has_a_stand
namespace PySem.W.Fast
def tw1777929404931000526:True:=⟨⟩
def tw2517086125914472080:True:=⟨⟩
def tw4998972530863093984:True:=⟨⟩
def tw13145303812599282452:True:=⟨⟩
def tw14161665345309303107:True:=⟨⟩
def tw14661341838886171435:True:=⟨⟩
def tw10732286281502814176:True:=⟨⟩
def tw15324811797588834951:True:=⟨⟩
def tw13835195227127737470:True:=⟨⟩
def tw1454416779246153151:True:=⟨⟩
def tw15132068086802162193:True:=⟨⟩
def tw9801955791433471550:True:=⟨⟩
def tw15969930217220085910:True:=⟨⟩
def tw1223859356872641456:True:=⟨⟩
def tw8028946282695155482:True:=⟨⟩
def tw15814074149065242880:True:=⟨⟩
def tw8308833091047946192:True:=⟨⟩
def tw5545461824316192107:True:=⟨⟩
def tw13389705359540470682:True:=⟨⟩
def tw4882149019895425931:True:=⟨⟩
def tw10903018623782774977:True:=⟨⟩
def tw7740150025543207666:True:=⟨⟩
def tw6108395238265066214:True:=⟨⟩
def tw14990068245072950815:True:=⟨⟩
def tw2987960167715372170:True:=⟨⟩
def tw10939051332606517735:True:=⟨⟩
def tw12714962082605208044:True:=⟨⟩
def tw2385352865732242018:True:=⟨⟩
def tw12994674188211068689:True:=⟨⟩
def tw14559709751431801252:True:=⟨⟩
def tw15581165537058998719:True:=⟨⟩
def tw13149412578001819939:True:=⟨⟩
def tw2785177136876917038:True:=⟨⟩
def tw5748888686348648309:True:=⟨⟩
def tw4514871334141960704:True:=⟨⟩
def tw11710296323106094506:True:=⟨⟩
def tw4600458177060310304:True:=⟨⟩
def tw8600433519589298763:True:=⟨⟩
def tw16060192111180755175:True:=⟨⟩
def tw6946648775140434612:True:=⟨⟩
def tw4557168303974973480:True:=⟨⟩
def tw2804118785770755748:True:=⟨⟩
def tw2888439461757139780:True:=⟨⟩
def tw14690195674833908928:True:=⟨⟩
def tw96085615921884183:True:=⟨⟩
def tw9981077903133559861:True:=⟨⟩
def tw12626214618774904252:True:=⟨⟩
def tw14411495003972934601:True:=⟨⟩
def tw16855828353129437123:True:=⟨⟩
def tw17620956312338417884:True:=⟨⟩
def tw11719483949026048428:True:=⟨⟩
def tw16989801210861153981:True:=⟨⟩
def tw17595297882121543574:True:=⟨⟩
def tw9950389350324064923:True:=⟨⟩
def tw1055555626927046768:True:=⟨⟩
def tw16274183653441635665:True:=⟨⟩
def tw13551236695702736243:True:=⟨⟩
def tw12616962637727342702:True:=⟨⟩
def tw7104286163087693515:True:=⟨⟩
def tw1828593684112848963:True:=⟨⟩
def tw10411227066226459643:True:=⟨⟩
def tw2288417031783165130:True:=⟨⟩
def tw16340593628829876957:True:=⟨⟩
def tw12712473396188234032:True:=⟨⟩
def tw16863635658696877731:True:=⟨⟩
def tw849803923600594668:True:=⟨⟩
def tw3589950246962329375:True:=⟨⟩
def tw3963831571659937793:True:=⟨⟩
def tw16026073523729056441:True:=⟨⟩
def tw15863135880018753392:True:=⟨⟩
def tw2094279242340572832:True:=⟨⟩
def tw7089852655411628570:True:=⟨⟩
def tw14600341278908978153:True:=⟨⟩
def tw9016692316677205180:True:=⟨⟩
def tw1860621002725174488:True:=⟨⟩
def tw2022908199399965719:True:=⟨⟩
def tw1264594364971635728:True:=⟨⟩
def tw14997489613143251005:True:=⟨⟩
def tw7965112382724304470:True:=⟨⟩
def tw18425216113891242033:True:=⟨⟩
def tw12075007685116191478:True:=⟨⟩
def tw6483774885619604974:True:=⟨⟩
def tw17003294699465294685:True:=⟨⟩
def tw7671214891100722227:True:=⟨⟩
def tw4662479838797492394:True:=⟨⟩
def tw11038926879743089303:True:=⟨⟩
def tw3294688686161602392:True:=⟨⟩
def tw12155146450341664780:True:=⟨⟩
def tw3873208017840079959:True:=⟨⟩
def tw11701475429160559682:True:=⟨⟩
def tw8929843544369286098:True:=⟨⟩
def tw8074098341591451765:True:=⟨⟩
def tw4141304109453123908:True:=⟨⟩
def tw2482686496040181560:True:=⟨⟩
def tw16271714676371834850:True:=⟨⟩
def tw2597463273213087432:True:=⟨⟩
def tw11210988356514033718:True:=⟨⟩
def tw4950316841569857090:True:=⟨⟩
def tw2465521159459185098:True:=⟨⟩
def tw430004652037901390:True:=⟨⟩
def tw4019677751092192367:True:=⟨⟩
def tw12389945949239744134:True:=⟨⟩
def tw15639384775070288337:True:=⟨⟩
def tw8459679409546422261:True:=⟨⟩
def tw15275432930820695749:True:=⟨⟩
def tw15239500046869954622:True:=⟨⟩
def tw3964033607232377648:True:=⟨⟩
def tw2217528322040787764:True:=⟨⟩
def tw11927819242113216311:True:=⟨⟩
def tw15367558752242182513:True:=⟨⟩
def tw782017245187593579:True:=⟨⟩
def tw16858198787703381088:True:=⟨⟩
def tw2810408788581753619:True:=⟨⟩
def tw1510232761189354759:True:=⟨⟩
def tw11216989165461528534:True:=⟨⟩
def tw14273545204545251064:True:=⟨⟩
def tw6758597845038746596:True:=⟨⟩
def tw10352031493961779967:True:=⟨⟩
def tw8720445781917739925:True:=⟨⟩
def tw16201938033651908837:True:=⟨⟩
end PySem.W.Fast
set_option linter.all false
set_option maxRecDepth 100000
set_option Elab.async false
set_option maxHeartbeats 4000000
abbrev Z3:=PySem.Value->PySem.Shared->Prop
abbrev Yz:=List (PySem.Addr×PySem.Obj)
abbrev Yp:=List (List PySem.Addr)
abbrev Xf:=PySem.W.Frag
abbrev X9:=PySem.Str->Option PySem.Value
abbrev Wy:=List PySem.Addr
abbrev Wu:=List PySem.Value
abbrev Wt:=Option PySem.Value
abbrev Vv:=List Nat
abbrev Vu:=List Int
abbrev Vt:=List (List (List Nat))
abbrev Zs:=@if_pos
abbrev Zp:=@if_neg
abbrev ZG:=@decide_eq_false
open Option renaming bind_eq_some_iff->Zz,map_eq_some_iff->Zu,bind_some->Zt,isSome_iff_exists->Yl,getD_some->Y0,isSome_map->Y3,map_some->Xs
open List renaming length_append->Zy,length_map->Zx,mem_cons_self->Zw,mem_cons_of_mem->Zv,getD_eq_getElem?_getD->Zr,getElem?_eq_getElem->Zq,map_cons->Zm,length_cons->Zk,mem_cons->Zj,mem_append->Ze,append_assoc->Zd,length_singleton->Zc,mem_singleton->Za,nodup_cons->ZY,getElem?_eq_some_iff->ZX,zip_cons_cons->ZV,append_nil->ZQ,mem_append_right->ZP,length_range->ZO,getElem?_map->ZM,nodup_append->ZK,size_toArray->ZJ,flatten_cons->ZI,mem_range->ZD,length_take->ZC,flatten_append->Z4,pairwise_append->Z5,length_drop->Z7,map_append->Z8,find?_cons->Yy,map_map->Yv,getElem_mem->Yt,getElem?_append_left->Ys,take_of_length_le->Yr,getElem?_append_right->Yq,mem_map->Yo,length_zip->Yn,getElem_of_mem->Ym,all_eq_true->Yk,getElem?_eq_none->Yj,getElem?_eq_none_iff->Yi,suffix_refl->Yh,nil_append->Yg,mem_append_left->Yf,sublist_cons_self->Yd,length_set->Yb,lookup_cons->Ya,mem_of_mem_take->YX,drop_eq_nil_of_le->YV,getD_cons_succ->YU,take_append_drop->YS,mem_of_mem_drop->YQ,length_nil->YM,pairwise_iff_getElem->YL,getElem?_zip_eq_some->YK,perm_append_comm->YJ,any_cons->YH,nodup_nil->YG,getElem?_replicate->YD,suffix_nil->YC,sublist_append_right->Y1,drop_eq_getElem_cons->Y2,getElem?_set_ne->Y4,idxOf_lt_length_iff->Y6,mem_reverse->Y9,any_eq_true->Xz,drop_of_length_le->Xu,mem_filter->Xq,length_replicate->Xp,length_filter_le->Xo,getElem_take->Xm,getElem_drop->Xl,mem_of_getElem?->Xj,findIdx?_cons->XX,getElem?_set_self->XM,drop_zero->XJ,cons_lt_cons_iff->XE,map_fst_zip->XC,drop_append->XB,cons_append->XA,append_cons->X0,take_append_of_le_length->X1,zip_append->X3,nil_suffix->X4,foldl_cons->X5,map_congr_left->X7,getElem_idxOf->Wx,mem_of_find?_eq_some->Wv,pairwise_map->Wr,filter_congr->Wq,ext_getElem?->Wp,sum_cons->Wk,all_cons->Wj,getElem?_cons_succ->Wg,filter_cons_of_pos->Wf,filter_cons_of_neg->We,map_set->Wa,map_nil->WZ,flatten_singleton->WY,set_getElem_self->WU,cons_prefix_cons->WT,map_id->WQ,drop_take->WO,filterMap_cons->WJ,pairwise_cons->WE,getElem?_set->W3,all_map->W4,zipIdx_cons->W9,not_mem_nil->Vz,nodup_range->Vy,getElem_inj->Vx,drop_suffix->Vw
open Nat renaming le_refl->Zo,ne_of_lt->Zb,zero_le->ZR,lt_of_lt_of_le->ZF,le_trans->ZE,le_of_lt->Z0,le_add_right->Z1,pos_of_ne_zero->Z2,le_of_not_lt->Yu,min_eq_left->YW,le_of_lt_succ->YT,lt_irrefl->YO,sub_le->YN,lt_succ_self->YI,add_sub_cancel_left->YE,zero_add->YB,succ_le_succ->Y8,add_sub_cancel->Xv,le_add_left->Xr,le_of_not_le->Xe,lt_of_le_of_lt->XY,le_succ->XS,lt_succ_of_lt->XQ,le_of_eq->XO,lt_of_succ_lt->Ws,min_eq_right->Wi,lt_of_not_le->Wh,lt_trans->Wc,lt_or_ge->Wb,sub_self->WD,sub_pos_of_lt->WC,ne_of_gt->WB,le_of_succ_le->WA,add_sub_of_le->W0
open PySem renaming wpAny_bind->Zn,wpAny_pure->ZW,wpAny_mono->YA,wpAny_truthy_bool->Y7,wpAny_holding->Xw,wpAny_passesOwn->Xk,mem_of_lookup->Xd,wpAny_Call_Name_kw->XH,tupleKind_room_in1->XG,sizeLine_eq->XF,wpAny_call_entry->X8,wpAny_typeNameOfWhole_keyiter->Wz,wpAny_newObj_type->WW,wpAny_execs_nil->WH
open Option.some renaming inj->Zl
open PyProof.Rows renaming wpS_pure->Zi,wpS_bind->ZZ,wpS_forRange->Yc,wpS_mono->Y5,callWith_type1->Xn,wpS_modify->X6,wpS_get->WR
open Array renaming getElem_mem->Zh,getElem?_toList->Yw,toList_append->YZ,length_toList->YY,perm_iff_toList_perm->Xg,toList_extract->X2,toList_reverse->WM,toList_push->W6
open Bool renaming false_ne_true->Zg,and_eq_true->ZS,and_eq_true_iff->Xh,eq_iff_iff->Xa,false_eq_true->XW
open PySem.Heap renaming get?_push_of_some->Zf,lt_size->ZU,get?_push_size->ZL,get?_push_ne->Xy,size_update->WN,get?_update_other->WI,size_push->W5
open Int renaming emod_lt_of_pos->ZA,emod_nonneg->Yx,toNat_natCast->Wm
open PySem.PassesOwn renaming never->Z6
open PySem.W renaming mg_of->Z9,mg_none_of->Ye,kia_one->YR,plainGet_of->WK,callWith_K->WG
open Ne renaming symm->YF
open PySem.F renaming slot_dict_keyiterator_next->Xi,type_list_append->Xc,slot_list_append->Xb,plainAttrs_list->XU,slot_tuple_getattribute->WX,slot_dict_get->WV
open Prod.mk renaming inj->XT
open PySem.Paired renaming length->XR
open List.Sublist renaming refl->XI
open List.Perm renaming refl->Ww
open PySem.Around renaming under_plainId->W7
open PySem.Value renaming isStrOf_shape->W8
section
namespace L2
theorem iB{G:Prop}(h:∀P:Prop,(G->P)->P):G:=h G id
end L2
namespace VS
noncomputable abbrev Tx:=Vv
inductive T where
 |non | bl (b:Bool) | int (i:Int) | str (s:Tx) | scr (ns:Vu)
 |tup (l:List T) | lst (l:List T) | dct (kd:Nat) (l:List (T×T)) | obj (c:Nat) (fs:List (Nat×T))
 deriving Inhabited
abbrev Vp:=List T
noncomputable def fL:Nat:=16777216
mutual
@[simp] noncomputable def G5:T->Bool
 |.lst _=>false
 |.dct _ _=>false
 |.obj _ _=>false
 |.tup l=>fK l
 |_=>true
@[simp] noncomputable def fK:Vp->Bool
 |[]=>true
 |t :: r=>G5 t&&fK r
end
mutual
@[simp] noncomputable def eqT:T->T->Bool
 |.non,.non=>true
 |.bl a,.bl b=>a==b
 |.bl a,.int i=>(if a then 1 else 0)==i
 |.int i,.bl a=>i==(if a then 1 else 0)
 |.int i,.int j=>i==j
 |.str s,.str t=>s==t
 |.tup a,.tup b=>um a b
 |.lst a,.lst b=>um a b
 |_,_=>false
@[simp] noncomputable def um:Vp->Vp->Bool
 |[],[]=>true
 |a :: d,b :: bs=>eqT a b&&um d bs
 |_,_=>false
end
@[simp] noncomputable def HS:Nat->T->Bool
 |_,.non=>true
 |_,.bl _=>true
 |_,.int _=>true
 |_,.str _=>true
 |n+1,.tup l=>l.all (HS n)
 |n+1,.lst l=>l.all (HS n)
 |_,_=>false
inductive Md where | fr | pu | bo
 deriving DecidableEq,Inhabited
@[simp] noncomputable def Md.join:Md->Md->Md
 |.bo,_=>.bo
 |_,.bo=>.bo
 |.pu,_=>.pu
 |_,.pu=>.pu
 |.fr,.fr=>.fr
inductive Cell where | pu (t:T) | ow (t:T)
 deriving Inhabited
abbrev Vs:=Option Cell
noncomputable abbrev Env:=List (Vs)
noncomputable abbrev Val:=Md×T
abbrev Vq:=Option Val
abbrev Vr:=List Val
noncomputable abbrev Ex:=Env->Vq
noncomputable abbrev Hr:=Env->Option (Vr)
@[simp] noncomputable def up(m:Md)(t:T):Val:=(if G5 t then .fr else m,t)
@[simp] noncomputable def ED:T->Bool
 |.lst _=>true
 |.dct _ _=>true
 |.obj _ _=>true
 |_=>false
@[simp] noncomputable def cellOf:Val->Vs
 | (.fr,t)=>some (if ED t then .ow t else .pu t)
 | (.pu,t)=>some (.pu t)
 | (.bo,_)=>none
inductive Out where | nx (U:Env) | rt (v:Val) (U:Env) | bk (U:Env) | ct (U:Env)
noncomputable abbrev Sx:=Env->Option Out
@[simp] noncomputable def eC(t:T)(_:Env):Vq:=some (.fr,t)
noncomputable abbrev Q2(i:Int):Ex:=eC (.int i)
@[simp] noncomputable def aa(i:Nat)(U:Env):Vq:=match U[i]? with
 |some (some (.pu t))=>some (up .pu t)
 |some (some (.ow t))=>some (.bo,t)
 |_=>none
@[simp] noncomputable def e1(f:Val->Vq)(a:Ex)(U:Env):Vq:=(a U).bind f
@[simp] noncomputable def e2(f:Val->Val->Vq)(a b:Ex)(U:Env):Vq:=(a U).bind λx=>(b U).bind λy=>f x y
@[simp] noncomputable def ai(_:Env):Option (Vr):=some []
@[simp] noncomputable def ae(a:Ex)(r:Hr)(U:Env):Option (Vr):=(a U).bind λx=>(r U).bind λxs=>some (x :: xs)
@[simp] noncomputable def eN(f:Vr->Vq)(a:Hr)(U:Env):Vq:=(a U).bind f
@[simp] noncomputable def cA:Vr->Md
 |[]=>.fr
 |v :: r=>v.1.join (cA r)
@[simp] noncomputable def trees(l:Vr):Vp:=l.map (·.2)
noncomputable def JA(m:Md)(l:Vp):Vq:=if l.length<=fL then some (if fK l then .fr else m,.lst l) else none
@[simp] noncomputable def il(a:Hr)(U:Env):Vq:=(a U).bind λl=>JA (cA l) (trees l)
noncomputable def rz(l:Vr):Vq:=if l.length<=fL then some (up (cA l) (.tup (trees l))) else none
@[simp] noncomputable def oT(a:Hr)(U:Env):Vq:=(a U).bind rz
noncomputable def dput(l:List (T×T))(k v:T):List (T×T):=if l.any (λp=>eqT p.1 k) then l.map (λp=>if eqT p.1 k then (p.1,v) else p) else l++[(k,v)]
noncomputable def g7:T->Bool
 |.int _=>true
 |.str _=>true
 |_=>false
noncomputable def keyOk:Nat->T->Bool
 |0,t=>g7 t
 |1,.tup l=>l.all g7
 |_,_=>false
noncomputable def pairs:List (Ex×Ex)->Env->Option (List (Val×Val))
 |[],_=>some []
 | (a,b) :: r,U=>(a U).bind λx=>(b U).bind λy=>(pairs r U).map ((x,y) :: ·)
noncomputable def mZ(a:Nat)(b:List (Ex×Ex))(U:Env):Vq:=(pairs b U).bind λl=>if l.all (λp=>keyOk a p.1.2)/\l.length<=15 then
 some (cA (l.map (·.2)),.dct a (l.foldl (λd p=>dput d p.1.2 p.2.2) [])) else none
@[simp] noncomputable def LL:T->Option Bool
 |.bl b=>some b
 |.int i=>some (i != 0)
 |.str s=>some (!s.isEmpty)
 |.lst l=>some (!l.isEmpty)
 |.tup l=>some (!l.isEmpty)
 |.dct 0 l=>some (!l.isEmpty)
 |.non=>some false
 |_=>none
@[simp] noncomputable def jg(a b:Ex)(U:Env):Vq:=(a U).bind λx=>match x.2 with
 |.bl true=>b U
 |.bl false=>some (.fr,.bl false)
 |_=>none
@[simp] noncomputable def LY(a b:Ex)(U:Env):Vq:=(a U).bind λx=>match x.2 with
 |.bl true=>some (.fr,.bl true)
 |.bl false=>b U
 |_=>none
@[simp] noncomputable def mW(a:Ex)(U:Env):Vq:=(a U).bind λx=>match x.2 with
 |.bl b=>some (.fr,.bl (!b))
 |_=>none
@[simp] noncomputable def Qt(c a b:Ex)(U:Env):Vq:=(c U).bind λx=>(LL x.2).bind λt=>if t then a U else b U
@[simp] noncomputable def N2:T->Bool
 |.non=>true
 |_=>false
@[simp] noncomputable def Ao(a:Ex)(U:Env):Vq:=(a U).bind λx=>some (.fr,.bl (N2 x.2))
@[simp] noncomputable def gK(a:Ex)(U:Env):Vq:=(a U).bind λx=>some (.fr,.bl (!N2 x.2))
@[simp] noncomputable def ke(f g:Val->Val->Vq)(a b c:Ex)(U:Env):Vq:=(a U).bind λx=>(b U).bind λy=>(f x y).bind λr=>match r.2 with
 |.bl true=>(c U).bind λz=>g y z
 |.bl false=>some (.fr,.bl false)
 |_=>none
@[simp] noncomputable def int?:T->Option Int
 |.int i=>some i
 |_=>none
noncomputable def bK:Val->Val->Vq
 | (_,.int i),(_,.int j)=>some (.fr,.int (i+j))
 | (_,.str s),(_,.str t)=>if s.length+t.length<=fL then some (.fr,.str (s++t)) else none
 | (m,.lst s),(n,.lst t)=>JA (m.join n) (s++t)
 |_,_=>none
@[simp] noncomputable def jU:Val->Val->Vq
 | (_,.int i),(_,.int j)=>some (.fr,.int (i-j))
 |_,_=>none
noncomputable def My:Int:=4611686018427387904
noncomputable def Pr:Int:=18446744073709551616
noncomputable def fY:Val->Val->Vq
 | (_,.int i),(_,.int j)=>if (-Pr<i/\i<Pr)\/(-Pr<j/\j<Pr) then some (.fr,.int (i*j)) else none
 |_,_=>none
noncomputable def ic:Val->Val->Vq
 | (_,.int i),(_,.int j)=>if 0<j/\j<1073741824 then some (.fr,.int (i/j)) else none
 |_,_=>none
noncomputable def oMod:Val->Val->Vq
 | (_,.int i),(_,.int j)=>if 0<j then some (.fr,.int (i%j)) else none
 |_,_=>none
noncomputable def Ld:Tx->Tx->Bool
 |[],[]=>false
 |[],_ :: _=>true
 |_ :: _,[]=>false
 |a :: d,b :: bs=>if a<b then true else if b<a then false else Ld d bs
@[simp] noncomputable def oLt:Val->Val->Vq
 | (_,.int i),(_,.int j)=>some (.fr,.bl (decide (i<j)))
 | (_,.str s),(_,.str t)=>some (.fr,.bl (Ld s t))
 |_,_=>none
@[simp] noncomputable def oLe:Val->Val->Vq
 | (_,.int i),(_,.int j)=>some (.fr,.bl (decide (i<=j)))
 | (_,.str s),(_,.str t)=>some (.fr,.bl (!Ld t s))
 |_,_=>none
@[simp] noncomputable def La(a b:Val):Vq:=oLt b a
@[simp] noncomputable def LO(a b:Val):Vq:=oLe b a
@[simp] noncomputable def oEq(a b:Val):Vq:=if HS 60 a.2/\HS 60 b.2 then some (.fr,.bl (eqT a.2 b.2)) else none
@[simp] noncomputable def KU(a b:Val):Vq:=if HS 60 a.2/\HS 60 b.2 then some (.fr,.bl (!eqT a.2 b.2)) else none
noncomputable def df(l:List (T×T))(k:T):Option T:=(l.find? λp=>eqT p.1 k).map (·.2)
noncomputable def Iq(n:Nat)(i:Int):Option Nat:=if 0<=i then (if i<n then some i.toNat else none) else (if 0<=i+n then some (i+n).toNat else none)
@[simp] noncomputable def sub(m:Md)(t:T):Val:=up m t
@[simp] noncomputable def aA:Val->Val->Vq
 | (m,.lst l),(_,.int i)=>(Iq l.length i).bind λk=>(l[k]?).map (sub m)
 | (m,.tup l),(_,.int i)=>(Iq l.length i).bind λk=>(l[k]?).map (sub m)
 | (_,.scr l),(_,.int i)=>(Iq l.length i).bind λk=>(l[k]?).map λn=>(.fr,.int n)
 | (_,.str l),(_,.int i)=>(Iq l.length i).bind λk=>(l[k]?).map λn=>(.fr,.str [n])
 |_,_=>none
noncomputable def clip(n:Nat)(i:Int):Nat:=if i<0 then (i+n).toNat else min i.toNat n
noncomputable def cut{α:Type}(l:List α)(a b:Option Int):List α :=
 let lo:=match a with | none=>0 | some i=>clip l.length i
 let d:=match b with | none=>l.length | some i=>clip l.length i
 (l.drop lo).take (d-lo)
@[simp] noncomputable def TF(v:Val)(a b:Option Int):Vq:=match v with
 | (_,.str s)=>some (.fr,.str (cut s a b))
 | (m,.lst l)=>JA m (cut l a b)
 |_=>none
@[simp] noncomputable def vH(c:Option Ex)(U:Env):Option (Option Int):=match c with
 |none=>some none
 |some e=>(e U).bind λy=>(int? y.2).map some
@[simp] noncomputable def Lj(a:Ex)(b d:Option Ex)(U:Env):Vq:=(a U).bind λx=>(vH b U).bind λl=>(vH d U).bind λh=>TF x l h
@[simp] noncomputable def Dl:T->Option Nat
 |.lst l=>some l.length
 |.tup l=>some l.length
 |.str l=>some l.length
 |.scr l=>some l.length
 |.dct 0 l=>some l.length
 |_=>none
@[simp] noncomputable def bY:Vr->Vq
 |[x]=>(Dl x.2).map λn=>(.fr,.int n)
 |_=>none
@[simp] noncomputable def sv:Vr->Vq
 |[(_,.int i),(_,.int j)]=>some (.fr,.int (if j<i then j else i))
 |_=>none
noncomputable def oG:Vp->Option (Vu)
 |[]=>some []
 |.int i :: r=>(oG r).map (i :: ·)
 |_=>none
noncomputable def strs?:Vp->Option (List Tx)
 |[]=>some []
 |.str i :: r=>(strs? r).map (i :: ·)
 |_=>none
noncomputable def BG:Vr->Vq
 |[(_,.lst l)]=>(oG l).bind λa=>some (.fr,.int a.sum)
 |_=>none
@[simp] noncomputable def Cm:Vr->Vq
 |[(m,.lst l)]=>JA m l
 |[(m,.tup l)]=>JA m l
 |_=>none
noncomputable def kG:Vr->Vq
 |[(m,.lst l)]=>if l.length<=fL then some (up m (.tup l)) else none
 |_=>none
noncomputable def nO(x:Tx):List Tx->List Tx
 |[]=>[x]
 |y :: r=>if Ld y x then y :: nO x r else x :: y :: r
noncomputable def cP(l:List Tx):List Tx:=l.foldr nO []
inductive Ty where | int | str | bool | list | tuple | dict
@[simp] noncomputable def tD:Ty->T->Bool
 |.int,.int _=>true
 |.int,.bl _=>true
 |.bool,.bl _=>true
 |.str,.str _=>true
 |.list,.lst _=>true
 |.tuple,.tup _=>true
 |.dict,.dct _ _=>true
 |_,_=>false
@[simp] noncomputable def uQ:T->Bool
 |.obj _ _=>false
 |.scr _=>false
 |.dct 0 _=>true
 |.dct 1 _=>true
 |.dct _ _=>false
 |_=>true
@[simp] noncomputable def O8(t:Ty)(a:Ex)(U:Env):Vq:=(a U).bind λx=>if uQ x.2 then some (.fr,.bl (tD t x.2)) else none
@[simp] noncomputable def eM(f:Val->Vr->Vq)(o:Ex)(b:Hr)(U:Env):Vq:=(o U).bind λx=>(b U).bind λa=>f x a
noncomputable abbrev Fn:=Vp->Vq
@[simp] noncomputable def aZ(g:Fn)(a:Hr)(U:Env):Vq:=(a U).bind λxs=>(g (trees xs)).bind λr=>match r with
 | (.fr,t)=>some (.fr,t)
 | (_,t)=>some ((Md.pu).join (cA xs),t)
noncomputable abbrev JL:=Env->Option (Md×Vp)
@[simp] noncomputable def DZ:Val->Option (Md×Vp)
 | (m,.lst l)=>some (m,l)
 | (m,.tup l)=>some (m,l)
 | (_,.str l)=>some (.fr,l.map λc=>.str [c])
 |_=>none
@[simp] noncomputable def gM(a:Ex)(U:Env):Option (Md×Vp):=(a U).bind DZ
noncomputable def rng(a:Int)(n:Nat):Vp:=(List.range n).map λ(k:Nat)=>T.int (a+k)
noncomputable def cq(a:Ex)(U:Env):Option (Md×Vp):=(a U).bind λx=>(int? x.2).bind λj=>if -My<=j/\j<My then some (.fr,rng 0 j.toNat) else none
noncomputable def i7(a b:Ex)(U:Env):Option (Md×Vp):=(a U).bind λx=>(b U).bind λy=>(int? x.2).bind λi=>(int? y.2).bind λj =>
 if (-My<=i/\i<My)/\-My<=j/\j<My then some (.fr,rng i (j-i).toNat) else none
noncomputable def jc(k:Nat):Vp->Vp
 |[]=>[]
 |t :: r=>.tup [.int k,t] :: jc (k+1) r
@[simp] noncomputable def B3:Val->Option (Md×Vp)
 | (m,.lst l)=>some (m,jc 0 l)
 |_=>none
@[simp] noncomputable def qY(a:Ex)(U:Env):Option (Md×Vp):=(a U).bind B3
noncomputable abbrev Tg:=T->Env->Option Env
@[simp] noncomputable def bg(i:Nat)(t:T)(U:Env):Option Env:=if i<U.length then some (U.set i (some (.pu t))) else none
@[simp] noncomputable def oj:List Tg->Vp->Env->Option Env
 |[],[],U=>some U
 |g :: b,t :: a,U=>(g t U).bind λd=>oj b a d
 |_,_,_=>none
@[simp] noncomputable def j8(a:List Tg)(t:T)(U:Env):Option Env:=match t with
 |.tup l=>oj a l U
 |_=>none
@[simp] noncomputable def QV(m:Md)(l:Vp):Bool:=match m with
 |.bo=>fK l
 |_=>true
noncomputable def jX(e:Tg)(a:Option Ex)(d:Ex)(U:Env):Vp->Option (Vr)
 |[]=>some []
 |t :: r=>(e t U).bind λf=>(match a with | none=>some true | some c=>(c f).bind λx=>LL x.2).bind λb =>
  if b then (d f).bind λv=>(jX e a d U r).map (v :: ·) else jX e a d U r
noncomputable def du(k:Nat)(e:Tg)(f:JL)(a:Option Ex)(b:Ex)(U:Env):Vq:=(f U).bind λ(m,l)=>if QV m l then
 (jX e a b (List.replicate k none++U) l).bind λd=>JA (cA d) (trees d) else none
@[simp] noncomputable def eQ(U:Env):Option Out:=some (.nx U)
@[simp] noncomputable def ak(a b:Sx)(U:Env):Option Out:=(a U).bind λo=>match o with
 |.nx d=>b d
 |o=>some o
@[simp] noncomputable def oN(i:Nat)(e:Ex)(U:Env):Option Out:=(e U).bind λv=>(cellOf v).bind λc=>if i<U.length then some (.nx (U.set i (some c))) else none
@[simp] noncomputable def aH(i:Nat)(e:Ex)(U:Env):Option Out:=(e U).bind λv=>match v.1 with
 |.bo=>none
 |_=>if i<U.length then some (.nx (U.set i (some (.pu v.2)))) else none
@[simp] noncomputable def d8(e:Ex)(U:Env):Option Out:=(e U).bind λv=>some (.rt (match v.1 with | .bo=>.pu | m=>m,v.2) U)
@[simp] noncomputable def gp(i:Nat)(U:Env):Option Out:=match U[i]? with
 |some (some (.ow t))=>some (.rt (.fr,t) (U.set i none))
 |some (some (.pu t))=>some (.rt (up .pu t) U)
 |_=>none
@[simp] noncomputable def HQ(c:Ex)(a b:Sx)(U:Env):Option Out:=(c U).bind λx=>(LL x.2).bind λt=>if t then a U else b U
noncomputable def forL(d:Tg)(a:Sx):Vp->Env->Option Out
 |[],U=>some (.nx U)
 |t :: r,U=>(d t U).bind λe=>(a e).bind λo=>match o with
  |.nx b=>forL d a r b
  |.ct b=>forL d a r b
  |.bk b=>some (.nx b)
  |.rt v b=>some (.rt v b)
@[simp] noncomputable def TB:Md->Bool
 |.bo=>false
 |_=>true
@[simp] noncomputable def eW(b:Tg)(d:JL)(a:Sx)(U:Env):Option Out:=(d U).bind λ(m,l)=>if TB m then forL b a l U else none
noncomputable def fE(c:Ex)(a:Sx):Nat->Env->Option Out
 |0,_=>none
 |n+1,U=>(c U).bind λx=>(LL x.2).bind λt=>if t then (a U).bind λo=>match o with
  |.nx b=>fE c a n b
  |.ct b=>fE c a n b
  |.bk b=>some (.nx b)
  |.rt v b=>some (.rt v b)
  else some (.nx U)
noncomputable def vX:Nat:=1000000
noncomputable def lG(c:Ex)(a:Sx)(U:Env):Option Out:=fE c a vX U
@[simp] noncomputable def Ab(i:Nat)(U:Env):Option Out:=match U[i]? with
 |some (some (.ow t))=>some (.nx (U.set i (some (.pu t))))
 |some (some (.pu _))=>some (.nx U)
 |_=>none
inductive Ka where | fld (k:Nat) | ix (e:Ex) | un
inductive Ky where | fld (k:Nat) | at (t:T) | un
@[simp] noncomputable def keys:List Ka->Env->Option (List Ky)
 |[],_=>some []
 |.fld k :: r,U=>(keys r U).map (.fld k :: ·)
 |.ix e :: r,U=>(e U).bind λx=>(keys r U).map (.at x.2 :: ·)
 |.un :: r,U=>(keys r U).map (.un :: ·)
noncomputable def GN(a:List (Nat×T))(k:Nat):Option T:=a.lookup k
noncomputable def GO(a:List (Nat×T))(k:Nat)(v:T):List (Nat×T):=if a.any (λp=>p.1==k) then a.map (λp=>if p.1==k then (p.1,v) else p) else a++[(k,v)]
@[simp] noncomputable def Bu{α:Type}(f:T->Option (T×α)):List Ky->T->Option (T×α)
 |[],t=>f t
 |.fld k :: r,.obj c fs=>(GN fs k).bind λx=>(Bu f r x).map λ(y,a)=>(.obj c (GO fs k y),a)
 |.at (.int i) :: r,.lst l=>(Iq l.length i).bind λj=>(l[j]?).bind λx=>(Bu f r x).map λ(y,a)=>(.lst (l.set j y),a)
 |.at k :: r,.dct d l=>(df l k).bind λx=>(Bu f r x).map λ(y,a)=>(.dct d (dput l k y),a)
 |_,_=>none
noncomputable abbrev Xx:=Env->Option (Val×Env)
@[simp] noncomputable def xP(e:Ex)(U:Env):Option (Val×Env):=(e U).map λv=>(v,U)
@[simp] noncomputable def oU(i:Nat)(a:List Ka)(f:T->Vr->Option (T×Val))(g:Hr)(U:Env):Option (Val×Env):=match U[i]? with
 |some (some (.ow t))=>(keys a U).bind λe=>(g U).bind λb=>(Bu (λx=>f x b) e t).map λ(d,v)=>(v,U.set i (some (.ow d)))
 |_=>none
@[simp] noncomputable def fit(v:Val):Option T:=match v.1 with
 |.fr=>some v.2
 |_=>none
noncomputable def aI:T->Vr->Option (T×Val)
 |.lst l,[v]=>(fit v).bind λt=>if l.length<fL then some (.lst (l++[t]),(.fr,.non)) else none
 |_,_=>none
@[simp] noncomputable def sX(x:Xx)(U:Env):Option Out:=(x U).map λr=>.nx r.2
@[simp] noncomputable def fn(d e:Nat)(a:Sx):Fn:=λb=>if b.length=d then
 (a (b.map (λt=>some (.pu t))++List.replicate (e-d) none)).bind λo=>match o with
  |.rt v _=>some v
  |.nx _=>some (.fr,.non)
  |_=>none else none
theorem lz{m n:Md}{s t:Tx}(h:s.length+t.length<=16777216):bK (m,.str s) (n,.str t)=some (.fr,.str (s++t)):=Zs h
theorem lP{m n:Md}{i j:Int}(h:-18446744073709551616<i/\i<18446744073709551616):fY (m,.int i) (n,.int j)=some (.fr,.int (i*j)):=Zs (.inl h)
theorem gC{m n:Md}{i j:Int}(h:0<j/\j<1073741824):ic (m,.int i) (n,.int j)=some (.fr,.int (i/j)):=Zs h
theorem bJ{m n:Md}{i j:Int}(h:0<j):oMod (m,.int i) (n,.int j)=some (.fr,.int (i%j)):=Zs h
theorem dn{l:Vp}{t:T}(h:l.length<16777216):aI (.lst l) [(.fr,t)]=some (.lst (l++[t]),(.fr,.non)):=by
 simp only[aI,fit,Zt];exact Zs h
theorem kz{a:Ex}{U:Env}{m:Md}{j:Int}(e:a U=some (m,.int j))(h:-4611686018427387904<=j/\j<4611686018427387904):cq a U=some (.fr,rng 0 j.toNat):=by
 simp only[cq,e,Zt,int?];exact Zs h
theorem qz{m:Md}{l:Vp}(h:l.length<=16777216):JA m l=some (if fK l then .fr else m,.lst l):=Zs h
theorem cQ{b:Tg}{a:Sx}{t:T}{r:Vp}{U U1 U2:Env}(e:b t U=some U1)(d:a U1=some (.nx U2)):forL b a (t :: r) U=forL b a r U2:=by
 simp[forL,e,d]
theorem strs_map{α:Type}(f:α->Tx):∀l:List α,strs? (l.map λx=>T.str (f x))=some (l.map f)
 |[]=>rfl
 |a :: r=>by simp[strs?,strs_map f r]
theorem ints_map{α:Type}(f:α->Int):∀l:List α,oG (l.map λx=>T.int (f x))=some (l.map f)
 |[]=>rfl
 |a :: r=>by simp[oG,ints_map f r]
theorem oC(n:Nat):rng 0 n=(List.range n).map λ(k:Nat)=>T.int (k:Int):=by
 unfold rng;simp
theorem lh{α:Type}(f:α->T)(h:∀x,G5 (f x)=true):∀l:List α,fK (l.map f)=true
 |[]=>rfl
 |a :: r=>by simp[h,lh f h r]
theorem pR{α:Type}{i:Tg}{d:Ex}{U:Env}(g:α->T)(f:α->Val):∀l:List α,(∀a∈l,∃e,i (g a) U=some e/\d e=some (f a))->jX i none d U (l.map g)=some (l.map f)
 |[],_=>rfl
 |a :: r,h=>by
  obtain⟨e,m,j⟩:=h a Zw;simp[jX,m,j,pR g f r λb hb=>h b (Zv _ hb)]
theorem kL{α:Type}{j:Tg}{c d:Ex}{U:Env}(g:α->T)(p:α->Bool)(f:α->Val):∀l:List α,(∀a∈l,∃i x,j (g a) U=some i/\c i=some x/\LL x.2=some (p a)/\(p a=true->d i=some (f a))) →
  jX j (some c) d U (l.map g)=some ((l.filter p).map f)
 |[],_=>rfl
 |a :: r,h=>by
  obtain⟨i,x,q,o,n,s⟩:=h a Zw;have m:=kL (c:=c) g p f r λb hb=>h b (Zv _ hb);cases e:p a with
  |true=>simp[-LL,jX,q,o,n,e,s e,m]
  |false=>simp[-LL,jX,q,o,n,e,m]
theorem oA{α:Type}(f:α->T):∀l:List α,cA (l.map λa=>(Md.fr,f a))=.fr
 |[]=>rfl
 |a :: r=>by simp[oA f r]
theorem pZ{α:Type}(f:α->Val)(l:List α):trees (l.map f)=l.map λa=>(f a).2:=by simp
theorem eu{α:Type}{k:Nat}{tg:Tg}{it:JL}{elt:Ex}{U:Env}{m:Md}(g:α->T)(f:α->T)(l:List α)(i:it U=some (m,l.map g))(e:QV m (l.map g)=true)(d:l.length<=16777216)(h:∀a∈l,∃b,tg (g a) (List.replicate k none++U)=some b/\elt b=some (.fr,f a)):du k tg it none elt U=some (.fr,.lst (l.map f)):=by
 simp only[du,i,Zt];rw[Zs e,pR g (λa=>(Md.fr,f a)) l h];simp only[Zt,oA,pZ];rw[qz (by rw[Zx];exact d)];simp
theorem qU{α:Type}{k:Nat}{tg:Tg}{it:JL}{c b:Ex}{U:Env}{m:Md}(g:α->T)(p:α->Bool)(f:α->T)(l:List α)(j:it U=some (m,l.map g))(i:QV m (l.map g)=true)(e:l.length<=16777216)(h:∀a∈l,∃d x,tg (g a) (List.replicate k none++U)=some d/\c d=some x/\LL x.2=some (p a)/\(p a=true->b d=some (.fr,f a))):du k tg it (some c) b U=some (.fr,.lst ((l.filter p).map f)):=by
 simp only[du,j,Zt];rw[Zs i,kL g p (λa=>(Md.fr,f a)) l h];simp only[Zt,oA,pZ];rw[qz (by rw[Zx];exact ZE (Xo _ _) e)];simp
theorem oa{α:Type}{m n:Md}(f:α->T)(l:List α)(i:Int)(d:α)(g:0<=i)(e:i<l.length)(a:G5 (f (l.getD i.toNat d))=true):aA (m,.lst (l.map f)) (n,.int i)=some (.fr,f (l.getD i.toNat d)):=by
 have b:i.toNat<l.length:=by lia
 simp only[Zr,Zq b,Y0]at a ⊢;simp[Iq,g,e,b,a]
theorem zF{l:Vr}(h:l.length<=16777216):rz l=some (up (cA l) (.tup (trees l))):=Zs h
end VS
end
section
namespace L2
open PySem PySem.Spec PyProof.Rows
noncomputable abbrev Key:=Sum Int Str
noncomputable def mH:Key->Value->Bool
 |.inl k,v=>Value.isInt k v
 |.inr x,v=>Value.isStrOf x v
noncomputable def FO(w:World):Key->Int
 |.inl k=>hashInt k
 |.inr x=>hashStr w x
theorem bU:∀{k:Key}{v:Value},mH k v=true->(∃i t,k=Sum.inl i/\v=Value.int i t)\/(∃x t,k=Sum.inr x/\v=Value.str x t)
 |.inl i,v,h=>by
  obtain⟨t,e⟩:=Value.isInt_shape (k:=i) (v:=v) h;exact .inl ⟨i,t,rfl,e⟩
 |.inr x,v,h=>by
  obtain⟨t,e⟩:=W8 (x:=x) (v:=v) h;exact .inr ⟨x,t,rfl,e⟩
theorem vT(i:Int)(t:Tok):mH (.inl i) (.int i t)=true:=by simp[mH,Value.isInt]
theorem wO(x:Str)(t:Tok):mH (.inr x) (.str x t)=true:=by simp[mH,Value.isStrOf]
theorem Df(a b:Int):decide ((Sum.inl a:Key)=Sum.inl b)=(a==b):=by
 by_cases e:a=b
 ·subst e;simp
 ·have h:¬(Sum.inl a:Key)=Sum.inl b:=λq=>e (Sum.inl.inj q);rw[ZG h];exact(beq_eq_false_iff_ne.mpr e).symm
theorem CJ(a b:Str):decide ((Sum.inr a:Key)=Sum.inr b)=decide (a=b):=by
 by_cases e:a=b
 ·subst e;simp
 ·have h:¬(Sum.inr a:Key)=Sum.inr b:=λq=>e (Sum.inr.inj q);rw[ZG h,ZG e]
theorem Do(a:Int)(b:Str):decide ((Sum.inl a:Key)=Sum.inr b)=false:=ZG (λq=>nomatch q)
theorem Ey(a:Str)(b:Int):decide ((Sum.inr a:Key)=Sum.inl b)=false:=ZG (λq=>nomatch q)
noncomputable def aU(d:Program)(w:World):PySem.KeyKind d w Key where
 is:=mH
 hash:=FO w
 inj:=λv a b l hb=>by
  rcases bU l with⟨i,t,rfl,rfl⟩ | ⟨x,t,rfl,rfl⟩
  ·rcases bU hb with⟨j,u,rfl,e⟩ | ⟨y,u,rfl,e⟩
   ·injection e with e1 _;rw[e1]
   ·exact nomatch e
  ·rcases bU hb with⟨j,u,rfl,e⟩ | ⟨y,u,rfl,e⟩
   ·exact nomatch e
   ·injection e with e1 _;rw[e1]
 byValue:=λk v h=>by
  rcases bU h with⟨i,t,rfl,rfl⟩ | ⟨x,t,rfl,rfl⟩<;>rfl
 pyHash:=λf h=>by
  rcases bU f with⟨i,t,rfl,rfl⟩ | ⟨x,t,rfl,rfl⟩
  ·exact wpAny_pyHash_int h
  ·exact wpAny_pyHash_str h
 eqBool:=λg f h=>by
  rcases bU g with⟨i,t,rfl,rfl⟩ | ⟨x,t,rfl,rfl⟩
  ·rcases bU f with⟨j,u,rfl,rfl⟩ | ⟨y,u,rfl,rfl⟩
   ·rw[Df]at h;exact wpAny_eqBool_int h
   ·rw[Do]at h;exact SeqAt.EqAt.int_str i t y u _ _ _ _ h
  ·rcases bU f with⟨j,u,rfl,rfl⟩ | ⟨y,u,rfl,rfl⟩
   ·rw[Ey]at h;exact SeqAt.EqAt.str_int x t j u _ _ _ _ h
   ·rw[CJ]at h;exact wpAny_eqBool_str h
 «strs» := λk x t v h=>by
  rcases bU h with⟨i,u,rfl,e⟩ | ⟨y,u,rfl,e⟩
  ·exact nomatch e
  ·injection e with e1 _
   subst e1;cases v<;>rfl
theorem r9(a:Program)(w:World)(i:Int)(t:Tok):(aU a w).is (.inl i) (.int i t)=true:=vT i t
theorem tq(a:Program)(w:World)(x:Str)(t:Tok):(aU a w).is (.inr x) (.str x t)=true:=wO x t
inductive V where
 |non | bl (b:Bool) | int (i:Int) | str (x:Str) | byt (b:Array UInt8) | flt (b:UInt64) | ref (a:Addr) | ty (n:String)
 deriving DecidableEq
noncomputable def RelV:V->Value->Prop
 |.non,u=>u=Value.none
 |.bl b,u=>u=Value.bool b
 |.int i,u=>∃t,u=Value.int i t
 |.str x,u=>∃t,u=Value.str x t
 |.byt b,u=>∃t,u=Value.bytes b t
 |.flt b,u=>∃t,u=Value.float b t
 |.ref a,u=>u=Value.ref a
 |.ty n,u=>u=Value.type n
noncomputable abbrev aV:List V->Wu->Prop:=Paired RelV
theorem aV.length{xs:List V}{a:Wu}(r:aV xs a):xs.length=a.length:=XR r
theorem aV.get:∀{a:List V}{b:Wu}{i:Nat}{x:V},aV a b->a[i]?=some x->∃u,b[i]?=some u/\RelV x u
 |_,_,_,_,.nil,e=>by simp at e
 |_,_,0,_,.cons r _,e=>by simp at e;subst e;exact⟨_,rfl,r⟩
 |_,_,i+1,x,.cons _ t,e=>by
  obtain⟨u,f,d⟩:=aV.get (i:=i) (x:=x) t (by simpa using e);exact⟨u,by simpa using f,d⟩
theorem aV.set{x:V}{u:Value}(r:RelV x u):∀{a:List V}{b:Wu}(i:Nat),aV a b->aV (a.set i x) (b.set i u)
 |_,_,_,.nil=>.nil
 |_,_,0,.cons _ t=>.cons r t
 |_,_,i+1,.cons q t=>.cons q (aV.set r i t)
theorem aV.append:∀{b a:List V}{d ws:Wu},aV b d->aV a ws->aV (b++a) (d++ws)
 |_,_,_,_,.nil,s=>s
 |_,_,_,_,.cons r t,s=>.cons r (aV.append t s)
theorem aV.take:∀{a:List V}{b:Wu}(n:Nat),aV a b->aV (a.take n) (b.take n)
 |_,_,0,_=>.nil
 |_,_,_+1,.nil=>.nil
 |_,_,n+1,.cons r t=>.cons r (aV.take n t)
theorem aV.drop:∀{a:List V}{b:Wu}(n:Nat),aV a b->aV (a.drop n) (b.drop n)
 |_,_,0,r=>r
 |_,_,_+1,.nil=>.nil
 |_,_,n+1,.cons _ t=>aV.drop n t
theorem aV.none_of:∀{a:List V}{b:Wu}{i:Nat},aV a b->a[i]?=none->b[i]?=none:=λ{a b i} r e=>by
 have f:=r.length;have d:a.length<=i:=Yi.mp e;exact Yi.mpr (by lia)
noncomputable def je:Option V->Wt->Prop
 |some v,some u=>RelV v u
 |none,none=>True
 |_,_=>False
noncomputable def KV{κ:Type}:List (κ×V)->List (κ×Value)->Prop:=Paired λ(p:κ×V) (q:κ×Value)=>p.1=q.1/\RelV p.2 q.2
noncomputable def kV:Key->V
 |.inl i=>.int i
 |.inr x=>.str x
inductive HO where
 |lst (xs:List V)
 |tup (xs:List V)
 |dK (cg:List (Key×V)) | dT (cg:List (List Key×V))
 |set (S:Int->Bool) (n:Nat)
 |ins (C dx:Addr) (fs:List (Str×V))
 |own (x:Addr)
 |xd (fs:List (Str×V))
 |met (f x:Addr)
 |rng (lo hi:Int)
 |frz (o:Obj) (u:HO)
 |tbl (ps:Array Value)
 |ext (φ:World->Heap->Prop)
noncomputable abbrev Hp:=Addr->Option HO
noncomputable def upd(H:Hp)(a:Addr)(o:HO):Hp:=λb=>if b=a then some o else H b
theorem aC{H:Hp}{a:Addr}{o:HO}:upd H a o a=some o:=by unfold upd;rw[Zs rfl]
theorem aE{H:Hp}{a b:Addr}{o:HO}(h:b≠a):upd H a o b=H b:=by unfold upd;rw[Zp h]
theorem Bl{H:Hp}{a:Addr}{o u:HO}:upd (upd H a o) a u=upd H a u:=by
 funext b;unfold upd;split<;>rfl
theorem FH{H:Hp}{a b:Addr}{o u:HO}(h:H a=some o)(f:H b=some u)(d:o≠u):a≠b:=by
 intro e;subst e;rw[h]at f;exact d (Zl f)
theorem bV{H:Hp}{a b:Addr}{o:HO}(h:H a=some o)(d:H b=none):a≠b:=by
 intro e;subst e;rw[h]at d;cases d
noncomputable def Mx(h:Heap)(a:Addr):Prop:=∀o,h.get? a=some o->o.dict=none
theorem Mx.new(h:Heap)(a:Array Value):Mx (h.push { cls:=.type "tuple",data:=.seq a }) h.objs.size:=λo e=>by
 rw[ZL _ rfl]at e;cases e;rfl
theorem Mx.of{h:Heap}{a:Addr}{o:Obj}(e:h.get? a=some o)(d:o.dict=none):Mx h a:=λf b=>by
 rw[e]at b;cases b;exact d
section
variable(P:Program)(w:World)
noncomputable def bS(H:Hp)(h:Heap)(a:Addr):HO->Prop
 |.lst b=>b.length<=sizeLine/\∃(e:Wu)(n:Nat),aV b e/\h.get? a=some { cls:=.type "list",data:=.seq e.toArray n }
 |.tup b=>b.length<=sizeLine/\∃e:Wu,aV b e/\Mx h a/\IsTup h a e.toArray
 |.dK g=>g.length<=sizeLine/\(a==sysModules)=false/\∃j,KV g j/\h.DictOf (aU P w) a j
 |.dT g=>g.length<=sizeLine/\(a==sysModules)=false/\∃b:List (List Key×Addr×Value),
   Paired (λ(p:List Key×V) (q:List Key×Addr×Value)=>p.1=q.1/\H q.2.1=some (.tup (p.1.map kV))/\RelV p.2 q.2.2) g b ∧
   ∃o r z,h.get? a=some o/\o.ExactDict/\o.data=.dict r z/\r.toList=b.map (entryOfKey (tupleKind (aU P w)))/\(b.map (·.1)).Nodup
 |.set S n=>h.SetOf (intKind P w) a S n
 |.ins C i fs=>H i=some (.own a)/\fs.length<=1000/\i≠a/\h.get? a=some (PySem.W.instObj C i) ∧
   ∃d,h.Ns1 i d/\(∀f,je (fs.lookup f) (d f))/\PySem.Within d (fs.map (·.1))
 |.own _=>∃o,h.get? a=some o
 |.xd fs=>∃d,h.Ns1 a d/\∀f,je (fs.lookup f) (d f)
 |.rng lo y=>∃t u v,h.get? a=some { cls:=.type "range",data:=.fields #[.int lo t,.int y u,.int 1 v] }
 |.frz o u=>h.get? a=some o/\bS H h a u
 |.tbl s=>h.get? a=some { cls:=.none,data:=.fields s }
 |.met f x=>h.get? a=some (PySem.W.methodObj (.ref f) (.ref x))
 |.ext φ=>φ w h/\(∃o,h.get? a=some o)/\∀m l:Heap,φ w m->(∀o,m.get? a=some o->l.get? a=some o)->φ w l
noncomputable def Ic(H:Hp)(h:Heap):Prop:=∀a o,H a=some o->bS P w H h a o
end
section
variable{P:Program}{w:World}{H H':Hp}{h h':Heap}{a:Addr}{o:HO}
theorem bS.lt(x:bS P w H h a o):a<h.objs.size:=by
 cases o with
 |lst b=>obtain⟨_,_,_,_,e⟩:=x;exact ZU e
 |tup b=>obtain⟨_,_,_,_,p⟩:=x;exact p.lt
 |dK d=>obtain⟨_,_,_,_,o,_,_,e,_⟩:=x;exact ZU e
 |dT d=>obtain⟨_,_,_,_,o,_,_,e,_⟩:=x;exact ZU e
 |set S n=>obtain⟨o,_,_,_,e,_⟩:=x;exact ZU e
 |ins C j fs=>obtain⟨_,_,_,e,_⟩:=x;exact ZU e
 |own y=>obtain⟨_,e⟩:=x;exact ZU e
 |xd fs=>obtain⟨_,⟨_,_,_,e,_⟩,_⟩:=x;exact ZU e
 |rng lo i=>obtain⟨_,_,_,e⟩:=x;exact ZU e
 |frz ob u=>obtain⟨e,_⟩:=x;exact ZU e
 |tbl g=>exact ZU (show h.get? a=some _ from x)
 |met f y=>exact ZU (show h.get? a=some _ from x)
 |ext φ=>obtain⟨_,⟨_,e⟩,_⟩:=x;exact ZU e
theorem Paired.Ml{α β:Type}{F G:α->β->Prop}:∀{e:List α}{d:List β},Paired F e d->(∀a b,F a b->G a b)->Paired G e d
 |_,_,.nil,_=>.nil
 |_,_,.cons r t,f=>.cons (f _ _ r) (Paired.Ml t f)
theorem bS.KP(x:bS P w H h a o)(k:∀b u,(b=a\/H b=some (.own a))->h.get? b=some u->h'.get? b=some u)(G:∀b,H b=some (.own a)->H' b=some (.own a))(F:∀b l,H b=some (.tup l)->H' b=some (.tup l)):bS P w H' h' a o:=by
 induction o with
 |lst l=>obtain⟨z,m,n,r,e⟩:=x;exact⟨z,m,n,r,k _ _ (.inl rfl) e⟩
 |tup l=>obtain⟨z,m,r,nd,g,e,c⟩:=x;exact⟨z,m,r,Mx.of (k _ _ (.inl rfl) e) (nd _ e),g,k _ _ (.inl rfl) e,c⟩
 |dK J=>obtain⟨z,y,D,r,g,i,j,e,c⟩:=x;exact⟨z,y,D,r,g,i,j,k _ _ (.inl rfl) e,c⟩
 |dT J =>
  obtain⟨z,y,l,r,g,i,j,e,c⟩:=x;exact⟨z,y,l,Paired.Ml r λp q z=>⟨z.1,F _ _ z.2.1,z.2.2⟩,g,i,j,k _ _ (.inl rfl) e,c⟩
 |set S n=>obtain⟨g,i,j,t,e,c⟩:=x;exact⟨g,i,j,t,k _ _ (.inl rfl) e,c⟩
 |ins C M fs =>
  obtain⟨d,z,ne,e,A,⟨s,i,j,e2,c⟩,r⟩:=x;exact⟨G _ d,z,ne,k _ _ (.inl rfl) e,A,⟨s,i,j,k _ _ (.inr d) e2,c⟩,r⟩
 |own y=>obtain⟨g,e⟩:=x;exact⟨g,k _ _ (.inl rfl) e⟩
 |xd fs=>obtain⟨A,⟨s,i,j,e,c⟩,r⟩:=x;exact⟨A,⟨s,i,j,k _ _ (.inl rfl) e,c⟩,r⟩
 |rng lo L=>obtain⟨t,u,v,e⟩:=x;exact⟨t,u,v,k _ _ (.inl rfl) e⟩
 |frz g u E=>obtain⟨e,q⟩:=x;exact⟨k _ _ (.inl rfl) e,E q⟩
 |tbl B =>
  have e:h.get? a=some { cls:=.none,data:=.fields B }:=x;show h'.get? a=some { cls:=.none,data:=.fields B };exact k a _ (.inl rfl) e
 |met f y =>
  have e:h.get? a=some (PySem.W.methodObj (.ref f) (.ref y)):=x;show h'.get? a=some (PySem.W.methodObj (.ref f) (.ref y));exact k a _ (.inl rfl) e
 |ext φ=>obtain⟨p,⟨o,e⟩,st⟩:=x;exact⟨st _ _ p λo q=>k _ _ (.inl rfl) q,⟨o,k _ _ (.inl rfl) e⟩,st⟩
theorem Ic.lt(x:Ic P w H h)(e:H a=some o):a<h.objs.size:=(x a o e).lt
theorem Ic.fresh(x:Ic P w H h)(e:h.objs.size<=a):H a=none:=by
 cases q:H a with
 |none=>rfl
 |some u=>exact absurd (ZF (x.lt q) e) (YO _)
theorem Ic.kept(x:Ic P w H h)(k:∀b u,h.get? b=some u->h'.get? b=some u):Ic P w H h':=λa o e =>
 (x a o e).KP (λb u _ q=>k b u q) (λ_ q=>q) λ_ _ q=>q
theorem Ic.laid(x:Ic P w H h)(k:∀b u,h.get? b=some u->h'.get? b=some u)(g:h.objs.size<=a)(d:bS P w (upd H a o) h' a o):Ic P w (upd H a o) h':=λb u e=>by
 have f:=x.fresh g;by_cases hb:b=a
 ·subst hb;rw[aC]at e;cases e;exact d
 ·rw[aE hb]at e;exact(x b u e).KP (λc v _ q=>k c v q) (λc q=>by rw[aE (bV q f)];exact q) λc i q=>by rw[aE (bV q f)];exact q
end
noncomputable def Rd(H:Hp)(a:Addr)(u:HO):Prop:=H a=some u\/∃o,H a=some (.frz o u)
theorem Rd.ok{P:Program}{w:World}{H:Hp}{h:Heap}{a:Addr}{u:HO}(r:Rd H a u)(x:Ic P w H h):bS P w H h a u:=by
 rcases r with r | ⟨o,r⟩
 ·exact x a u r
 ·obtain⟨_,q⟩:=x a _ r;exact q
noncomputable def G4:Option HO->Prop
 |some (.lst _)=>True
 |some (.dK _)=>True
 |some (.dT _)=>True
 |some (.set _ _)=>True
 |some (.ins _ _ _)=>True
 |some (.ext _)=>True
 |_=>False
section
variable{P:Program}{w:World}{H:Hp}{h h':Heap}{x e:Addr}{o':HO}
theorem Ic.write(m:Ic P w H h)(d:G4 (H x))(he:e=x\/H e=some (.own x))(k:∀b u,b≠e->h.get? b=some u->h'.get? b=some u)(p:∃u,h'.get? e=some u)(i:bS P w (upd H x o') h' x o'):Ic P w (upd H x o') h':=λb u q=>by
 have l:∀c y,H c=some (.own y)->c≠x:=λc y r z=>by subst z;rw[r]at d;exact d
 have o:∀c a,H c=some (.tup a)->c≠x:=λc a r z=>by subst z;rw[r]at d;exact d
 by_cases hb:b=x
 ·subst hb;rw[aC]at q;cases q;exact i
 ·rw[aE hb]at q;by_cases g:b=e
  ·have j:H b=some (.own x):=by
    rcases he with z | z
    ·exact absurd (g.trans z) hb
    ·rw[g];exact z
   rw[q]at j;cases j;obtain⟨v,n⟩:=p;exact⟨v,by rw[g];exact n⟩
  ·refine(m b u q).KP (λc v f r=>k c v ?_ r) (λc r=>by rw[aE (l c b r)];exact r) λc a r=>by rw[aE (o c a r)];exact r
   rcases f with rfl | f
   ·exact g
   ·rintro rfl;rcases he with z | z
    ·exact l c b f z
    ·rw[f]at z;cases z;exact hb rfl
end
structure Un(fs ex:Wy)(H H':Hp)(h h':Heap):Prop where
 keep:∀b o,h.get? b=some o->H b=none->b∉fs->b∉ex->h'.get? b=some o
 slot:∀b o,h.get? b=some o->H b=none->b∈fs->b∉ex->∃sl,h'.get? b=some { o with slots:=sl }
 free:∀b o,h.get? b=some o->H b=none->b∉ex->H' b=none
 there:∀b o,h.get? b=some o->b∉ex->∃o',h'.get? b=some o'
 JO:∀b xs,H b=some (.tup xs)->H' b=some (.tup xs)
 JC:∀b o u,H b=some (.frz o u)->H' b=some (.frz o u)
 JR:∀b ps,H b=some (.tbl ps)->∃more,H' b=some (.tbl (ps++more))
section
variable{fs IM ex ex':Wy}{H H1 H2:Hp}{h h1 h2 h':Heap}{a x e:Addr}{o:HO}
theorem Un.any(u:Un fs ex H H1 h h1){b:Addr}{d:Obj}(q:h.get? b=some d)(n:H b=none)(f:b∉ex):∃g,h1.get? b=some { d with slots:=g }:=by
 by_cases hb:b∈fs
 ·exact u.slot b d q n hb f
 ·exact⟨d.slots,u.keep b d q n hb f⟩
theorem Un.kept(k:∀b u,h.get? b=some u->h'.get? b=some u):Un fs ex H H h h' :=
 ⟨λb d q _ _ _=>k b d q,λb d q _ _ _=>⟨d.slots,k b d q⟩,λ_ _ _ n _=>n,λb d q _=>⟨d,k b d q⟩,λ_ _ q=>q,λ_ _ _ q=>q,λ_ f q=>⟨#[],by rw[q];simp⟩⟩
theorem Un.refl:Un fs ex H H h h:=Un.kept λ_ _ q=>q
theorem Un.laid(k:∀b u,h.get? b=some u->h'.get? b=some u)(g:h.objs.size<=a)(d:H a=none):Un fs ex H (upd H a o) h h' where
 keep:=λb u q _ _ _=>k b u q
 slot:=λb u q _ _ _=>⟨u.slots,k b u q⟩
 free:=λb u q n _=>by rw[aE (Zb (ZF (ZU q) g))];exact n
 there:=λb u q _=>⟨u,k b u q⟩
 JO:=λb f q=>by rw[aE (bV q d)];exact q
 JC:=λb u f q=>by rw[aE (bV q d)];exact q
 JR:=λb i q=>⟨#[],by rw[aE (bV q d),q];simp⟩
theorem Un.write(d:G4 (H x))(he:e=x\/H e=some (.own x))(k:∀b u,b≠e->h.get? b=some u->h'.get? b=some u)(l:∃u,h'.get? e=some u):Un fs ex H (upd H x o) h h':=by
 have g:∀b,H b=none->b≠x:=λb n z=>by subst z;rw[n]at d;exact d
 have hb:∀b,H b=none->b≠e:=λb n z=>by
  subst z;rcases he with r | r
  ·exact g b n r
  ·rw[n]at r;cases r
 have f:∀b u,H b=some u->¬G4 (some u)->b≠x:=λb u q nm z=>by subst z;rw[q]at d;exact nm d
 refine⟨λb u q n _ _=>k b u (hb b n) q,λb u q n _ _=>⟨u.slots,k b u (hb b n) q⟩,λb u q n _=>by rw[aE (g b n)];exact n,λb u q _=>?_,
  λb j q=>by rw[aE (f b _ q λz=>z)];exact q,λb u j q=>by rw[aE (f b _ q λz=>z)];exact q,λb m q=>⟨#[],by rw[aE (f b _ q λz=>z),q];simp⟩⟩
 by_cases i:b=e
 ·subst i;exact l
 ·exact⟨u,k b u i q⟩
end
noncomputable def Px(h:Heap)(H:Hp):Wy:=(List.range h.objs.size).filter λa=>(H a).isSome
noncomputable def qT(h:Heap)(H:Hp):Heap:=PySem.W.hideAll h (Px h H)
theorem wJ(h:Heap)(H:Hp):(qT h H).objs.size=h.objs.size:=PySem.W.hideAll_size _ _
theorem zH{h:Heap}{H:Hp}{b:Addr}{o:Obj}(e:h.get? b=some o)(n:H b=none):(qT h H).get? b=some o :=
 PySem.W.hideAll_get _ e λa=>by
  have q:(H b).isSome=true:=(Xq.mp a).2;rw[n]at q;simp at q
theorem A9{h:Heap}{H:Hp}{b:Addr}{o:Obj}(e:(qT h H).get? b=some o):h.get? b=some o/\H b=none:=by
 have a:h.get? b=some o:=PySem.W.of_hideAll (Px h H) e;refine⟨a,?_⟩;cases q:H b with
 |none=>rfl
 |some x =>
  have d:b∈Px h H:=Xq.mpr ⟨ZD.mpr (ZU a),by simp[q]⟩;have z:(qT h H).get? b=none:=PySem.W.hideAll_none (Px h H) d;rw[z]at e;cases e
noncomputable def BS(g h:Heap)(L:Addr):Yz:=(List.range h.objs.size).filterMap λa=>if a=L\/(g.get? a).isSome=true then none else (h.get? a).map λo=>(a,o)
noncomputable def rest(g h:Heap)(L d:Addr):Yz:=(BS g h L).filter λp=>decide (p.1≠d)
structure Mod(K:Xf)(mg:X9)(base:Heap):Prop where
 OP:K.In base
 glob:base.Ns mainGlobals mg
 blt:∃mb,base.Ns builtinsNs mb/\∀x:Str,x ≠ "__name__" → mb x=bootBuiltins x
 nolimit:base.NoLimit
structure Cx where
 prog:Program
 w:World
 K:Xf
 mg:X9
 base:Heap
 A:Around
 N:List Str
 s₀:Shared
 H₀:Hp
 env:Env
 outer:List Env
 stack:List Env
 ex:Wy
 fn:Str->Bool
 calm:Bool
 pn:Yz
 xe:Z3
abbrev K1(e:Expr)(l:List Expr)(X:Cx):Prop:=starEach (e :: l) X.env=(false,eval e X.env) :: starEach l X.env
abbrev K2(p:Pos)(l:List Expr)(X:Cx):Prop:=(backTo p (starEach l X.env)).any (·.1)=false
abbrev K3(x:Str):Prop:=(x==("__debug__" : Str))=false
abbrev K4(x:Str):Prop:=(x==("__classdict__" : Str))=false
noncomputable def Ig(l:List Env):Wy:=l.filterMap (·.frame)
noncomputable abbrev Cx.fs(X:Cx):Wy:=Ig X.outer
noncomputable def JG(a:Scope)(x:Str):Prop:=a.names.lookup x=some .local\/a.names.lookup x=some .cell\/a.names.lookup x=some .free
noncomputable def Loc(a:Scope)(x:Str):Prop:=a.names.lookup x=some .local\/a.names.lookup x=some .cell
noncomputable def Look(a:Env)(h:Heap)(m:X9)(x:Str)(u:Value):Prop :=
 (a.kindOf x=some .local/\m x=some u)\/((a.kindOf x=some .cell\/a.kindOf x=some .free)/\∃c,a.cells.lookup x=some c/\h.IsCell c (some u))
structure Cx.Ok(X:Cx):Prop where
 mod:Mod X.K X.mg X.base
 kind:X.env.scope.kind=.function
 glob:X.env.globals=mainGlobals
 blt:X.env.builtins=builtinsNs
 above:X.s₀.heap.objs.size<=X.env.locals
 inj:∀x y c,X.env.cells.lookup x=some c->X.env.cells.lookup y=some c->x=y
 has:∀x,(X.env.kindOf x=some .cell\/X.env.kindOf x=some .free)->∃c,X.env.cells.lookup x=some c
 Pf:∀x c,X.fn x=true->X.env.cells.lookup x=some c->X.s₀.heap.objs.size<=c
 hd:X.calm=true->X.A.handled=none
 frames:X.A.frames=some X.stack
 PB:X.stack=X.outer\/(X.stack=X.env :: X.outer/\X.env.frame=some X.env.locals)
 UX:∀b∈X.ex,b≠X.env.locals/\∀x c,X.env.cells.lookup x=some c->c≠b
 bs:∀b o,X.base.get? b=some o->X.s₀.heap.get? b=some o/\X.H₀ b=none
 Ms:X.base.objs.size<=X.s₀.heap.objs.size
 Lx:∀b o,X.base.get? b=some o->b∉X.ex
 Mr:∀b∈X.ex,b∉X.fs
 IL:X.s₀.heap.FunFrames X.base X.outer
 NJ:∀b∈X.fs,X.H₀ b=none
structure Inv(X:Cx)(pins:Yz)(J:List (Option V))(H:Hp)(s:Shared):Prop where
 ok:X.Ok
 os:s.os=X.s₀.os
 bare:AllBare s.gens
 base:Un X.fs X.ex X.H₀ H X.s₀.heap s.heap
 loc:∃m,s.heap.Ns X.env.locals m/\∀(i:Nat)(x:Str)(v:V),X.N[i]?=some x->J[i]?=some (some v)->JG X.env.scope x->∃u,RelV v u/\Look X.env s.heap m x u
 cell:∀x c,X.env.cells.lookup x=some c->∃v,s.heap.IsCell c v
 free:H X.env.locals=none
 HW:∀x c,X.env.cells.lookup x=some c->H c=none
 pin:∀p∈X.pn++pins,s.heap.get? p.1=some p.2/\H p.1=none/\p.1≠X.env.locals/\p.1∉X.fs/\∀v,p.2.data ≠ .cell v
 xh:Ic X.prog X.w H s.heap
 len:J.length=X.N.length
section
variable{X:Cx}{pins:Yz}{J:List (Option V)}{H H':Hp}{s:Shared}{h':Heap}
theorem Cx.Ok.Rg(a:X.Ok){b:Addr}{o:Obj}(e:X.base.get? b=some o):b∉X.fs:=λhb=>by
 have:=(a.IL.mem hb).1;rw[e]at this;cases this
theorem Inv.bs(I:Inv X pins J H s):∀b o,X.base.get? b=some o->s.heap.get? b=some o/\H b=none:=λb o e =>
 ⟨I.base.keep b o (I.ok.bs b o e).1 (I.ok.bs b o e).2 (I.ok.Rg e) (I.ok.Lx b o e),I.base.free b o (I.ok.bs b o e).1 (I.ok.bs b o e).2 (I.ok.Lx b o e)⟩
theorem Inv.bk(I:Inv X pins J H s):∀b o,X.base.get? b=some o->s.heap.get? b=some o:=λb o e=>(I.bs b o e).1
theorem Inv.mod(I:Inv X pins J H s):Mod X.K X.mg X.base:=I.ok.mod
theorem Inv.IE(I:Inv X pins J H s):X.K.In s.heap:=I.ok.mod.OP.keeps I.bk
theorem Inv.lt(I:Inv X pins J H s):X.env.locals<s.heap.objs.size:=let ⟨_,a,_⟩:=I.loc;a.lt
theorem Inv.sz(I:Inv X pins J H s):X.s₀.heap.objs.size<=s.heap.objs.size:=ZE I.ok.above (Z0 I.lt)
theorem Inv.Rf(I:Inv X pins J H s){a:Addr}(h:s.heap.objs.size<=a):a∉X.fs:=λhb=>by
 obtain⟨_,o,b,_⟩:=I.ok.IL.mem hb;exact absurd (ZF (ZU b) (ZE I.sz h)) (YO _)
theorem Inv.NP(I:Inv X pins J H s):∀x c,X.env.cells.lookup x=some c->c≠X.env.locals:=λx c e z=>by
 obtain⟨v,o,a,hd⟩:=I.cell x c e;obtain⟨m,⟨f,g,h,d,b,_⟩,_⟩:=I.loc;rw[z,d]at a;cases a;rw[b]at hd;cases hd
theorem Inv.IL(I:Inv X pins J H s):s.heap.FunFrames X.base X.outer:=by
 have all:∀(l:List Env),(∀b∈Ig l,b∈X.fs)->X.s₀.heap.FunFrames X.base l->s.heap.FunFrames X.base l:=by
  intro l
  induction l with
  |nil=>intro _ _;trivial
  |cons env r g =>
   intro f m;obtain⟨n,⟨L,o,a,j,i,hd⟩,h⟩:=m;have d:L∈X.fs:=f L (by unfold Ig;rw[WJ,a];exact Zw);obtain⟨p,e⟩:=I.base.slot L o i (I.ok.NJ L d) d λz=>I.ok.Mr L z d;exact⟨n,⟨L,_,a,j,e,hd⟩,g (λb hb=>f b (by unfold Ig;rw[WJ,a];exact Zv _ hb)) h⟩
 exact all X.outer (λ_ hb=>hb) I.ok.IL
theorem Inv.stack(I:Inv X pins J H s):s.heap.FunFrames X.base X.stack:=by
 rcases I.ok.PB with e | ⟨e,b⟩
 ·rw[e];exact I.IL
 ·rw[e];obtain⟨m,a,_⟩:=I.loc;refine .cons (by rw[I.ok.kind];decide) b a ?_ I.IL;exact Heap.get?_none_of_le (ZE I.ok.Ms I.ok.above)
theorem Inv.Jy(I:Inv X pins J H s):∀b∈Ig X.stack,b∈X.env.locals :: X.fs:=λb hb=>by
 rcases I.ok.PB with e | ⟨e,a⟩
 ·rw[e]at hb;exact Zv _ hb
 ·rw[e]at hb;unfold Ig at hb;rw[WJ,a]at hb;exact hb
theorem Inv.Kw(I:Inv X pins J H s):∀b∈Ig X.stack,H b=none:=λb hb=>by
 rcases Zj.mp (I.Jy b hb) with e | hb
 ·rw[e];exact I.free
 ·obtain⟨_,o,a,_⟩:=I.ok.IL.mem hb;exact I.base.free b o a (I.ok.NJ b hb) λz=>I.ok.Mr b z hb
theorem Inv.step{g':Array GenState}{t':Nat}{d':Drawn}{ch:Wy}(I:Inv X pins J H s)(C:∀b∈ch,(b∈X.ex\/X.s₀.heap.objs.size<=b)/\b≠X.env.locals/\(∀x c,X.env.cells.lookup x=some c->c≠b)/\∀p∈X.pn++pins,p.1≠b)(g:∀b o,b≠X.env.locals->b∉X.fs->b∉ch->s.heap.get? b=some o->H b=none->h'.get? b=some o)(j:∀b o,b≠X.env.locals->b∈X.fs->b∉ch->s.heap.get? b=some o->H b=none->∃F,h'.get? b=some { o with slots:=F })(f:∀b o,b∉ch->s.heap.get? b=some o->H b=none->H' b=none)(t:∀b o,b∉ch->s.heap.get? b=some o->∃A,h'.get? b=some A)(JO:∀b h,H b=some (.tup h)->H' b=some (.tup h))(JC:∀b o u,H b=some (.frz o u)->H' b=some (.frz o u))(JR:∀b D,H b=some (.tbl D)->∃more,H' b=some (.tbl (D++more)))(P:∀m,s.heap.Ns X.env.locals m->h'.Ns X.env.locals m)(O:Ic X.prog X.w H' h')(Y:AllBare g') :
  Inv X pins J H' { s with heap:=h',gens:=g',drawn:=d',toks:=t' }:=by
 have N:∀b o,X.s₀.heap.get? b=some o->b≠X.env.locals:=λb o e=>Zb (ZF (ZU e) I.ok.above);have E:∀b o,X.s₀.heap.get? b=some o->b∉X.ex->b∉ch:=λb o e a hb=>by
  rcases (C b hb).1 with z | z
  ·exact a z
  ·exact absurd (ZF (ZU e) z) (YO _)
 have cellK:∀x c,X.env.cells.lookup x=some c->∀v,s.heap.IsCell c v->h'.IsCell c v:=λx c e v ⟨o,y,hd⟩=>by
  have B:c∉ch:=λz=>(C c z).2.2.1 x c e rfl;by_cases M:c∈X.fs
  ·obtain⟨F,q⟩:=j c o (I.NP x c e) M B y (I.HW x c e);exact⟨_,q,hd⟩
  ·exact⟨o,g c o (I.NP x c e) M B y (I.HW x c e),hd⟩
 refine⟨I.ok,I.os,Y,⟨λb o e n hb a=>?_,λb o e n hb a=>?_,λb o e n a=>?_,λb o e a=>?_,λb h e=>JO b h (I.base.JO b h e),λb o h e=>JC b o h (I.base.JC b o h e),λb D e=>?_⟩,?_,λx c e=>?_,?_,λx c e=>?_,λp L=>?_,O,I.len⟩
 ·exact g b o (N b o e) hb (E b o e a) (I.base.keep b o e n hb a) (I.base.free b o e n a)
 ·obtain⟨F,e1⟩:=I.base.slot b o e n hb a;obtain⟨VL,e2⟩:=j b _ (N b o e) hb (E b o e a) e1 (I.base.free b o e n a);exact⟨VL,e2⟩
 ·obtain⟨A,e1⟩:=I.base.there b o e a;exact f b A (E b o e a) e1 (I.base.free b o e n a)
 ·obtain⟨A,e1⟩:=I.base.there b o e a;exact t b A (E b o e a) e1
 ·obtain⟨R,e1⟩:=I.base.JR b D e;obtain⟨Q,e2⟩:=JR b _ e1;exact⟨R++Q,by rw[e2,Array.append_assoc]⟩
 ·obtain⟨m,S,U⟩:=I.loc;refine⟨m,P m S,λi x v e1 e2 Z=>?_⟩;obtain⟨u,r,l⟩:=U i x v e1 e2 Z;refine⟨u,r,?_⟩;rcases l with l | ⟨k,c,e,z⟩
  ·exact .inl l
  ·exact .inr ⟨k,c,e,cellK x c e _ z⟩
 ·obtain⟨v,z⟩:=I.cell x c e;exact⟨v,cellK x c e v z⟩
 ·obtain⟨m,⟨o,_,_,y,_⟩,_⟩:=I.loc;exact f _ o (λz=>(C _ z).2.1 rfl) y I.free
 ·obtain⟨v,o,y,hd⟩:=I.cell x c e;exact f c o (λz=>(C c z).2.2.1 x c e rfl) y (I.HW x c e)
 ·obtain⟨e,n,ne,G,d⟩:=I.pin p L;have B:p.1∉ch:=λz=>(C p.1 z).2.2.2 p L rfl;exact⟨g p.1 p.2 ne G B e n,f p.1 p.2 B e n,ne,G,d⟩
theorem Inv.un{t':Nat}(I:Inv X pins J H s)(u:Un X.fs [] H H' s.heap h')(f:Ic X.prog X.w H' h'):Inv X pins J H' { s with heap:=h',toks:=t' }:=by
 obtain⟨m,⟨o,v,x,a,r⟩,_⟩:=id I.loc;obtain⟨p,i⟩:=u.any a I.free (by simp);exact I.step (g':=s.gens) (d':=s.drawn) (ch:=[]) (λ_ z=>nomatch z) (λb o _ hb _ e n=>u.keep b o e n hb (by simp)) (λb o _ hb _ e n=>u.slot b o e n hb (by simp)) (λb o _ e n=>u.free b o e n (by simp)) (λb o _ e=>u.there b o e (by simp)) u.JO u.JC u.JR (λt h=>by
  obtain⟨q,l,j,d,g⟩:=h;rw[a]at d;cases d;exact⟨_,l,j,i,g⟩) f I.bare
theorem Inv.call{g':Array GenState}{t':Nat}{d':Drawn}{ch:Wy}(I:Inv X pins J H s)(u:Un (Ig X.stack) ch H H' s.heap h')(i:Ic X.prog X.w H' h')(q:AllBare g')(g:∀b∈ch,(b∈X.ex\/X.s₀.heap.objs.size<=b)/\b≠X.env.locals/\(∀x c,X.env.cells.lookup x=some c->c≠b)/\∀p∈X.pn++pins,p.1≠b) :
  Inv X pins J H' { s with heap:=h',gens:=g',drawn:=d',toks:=t' }:=by
 obtain⟨m,⟨o,C,D,f,r⟩,_⟩:=id I.loc;obtain⟨y,d⟩:=u.any f I.free λz=>(g _ z).2.1 rfl;exact I.step (ch:=ch) g (λb o d hb a e n=>u.keep b o e n (λz=>(Zj.mp (I.Jy b z)).elim d hb) a) (λb o _ _ a e n=>u.any e n a) (λb o a e n=>u.free b o e n a) (λb o a e=>u.there b o e a) u.JO u.JC u.JR (λB l=>by
  obtain⟨A,v,t,h,j⟩:=l;rw[f]at h;cases h;exact⟨_,v,t,d,j⟩) i q
theorem Inv.turned{t':Nat}{it:Addr}(I:Inv X pins J H s)(k:∀b o,b≠it->s.heap.get? b=some o->h'.get? b=some o)(h:H it=none)(d:it≠X.env.locals)(t:it∈X.ex\/X.s₀.heap.objs.size<=it)(l:∀x c,X.env.cells.lookup x=some c->c≠it)(j:∀p∈X.pn++pins,p.1≠it):Inv X pins J H { s with heap:=h',toks:=t' }:=by
 have f:∀b u,H b=some u->b≠it:=λb u e z=>by rw[z,h]at e;cases e
 refine I.step (g':=s.gens) (d':=s.drawn) (ch:=[it]) (λb hb=>?_) (λb o _ _ a e _=>k b o (λz=>a (by simp[z])) e) (λb o _ _ a e _=>⟨o.slots,k b o (λz=>a (by simp[z])) e⟩) (λ_ _ _ _ n=>n)
  (λb o a e=>⟨o,k b o (λz=>a (by simp[z])) e⟩) (λ_ _ e=>e) (λ_ _ _ e=>e) (λb A e=>⟨#[],by rw[e];simp⟩) (λm i=>?_) (λb u e=>?_) I.bare
 ·have e:b=it:=by simpa using hb
  subst e;exact⟨t,d,l,j⟩
 ·obtain⟨o,w,y,g,r⟩:=i;exact⟨o,w,y,k _ o (YF d) g,r⟩
 ·refine(I.xh b u e).KP (λc v a q=>k c v ?_ q) (λ_ q=>q) λ_ _ q=>q;rcases a with z | z
  ·rw[z];exact f b u e
  ·exact f c _ z
theorem Inv.tok(I:Inv X pins J H s)(t:Nat):Inv X pins J H { s with toks:=t }:=I.un (h':=s.heap) (t':=t) Un.refl I.xh
theorem Inv.kept{t':Nat}(I:Inv X pins J H s)(k:∀b u,s.heap.get? b=some u->h'.get? b=some u):Inv X pins J H { s with heap:=h',toks:=t' }:=I.un (Un.kept k) (I.xh.kept k)
theorem Inv.laid{a:Addr}{o:HO}{t':Nat}(I:Inv X pins J H s)(k:∀b u,s.heap.get? b=some u->h'.get? b=some u)(e:s.heap.objs.size<=a)(d:bS X.prog X.w (upd H a o) h' a o) :
  Inv X pins J (upd H a o) { s with heap:=h',toks:=t' }:=I.un (Un.laid k e (I.xh.fresh e)) (I.xh.laid k e d)
theorem Inv.write{x e:Addr}{o:HO}{g:Nat}(I:Inv X pins J H s)(d:G4 (H x))(he:e=x\/H e=some (.own x))(k:∀b u,b≠e->s.heap.get? b=some u->h'.get? b=some u)(f:∃u,h'.get? e=some u)(a:bS X.prog X.w (upd H x o) h' x o):Inv X pins J (upd H x o) { s with heap:=h',toks:=g }:=I.un (Un.write d he k f) (I.xh.write d he k f a)
theorem Inv.Kz{a:Yz}(I:Inv X pins J H s)(h:∀p∈a,s.heap.get? p.1=some p.2/\H p.1=none/\p.1≠X.env.locals/\p.1∉X.fs/\∀v,p.2.data ≠ .cell v):Inv X a J H s :=
 ⟨I.ok,I.os,I.bare,I.base,I.loc,I.cell,I.free,I.HW,λp b=>(Ze.mp b).elim (λz=>I.pin p (Yf _ z)) (h p),I.xh,I.len⟩
theorem rn{N:List Str}(d:N.Nodup){i j:Nat}{x:Str}(a:N[i]?=some x)(b:N[j]?=some x):i=j:=by
 obtain⟨f,e1⟩:=ZX.mp a;obtain⟨e,e2⟩:=ZX.mp b;exact(Vx d).mp (e1.trans e2.symm)
theorem pE{M:Model}{A:Around}{E:Z3}{i:Nat}{x:Str}{v:V}{u:Value}{Q:Unit->Shared->Prop}(I:Inv X pins J H s)(hN:X.N.Nodup)(C:X.N[i]?=some x)(l:Loc X.env.scope x)(r:RelV v u)(h:∀P,Inv X pins (J.set i (some v)) H P->(∃a,Heap.SameBut a s.heap P.heap/\(a=X.env.locals\/X.env.cells.lookup x=some a))->Q () P)(hf:X.fn x=true\/X.env.scope.names.lookup x=some .local:=by first | exact .inl rfl | exact .inr rfl | assumption):wpAny M A (storeName X.env x u) Q E s:=by
 obtain⟨m,Z,hl⟩:=id I.loc;have R0:(X.env.scope.kind == .class||(X.env.scope.kind == .module&&X.env.locals != X.env.globals))=false:=by rw[I.ok.kind];rfl
 have Ue:i<J.length:=by rw[I.len];exact(ZX.mp C).1
 have NP:=I.NP;have tracked:∀{a:Addr}{h':Heap},(∃o,s.heap.get? a=some o/\H a=none)->Heap.SameBut a s.heap h'->Ic X.prog X.w H h':=λ{a h'} ha f b ob e=>by
  obtain⟨_,_,MV⟩:=ha;refine(I.xh b ob e).KP (λc D g q=>(f.2 c ?_).trans q) (λ_ q=>q) λ_ _ q=>q;rintro rfl;rcases g with rfl | g
  ·rw[MV]at e;cases e
  ·rw[MV]at g;cases g
 rcases l with t | t
 ·refine wpAny_storeName_local t Z (λh' OY f=>?_) R0;obtain⟨oL,_,_,Mn,_⟩:=id Z;refine h _ ⟨I.ok,I.os,I.bare,⟨λb o e n hb l=>?_,λb o e n hb l=>?_,I.base.free,λb o e l=>?_,I.base.JO,I.base.JC,I.base.JR⟩,⟨_,OY,λj y G e1 e2 e3=>?_⟩,λy c e=>?_,I.free,I.HW,λp Y=>?_,tracked ⟨oL,Mn,I.free⟩ f,by simpa using I.len⟩ ⟨_,f,.inl rfl⟩
  ·exact(f.2 b (Zb (ZF (ZU e) I.ok.above))).trans (I.base.keep b o e n hb l)
  ·obtain⟨O,e1⟩:=I.base.slot b o e n hb l;exact⟨O,(f.2 b (Zb (ZF (ZU e) I.ok.above))).trans e1⟩
  ·obtain⟨S,e1⟩:=I.base.there b o e l;exact⟨S,(f.2 b (Zb (ZF (ZU e) I.ok.above))).trans e1⟩
  ·by_cases B:j=i
   ·subst B;rw[C]at e1;cases e1;rw[XM Ue]at e2;cases e2;exact⟨u,r,.inl ⟨t,by simp⟩⟩
   ·rw[Y4 (YF B)]at e2;obtain⟨L,R,q⟩:=hl j y G e1 e2 e3;refine⟨L,R,?_⟩;rcases q with⟨k,e⟩ | ⟨k,c,e,z⟩
    ·refine .inl ⟨k,?_⟩;have:y≠x:=λe=>B (rn hN e1 (e ▸ C));simp[this,e]
    ·exact .inr ⟨k,c,e,z.sameBut f (NP y c e)⟩
  ·obtain⟨D,z⟩:=I.cell y c e;exact⟨D,z.sameBut f (NP y c e)⟩
  ·obtain⟨e,n,ne,U,d⟩:=I.pin p Y;exact⟨(f.2 p.1 ne).trans e,n,ne,U,d⟩
 ·have RY:X.fn x=true:=by
   rcases hf with z | z
   ·exact z
   ·rw[z]at t;cases t
  obtain⟨c,g⟩:=I.ok.has x (.inl t);obtain⟨D,z⟩:=I.cell x c g;refine wpAny_storeName_cell I.ok.kind t g z (λh' J0 f=>?_);obtain⟨oc,T5,RJ⟩:=id z;refine h { s with heap:=h' } ⟨I.ok,I.os,I.bare,⟨λb o e n hb l=>?_,λb o e n hb l=>?_,I.base.free,λb o e l=>?_,I.base.JO,I.base.JC,I.base.JR⟩,⟨m,Z.sameBut f (YF (NP x c g)),λj y G e1 e2 e3=>?_⟩,λy F e=>?_,I.free,I.HW,λp Y=>?_,tracked ⟨oc,T5,I.HW x c g⟩ f,by simpa using I.len⟩ ⟨c,f,.inr g⟩
  ·exact(f.2 b (Zb (ZF (ZU e) (I.ok.Pf x c RY g)))).trans (I.base.keep b o e n hb l)
  ·obtain⟨O,e1⟩:=I.base.slot b o e n hb l;exact⟨O,(f.2 b (Zb (ZF (ZU e) (I.ok.Pf x c RY g)))).trans e1⟩
  ·obtain⟨S,e1⟩:=I.base.there b o e l;exact⟨S,(f.2 b (Zb (ZF (ZU e) (I.ok.Pf x c RY g)))).trans e1⟩
  ·by_cases B:j=i
   ·subst B;rw[C]at e1;cases e1;rw[XM Ue]at e2;cases e2;exact⟨u,r,.inr ⟨.inl t,c,g,J0⟩⟩
   ·rw[Y4 (YF B)]at e2;obtain⟨L,R,q⟩:=hl j y G e1 e2 e3;refine⟨L,R,?_⟩;rcases q with q | ⟨k,F,e,z'⟩
    ·exact .inl q
    ·refine .inr ⟨k,F,e,z'.sameBut f ?_⟩;rintro rfl;exact B (rn hN e1 (I.ok.inj _ _ _ e g ▸ C))
  ·by_cases P7:F=c
   ·subst P7;exact⟨_,J0⟩
   ·obtain⟨w2,z2⟩:=I.cell y F e;exact⟨w2,z2.sameBut f P7⟩
  ·obtain⟨e,n,ne,U,d⟩:=I.pin p Y;refine⟨(f.2 p.1 ?_).trans e,n,ne,U,d⟩;intro q;rw[q,T5]at e;have q':oc=p.2:=Zl e;exact d D (by rw[← q'];exact RJ)
theorem si{M:Model}{A:Around}{E:Z3}{i:Nat}{x:Str}{v:V}{u:Value}{Q:Unit->Shared->Prop}(I:Inv X pins J H s)(f:X.N.Nodup)(d:X.N[i]?=some x)(b:Loc X.env.scope x)(r:RelV v u)(h:∀a,Inv X pins (J.set i (some v)) H a->Q () a)(e:X.fn x=true\/X.env.scope.names.lookup x=some .local:=by first | exact .inl rfl | exact .inr rfl | assumption):wpAny M A (storeName X.env x u) Q E s :=
 pE I f d b r (λa g _=>h a g) e
theorem Inv.Pe{a:Shared}{ch:Wy}(I:Inv X pins J H s)(g:a.os=s.os)(u:Un (Ig X.stack) ch H H' s.heap a.heap)(d:Ic X.prog X.w H' a.heap)(h:AllBare a.gens)(i:∀b∈ch,(b∈X.ex\/X.s₀.heap.objs.size<=b)/\b≠X.env.locals/\(∀x c,X.env.cells.lookup x=some c->c≠b)/\∀p∈X.pn++pins,p.1≠b):Inv X pins J H' a:=by
 obtain⟨h',g',d',t',f⟩:=a;have e:f=s.os:=g;subst e;exact I.call (g':=g') (t':=t') (d':=d') u d h i
end
noncomputable abbrev XK:=Value->Option Addr->Hp->Prop
noncomputable abbrev St:=List (Option V)
noncomputable abbrev VK:=V->Hp->Prop
noncomputable abbrev TE:=St->Hp->VK->Prop
noncomputable abbrev TT:=St->Hp->(Bool->Hp->Prop)->Prop
noncomputable abbrev TA:=St->Hp->(List V->Hp->Prop)->Prop
structure Ends where
 nx:St->Hp->Prop
 rt:VK
 bk:St->Hp->Prop:=λ_ _=>False
 ct:St->Hp->Prop:=λ_ _=>False
noncomputable abbrev TS:=Ends->St->Hp->Prop
noncomputable def EP(X:Cx)(a:Yz)(J:St)(Q:VK)(u:Value)(d:Shared):Prop:=∃v b,Inv X a J b d/\RelV v u/\Q v b
noncomputable def TP(X:Cx)(a:Yz)(J:St)(Q:Bool->Hp->Prop)(b:Bool)(e:Shared):Prop:=∃d,Inv X a J d e/\Q b d
noncomputable def AP(X:Cx)(a:Yz)(J:St)(Q:List V->Hp->Prop)(e:Wu)(f:Shared):Prop:=∃b d,Inv X a J d f/\aV b e/\Q b d
noncomputable def SP(X:Cx)(a:Yz)(D:Ends)(f:Flow)(e:Shared):Prop :=
 match f with
 |.next=>∃d b,Inv X a d b e/\D.nx d b
 |.brk=>∃d b,Inv X a d b e/\D.bk d b
 |.cont=>∃d b,Inv X a d b e/\D.ct d b
 |.ret u=>∃v d b,Inv X a d b e/\RelV v u/\D.rt v b
noncomputable def PE(X:Cx)(e:Expr)(t:TE):Prop :=
 ∀(a:Yz)(s:Shared)(J:St)(H:Hp)(Q:VK),Inv X a J H s->t J H Q->wpAny (model X.prog X.w) X.A (eval e X.env) (EP X a J Q) X.xe s
noncomputable def PT(X:Cx)(e:Expr)(t:TT):Prop :=
 ∀(a:Yz)(s:Shared)(J:St)(H:Hp)(Q:Bool->Hp->Prop),Inv X a J H s->t J H Q->wpAny (model X.prog X.w) X.A (isTrue e X.env (eval e X.env)) (TP X a J Q) X.xe s
noncomputable def PW(X:Cx)(e:Expr)(t:TT):Prop :=
 ∀(whole:Sem Value)(a:Yz)(s:Shared)(J:St)(H:Hp)(Q:Bool->Hp->Prop),Inv X a J H s->t J H Q->wpAny (model X.prog X.w) X.A (isTrue e X.env whole) (TP X a J Q) X.xe s
theorem PW.pt{X:Cx}{e:Expr}{t:TT}(h:PW X e t):PT X e t:=h _
noncomputable def PA(X:Cx)(b:List Expr)(t:TA):Prop :=
 ∀(pos:Pos)(a:Yz)(s:Shared)(J:St)(H:Hp)(Q:List V->Hp->Prop),Inv X a J H s->t J H Q->wpAny (model X.prog X.w) X.A (spliced (backTo pos (starEach b X.env))) (AP X a J Q) X.xe s
noncomputable def PS(X:Cx)(b:Stmt)(t:TS):Prop :=
 ∀(a:Yz)(s:Shared)(J:St)(H:Hp)(D:Ends),Inv X a J H s->t D J H->wpAny (model X.prog X.w) X.A (exec b X.env) (SP X a D) X.xe s
noncomputable def Jd(X:Cx)(b:List Stmt)(t:TS):Prop :=
 ∀(a:Yz)(s:Shared)(J:St)(H:Hp)(D:Ends),Inv X a J H s->t D J H->wpAny (model X.prog X.w) X.A (execs b X.env) (SP X a D) X.xe s
theorem thn{α:Type}{t:Sem α}{Q b:α->Shared->Prop}{M:Model}{A:Around}{E:Z3}{s:Shared}(h:wpAny M A t Q E s)(d:∀a s,Q a s->b a s):wpAny M A t b E s:=YA h d λ_ _ x=>x
section
variable{X:Cx}
noncomputable def GI(i:Nat):TE:=λJ H Q=>∃v,J[i]?=some (some v)/\Q v H
noncomputable def tC(v:V):TE:=λ_ H Q=>Q v H
theorem iu{i:Nat}{x:Str}{d:Pos}(w:X.N[i]?=some x)(o:JG X.env.scope x)(f:K3 x:=by decide)(g:K4 x:=by decide):PE X (.Name x d) (GI i):=by
 intro b s J H Q I h;obtain⟨v,e,h⟩:=h;obtain⟨m,p,t⟩:=I.loc;obtain⟨u,r,l⟩:=t i x v w e o;have fin:EP X b J Q u s:=⟨v,H,I,r,h⟩
 rcases l with⟨a,q⟩ | ⟨a,c,j,n⟩
 ·exact wpAny_Name (wpAny_loadName_local I.ok.kind a p q fin) f
 ·rcases a with a | a
  ·exact wpAny_Name (wpAny_loadName_cell I.ok.kind a j n fin) f
  ·exact wpAny_Name (wpAny_loadName_free I.ok.kind a j n fin g) f
theorem qC{i j pos}:PE X (.Constant (.int i) j pos) (tC (.int i)):=λ_ _ _ H _ I h=>wpAny_Constant_int ⟨.int i,H,I.tok _,⟨_,rfl⟩,h⟩
theorem Fh{b j pos}:PE X (.Constant (.bool b) j pos) (tC (.bl b)):=λ_ _ _ H _ I h=>Constant_bool ⟨.bl b,H,I,rfl,h⟩
theorem D2{j pos}:PE X (.Constant .none j pos) (tC .non):=λ_ _ _ H _ I h=>Constant_none ⟨.non,H,I,rfl,h⟩
theorem xX{x j pos}:PE X (.Constant (.str x) j pos) (tC (.str x)):=λ_ _ _ H _ I h=>Calls.Constant_str ⟨.str x,H,I.tok _,⟨_,rfl⟩,h⟩
noncomputable def Gl(X:Cx)(x:Str):Prop:=X.env.kindOf x=some .globalImplicit
theorem nz{E:Z3}{a:Yz}{s:Shared}{J:St}{H:Hp}{x:Str}{u:Value}{b:Pos}{Q:Z3}(I:Inv X a J H s)(e:Gl X x)(d:X.mg x=some u)(h:Q u s)(f:K3 x:=by decide):wpAny (model X.prog X.w) X.A (eval (.Name x b) X.env) Q E s :=
 Calls.Name_function_global I.ok.kind e (Calls.loadGlobal_global (by rw[I.ok.glob];exact I.mod.glob.keeps I.bk) d h) f
theorem l7{E:Z3}{a:Yz}{s:Shared}{J:St}{H:Hp}{x:Str}{u:Value}{b:Pos}{Q:Z3}(I:Inv X a J H s)(g:Gl X x)(f:X.mg x=none)(d:bootBuiltins x=some u)(h:Q u s)(e:x ≠ "__name__" := by decide)(i:K3 x:=by decide):wpAny (model X.prog X.w) X.A (eval (.Name x b) X.env) Q E s:=by
 obtain⟨m,l,j⟩:=I.mod.blt;exact Calls.Name_function_global I.ok.kind g (Calls.loadGlobal_builtin (by rw[I.ok.glob];exact I.mod.glob.keeps I.bk) f (by rw[I.ok.blt];exact l.keeps I.bk) ((j x e).trans d) h) i
theorem Ax{x:Str}{v:V}{u:Value}{a:Pos}(d:Gl X x)(b:X.mg x=some u)(r:RelV v u)(e:K3 x:=by decide):PE X (.Name x a) (tC v) :=
 λ_ _ _ H _ I h=>nz I d b ⟨v,H,I,r,h⟩ e
theorem AX{x:Str}{v:V}{u:Value}{a:Pos}(f:Gl X x)(e:X.mg x=none)(b:bootBuiltins x=some u)(r:RelV v u)(d:x ≠ "__name__" := by decide)(g:K3 x:=by decide):PE X (.Name x a) (tC v) :=
 λ_ _ _ H _ I h=>l7 I f e b ⟨v,H,I,r,h⟩ d g
variable{a b:Expr}{ta tb:TE}{pos:Pos}
noncomputable def PC(X:Cx)(g:CmpOp)(a b:Expr)(t:TE):Prop :=
 ∀(d:Yz)(s:Shared)(J:St)(H:Hp)(Q:VK),Inv X d J H s->t J H Q →
  wpAny (model X.prog X.w) X.A (eval a X.env) (λv f=>wpAny (model X.prog X.w) X.A (eval b X.env) (λu e=>wpAny (model X.prog X.w) X.A (compareOp g v u) (EP X d J Q) X.xe e) X.xe f) X.xe s
theorem xw(b:Expr){d:CmpOp}(h:d ≠ .In)(e:d ≠ .NotIn):behindInMarks d b=false:=by
 have e1:(d==CmpOp.In)=false:=by cases d<;>first | rfl | exact absurd rfl h
 have e2:(d==CmpOp.NotIn)=false:=by cases d<;>first | rfl | exact absurd rfl e
 cases b<;>simp[behindInMarks,e1,e2]
noncomputable def Gu(ta:TE):TE:=λJ H Q=>ta J H λx d=>Q (.bl (decide (x=.non))) d
noncomputable def EF(ta:TE):TE:=λJ H Q=>ta J H λx d=>Q (.bl (!decide (x=.non))) d
theorem RelV.JV{x:V}{v:Value}(r:RelV x v):(v==Value.none)=decide (x=.non):=by
 cases x with
 |non=>cases r;rfl
 |bl _=>cases r;rfl
 |int _=>obtain⟨t,rfl⟩:=r;rfl
 |str _=>obtain⟨t,rfl⟩:=r;rfl
 |byt _=>obtain⟨t,rfl⟩:=r;rfl
 |flt _=>obtain⟨t,rfl⟩:=r;rfl
 |ref _=>cases r;rfl
 |ty _=>cases r;rfl
theorem CF{j pos'}(f:PE X a ta):PC X .Is a (.Constant .none j pos') (Gu ta):=by
 intro d s J H Q I h;refine thn (f d s J H _ I h) λv s1 ⟨x,i,g,r1,e⟩=>?_;exact Constant_none (is_none_gen ⟨.bl _,i,g,by rw[r1.JV];rfl,e⟩)
theorem AB{j pos'}(f:PE X a ta):PC X .IsNot a (.Constant .none j pos') (EF ta):=by
 intro d s J H Q I h;refine thn (f d s J H _ I h) λv s1 ⟨x,i,g,r1,e⟩=>?_;exact Constant_none (isnot_none_gen ⟨.bl _,i,g,by rw[r1.JV];rfl,e⟩)
noncomputable def tB(t:TE):TT:=λJ H Q=>t J H λx d=>∃c,x=.bl c/\Q c d
theorem xU{f:CmpOp}{t:TE}(h:PC X f a b t)(g:behindInMarks f b=false:=by first | exact xw _ (by decide) (by decide) | rfl):PT X (.Compare a [f] [b] pos) (tB t):=by
 intro e s J H Q I hw;refine wpAny_isTrue_Compare1 (thn (h e s J H _ I hw) λv s1 g=>thn g λu o j=>thn j λc n ⟨x,m,l,r1,i⟩=>?_) g;obtain⟨d,rfl,q⟩:=i;cases r1;exact Y7 ⟨m,l,q⟩
variable{tA Pz:TT}{rest:List Expr}
noncomputable def GP(t u:TT):TT:=λJ H Q=>t J H λc d=>if c=true then u J d Q else Q false d
noncomputable def VA(t u:TT):TT:=λJ H Q=>t J H λc d=>if c=true then Q true d else u J d Q
noncomputable def GW(t:TT):TT:=λJ H Q=>t J H λc d=>Q (!c) d
theorem nB(f:PT X a tA):PW X (.BoolOp .And [a] pos) tA:=by
 intro g d s J H Q I h;refine isTrue_and (thn (f d s J H Q I h) λc s1 e=>?_);cases c with
 |true=>exact isTrue_and_nil e
 |false=>exact e
theorem qJ(f:PT X a tA):PW X (.BoolOp .Or [a] pos) tA:=by
 intro g d s J H Q I h;refine isTrue_or (thn (f d s J H Q I h) λc s1 e=>?_);cases c with
 |false=>exact isTrue_or_nil e
 |true=>exact e
theorem D7(l:PT X a tA)(j:PW X (.BoolOp .And (b :: rest) pos) Pz):PW X (.BoolOp .And (a :: b :: rest) pos) (GP tA Pz):=by
 intro i d s J H Q I h;refine isTrue_and (thn (l d s J H _ I h) λc s1 ⟨g,f,e⟩=>?_);cases c with
 |true=>exact j i d s1 J g Q f e
 |false=>exact⟨g,f,e⟩
theorem EB(l:PT X a tA)(j:PW X (.BoolOp .Or (b :: rest) pos) Pz):PW X (.BoolOp .Or (a :: b :: rest) pos) (VA tA Pz):=by
 intro i d s J H Q I h;refine isTrue_or (thn (l d s J H _ I h) λc s1 ⟨g,f,e⟩=>?_);cases c with
 |true=>exact⟨g,f,e⟩
 |false=>exact j i d s1 J g Q f e
theorem De(e:PT X a tA):PT X (.UnaryOp .Not a pos) (GW tA):=by
 intro d s J H Q I h;exact isTrue_not (e d s J H (λc f=>Q (!c) f) I h)
noncomputable def FB(ta e:TE):TE:=λJ H Q=>ta J H λx d=>∃c,x=.bl c/\if c=true then e J d Q else Q (.bl false) d
noncomputable def EE(ta:TE):TE:=λJ H Q=>ta J H λx d=>∃c,x=.bl c/\Q (.bl (!c)) d
theorem Ec{op}{t:TE}(h:PE X a t):PE X (.BoolOp op [a] pos) t:=λd s J H Q I hw=>BoolOp_one (h d s J H Q I hw)
theorem DT(j:PE X a ta)(i:PE X (.BoolOp .And (b :: rest) pos) tb):PE X (.BoolOp .And (a :: b :: rest) pos) (FB ta tb):=by
 intro d s J H Q I h;refine BoolOp_and (thn (j d s J H _ I h) λv s1 ⟨x,g,f,r1,e⟩=>?_);obtain⟨c,rfl,e⟩:=e;cases r1;refine Y7 ?_;cases c with
 |true=>exact i d s1 J g Q f e
 |false=>exact⟨.bl false,g,f,rfl,e⟩
theorem D9(f:PE X a ta):PE X (.UnaryOp .Not a pos) (EE ta):=by
 intro d s J H Q I h;refine UnaryOp_ (thn (f d s J H _ I h) λv s1 ⟨x,i,g,r1,e⟩=>?_);obtain⟨c,rfl,e⟩:=e;cases r1;exact not_of (Y7 ⟨.bl (!c),i,g,rfl,e⟩)
noncomputable def VB(t:TT)(ta e:TE):TE:=λJ H Q=>t J H λc d=>if c=true then ta J d Q else e J d Q
theorem zI{c:Expr}(j:PT X c tA)(m:PE X a ta)(l:PE X b tb):PE X (.IfExp c a b pos) (VB tA ta tb):=by
 intro e s J H Q I h;refine wpAny_IfExp (thn (j e s J H _ I h) λd s1 ⟨i,g,f⟩=>?_);cases d with
 |true=>exact m e s1 J i Q g f
 |false=>exact l e s1 J i Q g f
end
noncomputable def Hc(K:Xf)(H:Hp)(a:Addr)(d:List V):Prop :=
 Rd H a (.lst d) ∨
  ∃(o:Obj)(b:Array Value)(n:Nat),K.lookup a=some o/\o.cls=.type "list" ∧ o.dict=none/\o.data=.seq b n/\b.size<=sizeLine/\aV d b.toList
noncomputable def HX(K:Xf)(H:Hp)(a:Addr)(d:List V):Prop :=
 Rd H a (.tup d) ∨
  ∃(o:Obj)(b:Array Value)(n:Nat),K.lookup a=some o/\o.cls=.type "tuple" ∧ o.data=.seq b n/\b.size<=sizeLine/\aV d b.toList
noncomputable def GC:Value->Option V
 |.none=>some .non
 |.bool b=>some (.bl b)
 |.int i _=>some (.int i)
 |.str x _=>some (.str x)
 |.bytes b _=>some (.byt b)
 |.float b _=>some (.flt b)
 |.ref a=>some (.ref a)
 |.type n=>some (.ty n)
 |_=>none
theorem RelV.abs{x:V}{u:Value}(r:RelV x u):GC u=some x:=by
 cases x with
 |non=>cases r;rfl
 |bl _=>cases r;rfl
 |int _=>obtain⟨t,rfl⟩:=r;rfl
 |str _=>obtain⟨t,rfl⟩:=r;rfl
 |byt _=>obtain⟨t,rfl⟩:=r;rfl
 |flt _=>obtain⟨t,rfl⟩:=r;rfl
 |ref _=>cases r;rfl
 |ty _=>cases r;rfl
theorem RelV.inj{x y:V}{u:Value}(r:RelV x u)(q:RelV y u):x=y:=Zl (r.abs.symm.trans q.abs)
theorem aV.inj:∀{b a:List V}{d:Wu},aV b d->aV a d->b=a
 |_,_,_,.nil,.nil=>rfl
 |_,_,_,.cons r t,.cons f e=>by rw[r.inj f,aV.inj t e]
section
variable{X:Cx}{pins:Yz}{J:St}{H:Hp}{s:Shared}{a:Addr}{xs ys:List V}
theorem Hc.of{K:Xf}(h:H a=some (.lst xs)):Hc K H a xs:=.inl (.inl h)
theorem HX.of{K:Xf}(h:H a=some (.tup xs)):HX K H a xs:=.inl (.inl h)
theorem Inv.list(I:Inv X pins J H s)(h:Hc X.K H a xs):∃b:Wu,aV xs b/\PlainL s.heap a b.toArray/\xs.length<=sizeLine:=by
 rcases h with h | ⟨o,b,n,f,g,hd,d,i,r⟩
 ·obtain⟨z,b,n,r,e⟩:=h.ok I.xh;exact⟨b,r,⟨_,n,e,rfl,rfl,rfl⟩,z⟩
 ·refine⟨b.toList,r,⟨o,n,I.IE a o f,g,hd,by simpa using d⟩,?_⟩;have e:=r.length;simp only[YY]at e;lia
theorem Inv.tuple(I:Inv X pins J H s)(h:HX X.K H a xs):∃b:Wu,aV xs b/\IsTup s.heap a b.toArray/\xs.length<=sizeLine:=by
 rcases h with h | ⟨o,b,n,f,g,d,i,r⟩
 ·obtain⟨z,b,r,_,p⟩:=h.ok I.xh;exact⟨b,r,p,z⟩
 ·refine⟨b.toList,r,⟨o,I.IE a o f,g,n,by simpa using d⟩,?_⟩;have e:=r.length;simp only[YY]at e;lia
theorem Inv.JW(I:Inv X pins J H s)(h:Hc X.K H a xs)(l:Hc X.K H a ys):xs=ys:=by
 obtain⟨j,r,⟨o,n,e,_,_,d⟩,_⟩:=I.list h;obtain⟨b,i,⟨m,p,f,_,_,g⟩,_⟩:=I.list l;rw[e]at f;cases f;rw[d]at g;injection g with d1 _
 have:j=b:=by simpa using congrArg Array.toList d1
 subst this;exact r.inj i
theorem Inv.KO(I:Inv X pins J H s)(h:HX X.K H a xs)(l:HX X.K H a ys):xs=ys:=by
 obtain⟨j,r,⟨o,e,_,n,d⟩,_⟩:=I.tuple h;obtain⟨b,i,⟨m,f,_,p,g⟩,_⟩:=I.tuple l;rw[e]at f;cases f;rw[d]at g;injection g with d1 _
 have:j=b:=by simpa using congrArg Array.toList d1
 subst this;exact r.inj i
end
noncomputable abbrev Cx.Je(X:Cx)(E:Z3):Cx:={ X with xe:=E }
noncomputable abbrev Cx.Kg(X:Cx):Cx:=X.Je λ_ _=>False
theorem Cx.Ok.Je{X:Cx}(a:X.Ok)(E:Z3):(X.Je E).Ok :=
 ⟨a.mod,a.kind,a.glob,a.blt,a.above,a.inj,a.has,a.Pf,a.hd,a.frames,a.PB,a.UX,a.bs,a.Ms,a.Lx,a.Mr,a.IL,a.NJ⟩
theorem Cx.Ok.HM{X:Cx}{E:Z3}(a:(X.Je E).Ok):X.Ok :=
 ⟨a.mod,a.kind,a.glob,a.blt,a.above,a.inj,a.has,a.Pf,a.hd,a.frames,a.PB,a.UX,a.bs,a.Ms,a.Lx,a.Mr,a.IL,a.NJ⟩
section
variable{X:Cx}{pins:Yz}{J:St}{H:Hp}{s:Shared}{E:Z3}
theorem Inv.Je(I:Inv X pins J H s)(E:Z3):Inv (X.Je E) pins J H s:=⟨I.ok.Je E,I.os,I.bare,I.base,I.loc,I.cell,I.free,I.HW,I.pin,I.xh,I.len⟩
theorem Inv.HM(I:Inv (X.Je E) pins J H s):Inv X pins J H s:=⟨I.ok.HM,I.os,I.bare,I.base,I.loc,I.cell,I.free,I.HW,I.pin,I.xh,I.len⟩
theorem SP.HM{D:Ends}{f:Flow}{d:Shared}(h:SP (X.Je E) pins D f d):SP X pins D f d:=by
 cases f with
 |next=>obtain⟨a,b,I,q⟩:=h;exact⟨a,b,I.HM,q⟩
 |brk=>obtain⟨a,b,I,q⟩:=h;exact⟨a,b,I.HM,q⟩
 |cont=>obtain⟨a,b,I,q⟩:=h;exact⟨a,b,I.HM,q⟩
 |ret u=>obtain⟨v,a,b,I,r,q⟩:=h;exact⟨v,a,b,I.HM,r,q⟩
theorem Jd.Kg{a:List Stmt}{t:TS}(h:Jd X.Kg a t):Jd X a t:=λpins s J H D I hw =>
 YA (h pins s J H D (I.Je _) hw) (λ_ _ q=>q.HM) λ_ _ z=>False.elim z
end
section
variable{X:Cx}{st:Stmt}{rest:List Stmt}{t u:TS}{e:Expr}{te:TE}{pos:Pos}
noncomputable def FU:TS:=λD J H=>D.nx J H
noncomputable def GU(t u:TS):TS:=λD J H=>t { D with nx:=u D } J H
theorem AC:Jd X [] FU:=λ_ _ J H _ I h=>WH ⟨J,H,I,h⟩
theorem zU(d:PS X st t)(b:Jd X rest u):Jd X (st :: rest) (GU t u):=by
 intro a s J H D I h;refine wpAny_execs_cons (thn (d a s J H { D with nx:=u D } I h) λf s1 q=>?_);cases f with
 |next =>
  obtain⟨g,j,i,q⟩:=q;exact b a s1 g j D i q
 |ret v=>exact q
 |brk=>exact q
 |cont=>exact q
theorem aq(b:PS X st t):Jd X [st] t:=by
 intro a s J H D I h;refine wpAny_execs_cons (thn (b a s J H D I h) λf s1 q=>?_);cases f with
 |next=>exact WH q
 |ret v=>exact q
 |brk=>exact q
 |cont=>exact q
theorem Inv.quiet{a:Yz}{J:St}{H:Hp}{s:Shared}(I:Inv X a J H s):interactive X.env=false:=by simp[interactive,I.ok.kind]
noncomputable def EL(a:TE):TS:=λD J H=>a J H λ_ b=>D.nx J b
theorem jO(he:PE X e te)(d:swapsWith e none pos.line X.env=pure false:=by rfl):PS X (.Expr e pos) (EL te):=by
 intro a s J H D I h;exact wpAny_Expr_any (thn (he a s J H _ I h) λv s1 ⟨x,g,f,r1,b⟩=>⟨J,g,f,b⟩) I.quiet d
noncomputable def GG(a:TE):TS:=λD J H=>a J H D.rt
theorem qL(he:PE X e te):PS X (.Return (some e) pos) (GG te):=by
 intro a s J H D I h;exact wpAny_Return_some (thn (he a s J H _ I h) λv s1 ⟨x,f,d,r1,b⟩=>⟨x,J,f,d,r1,b⟩)
noncomputable def GQ(c:TT)(t u:TS):TS:=λD J H=>c J H λb a=>if b=true then t D J a else u D J a
theorem FR{c:Expr}{a b:List Stmt}{g:TT}(m:PT X c g)(o:Jd X a t)(n:Jd X b u):PS X (.If c a b pos) (GQ g t u):=by
 intro f s J H D I h;refine wpAny_If (thn (m f s J H _ I h) λd s1 ⟨l,j,i⟩=>?_);cases d with
 |true=>exact o f s1 J l D j i
 |false=>exact n f s1 J l D j i
end
noncomputable abbrev TG:=V->St->Hp->(St->Hp->Prop)->Prop
noncomputable abbrev Mw:=List V->St->Hp->(St->Hp->Prop)->Prop
noncomputable def PG(X:Cx)(a:Expr)(t:TG):Prop :=
 ∀(b:Yz)(s:Shared)(J:St)(H:Hp)(v:V)(u:Value)(Q:St->Hp->Prop),Inv X b J H s->RelV v u->t v J H Q →
  wpAny (model X.prog X.w) X.A (assign a X.env u) (λ_ f=>∃d e,Inv X b d e f/\Q d e) X.xe s
noncomputable def L4(X:Cx)(g:List Expr)(t:Mw):Prop :=
 ∀(a:Yz)(s:Shared)(J:St)(H:Hp)(b:List V)(d:Wu)(Q:St->Hp->Prop),Inv X a J H s->aV b d->t b J H Q →
  wpAny (model X.prog X.w) X.A (assignInOrder ((assignEach g X.env).map (·.2)) d) (λ_ h=>∃e f,Inv X a e f h/\Q e f) X.xe s
noncomputable abbrev Bh:=V->V->V->Hp->(Hp->Prop)->Prop
noncomputable def Du(X:Cx)(t:Bh):Prop :=
 ∀(a:Yz)(s:Shared)(J:St)(H:Hp)(o i v:V)(b iv u:Value)(Q:Hp->Prop),Inv X a J H s->RelV o b->RelV i iv->RelV v u->t o i v H Q →
  wpAny (model X.prog X.w) X.A (setItem b iv u) (λ_ e=>∃d,Inv X a J d e/\Q d) X.xe s
section
variable{X:Cx}{pos:Pos}
noncomputable def Cg(i:Nat):TG:=λv J H Q=>Q (J.set i (some v)) H
theorem Bv{i:Nat}{x:Str}(f:X.N.Nodup)(d:X.N[i]?=some x)(b:Loc X.env.scope x)(e:X.fn x=true\/X.env.scope.names.lookup x=some .local:=by first | exact .inl rfl | exact .inr rfl | assumption):PG X (.Name x pos) (Cg i):=by
 intro a s J H v u Q I r h;exact wpAny_assign_Name (si I f d b r (λj g=>⟨_,H,g,h⟩) e)
noncomputable def Gz:Mw:=λa J H Q=>a=[]/\Q J H
noncomputable def Fe(t:TG)(u:Mw):Mw:=λa J H Q=>∃v r,a=v :: r/\t v J H λb d=>u r b d Q
theorem BA:L4 X [] Gz:=by
 intro a s J H b d Q I r h;obtain⟨e,h⟩:=h;subst e;cases r;exact assignInOrder_nil ⟨J,H,I,h⟩
theorem yT{e:Expr}{b:List Expr}{t:TG}{u:Mw}(j:PG X e t)(i:L4 X b u)(g:(assignEach (e :: b) X.env).map (·.2)=assign e X.env :: (assignEach b X.env).map (·.2):=by rfl):L4 X (e :: b) (Fe t u):=by
 intro a s J H o q Q I r h;obtain⟨v,p,e1,h⟩:=h;subst e1;cases r with
 |cons r d =>
  rw[g];refine assignInOrder_cons (thn (j a s J H _ _ _ I r h) λ_ s1 ⟨l,n,m,f⟩=>?_);exact i a s1 l n _ _ Q m d f
noncomputable def j8(K:Xf)(n:Nat)(t:Mw):TG:=λv J H Q=>∃a b,v=.ref a/\HX K H a b/\b.length=n/\t b J H Q
theorem Cy{f:List Expr}{k:Nat}{t:Mw}{n:Nat}(w:X.calm=true)(h:L4 X f t)(p:(assignEach f X.env).length=n:=by rfl)(y:(assignEach f X.env).findIdx? (·.1)=none:=by rfl):PG X (.Tuple f k pos) (j8 X.K n t):=by
 intro d s J H v u Q I r hw;obtain⟨a,i,e1,m,q,hw⟩:=hw;subst e1;cases r;obtain⟨A,g,l,B⟩:=I.tuple m;refine assign_Tuple_tuple (I.ok.hd w) l (by simp[p,← q,g.length]) y λx j=>?_;have z:Inv X d J H { s with heap:=x }:=I.kept (t':=s.toks) λb o e=>j b o (Zb (ZU e)) e;exact h d _ J H i _ Q z (by simpa using g) hw
noncomputable def E3(a b:TE)(t:Bh):TG:=λv J H Q=>a J H λo f=>b J f λi e=>t o i v e λd=>Q J d
theorem uq{o i:Expr}{d e:TE}{t:Bh}(n:PE X o d)(p:PE X i e)(m:Du X t)(q:∀v,assign (.Subscript o i pos) X.env v=(do
   let b ← holding [v] (eval o X.env)
   let iv ← holding [v,b] (eval i X.env)
   standAt pos
   holding [v,b,iv] (setItem b iv v)
   release [v,b,iv] []):=by intro _;rfl):PG X (.Subscript o i pos) (E3 d e t):=by
 intro a s J H v u Q I r h;rw[q];refine Zn (Xw (thn (n a s J H _ I h) λb s1 ⟨x,D,A,r1,l⟩=>?_));refine Zn (Xw (thn (p a s1 J D _ A l) λiv f ⟨y,C,z,r2,j⟩=>?_));refine Zn (wpAny_standAt (Zn (Xw (thn (m a f J C x y v b iv u _ z r1 r2 r j) λ_ E ⟨B,w,g⟩=>?_))));exact wpAny_release ⟨J,B,w,g⟩
noncomputable def Gi(a:TE)(g:TG):TS:=λD J H=>a J H λx b=>g x J b D.nx
theorem uw{b e:Expr}{d:TE}{g:TG}(he:PE X e d)(j:PG X b g)(i:swapsWithSole [b] e pos.line X.env=pure false:=by rfl)(hw:swappedStores [b] e X.env=pure none:=by rfl)(l:(assignEach [b] X.env).map (·.2)=[assign b X.env]:=by rfl):PS X (.Assign [b] e pos) (Gi d g):=by
 intro a s J H D I h;refine wpAny_Assign_stores (thn (he a s J H _ I h) λv s1 ⟨x,n,m,r1,f⟩=>?_) i hw;rw[l];exact thn (j a s1 J n x v _ m r1 f) λ_ o q=>q
theorem t6{i:Nat}{x:Str}{e:Expr}{d:TE}{a:Pos}(n:X.N.Nodup)(l:X.N[i]?=some x)(g:Loc X.env.scope x)(he:PE X e d)(j:swapsWith e (some (.Name x a)) pos.line X.env=pure false:=by rfl)(m:X.fn x=true\/X.env.scope.names.lookup x=some .local:=by first | exact .inl rfl | exact .inr rfl | assumption) :
  PS X (.Assign [.Name x a] e pos) (Gi d (Cg i)):=by
 intro b s J H D I h;refine wpAny_Assign_Name (thn (he b s J H _ I h) λv s1 ⟨y,q,p,r1,f⟩=>?_) j;exact si p n l g r1 (λr o=>⟨_,q,o,f⟩) m
end
section
variable{X:Cx}{pos:Pos}
noncomputable def CG(c:TT)(g:TS):TS:=λD J H=>∃W:Nat->St->Hp->Prop,(∃m,W m J H)/\∀m J H,W m J H →
 c J H λb e=>if b=true then ∃N:St->Hp->Prop,(∀d f,N d f->∃a,a<m/\W a d f)/\g { D with nx:=N,ct:=N,bk:=D.nx } J e else D.nx J e
theorem zT{c:Expr}{d:List Stmt}{t:TT}{u:TS}(x:PassesOwn (model X.prog X.w) X.A X.env X.xe)(P:PT X c t)(Q:Jd X d u):PS X (.While c d [] pos) (CG t u):=by
 intro a s J H D I h;obtain⟨W,⟨O,G⟩,turn⟩:=h;refine wpAny_While (codeAny_whileLoop (λn M=>∃y E,Inv X a y E M/\W n y E) ?_ O ⟨J,H,I,G⟩);rintro n s1 ⟨l,C,R,F⟩;refine Xk x (thn (P a s1 l C _ R (turn n l C F)) λb L ⟨B,z,j⟩=>?_);cases b with
 |true =>
  obtain⟨N,hN,j⟩:=j;rw[Zs rfl];refine Xk x (thn (Q a L l B _ z j) λf S i=>?_);cases f with
  |next =>
   obtain⟨e,g,r,o⟩:=i;obtain⟨p,q,m⟩:=hN e g o;exact⟨p,q,e,g,r,m⟩
  |cont =>
   obtain⟨e,g,r,o⟩:=i;obtain⟨p,q,m⟩:=hN e g o;exact⟨p,q,e,g,r,m⟩
  |brk=>exact i
  |ret v=>exact i
 |false =>
  rw[Zp Zg];exact WH ⟨l,B,z,j⟩
end
structure It where
 go:Nat->Hp->Prop
 Pt:Nat->Hp->V->Hp->Prop
 stop:Nat->Hp->Prop
noncomputable def o6(X:Cx)(a:Yz)(H:Hp)(b:Addr):Prop :=
 H b=none/\b≠X.env.locals/\b∉X.fs/\(b∈X.ex\/X.s₀.heap.objs.size<=b)/\(∀x c,X.env.cells.lookup x=some c->c≠b)/\∀p∈X.pn++a,p.1≠b
theorem Inv.LH{X:Cx}{a:Yz}{J:St}{H f:Hp}{s:Shared}{b:Addr}(I:Inv X a J H s)(d:s.heap.objs.size<=b)(h:f b=none):o6 X a f b:=by
 refine⟨h,WB (ZF I.lt d),I.Rf d,.inr (ZE I.sz d),λx c e z=>?_,λp g z=>?_⟩
 ·obtain⟨v,q⟩:=I.cell x c e;exact absurd (ZF q.lt (by rw[z];exact d)) (YO _)
 ·exact absurd (ZF (ZU (I.pin p g).1) (by rw[z];exact d)) (YO _)
structure Turn(P:Program)(w:World)(K:Xf)(tg:Expr)(Jq:It)(fp:Wy)(it:Addr)(tn:Nat->Heap->Prop):Prop where
 mem:it∈fp
 obj:∀i h,tn i h->∀b∈fp,∃o,h.get? b=some o/\∀v,o.data ≠ .cell v
 keep:∀i h h',tn i h->(∀b∈fp,∀o,h.get? b=some o->h'.get? b=some o)->tn i h'
 item:∀(X:Cx),X.prog=P->X.w=w->X.K=K->X.calm=true->∀(i:Nat)(pins:Yz)(s:Shared)(J:St)(H:Hp)(E:Z3),Inv X pins J H s->(∀b∈fp,o6 X pins H b)->tn i s.heap->Jq.go i H →
  wpAny (model P w) X.A (pyNext (.ref it)) (λr s1=>∃u,r=some u ∧
   wpAny (model P w) X.A (letOwnedTupleGo tg (.ref it) u) (λ_ s2=>∃x H',Inv X pins J H' s2/\RelV x u/\Jq.Pt i H x H'/\tn (i+1) s2.heap/\∀b∈fp,H' b=none) E s1) E s
 done:∀(X:Cx),X.prog=P->X.w=w->X.K=K->X.calm=true->∀(i:Nat)(pins:Yz)(s:Shared)(J:St)(H:Hp)(E:Z3),Inv X pins J H s->(∀b∈fp,o6 X pins H b)->tn i s.heap->Jq.stop i H →
  wpAny (model P w) X.A (pyNext (.ref it)) (λr s1=>r=none/\Inv X pins J H s1) E s
 self:∀(A:Around)(i:Nat)(s:Shared)(Q:Z3)(E:Z3),tn i s.heap->Q (.ref it) s->wpAny (model P w) A (pyIter (.ref it)) Q E s
noncomputable abbrev TI:=St->Hp->(It->Hp->Prop)->Prop
noncomputable def U7(X:Cx)(a:Yz)(J:St)(h:Expr)(Rq:It->Hp->Prop)(i:Value)(f:Shared):Prop :=
 ∃(it:Addr)(fp:Wy)(e:Nat->Heap->Prop)(g:It)(d:Hp),i=.ref it/\Inv X a J d f/\Turn X.prog X.w X.K h g fp it e/\e 0 f.heap/\(∀b∈fp,o6 X a d b)/\Rq g d
noncomputable def PI(X:Cx)(e b:Expr)(d:TI):Prop :=
 ∀(a:Yz)(s:Shared)(J:St)(H:Hp)(Rq:It->Hp->Prop),Inv X a J H s->d J H Rq →
  wpAny (model X.prog X.w) X.A (eval b X.env) (λv s1=>wpAny (model X.prog X.w) X.A (pyIter v) (U7 X a J e Rq) X.xe s1) X.xe s
theorem rg{M:Model}{A:Around}{E:Z3}{s:Shared}{d:Expr}{e:Addr}{u:Value}{o:Obj}{n:String}{b:Array Value}{Q:Unit->Shared->Prop}(f:s.heap.get? e=some o)(j:o.cls=.type n)(i:o.data=.fields b)(g:["enumerate", "zip", "dict_itemiterator", "dict_reverseitemiterator", "odict_iterator", "itertools.zip_longest", "itertools.pairwise"].contains n=false)(a:Q () s):wpAny M A (letOwnedTupleGo d (.ref e) u) Q E s:=by
 unfold letOwnedTupleGo;cases d<;>first
  |exact ZW a
  | (cases u<;>first
    |exact ZW a
    | (refine Zn (wpAny_load f ?_)
       rw[j,i];show wpAny M A (if (["enumerate", "zip", "dict_itemiterator", "dict_reverseitemiterator", "odict_iterator", "itertools.zip_longest", "itertools.pairwise"].contains n&&b[0]? == some (rawInt _))=true then _ else _) Q E s;rw[Zp (by intro h;rw[g,Bool.false_and]at h;cases h)];exact ZW a))
noncomputable def Td(K:Xf)(a:Addr):It :=
 ⟨λi H=>∃b x,Hc K H a b/\b[i]?=some x,λi H x d=>d=H/\∀b,Hc K H a b->b[i]?=some x,λi H=>∃b,Hc K H a b/\b.length<=i⟩
noncomputable def Tc(K:Xf)(a:Addr):It :=
 ⟨λi H=>∃b x,HX K H a b/\b[i]?=some x,λi H x d=>d=H/\∀b,HX K H a b->b[i]?=some x,λi H=>∃b,HX K H a b/\b.length<=i⟩
noncomputable def Po(a:Int)(n:Nat):It:=⟨λi _=>i<n,λi H x b=>b=H/\x=.int (a+i),λi _=>n<=i⟩
theorem wC{P:Program}{w:World}{K:Xf}{L:Expr}(a g:Addr):Turn P w K L (Td K a) [g] g (λi h=>h.IsListIter g a i) where
 mem:=by simp
 obj:=λi h st b hb=>by
  have e:b=g:=by simpa using hb
  subst e;obtain⟨o,e,c,d⟩:=st;exact⟨o,e,λv z=>by rw[d]at z;cases z⟩
 keep:=λi h m st k=>st.at λo e=>k g (by simp) o e
 item:=by
  intro X r hw t D i f s J H E I l st hg;subst r hw t;obtain⟨G,x,j,q⟩:=hg;obtain⟨N,n,p,O⟩:=I.list j;obtain⟨u,R,M⟩:=n.get q;obtain⟨C,f1,f2,B,A,y⟩:=l g (by simp);refine wpAny_pyNext_list_item st p.isList (x:=u) (by simpa using R) λm F sb=>?_;have U:Inv X f J H { s with heap:=m }:=I.turned (t':=s.toks) (λb o hb e=>(sb.2 b hb).trans e) C f1 B A y;obtain⟨o,e,c,d⟩:=id F;exact⟨u,rfl,rg (s:={ s with heap:=m }) e c d (by decide) ⟨x,H,U,M,⟨rfl,λY Q=>by rw[I.JW Q j];exact q⟩,F,λb hb=>(l b hb).1⟩⟩
 done:=by
  intro X r hw t D i f s J H E I l st hg;subst r hw t;obtain⟨G,j,q⟩:=hg;obtain⟨N,n,p,O⟩:=I.list j;obtain⟨C,f1,f2,B,A,y⟩:=l g (by simp);have Z:=n.length;exact wpAny_pyNext_list_end (I.ok.hd D) st p.isList (by simp;lia) λm S=>⟨rfl,I.turned (t':=s.toks) (λb o hb e=>S b o hb e) C f1 B A y⟩
 self:=λ_ _ _ _ _ st h=>wpAny_pyIter_listiter st h
theorem t5{P:Program}{w:World}{K:Xf}{M:Expr}(a g:Addr):Turn P w K M (Tc K a) [g] g (λi h=>h.IsTupleIter g a i) where
 mem:=by simp
 obj:=λi h st b hb=>by
  have e:b=g:=by simpa using hb
  subst e;obtain⟨o,e,c,d⟩:=st;exact⟨o,e,λv z=>by rw[d]at z;cases z⟩
 keep:=λi h m st k=>st.at λo e=>k g (by simp) o e
 item:=by
  intro X t hw y F i f s J H E I l st hg;subst t hw y;obtain⟨L,x,j,r⟩:=hg;obtain⟨q,n,p,O⟩:=I.tuple j;obtain⟨u,R,N⟩:=n.get r;obtain⟨D,f1,f2,C,B,A⟩:=l g (by simp);refine wpAny_pyNext_tuple_item st (show s.heap.IsTuple a q.toArray from p) (x:=u) (by simpa using R) λm G sb=>?_;have U:Inv X f J H { s with heap:=m }:=I.turned (t':=s.toks) (λb o hb e=>(sb.2 b hb).trans e) D f1 C B A;obtain⟨o,e,c,d⟩:=id G;exact⟨u,rfl,rg (s:={ s with heap:=m }) e c d (by decide) ⟨x,H,U,N,⟨rfl,λY Q=>by rw[I.KO Q j];exact r⟩,G,λb hb=>(l b hb).1⟩⟩
 done:=by
  intro X t hw y F i f s J H E I l st hg;subst t hw y;obtain⟨L,j,r⟩:=hg;obtain⟨q,n,p,O⟩:=I.tuple j;obtain⟨D,f1,f2,C,B,A⟩:=l g (by simp);have Z:=n.length;exact wpAny_pyNext_tuple_end (I.ok.hd F) st (show s.heap.IsTuple a q.toArray from p) (by simp;lia) λm S=>⟨rfl,I.turned (t':=s.toks) (λb o hb e=>S b o hb e) D f1 C B A⟩
 self:=λ_ _ _ _ _ st h=>wpAny_pyIter_tupleiter st h
theorem t7{P:Program}{w:World}{K:Xf}{C:Expr}(d:Addr)(f:Int)(n:Nat):Turn P w K C (Po f n) [d] d (λi h=>IsRangeIter h d (f+(i:Nat)*1) ((n:Int)-(i:Nat)) 1) where
 mem:=by simp
 obj:=λi h st b hb=>by
  have e:b=d:=by simpa using hb
  subst e;exact⟨_,st,λv z=>by
   have B:Data.fields _=Data.cell v:=z;cases B⟩
 keep:=λi h j st k=>k d (by simp) _ st
 item:=by
  intro X m hw p l i a s J H E I g st hg;subst m hw p;obtain⟨x,f1,f2,u,r,q⟩:=g d (by simp);have W:=Walks.range (prog:=X.prog) (w:=X.w) (I.ok.hd l) d f 1 n;refine W.item i s _ _ hg st λv j y F A D=>?_;obtain⟨t,rfl⟩:=F;have L:Inv X a J H { s with heap:=j,toks:=y }:=I.turned (λb o hb e=>D b o (by simpa using hb) e) x f1 u r q;refine⟨_,rfl,rg (s:={ s with heap:=j,toks:=y }) (n := "range_iterator") A rfl rfl (by decide) ⟨.int (f+i),H,L,⟨t,?_⟩,⟨rfl,rfl⟩,A,λb hb=>(g b hb).1⟩⟩;rw[Int.mul_one]
 done:=by
  intro X m hw p l i a s J H E I g st hg;subst m hw p;obtain⟨x,f1,f2,u,r,q⟩:=g d (by simp);exact wpAny_pyNext_range_end (I.ok.hd l) st (by have:n<=i:=hg;lia) λj G=>⟨rfl,I.turned (t':=s.toks) (λb o hb e=>G b o hb e) x f1 u r q⟩
 self:=λ_ _ _ _ _ st h=>wpAny_pyIter_rangeiter st h
section
variable{X:Cx}{tg:Expr}
theorem sR{f:Yz}{J:St}{H:Hp}{s:Shared}{Rq:It->Hp->Prop}{E:Z3}{a d:Int}{t u v:Tok}{g:Nat}(I:Inv X f J H s)(m:-(2 ^ 62)<=a)(l:a<2 ^ 62)(j:-(2 ^ 62)<=d)(i:d<2 ^ 62)(q:Rq (Po a (d-a).toNat) H):wpAny (model X.prog X.w) X.A (pyIter (.ref s.heap.objs.size)) (U7 X f J tg Rq) E { s with heap:=s.heap.push { cls:=.type "range",data:=.fields #[.int a t,.int d u,.int 1 v] },toks:=g }:=by
 refine wpAny_pyIter_range (IsRange.new ..) (small_one m l j i) ?_;have h:Inv X f J H { s with heap:=s.heap.push { cls:=.type "range",data:=.fields #[.int a t,.int d u,.int 1 v] },toks:=g }:=I.kept λb o e=>Zf _ e;refine⟨(s.heap.push { cls:=.type "range",data:=.fields #[.int a t,.int d u,.int 1 v] }).objs.size,[(s.heap.push { cls:=.type "range",data:=.fields #[.int a t,.int d u,.int 1 v] }).objs.size],_,_,H,rfl,
  h.kept (t':=g) λb o e=>Zf _ e,t7 _ a (d-a).toNat,?_,λb hb=>?_,q⟩
 ·have e1:a+((0:Nat):Int)*1=a:=by simp
  have e2:(((d-a).toNat:Nat):Int)-((0:Nat):Int)=Builtin.Range.rangeSize a d 1:=by rw[rangeSize_one];split<;>lia
  show IsRangeIter _ _ (a+((0:Nat):Int)*1) ((((d-a).toNat:Nat):Int)-((0:Nat):Int)) 1;rw[e1,e2];exact ZL _ rfl
 ·have e:b=(s.heap.push { cls:=.type "range",data:=.fields #[.int a t,.int d u,.int 1 v] }).objs.size:=by simpa using hb
  subst e;exact h.LH (Zo _) (h.xh.fresh (Zo _))
noncomputable def Ft(ta:TA):TI:=λJ H Rq=>ta J H λa b=>∃j:Int,a=[.int j]/\-(2 ^ 62)<=j/\j<2 ^ 62/\Rq (Po 0 j.toNat) b
noncomputable def E9(ta:TA):TI:=λJ H Rq=>ta J H λa b=>∃i j:Int,a=[.int i,.int j]/\(-(2 ^ 62)<=i/\i<2 ^ 62/\-(2 ^ 62)<=j/\j<2 ^ 62)/\Rq (Po i (j-i).toNat) b
theorem vW{a:Expr}{g:TA}{p b:Pos}(o:Gl X "range")(n:X.mg "range" = none)(u:PA X [a] g)(m:starEach [a] X.env=[(false,eval a X.env)]:=by rfl):PI X tg (.Call (.Name "range" p) [a] [] b) (Ft g):=by
 intro d s J H Rq I h;refine Call_ (l7 I o n boot_range (Xn (thn (u b d s J H _ I h) λx s1 ⟨w,y,v,r1,f⟩=>?_) m rfl));obtain⟨j,e,f,l,q⟩:=f;subst e;cases r1 with
 |cons r i =>
  cases i;obtain⟨t,rfl⟩:=r;exact call_range_1 (sR v (by lia) (by lia) f l (by simpa using q))
theorem wm{a b:Expr}{m:TA}{p d:Pos}(z:Gl X "range")(y:X.mg "range" = none)(A:PA X [a,b] m)(x:starEach [a,b] X.env=[(false,eval a X.env),(false,eval b X.env)]:=by rfl)(n:starEach [b] X.env=[(false,eval b X.env)]:=by rfl) :
  PI X tg (.Call (.Name "range" p) [a,b] [] d) (E9 m):=by
 intro f s J H Rq I h;refine Call_ (l7 I z y boot_range (Xn (thn (A d f s J H _ I h) λD s1 ⟨C,F,B,r1,l⟩=>?_) (by rw[x,n]) (by rw[n];rfl)));obtain⟨i,j,e,⟨l,w,v,u⟩,q⟩:=l;subst e;cases r1 with
 |cons r g =>
  cases g with
  |cons o g =>
   cases g;obtain⟨t,rfl⟩:=r;obtain⟨E,rfl⟩:=o;exact call_range_2 (sR B l w v u q)
noncomputable def FY(f:TI)(g:TG)(h:TS):TS:=λD J H=>f J H λb n=>∃W:Nat->Nat->St->Hp->Prop,(∃m,W 0 m J n)/\∀i m J H,W i m J H →
 (b.stop i H/\D.nx J H)\/(b.go i H/\∃N:St->Hp->Prop,(∀e a,N e a->∃d,d<m/\W (i+1) d e a)/\∀x a,b.Pt i H x a->g x J a λj l=>h { D with nx:=N,ct:=N,bk:=D.nx } j l)
noncomputable def og(a:Wy)(h:Heap):Yz:=a.filterMap λb=>(h.get? b).map λo=>(b,o)
theorem iY{a:Wy}{h:Heap}{b:Addr}{o:Obj}(d:b∈a)(e:h.get? b=some o):(b,o)∈og a h:=List.mem_filterMap.mpr ⟨b,d,by rw[e];rfl⟩
theorem vO{a:Wy}{h:Heap}{p:Addr×Obj}(d:p∈og a h):p.1∈a/\h.get? p.1=some p.2:=by
 obtain⟨b,hb,e⟩:=List.mem_filterMap.mp d;cases q:h.get? b with
 |none=>rw[q]at e;cases e
 |some o =>
  rw[q]at e;have f:(b,o)=p:=Zl e;subst f;exact⟨hb,q⟩
theorem Inv.pinned{a:Yz}{J:St}{H:Hp}{s:Shared}{f:Wy}(I:Inv X a J H s)(j:∀b∈f,o6 X a H b)(i:∀b∈f,∃o,s.heap.get? b=some o/\∀v,o.data ≠ .cell v):Inv X (a++og f s.heap) J H s :=
 I.Kz λp h=>(Ze.mp h).elim (λz=>I.pin p (ZP _ z)) λz=>by
  obtain⟨hb,e⟩:=vO z;obtain⟨l,f1,f2,_⟩:=j p.1 hb;obtain⟨o,g,d⟩:=i p.1 hb;rw[e]at g;cases g;exact⟨e,l,f1,f2,d⟩
theorem Inv.Ih{a b:Yz}{J:St}{H:Hp}{s:Shared}(I:Inv X (a++b) J H s):Inv X a J H s:=I.Kz λp d=>I.pin p (ZP _ (Yf _ d))
theorem Dp{j:Expr}{B:List Stmt}{S:TI}{g:TG}{Y:TS}{O:Pos}(E:PassesOwn (model X.prog X.w) X.A X.env X.xe)(hc:X.calm=true)(hi:PI X tg j S)(hg:PG X tg g)(l:Jd X B Y)(hs:∀x,foldedSetIterable j X.env x=pure x:=by intro _;rfl):PS X (.For tg j B [] O) (FY S g Y):=by
 intro a s J H D I h;refine wpAny_For (thn (hi a s J H _ I h) λv s1 h1=>thn h1 λRv s2 h2=>?_) hs;obtain⟨it,fp,U,Jq,H2,e,I2,T,HH,f2,W,⟨m0,w0⟩,turn⟩:=h2;subst e;have R:∀{y:Hp},(∀b∈fp,y b=none)->∀b∈fp,o6 X a y b:=λhn b l=>⟨hn b l,(f2 b l).2⟩
 refine codeAny_forLoop_any (λn s'=>∃i G y,Inv X a G y s'/\U i s'.heap/\(∀b∈fp,y b=none)/\W i n G y) ?_ m0 ⟨0,J,H2,I2,HH,λb l=>(f2 b l).1,w0⟩;rintro n s3 ⟨i,F,L,I3,Jz,O5,w3⟩;rcases turn i n F L w3 with⟨stop,qn⟩ | ⟨go,N,hN,step⟩
 ·refine Xk E (thn (T.done X rfl rfl rfl hc i a s3 F L X.xe I3 (R O5) Jz stop) λr s4 ⟨P,I4⟩=>?_);subst P;exact WH ⟨F,L,I4,qn⟩
 ·refine Xk E (thn (T.item X rfl rfl rfl hc i a s3 F L X.xe I3 (R O5) Jz go) λr s4 ⟨u,P,h4⟩=>?_);subst P;refine Xk E (thn h4 λ_ Z ⟨x,H5,I5,r5,y5,Q,Sj⟩=>?_);have Th:=I5.pinned (R Sj) (T.obj _ _ Q);refine Xk E (thn (hg _ Z F H5 x u _ Th r5 (step x H5 y5)) λ_ s6 ⟨J6,H6,I6,q6⟩=>?_);refine Xk E (thn (l _ s6 J6 H6 _ I6 q6) λf M z=>?_);have again:∀{p:St}{t:Hp},Inv X (a++og fp Z.heap) p t M->N p t->∃m,m<n/\∃i G y,Inv X a G y M/\U i M.heap/\(∀b∈fp,y b=none)/\W i m G y:=λ{p t} q C=>by
   obtain⟨m',hm,w7⟩:=hN p t C;refine⟨m',hm,i+1,p,t,q.Ih,T.keep _ _ _ Q λb l o e=>(q.pin (b,o) (ZP _ (ZP _ (iY l e)))).1,λb l=>?_,w7⟩;obtain⟨o,e,d⟩:=T.obj _ _ Q b l;exact(q.pin (b,o) (ZP _ (ZP _ (iY l e)))).2.1
  cases f with
  |next=>obtain⟨p,t,q,C⟩:=z;exact again q C
  |cont=>obtain⟨p,t,q,C⟩:=z;exact again q C
  |brk=>obtain⟨p,t,q,z⟩:=z;exact⟨p,t,q.Ih,z⟩
  |ret v=>obtain⟨x7,p,t,q,r7,z⟩:=z;exact⟨x7,p,t,q.Ih,r7,z⟩
end
noncomputable abbrev HR:=V->V->Hp->VK->Prop
noncomputable def OpR(X:Cx)(f:Value->Value->Sem Value)(r:HR):Prop :=
 ∀(a:Yz)(s:Shared)(J:St)(H:Hp)(x y:V)(v u:Value)(Q:VK),Inv X a J H s->RelV x v->RelV y u->r x y H Q →
  wpAny (model X.prog X.w) X.A (f v u) (EP X a J Q) X.xe s
noncomputable def UnR(X:Cx)(f:Value->Sem Value)(r:V->Hp->VK->Prop):Prop :=
 ∀(a:Yz)(s:Shared)(J:St)(H:Hp)(x:V)(v:Value)(Q:VK),Inv X a J H s->RelV x v->r x H Q →
  wpAny (model X.prog X.w) X.A (f v) (EP X a J Q) X.xe s
noncomputable def dN(X:Cx)(f:Value)(r:List V->Hp->VK->Prop):Prop :=
 ∀(a:Yz)(s:Shared)(J:St)(H:Hp)(b:List V)(d:Wu)(Q:VK),Inv X a J H s->aV b d->r b H Q →
  wpAny (model X.prog X.w) X.A (call f d) (EP X a J Q) X.xe s
noncomputable def GB(X:Cx)(r:V->Hp->(Bool->Hp->Prop)->Prop):Prop :=
 ∀(a:Yz)(s:Shared)(J:St)(H:Hp)(x:V)(v:Value)(Q:Bool->Hp->Prop),Inv X a J H s->RelV x v->r x H Q →
  wpAny (model X.prog X.w) X.A (truthy v) (TP X a J Q) X.xe s
noncomputable def Oy(r:HR)(ta a:TE):TE:=λJ H Q=>ta J H λx d=>a J d λy b=>r x y b Q
noncomputable def Vn(r:V->Hp->VK->Prop)(ta:TE):TE:=λJ H Q=>ta J H λx a=>r x a Q
noncomputable def rI(C:Int->Int->Prop)(g:Int->Int->V):HR:=λx y H Q=>∃i j,x=.int i/\y=.int j/\C i j/\Q (g i j) H
noncomputable def Kx(g:Int->Int->V):HR:=λx y H Q=>∃i j,x=.int i/\y=.int j/\Q (g i j) H
noncomputable def rU(g:Int->V):V->Hp->VK->Prop:=λx H Q=>∃i,x=.int i/\Q (g i) H
section
variable{X:Cx}{a b c:Expr}{ta tb tc:TE}{pos:Pos}
theorem Dh(q:PE X a ta)(p:PE X b tb){d:Yz}{s:Shared}{J:St}{H:Hp}{Rq:V->V->Hp->Prop}(I:Inv X d J H s)(h:ta J H λx i=>tb J i λy e=>Rq x y e){Q:Z3}{f:Value->Value->Sem Value}(o:∀v u g x y e,Inv X d J e g->RelV x v->RelV y u->Rq x y e->wpAny (model X.prog X.w) X.A (f v u) Q X.xe g) :
  wpAny (model X.prog X.w) X.A (eval a X.env) (λv l=>wpAny (model X.prog X.w) X.A (eval b X.env) (λu j=>wpAny (model X.prog X.w) X.A (f v u) Q X.xe j) X.xe l) X.xe s:=by
 refine thn (q d s J H _ I h) λv s1 ⟨x,i,t,r1,n⟩=>?_;refine thn (p d s1 J i _ t n) λu g ⟨y,e,r,r2,m⟩=>?_;exact o v u g x y e r r1 r2 m
theorem FE{e:Operator}{r:HR}(j:OpR X (binaryOp e) r)(m:PE X a ta)(l:PE X b tb):PE X (.BinOp a e b pos) (Oy r ta tb):=by
 intro d s J H Q I h;exact wpAny_BinOp (Dh m l I h λv u f x y o n i g q=>j d f J o x y v u Q n i g q)
theorem FF{e:UnaryOp}{r:V->Hp->VK->Prop}(g:UnR X (unaryOp e) r)(i:PE X a ta):PE X (.UnaryOp e a pos) (Vn r ta):=by
 intro d s J H Q I h;exact UnaryOp_ (thn (i d s J H _ I h) λv s1 ⟨x,l,j,r1,f⟩=>g d s1 J l x v Q j r1 f)
theorem QT{f:Value->Value->Sem Value}{C:Int->Int->Prop}{g:Int->Int->Int}(d:∀(i j:Int)(t u:Tok)(s:Shared)(Q:Z3)(E:Z3),C i j->Q (.int (g i j) s.toks) { s with toks:=s.toks+1 }->wpAny (model X.prog X.w) X.A (f (.int i t) (.int j u)) Q E s) :
  OpR X f (rI C λi j=>.int (g i j)):=by
 intro e s J H x y v u Q I n m h;obtain⟨i,j,rfl,rfl,o,q⟩:=h;obtain⟨t,rfl⟩:=n;obtain⟨l,rfl⟩:=m;exact d i j t l s _ _ o ⟨.int (g i j),H,I.tok _,⟨_,rfl⟩,q⟩
theorem Fq{f:Value->Value->Sem Value}{g:Int->Int->Int}(d:∀(i j:Int)(t u:Tok)(s:Shared)(Q:Z3)(E:Z3),Q (.int (g i j) s.toks) { s with toks:=s.toks+1 }->wpAny (model X.prog X.w) X.A (f (.int i t) (.int j u)) Q E s) :
  OpR X f (Kx λi j=>.int (g i j)):=by
 intro e s J H x y v u Q I n m h;obtain⟨i,j,rfl,rfl,q⟩:=h;obtain⟨t,rfl⟩:=n;obtain⟨l,rfl⟩:=m;exact d i j t l s _ _ ⟨.int (g i j),H,I.tok _,⟨_,rfl⟩,q⟩
theorem BQ{f:Value->Value->Sem Value}{g:Int->Int->Bool}(d:∀(i j:Int)(t u:Tok)(s:Shared)(Q:Z3)(E:Z3),Q (.bool (g i j)) s->wpAny (model X.prog X.w) X.A (f (.int i t) (.int j u)) Q E s) :
  OpR X f (Kx λi j=>.bl (g i j)):=by
 intro e s J H x y v u Q I n m h;obtain⟨i,j,rfl,rfl,q⟩:=h;obtain⟨t,rfl⟩:=n;obtain⟨l,rfl⟩:=m;exact d i j t l s _ _ ⟨.bl (g i j),H,I,rfl,q⟩
noncomputable def FQ(i j:Int):Prop:=0<j/\j<1073741824
noncomputable def AA(i j:Int):Prop:=(-(2 ^ 64)<i/\i<2 ^ 64)\/(-(2 ^ 64)<j/\j<2 ^ 64)
theorem AA.ok{i j:Int}(h:AA i j):IntMulOk i j:=by
 rcases h with⟨e,d⟩ | ⟨e,d⟩
 ·exact .of_left (intBits_le_64 e d)
 ·exact .of_right (intBits_le_64 e d)
theorem DW:OpR X (binaryOp .Add) (Kx λi j=>.int (i+j)):=Fq λ_ _ _ _ _ _ _ q=>add_int q
theorem Ct:OpR X (binaryOp .Sub) (Kx λi j=>.int (i-j)):=Fq λ_ _ _ _ _ _ _ q=>sub_int q
theorem DQ:OpR X (binaryOp .Mult) (rI AA λi j=>.int (i*j)):=QT λ_ _ _ _ _ _ _ d q=>mul_int q d.ok
theorem Bs:OpR X (binaryOp .FloorDiv) (rI FQ λi j=>.int (i/j)):=QT λi j _ _ _ _ _ d q=>by
 have f:(0:Int)<j:=d.1;have e:j<1073741824:=d.2;exact floordiv_int (by lia) (by rw[Int.fdiv_eq_ediv_of_nonneg i (by lia)];exact q) (.inl (PyProof.noPylong_small (by omega)))
theorem DG:OpR X (binaryOp .Mod) (rI (λ_ j=>0<j) λi j=>.int (i%j)):=QT λi j _ _ _ _ _ d q=>by
 have e:(0:Int)<j:=d;exact mod_int' (by lia) (by rw[Int.fmod_eq_emod_of_nonneg i (by lia)];exact q)
theorem Vl{f:Value->Sem Value}{g:Int->Int}(d:∀(i:Int)(t:Tok)(s:Shared)(Q:Z3)(E:Z3),Q (.int (g i) s.toks) { s with toks:=s.toks+1 }->wpAny (model X.prog X.w) X.A (f (.int i t)) Q E s) :
  UnR X f (rU λi=>.int (g i)):=by
 intro e s J H x v Q I j h;obtain⟨i,rfl,q⟩:=h;obtain⟨t,rfl⟩:=j;exact d i t s _ _ ⟨.int (g i),H,I.tok _,⟨_,rfl⟩,q⟩
theorem Dj:UnR X (unaryOp .USub) (rU λi=>.int (-i)):=Vl λ_ _ _ _ _ q=>neg_int q
end
section
variable{X:Cx}{a b c:Expr}{ta tb tc:TE}{pos:Pos}
theorem DV{d:Yz}{J:St}{H:Hp}{s:Shared}{Q:VK}{k f:Bool}(I:Inv X d J H s)(q:Q (.bl k) H)(e:k=f):EP X d J Q (.bool f) s:=by
 subst e;exact⟨.bl k,H,I,rfl,q⟩
theorem EN:OpR X (compareOp .Lt) (Kx λi j=>.bl (decide (i<j))):=BQ λ_ _ _ _ _ _ _ q=>lt_int q
theorem ET:OpR X (compareOp .LtE) (Kx λi j=>.bl (decide (i<=j))):=BQ λ_ _ _ _ _ _ _ q=>le_int q
theorem FL:OpR X (compareOp .Gt) (Kx λi j=>.bl (decide (j<i))):=BQ λ_ _ _ _ _ _ _ q=>gt_int q
theorem EA:OpR X (compareOp .GtE) (Kx λi j=>.bl (decide (j<=i))):=BQ λ_ _ _ _ _ _ _ q=>ge_int q
theorem wX:OpR X (compareOp .Lt) (λx y H Q=>∃i j,x=.str i/\y=.str j/\Q (.bl (decide (i.cps.toList<j.cps.toList))) H):=by
 intro d s J H x y v u Q I f e h;obtain⟨i,j,rfl,rfl,q⟩:=h;obtain⟨t,rfl⟩:=f;obtain⟨g,rfl⟩:=e;exact lt_str (DV I q rfl)
theorem OpR.or{f:Value->Value->Sem Value}{r i:HR}(h:OpR X f r)(j:OpR X f i):OpR X f (λx y H Q=>r x y H Q\/i x y H Q):=by
 intro d s J H x y v u Q I g e q;rcases q with q | q
 ·exact h d s J H x y v u Q I g e q
 ·exact j d s J H x y v u Q I g e q
theorem ka(b:Expr){d:CmpOp}(h:d ≠ .In:=by decide)(e:d ≠ .NotIn:=by decide):behindInMarks d b=false:=by
 have e1:(d==CmpOp.In)=false:=by cases d<;>first | rfl | exact absurd rfl h
 have e2:(d==CmpOp.NotIn)=false:=by cases d<;>first | rfl | exact absurd rfl e
 cases b<;>simp[behindInMarks,e1,e2]
theorem AK{e:CmpOp}{r:HR}(j:OpR X (compareOp e) r)(n:PE X a ta)(m:PE X b tb)(l:behindInMarks e b=false):PE X (.Compare a [e] [b] pos) (Oy r ta tb):=by
 intro d s J H Q I h;exact wpAny_Compare1 (Dh n m I h λv u f x y p o i g q=>j d f J p x y v u Q o i g q) l
noncomputable def xn(t:TE):TT:=λJ H Q=>t J H λx d=>∃k,x=.bl k/\Q k d
theorem AJ{f:CmpOp}{r:HR}(n:OpR X (compareOp f) r)(q:PE X a ta)(p:PE X b tb)(o:behindInMarks f b=false):PT X (.Compare a [f] [b] pos) (xn (Oy r ta tb)):=by
 intro d s J H Q I h;refine wpAny_isTrue_Compare1 (thn (q d s J H _ I h) λv s1 ⟨x,D,A,r1,m⟩=>thn (p d s1 J D _ A m) λu g ⟨y,C,w,r2,l⟩ =>
  thn (n d g J C x y v u _ w r1 r2 l) λc E ⟨z,B,t,i,k,e,j⟩=>?_) o
 subst e;cases i;exact Y7 ⟨B,t,j⟩
noncomputable def xN(r h:HR)(ta g f:TE):TE:=λJ H Q=>ta J H λx l=>g J l λy j=>r x y j λz d=>∃k,z=.bl k ∧
 (if k=true then f J d λe i=>h y e i Q else Q (.bl false) d)
theorem zO{g i:CmpOp}{r j:HR}(M:OpR X (compareOp g) r)(U:OpR X (compareOp i) j)(R:PE X a ta)(P:PE X b tb)(O:PE X c tc)(N:lastMarks [g,i] [b,c]=false:=by with_unfolding_all rfl):PT X (.Compare a [g,i] [b,c] pos) (xn (xN r j ta tb tc)):=by
 intro f s J H Q I h;refine isTrue_chain (thn (R f s J H _ I h) λv s1 ⟨x,H1,I1,r1,G⟩=>test_link (thn (P f s1 J H1 _ I1 G) λu w ⟨y,H2,I2,r2,F⟩ =>
  thn (M f w J H2 x y v u _ I2 r1 r2 F) λd t ⟨z,n,m,C,k,e,l⟩=>?_)) N
 subst e;cases C;refine Y7 ?_;cases k with
 |false =>
  obtain⟨k',S,L⟩:=l;cases S;exact ite_ff ⟨n,m,L⟩
 |true =>
  refine ite_tt (test_last (thn (O f t J n _ m l) λp q ⟨o,H4,Z,B,E⟩=>thn (U f q J H4 y o u p _ Z r2 B E) λd' s5 ⟨z2,H5,Y,A,k2,e2,D⟩=>?_));subst e2;cases A;exact Y7 ⟨H5,Y,D⟩
noncomputable def Cu(K:Xf)(x:V)(H:Hp)(k:Bool):Prop :=
 match x with
 |.non=>k=false
 |.bl b=>k=b
 |.int i=>k=(i != 0)
 |.str y=>y.length<=sizeLine/\k=((y.length:Int) != 0)
 |.byt y=>y.size<=sizeLine/\k=((y.size:Int) != 0)
 |.ref p=>(∃d,Hc K H p d/\k=!d.isEmpty)\/(∃d,HX K H p d/\k=!d.isEmpty)\/∃e,H p=some (.dK e)/\k=!e.isEmpty
 |_=>False
theorem tW{κ:Type}{e:List (κ×V)}{d:List (κ×Value)}(r:KV e d):(!d.isEmpty)=!e.isEmpty:=by
 cases r<;>rfl
theorem nN{d:List V}{e:Wu}(r:aV d e):(!e.toArray.isEmpty)=!d.isEmpty:=by
 cases r<;>simp
theorem l6:(sizeLine:Nat)<2 ^ 63:=by rw[XF];decide
theorem C3:GB X (λx H Q=>∃k,Cu X.K x H k/\Q k H):=by
 intro u s J H x v Q I g h;obtain⟨k,e,q⟩:=h;have E:=l6;have D:sizeLine=16777216:=XF;cases x with
 |non =>
  cases g;have d:k=false:=e;subst d;exact truthy_none ⟨H,I,q⟩
 |bl b =>
  cases g;have d:k=b:=e;subst d;exact Y7 ⟨H,I,q⟩
 |int i =>
  obtain⟨t,rfl⟩:=g;have d:k=(i != 0):=e;subst d;exact PySem.P.truthy_int ⟨H,I,q⟩
 |str y =>
  obtain⟨t,rfl⟩:=g;obtain⟨B,d⟩:y.length<=sizeLine/\k=((y.length:Int) != 0):=e;subst d;exact PySem.P.truthy_str (by lia) ⟨H,I.tok _,q⟩
 |byt y =>
  obtain⟨t,rfl⟩:=g;obtain⟨B,d⟩:y.size<=sizeLine/\k=((y.size:Int) != 0):=e;subst d;exact PySem.W.truthy_bytes (by lia) ⟨H,I.tok _,q⟩
 |ref p =>
  cases g;have d:(∃f,Hc X.K H p f/\k=!f.isEmpty)\/(∃f,HX X.K H p f/\k=!f.isEmpty)\/∃j,H p=some (.dK j)/\k=!j.isEmpty:=e;rcases d with⟨f,l,d⟩ | ⟨f,l,d⟩ | ⟨j,l,d⟩
  ·subst d;obtain⟨A,r,o,z⟩:=I.list l;have hlen:=r.length;exact wpAny_truthy_list o.isList (by simp only[ZJ];lia) ⟨H,I.tok _,by rw[nN r];exact q⟩
  ·subst d;obtain⟨A,r,o,z⟩:=I.tuple l;have hlen:=r.length;exact truthy_tuple o (by simp only[ZJ];lia) ⟨H,I.tok _,by rw[nN r];exact q⟩
  ·subst d;obtain⟨z,C,n,r,m⟩:j.length<=sizeLine/\(p==sysModules)=false/\∃n,KV j n/\s.heap.DictOf (aU X.prog X.w) p n:=I.xh p _ l;have hlen:j.length=n.length:=XR r;exact wpAny_truthy_dict C m (by lia) ⟨H,I.tok _,by rw[tW r];exact q⟩
 |_=>exact(show False from e).elim
theorem yP(g:PE X a ta)(he:∀whole,isTrue a X.env whole=(do let v ← whole;standAt a.pos;holding [v] (truthy v))) :
  PT X a (λJ H Q=>ta J H λx e=>∃k,Cu X.K x e k/\Q k e):=by
 intro d s J H Q I h;exact isTrue_plain (thn (g d s J H _ I h) λv s1 ⟨x,j,i,r1,f⟩=>C3 d s1 J j x v Q i r1 f) (he _)
theorem t9:OpR X (binaryOp .Add) (λx y H Q=>∃i j,x=.str i/\y=.str j/\i.length+j.length<=sizeLine/\Q (.str (i++j)) H):=by
 intro d s J H x y v u Q I g f h;obtain⟨i,j,rfl,rfl,l,q⟩:=h;obtain⟨t,rfl⟩:=g;obtain⟨e,rfl⟩:=f;exact add_str (λe m=>⟨.str (i++j),H,I.tok _,⟨_,rfl⟩,q⟩) l
theorem vals1{x:V}{d:Wu}(r:aV [x] d):∃u,d=[u]/\RelV x u:=by
 cases r with
 |cons r1 r2=>cases r2;exact⟨_,rfl,r1⟩
theorem vals2{x y:V}{e:Wu}(r:aV [x,y] e):∃u d,e=[u,d]/\RelV x u/\RelV y d:=by
 cases r with
 |cons r1 r2 =>
  cases r2 with
  |cons g f=>cases f;exact⟨_,_,rfl,r1,g⟩
theorem vK(g:X.calm=true):dN X (.builtin "min") (λe H Q=>∃i j,e=[.int i,.int j]/\Q (.int (if j<i then j else i)) H):=by
 intro f s J H e m Q I r h;obtain⟨i,j,rfl,q⟩:=h;obtain⟨u,l,rfl,⟨t,rfl⟩,⟨o,rfl⟩⟩:=vals2 r;refine min_two_ints (I.ok.hd g) λp n k=>⟨_,H,I.kept k,?_,q⟩
 by_cases d:j<i
 ·rw[Zs d,Zs d];exact⟨_,rfl⟩
 ·rw[Zp d,Zp d];exact⟨_,rfl⟩
noncomputable def FX(K:Xf)(x:V)(H:Hp)(n:Nat):Prop :=
 match x with
 |.str y=>y.length<=sizeLine/\n=y.length
 |.byt y=>y.size<=sizeLine/\n=y.size
 |.ref p=>(∃d,Hc K H p d/\n=d.length)\/∃d,HX K H p d/\n=d.length
 |_=>False
theorem zL:dN X (.builtin "len") (λd H Q=>∃x n,d=[x]/\FX X.K x H n/\Q (.int n) H):=by
 intro m s J H d z Q I r h;obtain⟨x,n,rfl,e,q⟩:=h;obtain⟨u,rfl,g⟩:=vals1 r;have B:=l6;have A:sizeLine=16777216:=XF;cases x with
 |str y =>
  obtain⟨t,rfl⟩:=g;obtain⟨w,f⟩:y.length<=sizeLine/\n=y.length:=e;subst f;exact len_str (by lia) ⟨.int _,H,I.tok _,⟨_,rfl⟩,q⟩
 |byt y =>
  obtain⟨t,rfl⟩:=g;obtain⟨w,f⟩:y.size<=sizeLine/\n=y.size:=e;subst f;exact PySem.W.len_bytes (by lia) ⟨.int _,H,I.tok _,⟨_,rfl⟩,q⟩
 |ref p =>
  cases g;have f:(∃d,Hc X.K H p d/\n=d.length)\/∃d,HX X.K H p d/\n=d.length:=e;rcases f with⟨d,l,f⟩ | ⟨d,l,f⟩
  ·subst f;obtain⟨o,i,j,v⟩:=I.list l;have hlen:=i.length;exact Calls.call_len_list j.isList (by simp only[ZJ];lia) ⟨.int d.length,H,I.tok _,⟨_,by simp only[ZJ];rw[hlen]⟩,q⟩
  ·subst f;obtain⟨o,i,j,v⟩:=I.tuple l;have hlen:=i.length;exact len_tuple j (by simp only[ZJ];lia) ⟨.int d.length,H,I.tok _,⟨_,by simp only[ZJ];rw[hlen]⟩,q⟩
 |_=>exact(show False from e).elim
end
structure Ks(h:Heap)(x dx C:Addr)(mA:X9):Prop where
 obj:h.get? x=some (PySem.W.instObj C dx)
 ns:h.Ns1 dx mA
 ne:dx≠x
theorem vN{h:Heap}{g:Addr}{d:X9}(n:h.Ns1 g d):∃b,h.get? g=some b/\∀name,PySem.W.lookIn name b=some (d name):=by
 obtain⟨o,f,s,j,hd,m,_,l⟩:=n;refine⟨o,j,λname=>?_⟩;have e:=l name;unfold nsFind findBy at e;rw[← Array.find?_toList]at e;unfold PySem.W.lookIn;rw[hd];dsimp only;split
 ·rename_i y q;rw[q]at e;exact congrArg some e
 ·rename_i q;rw[q]at e;have a:f.toList.any (·.refKey)=false:=by
   rw[List.any_eq_false];intro y i;obtain⟨z,t,r⟩:=m y (Array.mem_toList_iff.mp i);simp[DictEntry.refKey,r]
  have p:¬f.toList.any (·.refKey)=true:=by rw[a];exact Zg
  rw[Zp p];exact congrArg some e
theorem Ks.look{h:Heap}{x d C:Addr}{b:X9}(I:Ks h x d C b):∃a,PySem.W.InstAt h x (PySem.W.instObj C d) C (some a)/\∀name,PySem.W.lookIn name a=some (b name) :=
 let ⟨a,e,f⟩:=vN I.ns
 ⟨a,⟨I.obj,rfl,rfl,e⟩,f⟩
section
variable{prog:Program}{w:World}{A:Around}{E:Z3}{s:Shared}{K:Xf}{x dx C f:Addr}{mA:X9}{name:Str}{v:Value}
theorem get_map{a:Bool}{Q:Z3}(X:K.In s.heap)(I:Ks s.heap x dx C mA)(g:PySem.W.plainGet K C name=true)(e:PySem.W.hasDictIn K C=true)(i:PySem.W.findIn K (.ref C) name=some none)(b:mA name=some v)(j:PySem.W.handedIn v=true)(h:Q v { s with toks:=s.toks+1 }) :
  wpAny (model prog w) A (getAttr (.ref x) name a) Q E s:=by
 obtain⟨m,l,d⟩:=I.look;exact PySem.W.get_value X l (WK g).1 (PySem.W.findObj_own e i rfl (by rw[d,b])) j h
theorem yr{b:Sem Bool}{Q:Value×Wu->Shared->Prop}(X:K.In s.heap)(I:Ks s.heap x dx C mA)(a:PySem.W.plainGet K C name=true)(j:PySem.W.findIn K (.ref C) name=some (some (.ref f)))(g:PySem.W.isFn K (.ref f)=true)(e:mA name=none)(h:Q (.ref f,[.ref x]) s) :
  wpAny (model prog w) A (getMethod (.ref x) name b) Q E s:=by
 obtain⟨d,l,i⟩:=I.look;exact PySem.W.method_fn X l (WK a).1 (WK a).2 j (beq_iff_eq.mp g) (by show (PySem.W.lookIn name d).map (·.isSome)=some false;rw[i,e];rfl) h
theorem Bo{l:List Str}{Q:Unit->Shared->Prop}(X:K.In s.heap)(I:Ks s.heap x dx C mA)(t:PySem.W.findIn K (.ref C) "__setattr__" = some (some (.builtin "object.__setattr__")))(u:PySem.W.plainOver K C=true)(q:PySem.W.takerIn K C name=some none)(z:PySem.W.hasDictIn K C=true)(hw:PySem.Within mA l)(e:l.length<=sizeLine)(h:∀d,Ks d x dx C (λy=>if y=name then some v else mA y)->Heap.SameBut dx s.heap d->Q () { s with heap:=d,toks:=s.toks+2 }) :
  wpAny (model prog w) A (setAttr (.ref x) name v) Q E s:=by
 obtain⟨H,n,L⟩:=I.look;refine PySem.W.set_plain X n t (PySem.W.osa_open (s:={ s with toks:=s.toks+1 }) (r:=none) X n u q λb=>?_);obtain⟨cd,B,G⟩:=PySem.W.any_some z;have p:s.heap.get? x=some ⟨.ref C,some dx,.plain,#[]⟩:=I.obj;refine Zn (ZW (Zn (Zn (wpAny_loadPart p (Zn (PySem.W.Looks.here (s:={ s with toks:=s.toks+1 }) (PySem.W.looks_clsIn X B) ?_))))));rw[G];refine ZW (a:=some dx) (Zn (ZW (Zn ?_)));refine wpAny_nsSet1 (s:={ s with toks:=s.toks+1 }) I.ns λd m o=>?_;obtain⟨J,D,F,g,i,j⟩:=m.count (PySem.Within.cons name v hw);refine Zn (wpAny_lookBehind g (by rw[i];exact pastItsLine_dict (ZE j (by rw[Zk];exact Y8 e))) ?_);exact ZW (h _ ⟨(o.2 _ (YF I.ne)).trans I.obj,m,I.ne⟩ o)
theorem zw{Rq:Result->Shared->Prop}{a:Wu}{b:List (Str×Value)}(X:K.In s.heap)(e:PySem.W.makesIn K C=true)(i:PySem.W.findIn K (.ref C) "__init__" = some (some (.ref f)))(j:PySem.W.typeIn K (.ref f)=some (.type "function"))(h:codeAny (model prog w) (A.under (.builtin "type.__call__" ⟨.ref C :: a,b⟩)) (.call (.ref f) ⟨.ref (s.heap.objs.size+1) :: a,b⟩) (PySem.W.InitBack (s.heap.objs.size+1) Rq)
   { s with heap:=(s.heap.push PySem.W.emptyDict).push (PySem.W.instObj C s.heap.objs.size) }) :
  codeAny (model prog w) A (.call (.ref C) ⟨a,b⟩) Rq s:=by
 obtain⟨l,g,d,t,os⟩:=s;exact PySem.W.make_core (PySem.W.makes_of X e) (PySem.W.looks_findIn X i) (λself=>PySem.W.bind_fn X self j) (.inl rfl) h
end
noncomputable def jd(f:Str)(v:V):List (Str×V)->List (Str×V)
 |[]=>[(f,v)]
 | (g,x) :: r=>if g=f then (g,v) :: r else (g,x) :: jd f v r
theorem mN(f g:Str)(v:V):∀fs:List (Str×V),(jd f v fs).lookup g=if g=f then some v else fs.lookup g
 |[]=>by
  show List.lookup g [(f,v)]=_;by_cases h:g=f
  ·have hb:(g==f)=true:=beq_iff_eq.mpr h;simp only[List.lookup,hb,Zs h]
  ·have hb:(g==f)=false:=beq_eq_false_iff_ne.mpr h;simp only[List.lookup,hb,Zp h]
 | (k,x) :: r=>by
  have b:=mN f g v r;rw[show jd f v ((k,x) :: r)=(if k=f then (k,v) :: r else (k,x) :: jd f v r) from rfl];by_cases a:k=f
  ·rw[Zs a];by_cases h:g=k
   ·have hb:(g==k)=true:=beq_iff_eq.mpr h;simp only[List.lookup,hb,Zs (h.trans a)]
   ·have hb:(g==k)=false:=beq_eq_false_iff_ne.mpr h;simp only[List.lookup,hb,Zp (λe:g=f=>h (e.trans a.symm))]
  ·rw[Zp a];by_cases h:g=k
   ·have hb:(g==k)=true:=beq_iff_eq.mpr h;simp only[List.lookup,hb,Zp (λe:g=f=>a (h.symm.trans e))]
   ·have hb:(g==k)=false:=beq_eq_false_iff_ne.mpr h;simp only[List.lookup,hb];exact b
theorem l8(f:Str)(v:V):∀fs:List (Str×V),f∈(jd f v fs).map (·.1)/\∀g,g∈fs.map (·.1)->g∈(jd f v fs).map (·.1)
 |[]=>⟨by simp[jd],λg h=>by simp at h⟩
 | (k,x) :: r=>by
  obtain⟨d,b⟩:=l8 f v r;rw[show jd f v ((k,x) :: r)=(if k=f then (k,v) :: r else (k,x) :: jd f v r) from rfl];by_cases a:k=f
  ·rw[Zs a];subst a;exact⟨by simp,λg h=>by simpa using h⟩
  ·rw[Zp a];refine⟨?_,λg h=>?_⟩
   ·rw[Zm];exact Zv _ d
   ·rw[Zm]at h ⊢;rcases Zj.mp h with e | e
    ·exact Zj.mpr (.inl e)
    ·exact Zv _ (b g e)
theorem mO(f:Str)(v:V):∀fs:List (Str×V),(jd f v fs).length<=fs.length+1
 |[]=>by simp[jd]
 | (k,x) :: r=>by
  have b:=mO f v r;rw[show jd f v ((k,x) :: r)=(if k=f then (k,v) :: r else (k,x) :: jd f v r) from rfl];by_cases a:k=f
  ·rw[Zs a,Zk,Zk];exact Z1 _ _
  ·rw[Zp a,Zk,Zk];exact Y8 b
theorem je.some_of{v:V}{o:Wt}(r:je (some v) o):∃u,o=some u/\RelV v u:=by
 cases o with
 |none=>exact(show False from r).elim
 |some u=>exact⟨u,rfl,r⟩
theorem je.none_of{o:Wt}(r:je none o):o=none:=by
 cases o with
 |none=>rfl
 |some u=>exact(show False from r).elim
theorem wW{v:V}{u:Value}(r:RelV v u):PySem.W.handedIn u=true:=by
 cases v with
 |non=>cases (show u=Value.none from r);rfl
 |bl b=>cases (show u=Value.bool b from r);rfl
 |int i=>obtain⟨t,e⟩:=(show ∃t,u=Value.int i t from r);cases e;rfl
 |str x=>obtain⟨t,e⟩:=(show ∃t,u=Value.str x t from r);cases e;rfl
 |byt b=>obtain⟨t,e⟩:=(show ∃t,u=Value.bytes b t from r);cases e;rfl
 |flt b=>obtain⟨t,e⟩:=(show ∃t,u=Value.float b t from r);cases e;rfl
 |ref a=>cases (show u=Value.ref a from r);rfl
 |ty n=>cases (show u=Value.type n from r);rfl
section
variable{P:Program}{w:World}{H H':Hp}{h h':Heap}{a C dx:Addr}{fs IM:List (Str×V)}
theorem m8(g:Ic P w H h)(e:H a=some (.ins C dx fs)):∃b,Ks h a dx C b/\(∀f,je (fs.lookup f) (b f))/\PySem.Within b (fs.map (·.1))/\fs.length<=1000/\H dx=some (.own a):=by
 obtain⟨d,z,ne,i,b,n,r,q⟩:=(show bS P w H h a (.ins C dx fs) from g a _ e)
 exact⟨b,⟨i,n,ne⟩,r,q,z,d⟩
end
structure IB(K:Xf)(C:Addr):Prop where
 pg:PySem.W.plainGet K C Str.empty=true
 hd:PySem.W.hasDictIn K C=true
 po:PySem.W.plainOver K C=true
 sa:PySem.W.findIn K (.ref C) "__setattr__" = some (some (.builtin "object.__setattr__"))
theorem IB.get{K:Xf}{C:Addr}(c:IB K C)(f:Str):PySem.W.plainGet K C f=true:=c.pg
noncomputable def bh(K:Xf)(C:Addr)(f:Str):Prop:=PySem.W.findIn K (.ref C) f=some none
theorem bh.Ox{K:Xf}{C:Addr}{f:Str}(n:bh K C f):PySem.W.takerIn K C f=some none:=by
 unfold PySem.W.takerIn;rw[show PySem.W.findIn K (.ref C) f=some none from n];rfl
structure Meth(K:Xf)(C:Addr)(m:Str)(f:Addr):Prop where
 at_:PySem.W.findIn K (.ref C) m=some (some (.ref f))
 fn:PySem.W.isFn K (.ref f)=true
 kp:PySem.W.keepIn K (.ref f)=true
section
variable{X:Cx}{pins:Yz}{J:St}{H:Hp}{s:Shared}{a C dx:Addr}{fs:List (Str×V)}{f:Str}{v:V}{A:Around}{E:Z3}
theorem uA{b:Bool}{Q:Z3}(I:Inv X pins J H s)(e:H a=some (.ins C dx fs))(c:IB X.K C)(n:bh X.K C f)(l:fs.lookup f=some v)(h:∀u d,Inv X pins J H d->RelV v u->Q u d):wpAny (model X.prog X.w) A (getAttr (.ref a) f b) Q E s:=by
 obtain⟨i,O,r,_,_,_⟩:=m8 I.xh e;obtain⟨u,j,g⟩:=je.some_of (v:=v) (o:=i f) (by rw[← l];exact r f);exact get_map I.IE O (c.get f) c.hd n j (wW g) (h u _ (I.tok _) g)
theorem oS{m:Str}{g:Addr}{b:Sem Bool}{Q:Value×Wu->Shared->Prop}(I:Inv X pins J H s)(e:H a=some (.ins C dx fs))(c:IB X.K C)(k:Meth X.K C m g)(l:fs.lookup m=none)(h:Q (.ref g,[.ref a]) s):wpAny (model X.prog X.w) A (getMethod (.ref a) m b) Q E s:=by
 obtain⟨d,O,r,_,_,_⟩:=m8 I.xh e;have i:d m=none:=je.none_of (by rw[← l];exact r m);exact yr I.IE O (c.get m) k.at_ k.fn i h
theorem uC{y:V}{u:Value}{Q:Unit->Shared->Prop}(I:Inv X pins J H s)(e:H a=some (.ins C dx fs))(c:IB X.K C)(n:bh X.K C f)(F:fs.length<1000)(p:RelV y u)(h:∀j,Inv X pins J (upd H a (.ins C dx (jd f y fs))) j->Q () j):wpAny (model X.prog X.w) A (setAttr (.ref a) f u) Q E s:=by
 obtain⟨l,O,r,i,_,m⟩:=m8 I.xh e;have t:(fs.map (·.1)).length<=sizeLine:=by rw[Zx,XF];lia
 refine Bo I.IE O c.sa c.po n.Ox c.hd i t λB d sb=>h _ ?_;have hd:∃o,B.get? dx=some o:=let ⟨o,_,_,D,_⟩:=d.ns;⟨o,D⟩
 refine I.write (x:=a) (e:=dx) (by rw[e];exact True.intro) (.inr m) (λb q hb z=>(sb.2 b hb).trans z) hd ?_;refine⟨by rw[aE O.ne];exact m,?_,O.ne,d.obj,_,d.ns,λg=>?_,λg hg=>?_⟩
 ·have:=mO f y fs;lia
 ·show je ((jd f y fs).lookup g) (if g=f then some u else l g);rw[mN];by_cases q:g=f
  ·rw[Zs q,Zs q];exact p
  ·rw[Zp q,Zp q];exact r g
 ·by_cases q:g=f
  ·rw[q];exact(l8 f y fs).1
  ·refine(l8 f y fs).2 g (i g λz=>hg ?_);show (if g=f then some u else l g)=none;rw[Zp q];exact z
theorem Inv.made(I:Inv X pins J H s):Inv X pins J (upd (upd H s.heap.objs.size (.own (s.heap.objs.size+1))) (s.heap.objs.size+1) (.ins C s.heap.objs.size []))
  { s with heap:=(s.heap.push PySem.W.emptyDict).push (PySem.W.instObj C s.heap.objs.size) }:=by
 have e1:(s.heap.push PySem.W.emptyDict).get? s.heap.objs.size=some PySem.W.emptyDict:=ZL s.heap rfl;have e2:((s.heap.push PySem.W.emptyDict).push (PySem.W.instObj C s.heap.objs.size)).get? (s.heap.objs.size+1)=some (PySem.W.instObj C s.heap.objs.size):=by
  have:=ZL (s.heap.push PySem.W.emptyDict) (o:=PySem.W.instObj C s.heap.objs.size) rfl
  rwa [W5]at this
 have g:(s.heap.push PySem.W.emptyDict).Ns s.heap.objs.size (λ_=>none):=⟨PySem.W.emptyDict,#[],_,e1,rfl,(λe he=>absurd he (by simp)),λ_=>rfl⟩
 have h:=I.laid (a:=s.heap.objs.size) (o:=.own (s.heap.objs.size+1)) (h':=s.heap.push PySem.W.emptyDict) (t':=s.toks) (λb u q=>Zf _ q) (Zo _) ⟨_,e1⟩;refine h.laid (a:=s.heap.objs.size+1) (o:=.ins C s.heap.objs.size []) (t':=s.toks) (λb u q=>Zf _ q) (XO (W5 _ _)) ?_;have ne:s.heap.objs.size≠s.heap.objs.size+1:=Zb (YI _);refine⟨by rw[aE ne,aC],ZR _,ne,e2,λ_=>none,(Heap.Ns1.of_empty g).at λo q=>Zf _ q,λ_=>True.intro,λy d=>absurd rfl d⟩
theorem Br{b:Program}{w:World}{d:Env}{e:Expr}{f:Str}{g:Pos}{s:Shared}{Q:Z3}(j:attributeBase e f d (eval e d)=eval e d)(h:wpAny (model b w) A (eval e d) (λo i=>wpAny (model b w) A (getAttr o f true) Q E i) E s):wpAny (model b w) A (eval (.Attribute e f g) d) Q E s :=
 Attribute_any_ h (by rw[arm_eval_Attribute,j])
end
noncomputable def Gn(K:Xf)(ta:TE)(f:Str):TE:=λJ H Q=>ta J H λx b=>∃a C d fs v,x=.ref a/\b a=some (.ins C d fs)/\IB K C/\bh K C f/\fs.lookup f=some v/\Q v b
noncomputable def GS(K:Xf)(ta e:TE)(f:Str):TS:=λD J H=>e J H λy g=>ta J g λx d=>∃a C b fs,x=.ref a/\d a=some (.ins C b fs)/\IB K C/\bh K C f/\fs.length<1000 ∧
 D.nx J (upd d a (.ins C b (jd f y fs)))
section
variable{X:Cx}{o e value:Expr}{f:Str}{pos pos' Mc:Pos}{ta tv:TE}
theorem yJ(he:PE X e ta)(i:attributeBase e f X.env (eval e X.env)=eval e X.env):PE X (.Attribute e f pos) (Gn X.K ta f):=by
 intro b s J H Q I h;refine Br i (thn (he b s J H _ I h) λu s1 ⟨x,r,p,d,a,C,y,fs,v,ex,j,c,n,l,q⟩=>?_);subst ex;obtain rfl:u=Value.ref a:=d;exact uA p j c n l λt w m g=>⟨v,r,m,g,q⟩
theorem Dz(r:PE X o ta)(m:PE X value tv)(p:swapsWith value (some (.Attribute o f pos')) pos.line X.env=pure false):PS X (.Assign [.Attribute o f pos'] value pos) (GS X.K ta tv f):=by
 intro b s J H D I h;refine plainObj_wpAny_Assign_Attribute (thn (m b s J H _ I h) λu s1 ⟨y,A,z,d,q⟩=>thn (r b s1 J A _ z q) λj E ⟨x,G,w,g,a,C,F,fs,ex,t,c,n,l,i⟩=>?_) p;subst ex;obtain rfl:j=Value.ref a:=g;exact uC w t c n l d λB v=>⟨J,_,v,i⟩
end
section
variable{X:Cx}{pins:Yz}{J:St}{H:Hp}{s:Shared}{A:Around}{E:Z3}{Q:Z3}{c:Value}{b:Bool}
inductive Io(K:Xf)(H:Hp):V->Value->Prop where
 |non:Io K H .non (.type "NoneType")
 |bl (x:Bool):Io K H (.bl x) (.type "bool")
 |int (i:Int):Io K H (.int i) (.type "int")
 |str (x:Str):Io K H (.str x) (.type "str")
 |flt (x:UInt64):Io K H (.flt x) (.type "float")
 |lst {a:Addr} {xs:List V} (e:H a=some (.lst xs)):Io K H (.ref a) (.type "list")
 |frz {a:Addr} {o:Obj} {xs:List V} (e:H a=some (.frz o (.lst xs))):Io K H (.ref a) (.type "list")
 |tup {a:Addr} {xs:List V} (e:H a=some (.tup xs)):Io K H (.ref a) (.type "tuple")
 |dK {a:Addr} {cg:List (Key×V)} (e:H a=some (.dK cg)):Io K H (.ref a) (.type "dict")
 |dT {a:Addr} {cg:List (List Key×V)} (e:H a=some (.dT cg)):Io K H (.ref a) (.type "dict")
 |ins {a C dx:Addr} {fs:List (Str×V)} (e:H a=some (.ins C dx fs)) (cl:IB K C) (ha:PySem.W.findIn K (.ref C) "__class__" = some (some (.builtin "object.__class__")))
   (hn:PySem.W.specialIn K (.builtin "object.__class__") "__get__" = some (some (.builtin "getset_descriptor.__get__"))) (T1:PySem.W.takesIn K (.builtin "object.__class__")=some true)
   (hm:PySem.W.mroIn K C (.type "object")=some true):Io K H (.ref a) (.ref C)
theorem wI{x:V}{u t:Value}(I:Inv X pins J H s)(d:RelV x u)(r:Io X.K H x t)(e:PySem.W.kitOne X.K t c=some b)(h:∀v,Q (.bool b) { s with toks:=v }) :
  wpAny (model X.prog X.w) A (call (.builtin "isinstance") [u,c]) Q E s:=by
 cases r with
 |non=>cases (show u=Value.none from d);exact YR PySem.W.kitx_none I.IE True.intro e (λz=>nomatch z) h
 |bl y=>cases (show u=Value.bool y from d);exact YR PySem.W.kitx_bool I.IE True.intro e (λz=>nomatch z) h
 |int i=>obtain⟨t,q⟩:=(show ∃t,u=Value.int i t from d);cases q;exact YR PySem.W.kitx_int I.IE True.intro e (λz=>nomatch z) h
 |str y=>obtain⟨t,q⟩:=(show ∃t,u=Value.str y t from d);cases q;exact YR PySem.W.kitx_str I.IE True.intro e (λz=>nomatch z) h
 |flt y=>obtain⟨t,q⟩:=(show ∃t,u=Value.float y t from d);cases q;exact YR PySem.W.kitx_float I.IE True.intro e (λz=>nomatch z) h
 |@lst a j f =>
  cases (show u=Value.ref a from d);obtain⟨_,_,n,_,g⟩:=(show bS X.prog X.w H s.heap a (.lst j) from I.xh a _ f)
  exact YR PySem.W.kitx_list I.IE ⟨_,g,rfl⟩ e (λz=>nomatch z) h
 |@frz a B j f =>
  cases (show u=Value.ref a from d);obtain⟨_,_,_,n,_,g⟩:=(show bS X.prog X.w H s.heap a (.frz B (.lst j)) from I.xh a _ f)
  exact YR PySem.W.kitx_list I.IE ⟨_,g,rfl⟩ e (λz=>nomatch z) h
 |@tup a j f =>
  cases (show u=Value.ref a from d);obtain⟨_,_,_,_,p⟩:=(show bS X.prog X.w H s.heap a (.tup j) from I.xh a _ f)
  obtain⟨o,g,l,_⟩:=p;exact YR PySem.W.kitx_tuple I.IE ⟨o,g,l⟩ e (λz=>nomatch z) h
 |@dK a m f =>
  cases (show u=Value.ref a from d);obtain⟨_,_,R,_,p⟩:=(show bS X.prog X.w H s.heap a (.dK m) from I.xh a _ f)
  obtain⟨o,L,M,g,l,_⟩:=p;exact YR PySem.W.kitx_dict I.IE ⟨o,g,l.1⟩ e (λz=>nomatch z) h
 |@dT a m f =>
  cases (show u=Value.ref a from d);obtain⟨_,_,j,_,o,L,M,g,l,_⟩:=(show bS X.prog X.w H s.heap a (.dT m) from I.xh a _ f)
  exact YR PySem.W.kitx_dict I.IE ⟨o,g,l.1⟩ e (λz=>nomatch z) h
 |@ins a C Y fs f cl G D N F =>
  cases (show u=Value.ref a from d);obtain⟨U,O,_⟩:=m8 I.xh f;obtain⟨S,P,_⟩:=O.look;exact YR (PySem.W.kitx_own (cl.get _) cl.hd G D N F) I.IE P e (λz=>nomatch z) h
end
structure xa(k:Nat)(A:Around):Prop where
 hd:A.handled=none
 dp:A.depth+3*k+5<recursionLimit
 un:A.units+16*k+200<cLine
theorem xa.mono{j k:Nat}{A:Around}(r:xa k A)(h:j<=k):xa j A:=⟨r.hd,by have:=r.dp;lia,by have:=r.un;lia⟩
theorem xa.deeper{k:Nat}{A:Around}(r:xa (k+1) A)(a:Env):xa k (A.deeper a) :=
 ⟨r.hd,by have:=r.dp;show A.depth+1+3*k+5<_;lia,by have:=r.un;show A.units+3+16*k+200<_;lia⟩
theorem tY{A:Around}{C:Addr}{a:Wu}{b:List (Str×Value)}:(A.under (.builtin "type.__call__" ⟨.ref C :: a,b⟩)).depth=A.depth+1:=by
 first | rfl | simp[Around.under,Code.weight,Code.isCreation,Code.isGuard,Code.isCaller,Code.frames,Code.isFrame,guardIds]
theorem uj{A:Around}{C:Addr}{a:Wu}{b:List (Str×Value)}:(A.under (.builtin "type.__call__" ⟨.ref C :: a,b⟩)).units=A.units+1:=by
 first | rfl | simp[Around.under,Code.cUnits,Code.frames,Code.isFrame]
theorem xa.make{k:Nat}{A:Around}(r:xa (k+1) A)(C:Addr)(a:Wu)(b:List (Str×Value)):xa k (A.under (.builtin "type.__call__" ⟨.ref C :: a,b⟩)) :=
 ⟨r.hd,by have:=r.dp;rw[tY];lia,by have:=r.un;rw[uj];lia⟩
theorem xa.depth{k:Nat}{A:Around}(r:xa k A):A.depth<recursionLimit:=by have:=r.dp;lia
theorem xa.units{k:Nat}{A:Around}(r:xa k A):A.units+64<cLine:=by have:=r.un;lia
noncomputable def wB:TA:=λ_ H Q=>Q [] H
noncomputable def FJ(ta:TE)(b:TA):TA:=λJ H Q=>ta J H λx e=>b J e λa d=>Q (x :: a) d
section
variable{X:Cx}{e:Expr}{es:List Expr}{te:TE}{t:TA}{pos:Pos}
theorem iX:PA X [] wB:=λ_ _ _ _ H Q I h=>Calls.spliced_nil ⟨[],H,I,.nil,h⟩
theorem eT(j:PE X e te)(i:PA X es t)(g:K1 e es X:=by rfl):PA X (e :: es) (FJ te t):=by
 intro pos a s J H Q I h;rw[g];show wpAny _ _ (spliced ((false,eval e X.env) :: backTo pos (starEach es X.env))) _ _ s;refine Calls.spliced_cons (thn (j a s J H _ I h) λu s1 ⟨x,o,m,r1,f⟩=>?_);exact thn (i pos a s1 J o _ m f) λp q ⟨b,n,l,r2,d⟩=>⟨x :: b,n,l,.cons r1 r2,d⟩
noncomputable def GM(t:TA):TE:=λJ H Q=>t J H λa b=>a.length<=sizeLine/\∀p,b p=none->Q (.ref p) (upd b p (.tup a))
noncomputable def Gv(t:TA):TE:=λJ H Q=>t J H λa b=>a.length<=sizeLine/\∀p,b p=none->Q (.ref p) (upd b p (.lst a))
theorem DK{x1}(h:PA X es t):PE X (.Tuple es x1 pos) (GM t):=by
 intro a s J H Q I j;refine wpAny_Tuple_spliced (thn (h pos a s J H _ I j) λi s1 ⟨g,f,d,r,z,q⟩=>⟨by rw[← r.length];exact z,?_⟩);have l:f s1.heap.objs.size=none:=d.xh.fresh (Zo _);refine⟨.ref s1.heap.objs.size,upd f s1.heap.objs.size (.tup g),d.laid (t':=s1.toks) (λb u e=>Zf _ e) (Zo _) ?_,rfl,q _ l⟩;exact⟨z,i,r,Mx.of (ZL _ rfl) rfl,⟨_,ZL _ rfl,rfl,_,rfl⟩⟩
theorem ua(h:PA X es t):PE X (.List es pos) (Gv t):=by
 intro a s J H Q I j;refine wpAny_List_spliced (thn (h pos a s J H _ I j) λi s1 ⟨g,f,d,r,z,q⟩=>⟨by rw[← r.length];exact z,?_⟩);have l:f s1.heap.objs.size=none:=d.xh.fresh (Zo _);refine⟨.ref s1.heap.objs.size,upd f s1.heap.objs.size (.lst g),d.laid (t':=s1.toks) (λb u e=>Zf _ e) (Zo _) ?_,rfl,q _ l⟩;exact⟨z,i,0,r,ZL _ rfl⟩
end
noncomputable abbrev Sp:=List V->Hp->VK->XK->Prop
noncomputable abbrev Ll:=List Env->Hp->Shared->XK->Z3
structure Env0(P:Program)(w:World)(K:Xf)(mg:X9)(base:Heap)(A:Around)(outer:List Env)(s:Shared)(H:Hp):Prop where
 frames:A.frames=some outer
 mod:Mod K mg base
 bs:∀b o,base.get? b=some o->s.heap.get? b=some o/\H b=none
 Ms:base.objs.size<=s.heap.objs.size
 IL:s.heap.FunFrames base outer
 NJ:∀b∈Ig outer,H b=none
 xh:Ic P w H s.heap
 bare:AllBare s.gens
noncomputable def CE(a:List Env)(P:Program)(w:World)(H:Hp)(s:Shared)(Q:VK)(u:Value)(b:Shared):Prop :=
 ∃v d,b.os=s.os/\AllBare b.gens/\Un (Ig a) [] H d s.heap b.heap/\Ic P w d b.heap/\RelV v u/\Q v d
noncomputable def CR(d:Ll)(a:List Env)(P:Program)(w:World)(H:Hp)(s:Shared)(Q:VK)(E:XK)(r:Result)(b:Shared):Prop :=
 match r with
 |.ok (.ret u)=>CE a P w H s Q u b
 |.ok _=>False
 |.error e=>d a H s E e b
structure FnOk(P:Program)(w:World)(K:Xf)(mg:X9)(base:Heap)(CX:Ll)(k:Nat)(f:Addr)(fd:FuncData)(ps:List Str)(sp:Sp):Prop where
 len:∀vs H Q E,sp vs H Q E->vs.length=ps.length
 run:∀(A:Around)(outer:List Env)(s:Shared)(H:Hp)(args:Args)(us:Wu)(vs:List V)(Q:VK)(E:XK),xa k A->Env0 P w K mg base A outer s H->BindsTo s fd args (ps.zip us)->aV vs us->sp vs H Q E →
  codeAny (model P w) A (.call (.ref f) args) (CR CX outer P w H s Q E) s
theorem FnOk.imp{P:Program}{w:World}{K:Xf}{g:X9}{a:Heap}{l:Ll}{k:Nat}{f:Addr}{i:FuncData}{e:List Str}{d j:Sp}(F:FnOk P w K g a l k f i e d)(h:∀b H Q E,j b H Q E->d b H Q E):FnOk P w K g a l k f i e j :=
 ⟨λb H Q E q=>F.len b H Q E (h _ _ _ _ q),λA outer s H args m b Q E p he hb n o=>F.run A outer s H args m b Q E p he hb n (h _ _ _ _ o)⟩
theorem Env0.make{P:Program}{w:World}{K:Xf}{d:X9}{b:Heap}{A:Around}{a:List Env}{s:Shared}{H:Hp}(e:Env0 P w K d b A a s H)(C:Addr)(f:Wu)(g:List (Str×Value)) :
  Env0 P w K d b (A.under (.builtin "type.__call__" ⟨.ref C :: f,g⟩)) a s H:=⟨by first | exact e.frames | (simpa[Around.under,Code.envs,Code.isFrame,pushEnvs] using e.frames),e.mod,e.bs,e.Ms,e.IL,e.NJ,e.xh,e.bare⟩
section
variable{X:Cx}{pins:Yz}{J:St}{H:Hp}{s s':Shared}
theorem Inv.O6(I:Inv X pins J H s):Env0 X.prog X.w X.K X.mg X.base X.A X.stack s H :=
 ⟨I.ok.frames,I.ok.mod,I.bs,ZE I.ok.Ms I.sz,I.stack,I.Kw,I.xh,I.bare⟩
theorem Inv.after{Q:VK}{u:Value}(I:Inv X pins J H s)(h:CE X.stack X.prog X.w H s Q u s'):EP X pins J Q u s':=by
 obtain⟨v,f,os,bare,un,xh,r,q⟩:=h;obtain⟨a,g,d,t,e⟩:=s';obtain rfl:e=s.os:=os;exact⟨v,f,I.call (h':=a) (g':=g) (d':=d) (t':=t) (ch:=[]) un xh bare (λb z=>absurd z (by simp)),r,q⟩
end
noncomputable def Cp(b:Sp)(d:List V)(E:XK)(t:TA):TE:=λJ H Q=>t J H λa e=>b (a++d) e Q E
noncomputable def vk(C:Addr)(m:Str)(e:Sp)(g:List V)(E:XK)(ta:TE)(t:TA):TE:=λJ H Q=>ta J H λx b=>∃a f fs,x=.ref a/\b a=some (.ins C f fs)/\fs.lookup m=none ∧
 t J b λd h=>e (x :: (d++g)) h Q E
noncomputable def yd(C:Addr)(e:Sp)(f:List V)(E:XK)(t:TA):TE:=λJ H Q=>t J H λd b=>∀x a,b x=none->b a=none->a≠x →
 e (.ref x :: (d++f)) (upd (upd b a (.own x)) x (.ins C a [])) (λv g=>v=.non/\Q (.ref x) g) E
noncomputable def Binds(K:Xf)(d:FuncData)(b:List Str)(ds:Wu):Prop :=
 ∀(s:Shared)(a:Wu),K.In s.heap->(a++ds).length=b.length->BindsTo s d ⟨a,[]⟩ (b.zip (a++ds))
theorem Binds.all{K:Xf}{e:FuncData}{b:List Str}(h:∀a:Wu,a.length=b.length->bindArgs e ⟨a,[]⟩=pure (b.zip a)):Binds K e b []:=λs a _ d=>by
 rw[ZQ]at d ⊢;exact .of_eq (h a d)
noncomputable def jv(d:Ll)(X:Cx)(E:XK):Prop:=∀(a:Yz)(J:St)(H:Hp)(s:Shared)(e:Value)(b:Shared),Inv X a J H s->d X.stack H s E e b->X.xe e b
section
variable{X:Cx}{CX:Ll}{k:Nat}{f C:Addr}{fd:FuncData}{ps:List Str}{sp:Sp}{I0:List V}{ds:Wu}{E:XK}{x m:Str}{p pos apos:Pos}{e o:Expr}{es:List Expr}{ta:TE}{t:TA}
theorem uh{a:Yz}{J:St}{H:Hp}{s:Shared}{Q:VK}{us:Wu}{vs:List V}(F:FnOk X.prog X.w X.K X.mg X.base CX k f fd ps sp)(i:xa k X.A)(n:Binds X.K fd ps ds)(l:aV I0 ds)(g:jv CX X E)(I:Inv X a J H s)(r:aV vs us)(h:sp (vs++I0) H Q E):wpAny (model X.prog X.w) X.A (call (.ref f) us) (EP X a J Q) X.xe s:=by
 have r2:aV (vs++I0) (us++ds):=r.append l;have j:(us++ds).length=ps.length:=by rw[← r2.length];exact F.len _ _ _ _ h
 refine wpAny_call (codeAny_mono (F.run X.A X.stack s H ⟨us,[]⟩ (us++ds) (vs++I0) Q E i I.O6 (n s us I.IE j) r2 h) λr d b=>?_);cases r with
 |error e=>exact g a J H s e d I b
 |ok q =>
  cases q with
  |ret u=>exact I.after b
  |next=>exact False.elim b
  |brk=>exact False.elim b
  |cont=>exact False.elim b
theorem BC(F:FnOk X.prog X.w X.K X.mg X.base CX k f fd ps sp)(i:xa k X.A)(n:Gl X x)(j:X.mg x=some (.ref f))(l:PySem.W.keepIn X.K (.ref f)=true)(v:Binds X.K fd ps ds)(u:aV I0 ds)(g:jv CX X E)(y:PA X (e :: es) t)(z:K3 x:=by decide)(he:K1 e es X:=by rfl)(b:K2 pos es X:=by rfl) :
  PE X (.Call (.Name x p) (e :: es) [] pos) (Cp sp I0 E t):=by
 intro a s J H Q I h;refine XH (nz I n j ?_ z);refine WG (h₀:=X.base) I.ok.mod.OP l (thn (y pos a s J H _ I h) λD s1 ⟨B,G,d,r,q⟩=>⟨d.IE,?_⟩) he b;exact uh F i v u g d r q
theorem qj{pl:Sem Bool}(he:PE X o ta)(c:IB X.K C)(i:Meth X.K C m f)(F:FnOk X.prog X.w X.K X.mg X.base CX k f fd ps sp)(D:xa k X.A)(L:Binds X.K fd ps ds)(G:aV I0 ds)(z:jv CX X E)(M:PA X (e :: es) t)(O:K1 e es X:=by rfl)(d:K2 pos es X:=by rfl)(B:eval (.Call (.Attribute o m apos) (e :: es) [] pos) X.env=(do
   let g ← eval o X.env
   standAt apos.atName
   let (f,first) ← holding [g] (getMethod g m pl)
   callWith pos f first (backTo pos (starEach (e :: es) X.env)) (backToKw pos (keywordEach [] X.env))):=by rfl) :
  PE X (.Call (.Attribute o m apos) (e :: es) [] pos) (vk C m sp I0 E ta t):=by
 intro b s J H Q I h;refine PySem.W.methodCall_KW (pl:=pl) (thn (he b s J H _ I h) λu s1 ⟨x,P,n,v,a,S,fs,ex,N,l,q⟩=>?_) B;subst ex;obtain rfl:u=Value.ref a:=v;refine oS n N c i l ?_;refine WG (first:=[.ref a]) (h₀:=X.base) I.ok.mod.OP i.kp (thn (M pos b s1 J P _ n q) λus R ⟨vs,U,j,r,y⟩=>⟨j.IE,?_⟩) O d;exact uh (us:=.ref a :: us) (vs:=.ref a :: vs) F D L G z j (.cons rfl r) y
theorem sG{pl:Sem Bool}(he:PE X o ta)(c:IB X.K C)(i:Meth X.K C m f)(F:FnOk X.prog X.w X.K X.mg X.base CX k f fd ps sp)(v:xa k X.A)(z:Binds X.K fd ps ds)(y:aV I0 ds)(n:jv CX X E)(r:eval (.Call (.Attribute o m apos) [] [] pos) X.env=(do
   let g ← eval o X.env
   standAt apos.atName
   let (f,first) ← holding [g] (getMethod g m pl)
   callWith pos f first (backTo pos (starEach [] X.env)) (backToKw pos (keywordEach [] X.env))):=by rfl) :
  PE X (.Call (.Attribute o m apos) [] [] pos) (vk C m sp I0 E ta wB):=by
 intro b s J H Q I h;refine PySem.W.methodCall_KW (pl:=pl) (thn (he b s J H _ I h) λu s1 ⟨x,G,d,j,a,D,fs,ex,B,l,q⟩=>?_) r;subst ex;obtain rfl:u=Value.ref a:=j;refine oS d B c i l ?_;exact PySem.W.callWith_K0 (first:=[.ref a]) d.IE i.kp (uh (us:=[.ref a]) (vs:=[.ref a]) F v z y n d (.cons rfl .nil) q)
structure Mk(K:Xf)(C f:Addr):Prop where
 makes:PySem.W.makesIn K C=true
 init:PySem.W.findIn K (.ref C) "__init__" = some (some (.ref f))
 fn:PySem.W.isFn K (.ref f)=true
 kp:PySem.W.keepIn K (.ref C)=true
theorem rW{a:Yz}{J:St}{H:Hp}{s:Shared}{Q:VK}{us:Wu}{i:List V}(M:Mk X.K C f)(F:FnOk X.prog X.w X.K X.mg X.base CX k f fd ps sp)(z:xa (k+1) X.A)(G:Binds X.K fd ps ds)(D:aV I0 ds)(y:jv CX X E)(I:Inv X a J H s)(r:aV i us)(h:∀x d,H x=none->H d=none->d≠x->sp (.ref x :: (i++I0)) (upd (upd H d (.own x)) x (.ins C d [])) (λv O=>v=.non/\Q (.ref x) O) E) :
  wpAny (model X.prog X.w) X.A (call (.ref C) us) (EP X a J Q) X.xe s:=by
 have j:=h (s.heap.objs.size+1) s.heap.objs.size (I.xh.fresh (XS _)) (I.xh.fresh (Zo _)) (Zb (YI _));have g:=Inv.made (C:=C) I;have r2:aV (V.ref (s.heap.objs.size+1) :: (i++I0)) (Value.ref (s.heap.objs.size+1) :: (us++ds)):=.cons rfl (r.append D);have B:(Value.ref (s.heap.objs.size+1) :: us++ds).length=ps.length:=by
  have e:=r2.length;rw[F.len _ _ _ _ j]at e;exact e.symm
 refine wpAny_call (zw (f:=f) I.IE M.makes M.init (beq_iff_eq.mp M.fn) (codeAny_mono (F.run _ X.stack _ _ ⟨Value.ref (s.heap.objs.size+1) :: us,[]⟩ (Value.ref (s.heap.objs.size+1) :: (us++ds)) _ _ E (z.make C us [])
  (g.O6.make C us []) (G _ (Value.ref (s.heap.objs.size+1) :: us) g.IE B) r2 j) λr l b=>?_))
 cases r with
 |error e=>exact y a J _ _ e l g b
 |ok L =>
  cases L with
  |ret u =>
   obtain⟨v,P,N,n,ev,q⟩:=g.after b;subst ev;exact⟨n,⟨V.ref (s.heap.objs.size+1),P,N,rfl,q⟩⟩
  |next=>exact False.elim b
  |brk=>exact False.elim b
  |cont=>exact False.elim b
theorem Ay(M:Mk X.K C f)(F:FnOk X.prog X.w X.K X.mg X.base CX k f fd ps sp)(i:xa (k+1) X.A)(l:Gl X x)(j:X.mg x=some (.ref C))(u:Binds X.K fd ps ds)(n:aV I0 ds)(g:jv CX X E)(v:PA X (e :: es) t)(y:K3 x:=by decide)(he:K1 e es X:=by rfl)(b:K2 pos es X:=by rfl) :
  PE X (.Call (.Name x p) (e :: es) [] pos) (yd C sp I0 E t):=by
 intro a s J H Q I h;refine XH (nz I l j ?_ y);refine WG (h₀:=X.base) I.ok.mod.OP M.kp (thn (v pos a s J H _ I h) λB s1 ⟨z,D,d,r,q⟩=>⟨d.IE,?_⟩) he b;exact rW M F i u n g d r q
theorem xO(M:Mk X.K C f)(F:FnOk X.prog X.w X.K X.mg X.base CX k f fd ps sp)(d:xa (k+1) X.A)(i:Gl X x)(g:X.mg x=some (.ref C))(l:Binds X.K fd ps ds)(j:aV I0 ds)(b:jv CX X E)(n:K3 x:=by decide):PE X (.Call (.Name x p) [] [] pos) (yd C sp I0 E wB):=by
 intro a s J H Q I h;refine XH (nz I i g ?_ n);exact PySem.W.callWith_K0 I.IE M.kp (rW (us:=[]) M F d l j b I .nil h)
end
structure jj(N P:List Str)(sc:Scope):Prop where
 kind:sc.kind=.function
 co:sc.isCoroutine=false
 gen:sc.isGenerator=false
 nd:N.Nodup
 pre:N.take P.length=P
 par:∀x∈P,sc.names.lookup x=some .local\/sc.names.lookup x=some .cell
 Nf:∀y∈sc.names,y.2 ≠ .free
theorem pv{a:Str->Option NameKind}{x:Str}:∀{binds:List (Str×Value)}{m:X9},(∀v,(x,v)∉binds)->bindL a binds m x=m x
 |[],_,_=>rfl
 | (n,v) :: r,m,h=>by
  unfold bindL;rw[pv λw hw=>h w (Zv _ hw)];split
  ·have:x≠n:=by rintro rfl;exact h v Zw
   simp[this]
  ·rfl
theorem pf{a:Str->Option NameKind}{x:Str}:∀{binds:List (Str×Value)}{m:X9},(∀v,(x,v)∉binds)->bindC a binds m x=m x
 |[],_,_=>rfl
 | (n,v) :: r,m,h=>by
  unfold bindC;rw[pf λw hw=>h w (Zv _ hw)];split
  ·rfl
  ·have:x≠n:=by rintro rfl;exact h v Zw
   simp[this]
theorem pI{a:Str->Option NameKind}{x:Str}{v:Value}:∀{P:List Str}{b:Wu}{i:Nat}{m:X9},P.Nodup->P[i]?=some x->b[i]?=some v->a x=some .local →
  bindL a (P.zip b) m x=some v
 |[],_,_,_,_,h,_,_=>by simp at h
 |_ :: _,[],_,_,_,_,h,_=>by simp at h
 |p :: P,w :: b,0,m,nd,e,d,f=>by
  simp at e d;subst e;subst d;show bindL a ((p,w) :: P.zip b) m p=_;unfold bindL;rw[pv λv g=>(ZY.mp nd).1 (List.of_mem_zip g).1,Zs f];simp
 |p :: P,w :: b,i+1,m,nd,e,d,f=>by
  show bindL a ((p,w) :: P.zip b) m x=_;unfold bindL;exact pI (i:=i) (ZY.mp nd).2 (by simpa using e) (by simpa using d) f
theorem pA{a:Str->Option NameKind}{x:Str}{v:Value}:∀{P:List Str}{b:Wu}{i:Nat}{m:X9},P.Nodup->P[i]?=some x->b[i]?=some v->a x≠some .local →
  bindC a (P.zip b) m x=some v
 |[],_,_,_,_,h,_,_=>by simp at h
 |_ :: _,[],_,_,_,_,h,_=>by simp at h
 |p :: P,w :: b,0,m,nd,e,d,f=>by
  simp at e d;subst e;subst d;show bindC a ((p,w) :: P.zip b) m p=_;unfold bindC;rw[pf λv g=>(ZY.mp nd).1 (List.of_mem_zip g).1,Zp f];simp
 |p :: P,w :: b,i+1,m,nd,e,d,f=>by
  show bindC a ((p,w) :: P.zip b) m x=_;unfold bindC;exact pA (i:=i) (ZY.mp nd).2 (by simpa using e) (by simpa using d) f
noncomputable def start(N:List Str)(a:List V):St:=a.map some++List.replicate (N.length-a.length) none
noncomputable def jS(j:Ll)(P:Program)(w:World)(K:Xf)(m:X9)(h:Heap)(N:List Str)(d:Str)(a:Scope)(f:Addr)(g:Value)(A:Around)(b:List Env)(s:Shared)(H:Hp)(E:XK):Cx where
 prog:=P
 w:=w
 K:=K
 mg:=m
 base:=h
 A:=A.deeper (envOfC d a s.heap.objs.size f g)
 N:=N
 s₀:=s
 H₀:=H
 env:=envOfC d a s.heap.objs.size f g
 outer:=b
 stack:=envOfC d a s.heap.objs.size f g :: b
 ex:=[]
 calm:=true
 fn:=λ_=>true
 pn:=[]
 xe:=λe l=>wpAny (model P w) (A.deeper (envOfC d a s.heap.objs.size f g)) (leaving (envOfC d a s.heap.objs.size f g) e) (λ_ i=>j b H s E e i) (λn i=>j b H s E n i) l
theorem rj{a:Scope}{n:Nat}{x:Str}(h:a.names.lookup x=some .cell):∃c,(cellsFrom n a.names []).lookup x=some c:=by
 have q:=PySem.W.cellsFrom_some a.names n [] (.inl h);exact Yl.mp q
theorem vL{Y:Ll}{P:Program}{w:World}{K:Xf}{M:X9}{m:Heap}{N B:List Str}{j:Str}{d:Scope}{f:Addr}{J:Value}{A:Around}{g:List Env}{s Q:Shared}{H:Hp}{E:XK}{L:Wu}{t:List V}(S:jj N B d)(hd:A.handled=none)(o:Env0 P w K M m A g s H)(hl:t.length=B.length)(r:aV t L)(x:InCallC s s.heap.objs.size (bindL (envOfC j d s.heap.objs.size f J).kindOf (B.zip L) λ_=>none) (cellsFrom (s.heap.objs.size+1) d.names []) (bindC (envOfC j d s.heap.objs.size f J).kindOf (B.zip L) λ_=>none) Q) :
  Inv (jS Y P w K M m N j d f J A g s H E) [] (start N t) H Q:=by
 have hpl:B.length<=N.length:=by have:=congrArg List.length S.pre;rw[ZC]at this;lia
 obtain⟨G,tk,rfl,U⟩:=x.done;have O:∀b:Addr,b∉(jS Y P w K M m N j d f J A g s H E).ex:=λb z=>absurd (show b∈([]:Wy) from z) (by simp);refine⟨⟨o.mod,S.kind,rfl,rfl,Zo _,λy z c G l=>?_,λy C=>?_,λy c _ h=>?_,λ_=>hd,Around.frames_deeper o.frames,.inr ⟨rfl,rfl⟩,λb z=>absurd z (O b),o.bs,o.Ms,λb _ _=>O b,λb z=>absurd z (O b),o.IL,o.NJ⟩,
  rfl,o.bare,Un.kept U,⟨_,x.toInCall.ns,λi y v G l h3=>?_⟩,λy c h=>⟨_,x.cell y c h⟩,o.xh.fresh (Zo _),λy c h=>?_,λp D=>absurd (show p∈([]:Yz) from D) (by simp),o.xh.kept U,?_⟩
 ·exact name_of_addr x.apart (Xd G) (Xd l)
 ·have C:d.names.lookup y=some .cell\/d.names.lookup y=some .free:=C;rcases C with C | C
  ·exact rj C
  ·exact absurd rfl (S.Nf _ (Xd C))
 ·exact Z0 (x.above y c (Xd h))
 ·have F:i<t.length:=by
   unfold start at l;by_cases F:i<t.length
   ·exact F
   ·rw[Yq (by simpa using F)]at l;rw[YD]at l;split at l<;>cases l
  have ha:t[i]?=some v:=by
   unfold start at l;rw[Ys (by simpa using F),ZM]at l;cases e:t[i]? with
   |none=>rw[e]at l;cases l
   |some a=>rw[e]at l;cases l;rfl
  obtain⟨u,R,Z⟩:=r.get ha;have D:B[i]?=some y:=by
   rw[← S.pre,List.getElem?_take_of_lt (by lia)];exact G
  have X:B.Nodup:=by rw[← S.pre];exact S.nd.sublist (List.take_sublist _ _)
  refine⟨u,Z,?_⟩;rcases S.par y (Xj D) with k | k
  ·exact .inl ⟨k,pI X D R k⟩
  ·obtain⟨c,e⟩:=rj (n:=s.heap.objs.size+1) k;refine .inr ⟨.inl k,c,e,?_⟩;have q:=x.cell y c e;rw[pA X D R (by show d.names.lookup y≠_;rw[k];decide)]at q;exact q
 ·exact o.xh.fresh (Z0 (x.above y c (Xd h)))
 ·unfold start;show _=N.length;rw[Zy,Zx,Xp];lia
theorem B4{M:Ll}{P:Program}{w:World}{K:Xf}{J:X9}{h:Heap}{k:Nat}{f:Addr}{l d:Str}{g:Arguments}{i:List Stmt}{a:Scope}{dV kV F Z z ct oc:Value}{an od:Option Addr}{Kc:Array (Wt)}{N G:List Str}{O:Sp}(lk:K.lookup f=some ⟨oc,od,.func (PySem.W.fnOf l d g i a dV kV F Z an z ct),Kc⟩)(Y:PySem.W.codeIn K z d=true)(S:jj N G a)(C:∀j H Q E,O j H Q E->j.length=G.length)(J5:∀(A:Around)(outer:List Env)(s:Shared)(H:Hp)(j:List V)(Q:VK)(E:XK),xa k (A.deeper (envOfC d a s.heap.objs.size f z))->O j H Q E →
   ∃t,Jd (jS M P w K J h N d a f z A outer s H E) i t/\t { nx:=λ_ p=>Q .non p,rt:=Q } (start N j) H) :
  FnOk P w K J h M (k+1) f (PySem.W.fnOf l d g i a dV kV F Z an z ct) G O:=by
 refine⟨C,λA outer s H args us j Q E X D hb r LP=>?_⟩;have hl:=C _ _ _ _ LP;have KX:K.In s.heap:=D.mod.OP.keeps λb o e=>(D.bs b o e).1;have lim:s.heap.NoLimit:=D.mod.nolimit.keeps λb o e=>(D.bs b o e).1;have Jo:∀y∈G.zip us,a.names.lookup y.1=some .local\/(a.names.lookup y.1=some .cell/\((cellsFrom (s.heap.objs.size+1) a.names []).lookup y.1).isSome=true):=λ⟨n,v⟩ hy=>by
  rcases S.par n (List.of_mem_zip hy).1 with q | q
  ·exact .inl q
  ·exact .inr ⟨q,PySem.W.cellsFrom_some _ _ _ (.inl q)⟩
 refine codeAny_call_function X.depth (KX _ _ lk) rfl S.co S.gen rfl (PySem.W.codeRec_of KX Y) (hb _ _ _ _ ?_);refine wpAny_newFunctionEnv_cells S.kind Jo λenv he s1 x=>?_;subst he;refine⟨lim.keeps x.toInCall.keep,codeAny_func ?_⟩;obtain⟨t,ht,hq⟩:=J5 A outer s H j Q E (X.deeper _) LP;have I:Inv (jS M P w K J h N d a f z A outer s H E) [] (start N j) H s1:=vL S X.hd D hl r x;refine YA (ht [] s1 (start N j) H _ I hq) (λfl R B=>?_) λe R B=>B;have fin:∀{L:St}{p:Hp}{v:V}{u:Value},Inv (jS M P w K J h N d a f z A outer s H E) [] L p R->RelV v u->Q v p->CE outer P w H s Q u R :=
  λ{L p v u} m U q=>⟨v,p,m.os,m.bare,m.base,m.xh,U,q⟩
 cases fl with
 |ret u =>
  obtain⟨v,L,p,m,U,q⟩:=B;exact fin m U q
 |next =>
  obtain⟨L,p,m,q⟩:=B;exact fin (v:=V.non) (u:=Value.none) m rfl q
 |brk =>
  obtain⟨_,_,_,q⟩:=B;exact False.elim q
 |cont =>
  obtain⟨_,_,_,q⟩:=B;exact False.elim q
section
variable{X:Cx}{x:Str}{p pos:Pos}{e:Expr}{es:List Expr}{t:TA}{id T:String}{r:List V->Hp->VK->Prop}
noncomputable def Tj(r:List V->Hp->VK->Prop)(t:TA):TE:=λJ H Q=>t J H λa b=>r a b Q
theorem sI(n:dN X (.builtin id) r)(m:Gl X x)(l:X.mg x=none)(i:bootBuiltins x=some (.builtin id))(o:PA X (e :: es) t)(j:x ≠ "__name__" := by decide)(q:K3 x:=by decide)(he:K1 e es X:=by rfl)(b:K2 pos es X:=by rfl):PE X (.Call (.Name x p) (e :: es) [] pos) (Tj r t):=by
 intro a s J H Q I h;refine XH (l7 I m l i ?_ j q);exact PyProof.Rows.callWith_builtin1 (thn (o pos a s J H _ I h) λf s1 ⟨d,v,u,r1,g⟩=>n a s1 J v d f Q u r1 g) he b
theorem wx(n:dN X (.type T) r)(m:Gl X x)(l:X.mg x=none)(i:bootBuiltins x=some (.type T))(o:PA X (e :: es) t)(j:x ≠ "__name__" := by decide)(q:K3 x:=by decide)(he:K1 e es X:=by rfl)(b:K2 pos es X:=by rfl):PE X (.Call (.Name x p) (e :: es) [] pos) (Tj r t):=by
 intro a s J H Q I h;refine XH (l7 I m l i ?_ j q);exact Xn (thn (o pos a s J H _ I h) λf s1 ⟨d,v,u,r1,g⟩=>n a s1 J v d f Q u r1 g) he b
end
end L2
namespace HT
open PySem PyProof.Rows
section
variable{prog:Program}{w:World}{A:Around}{E:Z3}{s:Shared}
noncomputable def HL(n d:Nat):Option Int->Nat
 |none=>d
 |some v=>if v<0 then (v+(n:Int)).toNat else min v.toNat n
end
end HT
namespace L2
open PySem PySem.Spec PyProof.Rows
noncomputable abbrev TO:=St->Hp->(Option Int->Hp->Prop)->Prop
noncomputable def PO(X:Cx)(e:Option Expr)(t:TO):Prop :=
 ∀(a:Yz)(s:Shared)(J:St)(H:Hp)(Q:Option Int->Hp->Prop),Inv X a J H s->t J H Q →
  wpAny (model X.prog X.w) X.A (evalPart e X.env) (λu d=>∃o b,Inv X a J b d/\IsPart u o/\Q o b) X.xe s
noncomputable def Bp:TO:=λ_ H Q=>Q none H
noncomputable def E2(t:TE):TO:=λJ H Q=>t J H λx a=>∃i,x=.int i/\Q (some i) a
section
variable{X:Cx}{e:Expr}{te:TE}{lo hi:Option Expr}{tl th:TO}{pos p2:Pos}
theorem By:PO X none Bp:=by
 intro a s J H Q I h;rw[evalPart_none];exact ZW ⟨none,H,I,.none,h⟩
theorem BM(h:PE X e te):PO X (some e) (E2 te):=by
 intro a s J H Q I hw;rw[evalPart_some];refine thn (h a s J H _ I hw) λu s1 ⟨x,f,d,r1,b⟩=>?_;obtain⟨i,rfl,q⟩:=b;obtain⟨t,rfl⟩:=r1;exact⟨some i,f,d,.int i t,q⟩
noncomputable def M3(X:Cx)(r:V->Option Int->Option Int->Hp->VK->Prop):Prop :=
 ∀(a:Yz)(s:Shared)(J:St)(H:Hp)(x:V)(v d b:Value)(lo hi:Option Int)(f:Addr)(Q:VK),Inv X a J H s->RelV x v->s.heap.IsSliceOf f d b .none->IsPart d lo->IsPart b hi->r x lo hi H Q →
  ∃T id,typeLookup (.type T) "__getitem__" = pure (some (.builtin id))/\s.TypeIs v T/\wpAny (model X.prog X.w) X.A (getItem v (.ref f)) (EP X a J Q) X.xe s
theorem M3.or{r i:V->Option Int->Option Int->Hp->VK->Prop}(h:M3 X r)(m:M3 X i):M3 X (λx lo hi H Q=>r x lo hi H Q\/i x lo hi H Q):=by
 intro a s J H x v d b lo hi f Q I g l j pu q;rcases q with q | q
 ·exact h a s J H x v d b lo hi f Q I g l j pu q
 ·exact m a s J H x v d b lo hi f Q I g l j pu q
noncomputable def Vo(r:V->Option Int->Option Int->Hp->VK->Prop)(d:TE)(a b:TO):TE:=λJ H Q=>d J H λx h=>a J h λl g=>b J g λu f=>r x l u f Q
theorem xp{r:V->Option Int->Option Int->Hp->VK->Prop}(z:M3 X r)(he:PE X e te)(B:PO X lo tl)(t:PO X hi th):PE X (.Subscript e (.Slice lo hi none p2) pos) (Vo r te tl th):=by
 intro a s J H Q I h;refine Subscript_ (thn (he a s J H _ I h) λv s1 ⟨x,M,G,r1,o⟩=>?_);refine wpAny_Slice (thn (B a s1 J M _ G o) λg j ⟨l,L,F,p,n⟩=>thn (t a j J L _ F n) λf d ⟨u,i,E,pu,m⟩=>?_);rw[evalPart_none];refine ZW ?_;have D:Inv X a J i { d with heap:=d.heap.push { cls:=.type "slice",data:=.fields #[g,f,.none] } }:=E.kept (t':=d.toks) λb N q=>Zf _ q;obtain⟨T,id,C,y,hg⟩:=z a { d with heap:=d.heap.push { cls:=.type "slice",data:=.fields #[g,f,.none] } } J i x v g f l u d.heap.objs.size Q D r1 (Heap.IsSliceOf.new ..) p pu m;show wpAny (model X.prog X.w) X.A (subscriptTail e (.Slice lo hi none p2) v (.ref d.heap.objs.size)) (EP X a J Q) X.xe { d with heap:=d.heap.push { cls:=.type "slice",data:=.fields #[g,f,.none] } };exact tail_any (ops:=[.ref d.heap.objs.size,v]) y C hg (by with_unfolding_all rfl)
noncomputable def wF(a:List V)(b d:Option Int):List V:=(a.drop (HT.HL a.length 0 b)).take (HT.HL a.length a.length d-HT.HL a.length 0 b)
theorem sH(a:List V)(b d:Option Int):(wF a b d).length<=a.length:=by
 unfold wF;rw[ZC,Z7];lia
end
noncomputable def Nn(n:Nat)(i:Int):Option Nat:=if 0<=i then (if i<n then some i.toNat else none) else if -(n:Int)<=i then some (i+n).toNat else none
noncomputable def NV{α:Type}(a:List α)(i:Int):Option α:=(Nn a.length i).bind λj=>a[j]?
theorem ve{n:Nat}{i:Int}{j:Nat}(h:Nn n i=some j):seqIndex? i n=some j/\j<n/\-(n:Int)<=i/\i<n:=by
 unfold Nn at h;by_cases b:0<=i
 ·rw[Zs b]at h;by_cases a:i<n
  ·rw[Zs a]at h;have e:i.toNat=j:=Zl h;exact⟨by rw[seqIndex_of b a,e],by lia,by lia,a⟩
  ·rw[Zp a]at h;cases h
 ·rw[Zp b]at h;by_cases a:-(n:Int)<=i
  ·rw[Zs a]at h;have e:(i+n).toNat=j:=Zl h;exact⟨by rw[seqIndex_neg (by lia) a,e],by lia,a,by lia⟩
  ·rw[Zp a]at h;cases h
theorem qK{α:Type}{a:List α}{i:Int}{v:α}(h:NV a i=some v):∃j,seqIndex? i a.length=some j/\a[j]?=some v/\j<a.length/\-(a.length:Int)<=i/\i<a.length:=by
 unfold NV at h;cases e:Nn a.length i with
 |none=>rw[e]at h;cases h
 |some j =>
  rw[e]at h;obtain⟨g,f,d,b⟩:=ve e;exact⟨j,g,h,f,d,b⟩
noncomputable def lB(b:Expr):Prop:=∀o i,subscripted b false o i=operate [o,i] (getItem o i)
noncomputable def K5(X:Cx)(r:HR):Prop :=
 ∀(value slice:Expr)(a:Yz)(s:Shared)(J:St)(H:Hp)(x y:V)(v u:Value)(Q:VK),Inv X a J H s->RelV x v->RelV y u->r x y H Q →
  subscripted slice false v u=operate [v,u] (getItem v u)->wpAny (model X.prog X.w) X.A (subscriptTail value slice v u) (EP X a J Q) X.xe s
noncomputable def Qy(X:Cx)(e:String)(r:V->List V->Hp->VK->Prop):Prop :=
 ∀(a:Yz)(s:Shared)(J:St)(H:Hp)(x:V)(b:List V)(v:Value)(d:Wu)(Q:VK),Inv X a J H s->RelV x v->aV b d->r x b H Q →
  wpAny (model X.prog X.w) X.A (call (.builtin e) (v :: d)) (EP X a J Q) X.xe s
section
variable{X:Cx}{a b:Expr}{ta tb:TE}{pos:Pos}
theorem K5.or{r g:HR}(h:K5 X r)(j:K5 X g):K5 X (λx y H Q=>r x y H Q\/g x y H Q):=by
 intro value slice d s J H x y v u Q I f e q i;rcases q with q | q
 ·exact h value slice d s J H x y v u Q I f e q i
 ·exact j value slice d s J H x y v u Q I f e q i
theorem uT{r:HR}(j:K5 X r)(m:PE X a ta)(l:PE X b tb)(i:lB b):PE X (.Subscript a b pos) (Oy r ta tb):=by
 intro d s J H Q I h;exact Subscript_ (Dh m l I h λv u e x y o n g f q=>j a b d e J o x y v u Q n g f q (i _ _))
noncomputable def EO(K:Xf):HR:=λx y H Q=>∃p d i v,x=.ref p/\y=.int i/\Hc K H p d/\NV d i=some v/\Q v H
noncomputable def Fc(K:Xf):HR:=λx y H Q=>∃p d i v,x=.ref p/\y=.int i/\HX K H p d/\NV d i=some v/\Q v H
noncomputable def Gj:HR:=λx y H Q=>∃z i c,x=.str z/\y=.int i/\z.length<=sizeLine/\NV z.cps.toList i=some c/\Q (.str ⟨#[c]⟩) H
theorem AG:K5 X (EO X.K):=by
 intro value slice d s J H x y v u Q I B A h l;obtain⟨p,N,i,z,rfl,rfl,D,he,q⟩:=h;cases B;obtain⟨t,rfl⟩:=A;obtain⟨C,r,f,O⟩:=I.list D;obtain⟨j,e,L,R,G,F⟩:=qK he;obtain⟨w,n,M⟩:=r.get L;have E:=r.length;have P:=l6;have fin:EP X d J Q w s:=⟨z,H,I,M,q⟩
 by_cases m:0<=i
 ·have g:i.toNat=j:=by
   rw[seqIndex_of m F]at e;exact Zl e
  exact item_listR f.isList m (by lia) (by rw[g];simpa using n) fin l
 ·have g:(i+(C.toArray.size:Int)).toNat=j:=by
   rw[seqIndex_neg (by lia) G]at e;rw[ZJ,← E];exact Zl e
  exact subscriptTail_builtinR (x:=w) f.isList.typeIs slot_list_getitem.lookup
   (wpAny_getItem_list_neg (Q:=λr o=>r=w/\EP X d J Q r o) f.isList (by lia) (by rw[ZJ]<;>lia) (by lia) (by rw[g];simpa using n) ⟨rfl,fin⟩) l
theorem DY:K5 X (Fc X.K):=by
 intro value slice d s J H x y v u Q I l g h m;obtain⟨p,E,i,z,rfl,rfl,n,he,q⟩:=h;cases l;obtain⟨t,rfl⟩:=g;obtain⟨F,r,e,G⟩:=I.tuple n;obtain⟨j,B,A,O,N,M⟩:=qK he;obtain⟨w,C,D⟩:=r.get A;have o:=r.length;have L:=l6;have fin:EP X d J Q w s:=⟨z,H,I,D,q⟩
 exact subscriptTail_builtinR (x:=w) e.typeIs slot_tuple_getitem.lookup
  (getItem_tuple (j:=j) (Q:=λr f=>r=w/\EP X d J Q r f) e (by lia) (by lia) (by rw[ZJ,← o];exact B) (by simpa using C) ⟨rfl,fin⟩) m
theorem Ew:K5 X Gj:=by
 intro value slice d s J H x y v u Q I g f h l;obtain⟨z,i,c,rfl,rfl,w,he,q⟩:=h;obtain⟨t,rfl⟩:=g;obtain⟨r,rfl⟩:=f;obtain⟨j,e,p,B,o,n⟩:=qK he;have m:z.cps.toList.length=z.length:=by simp[Str.length]
 rw[m]at e o n;have A:=l6;exact tail_any (typeIs_str s z t) slot_str_getitem.lookup (getItem_str (c:=c) (by
  have e1:decide (i < -(2 ^ 63:Int))=false:=ZG (by lia);have e2:decide (i ≥ 2 ^ 63)=false:=ZG (by lia);rw[e1,e2,Bool.or_false]) (by rw[e];simpa using p) ⟨.str ⟨#[c]⟩,H,I.tok _,⟨_,rfl⟩,q⟩) l
noncomputable def QL(K:Xf):HR:=λx y H Q=>EO K x y H Q\/Fc K x y H Q\/Gj x y H Q
theorem qD:K5 X (QL X.K):=AG.or (DY.or Ew)
theorem ur(d:Wu)(n j:Nat)(u:Value):Obj.mapSeq (·.setIfInBounds j u) { cls:=.type "list",data:=.seq d.toArray n }={ cls:=.type "list",data:=.seq (d.set j u).toArray n }:=by
 simp[Obj.mapSeq]
theorem Inv.lst{d:Yz}{J:St}{H:Hp}{s:Shared}{p:Addr}{xs:List V}(I:Inv X d J H s)(h:H p=some (.lst xs)) :
  ∃(f:Wu)(n:Nat),aV xs f/\s.heap.get? p=some { cls:=.type "list",data:=.seq f.toArray n }/\xs.length<=sizeLine:=by
 obtain⟨z,f,n,r,e⟩:=I.xh p _ h;exact⟨f,n,r,e,z⟩
theorem Inv.Ni{g:Yz}{J:St}{H:Hp}{s:Shared}{p:Addr}{o i:List V}{l d:Wu}{n j:Nat}{f:Obj->Obj}(I:Inv X g J H s)(h:H p=some (.lst o))(w:s.heap.get? p=some { cls:=.type "list",data:=.seq l.toArray n })(m:f { cls:=.type "list",data:=.seq l.toArray n }={ cls:=.type "list",data:=.seq d.toArray j })(r:aV i d)(v:i.length<=sizeLine)(t:Nat) :
  Inv X g J (upd H p (.lst i)) { s with heap:=s.heap.update p f,toks:=t }:=by
 have e:(s.heap.update p f).get? p=some { cls:=.type "list",data:=.seq d.toArray j }:=by
  rw[Heap.get?_update_self f w (by rw[m]<;>rfl),m]
 refine I.write (x:=p) (e:=p) (by rw[h];trivial) (.inl rfl) (λb u hb q=>(WI _ _ (YF hb)).trans q) ⟨_,e⟩ ?_;exact⟨v,d,j,r,e⟩
noncomputable def Ck:V->V->V->Hp->(Hp->Prop)->Prop:=λo i v H Q=>∃p d k j,o=.ref p/\i=.int k/\H p=some (.lst d)/\Nn d.length k=some j/\Q (upd H p (.lst (d.set j v)))
theorem set_list:Du X Ck:=by
 intro d s J H o i v L iv u Q I D E C h;obtain⟨p,B,k,j,rfl,rfl,w,G,q⟩:=h;cases D;obtain⟨t,rfl⟩:=E;obtain⟨m,n,r,f,F⟩:=I.lst w;obtain⟨e,N,y,x⟩:=ve G;have g:=r.length;have M:=l6;have A:Inv X d J (upd H p (.lst (B.set j v))) { s with heap:=s.heap.update p (Obj.mapSeq (·.setIfInBounds j u)) } :=
  I.Ni w f (ur m n j u) (r.set C j) (by rw[Yb];exact F) s.toks
 by_cases z:0<=k
 ·have l:k.toNat=j:=by
   rw[seqIndex_of z x]at e;exact Zl e
  exact PySem.W.ki_setAt f z (by lia) (by rw[ZJ,← g];exact x) (by rw[l];exact⟨_,A,q⟩)
 ·have l:(k+(m.toArray.size:Int)).toNat=j:=by
   rw[seqIndex_neg (by lia) y]at e;rw[ZJ,← g];exact Zl e
  exact PySem.W.ki_setBack f (by lia) (by rw[ZJ,← g];exact y) (by lia) (by rw[l];exact⟨_,A,q⟩)
theorem p7(d e:Option Int)(n:Nat):(sliceBounds d e none n).1=((HT.HL n 0 d:Nat):Int)/\(sliceBounds d e none n).2.1=((HT.HL n n e:Nat):Int)/\(sliceBounds d e none n).2.2=1:=by
 refine⟨?_,?_,rfl⟩
 ·cases d with
  |none=>simp[sliceBounds,HT.HL]
  |some i =>
   simp only[sliceBounds,HT.HL,Option.getD_none,show (1:Int) > 0 by decide,if_true];by_cases h:i<0
   ·simp only[h,if_true]<;>lia
   ·simp only[h,if_false]<;>lia
 ·cases e with
  |none=>simp[sliceBounds,HT.HL]
  |some i =>
   simp only[sliceBounds,HT.HL,Option.getD_none,show (1:Int) > 0 by decide,if_true];by_cases h:i<0
   ·simp only[h,if_true]<;>lia
   ·simp only[h,if_false]<;>lia
theorem oZ(d:Wu)(e f:Option Int):slicePick d.toArray e f none=((d.drop (HT.HL d.length 0 e)).take (HT.HL d.length d.length f-HT.HL d.length 0 e)).toArray:=by
 obtain⟨i,h,g⟩:=p7 e f d.toArray.size;unfold slicePick;rw[i,h,g];simp only[sliceRange_one,pick_run,ZJ]<;>rfl
noncomputable def Fu(K:Xf):V->Option Int->Option Int->Hp->VK->Prop:=λx lo e H Q=>∃a d,x=.ref a/\Hc K H a d/\∀p,H p=none->Q (.ref p) (upd H p (.lst (wF d lo e)))
theorem Ar:M3 X (Fu X.K):=by
 intro f s J H x v t p lo e u Q I i n j pu h;obtain⟨a,d,rfl,m,q⟩:=h;cases i;obtain⟨w,r,g,l⟩:=I.list m;have hlen:=r.length;refine⟨"list",_,slot_list_getitem.lookup,g.isList.typeIs,?_⟩;refine wpAny_getItem_list_slice g.isList n j pu .none (by simp) ?_ (by rw[ZJ]<;>lia);rw[oZ,← hlen];refine⟨.ref s.heap.objs.size,_,I.laid (t':=s.toks) (o:=.lst (wF d lo e)) (λb y q=>Zf _ q) (Zo _) ?_,rfl,q _ (I.xh.fresh (Zo _))⟩;exact⟨ZE (sH d lo e) l,_,0,(r.drop (HT.HL d.length 0 lo)).take (HT.HL d.length d.length e-HT.HL d.length 0 lo),ZL _ rfl⟩
noncomputable def gr:V->Bool
 |.non=>true
 |.bl _=>true
 |.int _=>true
 |.str _=>true
 |_=>false
noncomputable def LX:V->V->Bool
 |.non,.non=>true
 |.bl a,.bl b=>a==b
 |.bl a,.int b=>(if a then 1 else 0)==b
 |.int a,.bl b=>a==(if b then 1 else 0)
 |.int a,.int b=>a==b
 |.str a,.str b=>a==b
 |_,_=>false
theorem C5{A:Around}{s:Shared}{y x:V}{u v:Value}(f:RelV y u)(d:RelV x v)(h:gr y=true)(g:gr x=true):SeqAt.EqAt A s u v (LX y x):=by
 cases y with
 |non =>
  cases f;cases x with
  |non=>cases d;exact SeqAt.EqAt.same _
  |bl b=>cases d;exact SeqAt.EqAt.none_bool b
  |int b=>obtain⟨t,rfl⟩:=d;exact SeqAt.EqAt.none_int b t
  |str b=>obtain⟨t,rfl⟩:=d;exact SeqAt.EqAt.none_str b t
  |_=>exact absurd (show false=true from g) Zg
 |bl a =>
  cases f;cases x with
  |non=>cases d;exact SeqAt.EqAt.bool_none a
  |bl b=>cases d;exact SeqAt.EqAt.bool_bool a b
  |int b=>obtain⟨t,rfl⟩:=d;exact SeqAt.EqAt.bool_int a b t
  |str b=>obtain⟨t,rfl⟩:=d;exact SeqAt.EqAt.bool_str a b t
  |_=>exact absurd (show false=true from g) Zg
 |int a =>
  obtain⟨e,rfl⟩:=f;cases x with
  |non=>cases d;exact SeqAt.EqAt.int_none a e
  |bl b=>cases d;exact SeqAt.EqAt.int_bool a e b
  |int b=>obtain⟨t,rfl⟩:=d;exact SeqAt.EqAt.int_int a e b t
  |str b=>obtain⟨t,rfl⟩:=d;exact SeqAt.EqAt.int_str a e b t
  |_=>exact absurd (show false=true from g) Zg
 |str a =>
  obtain⟨e,rfl⟩:=f;cases x with
  |non=>cases d;exact SeqAt.EqAt.str_none a e
  |bl b=>cases d;exact SeqAt.EqAt.str_bool a e b
  |int b=>obtain⟨t,rfl⟩:=d;exact SeqAt.EqAt.str_int a e b t
  |str b=>obtain⟨t,rfl⟩:=d;exact SeqAt.EqAt.str_str a e b t
  |_=>exact absurd (show false=true from g) Zg
 |_=>exact absurd (show false=true from h) Zg
noncomputable def Ko(x:V)(u:Value):Bool:=match u with
 |.none=>LX .non x
 |.bool b=>LX (.bl b) x
 |.int i _=>LX (.int i) x
 |.str z _=>LX (.str z) x
 |_=>false
theorem ym{x y:V}{u:Value}(r:RelV y u)(f:gr y=true):Ko x u=LX y x:=by
 cases y with
 |non=>cases r;rfl
 |bl b=>cases r;rfl
 |int i=>obtain⟨t,rfl⟩:=r;rfl
 |str z=>obtain⟨t,rfl⟩:=r;rfl
 |_=>exact absurd (show false=true from f) Zg
theorem k9{x:V}:∀{d:List V}{e:Wu},aV d e->d.all gr=true->e.any (Ko x)=d.any λy=>LX y x
 |_,_,.nil,_=>rfl
 |y :: d,u :: e,.cons r t,f=>by
  rw[Wj,ZS]at f;rw[YH,YH,ym r f.1,k9 t f.2]
theorem jr{A:Around}{s:Shared}{x:V}{v:Value}(h:RelV x v)(i:gr x=true):∀{e:List V}{g:Wu},aV e g->e.all gr=true->∀u∈g,SeqAt.EqAt A s u v (Ko x u)
 |_,_,.nil,_=>λu d=>by cases d
 |y :: e,u :: g,.cons r t,f=>λj d=>by
  rw[Wj,ZS]at f;rcases Zj.mp d with rfl | d
  ·rw[ym r f.1];exact C5 r h f.1 i
  ·exact jr h i t f.2 j d
noncomputable def OU(x:V)(d:List V):Bool:=d.any λy=>LX y x
noncomputable def PF(K:Xf)(e:Bool):HR:=λx y H Q=>∃p d,y=.ref p/\(Hc K H p d\/HX K H p d)/\gr x=true/\d.all gr=true/\Q (.bl (if e then !OU x d else OU x d)) H
theorem vP:OpR X (compareOp .In) (PF X.K false):=by
 intro i s J H x y v u Q I g l h;obtain⟨p,n,rfl,e,j,fs,q⟩:=h;cases l;rcases e with e | e
 ·obtain⟨d,r,f,m⟩:=I.list e;refine SeqAt.in_listAt (Ko x) f.isList (λw hw=>jr g j r fs w (by simpa using hw)) ⟨.bl _,H,I,rfl,?_⟩;rw[show d.toArray.any (Ko x)=d.any (Ko x) by simp,k9 r fs];exact q
 ·obtain⟨d,r,f,m⟩:=I.tuple e;refine SeqAt.in_tupleAt (Ko x) f (λw hw=>jr g j r fs w (by simpa using hw)) ⟨.bl _,H,I,rfl,?_⟩;rw[show d.toArray.any (Ko x)=d.any (Ko x) by simp,k9 r fs];exact q
theorem qA:OpR X (compareOp .NotIn) (PF X.K true):=by
 intro i s J H x y v u Q I g l h;obtain⟨p,n,rfl,e,j,fs,q⟩:=h;cases l;rcases e with e | e
 ·obtain⟨d,r,f,m⟩:=I.list e;refine SeqAt.notIn_listAt (Ko x) f.isList (λw hw=>jr g j r fs w (by simpa using hw)) ⟨.bl _,H,I,rfl,?_⟩;rw[show d.toArray.any (Ko x)=d.any (Ko x) by simp,k9 r fs];exact q
 ·obtain⟨d,r,f,m⟩:=I.tuple e;refine SeqAt.notIn_tupleAt (Ko x) f (λw hw=>jr g j r fs w (by simpa using hw)) ⟨.bl _,H,I,rfl,?_⟩;rw[show d.toArray.any (Ko x)=d.any (Ko x) by simp,k9 r fs];exact q
theorem dN.or{f:Value}{r j:List V->Hp->VK->Prop}(h:dN X f r)(l:dN X f j):dN X f (λe H Q=>r e H Q\/j e H Q):=by
 intro d s J H e g Q I i q;rcases q with q | q
 ·exact h d s J H e g Q I i q
 ·exact l d s J H e g Q I i q
theorem qV:dN X (.type "list") (λA H Q=>∃p g,A=[.ref p]/\(Hc X.K H p g\/HX X.K H p g)/\∀l,H l=none->Q (.ref l) (upd H l (.lst g))):=by
 intro m s J H A D Q I r h;obtain⟨p,g,rfl,v,q⟩:=h;obtain⟨u,rfl,C⟩:=vals1 r;cases C;have fin:∀(f:Wu),aV g f->g.length<=sizeLine->∀(d:Heap)(j:Nat),(∀b B,s.heap.get? b=some B->d.get? b=some B) →
   d.get? s.heap.objs.size=some { cls:=.type "list",dict:=none,data:=.seq f.toArray j,slots:=#[] }->EP X m J Q (.ref s.heap.objs.size) { s with heap:=d }:=λf i t d j kp e =>
  ⟨.ref s.heap.objs.size,_,I.laid (t':=s.toks) kp (Zo _) (show bS X.prog X.w _ d _ (.lst g) from⟨t,f,j,i,e⟩),rfl,q _ (I.xh.fresh (Zo _))⟩
 rcases v with v | v
 ·obtain⟨f,i,x,t⟩:=I.list v;have hlen:=i.length;obtain⟨o,y,z,n,hd⟩:=x.isList;exact call_list_seq p (.inl rfl) y z hd (λd j kp e=>fin f i t d j kp e) (by simp only[ZJ]<;>lia)
 ·obtain⟨f,i,x,t⟩:=I.tuple v;have hlen:=i.length;obtain⟨o,y,z,n,hd⟩:=x;exact call_list_seq p (.inr rfl) y z hd (λd j kp e=>fin f i t d j kp e) (by simp only[ZJ]<;>lia)
theorem oW:dN X (.type "tuple") (λt H Q=>∃p f,t=[.ref p]/\((Hc X.K H p f/\∀l,H l=none->Q (.ref l) (upd H l (.tup f)))\/(HX X.K H p f/\Q (.ref p) H))):=by
 intro d s J H t A Q I r h;obtain⟨p,f,rfl,h⟩:=h;obtain⟨u,rfl,y⟩:=vals1 r;cases y;rcases h with⟨n,q⟩ | ⟨n,q⟩
 ·obtain⟨m,i,j,v⟩:=I.list n;have hlen:=i.length;refine call_tuple_list j.isList (λg kp=>?_) (by simp only[ZJ]<;>lia);have x:Inv X d J H { s with heap:=g }:=I.kept (t':=s.toks) kp;have z:Inv X d J (upd H g.objs.size (.tup f)) { s with heap:=g.push { cls:=.type "tuple",data:=.seq m.toArray } } :=
   x.laid (t':=s.toks) (λb o e=>Zf _ e) (Zo _) (show bS X.prog X.w _ _ _ (.tup f) from⟨v,m,i,Mx.new _ _,IsTup.new _ _⟩)
  exact⟨.ref g.objs.size,_,z,rfl,q _ (x.xh.fresh (Zo _))⟩
 ·obtain⟨m,i,j,v⟩:=I.tuple n;exact call_tuple_same j ⟨.ref p,H,I,rfl,q⟩
noncomputable def tyV(K:Xf)(T:String)(x:V)(H:Hp):Prop:=match x with
 |.str _=>T = "str"
 |.int _=>T = "int"
 |.ref p=>(T = "list" ∧ ∃e,Hc K H p e)\/(T = "tuple" ∧ ∃o,K.lookup p=some o/\o.cls=.type "tuple" ∧ o.dict=none) ∨
   (T = "dict" ∧ ((∃d,H p=some (.dK d))\/∃d,H p=some (.dT d)))\/(T = "set" ∧ ∃S n,H p=some (.set S n))
 |_=>False
theorem Eh{f:Yz}{J:St}{H:Hp}{s:Shared}{T:String}{x:V}{v:Value}(I:Inv X f J H s)(r:RelV x v)(g:tyV X.K T x H) :
  s.TypeIs v T/\∀a,v=.ref a->∃j,s.heap.get? a=some j/\j.dict=none:=by
 cases x with
 |str z =>
  obtain⟨t,rfl⟩:=r;cases (show T = "str" from g);exact⟨typeIs_str s z t,λ_ e=>nomatch e⟩
 |int i =>
  obtain⟨t,rfl⟩:=r;cases (show T = "int" from g);exact⟨typeIs_int s i t,λ_ e=>nomatch e⟩
 |ref p =>
  cases r;rcases g with⟨rfl,u,l⟩ | ⟨rfl,o,d,m,hd⟩ | ⟨rfl,d⟩ | ⟨rfl,S,n,d⟩
  ·obtain⟨w,_,h,_⟩:=I.list l;refine⟨h.isList.typeIs,λa e=>?_⟩;cases e;obtain⟨o,n,e,c,hd,_⟩:=h;exact⟨o,e,hd⟩
  ·refine⟨⟨o,I.IE p o d,m⟩,λa e=>?_⟩;cases e;exact⟨o,I.IE _ o d,hd⟩
  ·have z:∃o,s.heap.get? p=some o/\o.ExactDict:=by
    rcases d with⟨q,d⟩ | ⟨q,d⟩
    ·obtain⟨_,_,_,_,o,_,_,e,ex,_⟩:=I.xh p _ d;exact⟨o,e,ex⟩
    ·obtain⟨_,_,_,_,o,_,_,e,ex,_⟩:=I.xh p _ d;exact⟨o,e,ex⟩
   obtain⟨o,e,ex⟩:=z;refine⟨⟨o,e,ex.1⟩,λa e2=>?_⟩;cases e2;exact⟨o,e,ex.2.1⟩
  ·obtain⟨o,_,_,_,e,ex,_⟩:=I.xh p _ d;refine⟨⟨o,e,ex.1⟩,λa e2=>?_⟩;cases e2;exact⟨o,e,ex.2.1⟩
 |_=>exact False.elim g
noncomputable def VD(K:Xf)(T:String)(r:V->List V->Hp->VK->Prop)(f:TE)(t:TA):TE:=λJ H Q=>f J H λx d=>tyV K T x d/\t J d λe g=>r x e g Q
variable{o e:Expr}{es:List Expr}{to:TE}{t:TA}{name:Str}{apos pe:Pos}{T id:String}{r:V->List V->Hp->VK->Prop}
theorem rN(q:PlainAttrs T)(f:Slot T name id)(C:typeOf (.builtin id)=pure (.type "method_descriptor"))(y:Qy X id r)(w:PE X o to)(z:PA X (e :: es) t)(F:attributeBase o name X.env (eval o X.env)=eval o X.env:=by rfl)(D:((backTo pe (starEach (e :: es) X.env)).all (λx=>!x.1)&&(backToKw pe (keywordEach [] X.env)).all (λx=>x.1.isSome)
   && decide ((e :: es).length+([]:List Keyword).length+(if ([]:List Keyword).isEmpty then 0 else 1)<30))=true:=by rfl)(L:(apos.endLine==pe.line)=true:=by rfl)(u:K1 e es X:=by rfl)(G:K2 pe es X:=by rfl) :
  PE X (.Call (.Attribute o name apos) (e :: es) [] pe) (VD X.K T r to t):=by
 intro d s J H Q I h;refine wpAny_Call_method_late F D L rfl (thn (w d s J H _ I h) λv s1 ⟨x,N,i,r1,ty,p⟩=>?_);obtain⟨B,A⟩:=Eh i r1 ty;refine⟨T,id,q,f,C,B,A,?_⟩;have g:=z pe d s1 J N _ i p;rw[u]at g ⊢;refine Calls.callWith_builtin (by show (false||(backTo pe (starEach es X.env)).any (·.1))=false;rw[G]<;>rfl) (Calls.evalArgs_plain ?_);exact thn g λl m ⟨j,M,E,r2,n⟩=>y d m J M x j v l Q E r1 r2 n
end
noncomputable def MtM(X:Cx)(e:String)(r:V->List V->Hp->VK->Prop):Prop :=
 ∀(a:Yz)(s:Shared)(J:St)(H:Hp)(x:V)(b:List V)(v:Value)(d:Wu)(Q:VK),Inv X a J H s->RelV x v->aV b d->r x b H Q →
  wpAny (model X.prog X.w) X.A (call (.builtin e) (v :: d)) (EP X a J Q) X.xe s
theorem aV.nil_inv{a:Wu}(h:aV [] a):a=[]:=by
 cases h;rfl
theorem aV.cons_inv{x:V}{a:List V}{d:Wu}(h:aV (x :: a) d):∃u b,d=u :: b/\RelV x u/\aV a b:=by
 cases h with
 |cons r t=>exact⟨_,_,rfl,r,t⟩
theorem aV.one{x:V}{a:Wu}(h:aV [x] a):∃u,a=[u]/\RelV x u:=by
 obtain⟨u,vs,rfl,r,t⟩:=h.cons_inv;rw[t.nil_inv];exact⟨_,rfl,r⟩
theorem aV.two{x y:V}{a:Wu}(h:aV [x,y] a):∃u v,a=[u,v]/\RelV x u/\RelV y v:=by
 obtain⟨u,b,rfl,r,t⟩:=h.cons_inv;obtain⟨v,rfl,q⟩:=t.one;exact⟨_,_,rfl,r,q⟩
section
variable{X:Cx}{pins:Yz}{J:St}{H:Hp}{s:Shared}{l b:Addr}{xs ys zs:List V}
theorem Inv.Rn{a its':Wu}{n:Nat}{f:Array Value->Array Value}{d:Nat}(I:Inv X pins J H s)(m:H l=some (.lst xs))(e:s.heap.get? l=some { cls:=.type "list",data:=.seq a.toArray n })(j:f a.toArray=its'.toArray)(h:aV ys its')(g:ys.length<=sizeLine) :
  Inv X pins J (upd H l (.lst ys)) { s with heap:=s.heap.update l (Obj.mapSeq f),toks:=d }:=by
 have q:=PySem.IsL.update e f;rw[j]at q;refine I.write (x:=l) (e:=l) (by rw[m];exact trivial) (.inl rfl) (λo u hb i=>(WI s.heap (Obj.mapSeq f) (YF hb)).trans i) ⟨_,q⟩ ?_;exact⟨g,its',_,h,q⟩
theorem Inv.Ro{a:Wu}{t':Nat}(I:Inv X pins J H s)(e:aV ys a)(d:ys.length<=sizeLine) :
  Inv X pins J (upd H s.heap.objs.size (.lst ys)) { s with heap:=s.heap.push { cls:=.type "list",data:=.seq a.toArray },toks:=t' } :=
 I.laid (λ_ _ q=>Zf _ q) (Zo _) ⟨d,a,0,e,ZL _ rfl⟩
theorem Inv.fresh(I:Inv X pins J H s):H s.heap.objs.size=none:=I.xh.fresh (Zo _)
theorem Inv.Nj(I:Inv X pins J H s)(d:H l=some (.lst xs)):xs.length<=sizeLine/\∃(a:Wu)(n:Nat),aV xs a/\xs.length=a.length/\s.heap.get? l=some { cls:=.type "list",data:=.seq a.toArray n }:=by
 obtain⟨z,a,n,r,e⟩:=I.xh l _ d;exact⟨z,a,n,r,r.length,e⟩
end
section
variable{X:Cx}
noncomputable def qN:V->List V->Hp->VK->Prop:=λx b H Q=>∃l a y,x=.ref l/\b=[y]/\H l=some (.lst a)/\a.length<sizeLine/\Q .non (upd H l (.lst (a++[y])))
theorem iE:MtM X "list.append" qN:=by
 intro a s J H x o v p Q I f g h;obtain⟨l,m,y,rfl,rfl,d,j,q⟩:=h;cases f;obtain⟨u,rfl,i⟩:=g.one;obtain⟨z,b,n,r,t,e⟩:=I.Nj d;refine call_meets F.slot_list_append ⟨_,e,rfl⟩ F.entry_list_append (F.args_list_append_2 _ _) (PySem.list_append l b.toArray n u (by rw[ZJ];lia)) ⟨e,?_⟩;refine⟨.non,_,I.Rn (its':=b++[u]) d e (by simp) (r.append (.cons i .nil)) ?_,rfl,q⟩;rw[Zy,Zc];exact Nat.succ_le_of_lt j
noncomputable def EJ:HR:=λx y H Q=>∃l b d a,x=.ref l/\y=.ref b/\H l=some (.lst d)/\H b=some (.lst a)/\d.length+a.length<=sizeLine/\∀p,H p=none->Q (.ref p) (upd H p (.lst (d++a)))
theorem C8:OpR X (binaryOp .Add) EJ:=by
 intro a s J H x y v u Q I i g h;obtain⟨l,b,w,p,rfl,rfl,j,m,B,q⟩:=h;cases i;cases g;obtain⟨z,d,n,r,C,e⟩:=I.Nj j;obtain⟨t,f,A,r2,D,e2⟩:=I.Nj m;refine PySem.P.add_list e e2 ?_ (by rw[ZJ,ZJ];lia);have o:d.toArray++f.toArray=(d++f).toArray:=by simp
 rw[o];exact⟨.ref _,_,I.Ro (t':=s.toks) (r.append r2) (by rw[Zy];omega),rfl,q _ I.fresh⟩
end
section
variable{prog:Program}{w:World}{A:Around}{E:Z3}{s:Shared}
set_option maxRecDepth 100000 in
end
section
variable{κ:Type}[DecidableEq κ]
noncomputable def cR(b:List (κ×V))(k:κ):Option V:=(b.find? λa=>decide (a.1=k)).map (·.2)
noncomputable def putK(b:List (κ×V))(k:κ)(v:V):List (κ×V) :=
 if (b.any λa=>decide (a.1=k))=true then b.map (λa=>if a.1=k then (a.1,v) else a) else b++[(k,v)]
theorem cL{p:κ×V}{r:List (κ×V)}{k:κ}(e:p.1=k):cR (p :: r) k=some p.2:=by simp[cR,Yy,e]
theorem dq{p:κ×V}{r:List (κ×V)}{k:κ}(e:¬p.1=k):cR (p :: r) k=cR r k:=by simp[cR,Yy,e]
theorem jx(k:κ):∀a:List (κ×V),(a.any λb=>decide (b.1=k))=(cR a k).isSome
 |[]=>rfl
 |p :: r=>by
  rw[YH];by_cases e:p.1=k
  ·simp only[cL e,decide_eq_true e,Bool.true_or,Option.isSome_some]
  ·rw[dq e,ZG e,Bool.false_or];exact jx k r
theorem r6(k j:κ)(y:V):∀d:List (κ×V),cR (d.map λa=>if a.1=k then (a.1,y) else a) j=(cR d j).map λx=>if j=k then y else x
 |[]=>rfl
 |p :: r=>by
  have b:=r6 k j y r;rw[Zm];by_cases h:p.1=k
  ·rw[Zs h];by_cases e:p.1=j
   ·rw[cL (p:=(p.1,y)) e,cL e,Xs,Zs (e.symm.trans h)]
   ·rw[dq (p:=(p.1,y)) e,dq e,b]
  ·rw[Zp h];by_cases e:p.1=j
   ·rw[cL (p:=p) e,cL e,Xs,Zp (λz=>h (e.trans z))]
   ·rw[dq (p:=p) e,dq e,b]
theorem pK(k j:κ)(y:V):∀b:List (κ×V),cR b k=none->cR (b++[(k,y)]) j=if j=k then some y else cR b j
 |[],_=>by
  by_cases e:k=j
  ·rw[Zs e.symm];exact cL (p:=(k,y)) e
  ·rw[Zp (λz=>e z.symm)];exact dq (p:=(k,y)) e
 |p :: r,a=>by
  rw[XA];have d:¬p.1=k:=λz=>by rw[cL z]at a;cases a
  rw[dq d]at a;have f:=pK k j y r a;by_cases e:p.1=j
  ·rw[cL e,cL e,Zp (λz=>d (e.trans z))]
  ·rw[dq e,dq e,f]
theorem zv(b:List (κ×V))(k j:κ)(y:V):cR (putK b k y) j=if j=k then some y else cR b j:=by
 unfold putK;by_cases a:(b.any λd=>decide (d.1=k))=true
 ·rw[Zs a,r6];rw[jx]at a;by_cases e:j=k
  ·obtain⟨x,f⟩:=Yl.mp a;rw[Zs e,e,f,Xs,Zs rfl]
  ·rw[Zp e];cases cR b j with
   |none=>rfl
   |some x=>rw[Xs,Zp e]
 ·rw[Zp a];refine pK k j y b ?_;rw[jx]at a;cases q:cR b k with
  |none=>rfl
  |some x=>rw[q]at a;exact(a rfl).elim
theorem fP(a:List (κ×V))(k:κ)(v:V):(putK a k v).length<=a.length+1:=by
 unfold putK;split
 ·rw[Zx];exact Z1 _ _
 ·rw[Zy,Zk,YM];exact Zo _
theorem je.HB{o:Option V}{u:Wt}(r:je o u):o.isSome=u.isSome:=by
 cases o with
 |none=>cases u with
  |none=>rfl
  |some _=>exact(show False from r).elim
 |some _=>cases u with
  |none=>exact(show False from r).elim
  |some _=>rfl
theorem je.getD{o:Option V}{u:Wt}{d:V}{a:Value}(r:je o u)(b:RelV d a):RelV (o.getD d) (u.getD a):=by
 cases o with
 |none=>cases u with
  |none=>exact b
  |some _=>exact(show False from r).elim
 |some _=>cases u with
  |none=>exact(show False from r).elim
  |some _=>exact r
theorem KV.val{i:List (κ×V)}{f:List (κ×Value)}(r:KV i f)(k:κ):je (cR i k) (valueAt f k):=by
 unfold KV at r
 induction r with
 |nil=>exact True.intro
 |@cons p q m a h t j =>
  obtain⟨g,l⟩:=h;by_cases e:p.1=k
  ·have d:q.1=k:=g.symm.trans e;have b:valueAt (q :: a) k=some q.2:=by simp[valueAt,Yy,d]
   rw[cL e,b];exact l
  ·have d:¬q.1=k:=λz=>e (g.trans z);have b:valueAt (q :: a) k=valueAt a k:=by simp[valueAt,Yy,d]
   rw[dq e,b];exact j
theorem KV.any{d:List (κ×V)}{b:List (κ×Value)}(r:KV d b)(k:κ):(d.any λa=>decide (a.1=k))=b.any λa=>decide (a.1=k):=by
 unfold KV at r
 induction r with
 |nil=>rfl
 |cons h t e=>rw[YH,YH,e,h.1]
theorem KV.Nc{f:List (κ×V)}{d:List (κ×Value)}(r:KV f d)(k:κ){y:V}{u:Value}(g:RelV y u) :
  KV (f.map λa=>if a.1=k then (a.1,y) else a) (d.map λa=>if a.1=k then (a.1,u) else a):=by
 unfold KV at r ⊢
 induction r with
 |nil=>exact .nil
 |@cons p q m l h t i =>
  rw[Zm,Zm];refine .cons ?_ i;obtain⟨b,j⟩:=h;by_cases e:p.1=k
  ·rw[Zs e,Zs (b.symm.trans e)];exact⟨b,g⟩
  ·rw[Zp e,Zp (λz=>e (b.trans z))];exact⟨b,j⟩
theorem KV.put{d:List (κ×V)}{a:List (κ×Value)}(r:KV d a)(k:κ){y:V}{u:Value}(b:RelV y u):KV (putK d k y) (stored a k u):=by
 unfold putK stored;rw[r.any k];by_cases e:(a.any λf=>decide (f.1=k))=true
 ·rw[Zs e,Zs e];exact r.Nc k b
 ·rw[Zp e,Zp e];exact Paired.snoc r ⟨rfl,b⟩
theorem KV.keys{b:List (κ×V)}{a:List (κ×Value)}(r:KV b a):b.map (·.1)=a.map (·.1):=by
 unfold KV at r
 induction r with
 |nil=>rfl
 |cons h t d=>rw[Zm,Zm,d,h.1]
theorem KV.length{b:List (κ×V)}{a:List (κ×Value)}(r:KV b a):b.length=a.length:=XR r
end
theorem kD{P:Program}{w:World}{k:Key}{u:Value}(r:RelV (kV k) u):(aU P w).is k u=true:=by
 cases k with
 |inl i=>obtain⟨t,e⟩:=(show ∃t,u=Value.int i t from r);subst e;exact r9 P w i t
 |inr x=>obtain⟨t,e⟩:=(show ∃t,u=Value.str x t from r);subst e;exact tq P w x t
theorem pz{P:Program}{w:World}:∀{a:List Key}{b:Wu},aV (a.map kV) b->ItemsAre (aU P w) a b
 |[],_,r=>by rw[WZ]at r;cases r;exact .nil
 |k :: a,_,r=>by
  rw[Zm]at r;cases r with
  |cons h t=>exact .cons (kD h) (pz t)
noncomputable abbrev KT(H:Hp):List (List Key×V)->List (List Key×Addr×Value)->Prop:=Paired λp q=>p.1=q.1/\H q.2.1=some (.tup (p.1.map kV))/\RelV p.2 q.2.2
theorem KT.val{H:Hp}{i:List (List Key×V)}{f:List (List Key×Addr×Value)}(r:KT H i f)(k:List Key):je (cR i k) ((atKey f k).map (·.2)):=by
 induction r with
 |nil=>exact True.intro
 |@cons p q m a h t j =>
  obtain⟨g,_,l⟩:=h;by_cases e:p.1=k
  ·have d:q.1=k:=g.symm.trans e;have b:atKey (q :: a) k=some q.2:=by simp[atKey,Yy,d]
   rw[cL e,b];exact l
  ·have d:¬q.1=k:=λz=>e (g.trans z);have b:atKey (q :: a) k=atKey a k:=by simp[atKey,Yy,d]
   rw[dq e,b];exact j
theorem KT.Nc{H:Hp}{g:List (List Key×V)}{d:List (List Key×Addr×Value)}(r:KT H g d)(k:List Key){y:V}{u:Value}(i:RelV y u) :
  KT H (g.map λb=>if b.1=k then (b.1,y) else b) (d.map (putAt k u)):=by
 induction r with
 |nil=>exact .nil
 |@cons p q n m h t j =>
  rw[Zm,Zm];refine .cons ?_ j;obtain⟨a,f,l⟩:=h;unfold putAt;by_cases e:p.1=k
  ·rw[Zs e,Zs (a.symm.trans e)];exact⟨a,f,i⟩
  ·rw[Zp e,Zp (λz=>e (a.trans z))];exact⟨a,f,l⟩
theorem KT.put{H:Hp}{d:List (List Key×V)}{a:List (List Key×Addr×Value)}(r:KT H d a)(k:List Key){b:Addr}{y:V}{u:Value}(h:H b=some (.tup (k.map kV)))(f:RelV y u) :
  KT H (putK d k y) (storedH a k b u):=by
 have e:(d.any λg=>decide (g.1=k))=(atKey a k).isSome:=by
  rw[jx,(r.val k).HB,Y3]
 unfold putK storedH;rw[e];by_cases q:(atKey a k).isSome=true
 ·rw[Zs q,Zs q];exact r.Nc k f
 ·rw[Zp q,Zp q];exact Paired.snoc r ⟨rfl,h,f⟩
theorem KT.keeps{H f:Hp}{e:List (List Key×V)}{d:List (List Key×Addr×Value)}(r:KT H e d)(g:∀b a,H b=some (.tup a)->f b=some (.tup a)):KT f e d :=
 Paired.Ml r λ_ _ z=>⟨z.1,g _ _ z.2.1,z.2.2⟩
section
variable{P:Program}{w:World}{H:Hp}{h:Heap}{a:Addr}
theorem Cn{u:HO}(b:Ic P w H h)(e:Rd H a u):bS P w H h a u:=e.ok b
theorem mG{b:List (Key×V)}(f:Ic P w H h)(e:Rd H a (.dK b)):b.length<=sizeLine/\(a==sysModules)=false/\∃d,KV b d/\h.DictOf (aU P w) a d :=
 show bS P w H h a (.dK b) from Cn f e
theorem oo{b:List (Key×V)}(f:Ic P w H h)(e:H a=some (.dK b)):b.length<=sizeLine/\(a==sysModules)=false/\∃d,KV b d/\h.DictOf (aU P w) a d:=mG f (.inl e)
theorem dP{b:List Key}(d:Ic P w H h)(e:H a=some (.tup (b.map kV))):(tupleKind (aU P w)).is h b a:=by
 obtain⟨_,f,r,_,o,j,i,n,g⟩:=(show bS P w H h a (.tup (b.map kV)) from d a _ e)
 exact⟨o,f.toArray,n,j,i,g,by simpa using pz r⟩
theorem oJ{f:List (List Key×V)}(g:Ic P w H h)(e:Rd H a (.dT f)):f.length<=sizeLine/\(a==sysModules)=false ∧
  ∃d,KT H f d/\h.DictOfH (tupleKind (aU P w)) a d:=by
 obtain⟨z,y,d,r,o,B,C,A,v,u,s,n⟩:=(show bS P w H h a (.dT f) from Cn g e)
 refine⟨z,y,d,r,o,B,C,A,v,u,s,λx b=>?_,n⟩;have all:∀{l:List (List Key×V)}{m:List (List Key×Addr×Value)},KT H l m->∀x∈m,(tupleKind (aU P w)).is h x.1 x.2.1:=by
  intro l m q
  induction q with
  |nil=>intro x b;exact nomatch b
  |@cons p q E D i t j =>
   intro x b;rcases Zj.mp b with e | b
   ·subst e;exact dP g (by rw[← i.1];exact i.2.1)
   ·exact j x b
 exact all r x b
theorem Fm{b:List (List Key×V)}(f:Ic P w H h)(e:H a=some (.dT b)):b.length<=sizeLine/\(a==sysModules)=false ∧
  ∃d,KT H b d/\h.DictOfH (tupleKind (aU P w)) a d:=oJ f (.inl e)
end
noncomputable def iJ(H:Hp)(a:Addr)(y:V)(r:Option V):Prop :=
 (∃d k,Rd H a (.dK d)/\y=kV k/\r=cR d k)\/∃d k b,Rd H a (.dT d)/\y=.ref b/\H b=some (.tup (k.map kV))/\r=cR d k
noncomputable def uu(H:Hp)(a:Addr)(y v:V)(e:Hp):Prop :=
 (∃d k,H a=some (.dK d)/\y=kV k/\d.length<sizeLine/\e=upd H a (.dK (putK d k v))) ∨
 ∃d k b,H a=some (.dT d)/\y=.ref b/\H b=some (.tup (k.map kV))/\d.length<sizeLine/\e=upd H a (.dT (putK d k v))
theorem iJ.k{H:Hp}{a:Addr}{b:List (Key×V)}{k:Key}(e:H a=some (.dK b)):iJ H a (kV k) (cR b k):=.inl ⟨b,k,.inl e,rfl,rfl⟩
theorem uu.k{H:Hp}{a:Addr}{b:List (Key×V)}{k:Key}{v:V}(e:H a=some (.dK b))(d:b.length<sizeLine):uu H a (kV k) v (upd H a (.dK (putK b k v))):=.inl ⟨b,k,e,rfl,d,rfl⟩
section
variable{X:Cx}{pins:Yz}{J:St}{H:Hp}{s:Shared}{a:Addr}{y v:V}{u r:Value}{o:Option V}{A:Around}{E:Z3}
theorem Inv.big(I:Inv X pins J H s):sysModules<s.heap.objs.size:=by
 have h:mainGlobals<s.heap.objs.size:=(I.mod.glob.keeps I.bk).lt;exact Wc (by decide) h
theorem wM{Q:Z3}(x:A.units+1<cLine)(I:Inv X pins J H s)(g:iJ H a y (some v))(n:RelV y u)(h:∀d m,Inv X pins J H m->RelV v d->Q d m) :
  wpAny (model X.prog X.w) A (getItem (.ref a) u) Q E s:=by
 rcases g with⟨D,k,e,f,l⟩ | ⟨D,k,b,e,f,C,l⟩
 ·subst f;obtain⟨z,hd,t,rel,i⟩:=mG I.xh e;obtain⟨d,hw,j⟩:=je.some_of (v:=v) (o:=valueAt t k) (by rw[l];exact rel.val k);exact wpAny_getItem_of (kD n) i.mapOf hw (h d _ (I.tok _) j)
 ·subst f;cases (show u=Value.ref b from n);obtain⟨z,hd,q,rel,i⟩:=oJ I.xh e;obtain⟨d,hw,j⟩:=je.some_of (v:=v) (o:=(atKey q k).map (·.2)) (by rw[l];exact rel.val k);obtain⟨p,B,F⟩:=Zu.mp hw;refine wpAny_getItem_heap (XG x) (dP I.xh C) i B ?_;rw[F];exact h d _ (I.tok _) j
theorem GK{Q:Z3}(m:A.units+1<cLine)(I:Inv X pins J H s)(g:iJ H a y o)(j:RelV y u)(h:∀i,Inv X pins J H i->Q (.bool o.isSome) i) :
  wpAny (model X.prog X.w) A (compareOp .In u (.ref a)) Q E s:=by
 rcases g with⟨p,k,e,d,l⟩ | ⟨p,k,b,e,d,n,l⟩
 ·subst d;obtain⟨z,hd,x,rel,f⟩:=mG I.xh e;refine wpAny_in_of (kD j) hd f.mapOf ?_;rw[← (rel.val k).HB,← l];exact h _ (I.tok _)
 ·subst d;cases (show u=Value.ref b from j);obtain⟨z,hd,t,rel,f⟩:=oJ I.xh e;refine wpAny_in_heap (XG m) (dP I.xh n) hd f ?_;have q:=(rel.val k).HB;rw[Y3]at q;rw[← q,← l];exact h _ (I.tok _)
theorem Af{Q:Z3}(m:A.units+1<cLine)(I:Inv X pins J H s)(g:iJ H a y o)(j:RelV y u)(h:∀i,Inv X pins J H i->Q (.bool (!o.isSome)) i) :
  wpAny (model X.prog X.w) A (compareOp .NotIn u (.ref a)) Q E s:=by
 rcases g with⟨p,k,e,d,l⟩ | ⟨p,k,b,e,d,n,l⟩
 ·subst d;obtain⟨z,hd,x,rel,f⟩:=mG I.xh e;refine wpAny_notIn_of (kD j) hd f.mapOf ?_;rw[← (rel.val k).HB,← l];exact h _ (I.tok _)
 ·subst d;cases (show u=Value.ref b from j);obtain⟨z,hd,t,rel,f⟩:=oJ I.xh e;refine wpAny_notIn_heap (XG m) (dP I.xh n) hd f ?_;have q:=(rel.val k).HB;rw[Y3]at q;rw[← q,← l];exact h _ (I.tok _)
theorem kI{d:Heap}{t':Nat}{f:HO}(I:Inv X pins J H s)(h:G4 (H a))(i:Heap.SameBut a s.heap d)(he:∃q,d.get? a=some q)(g:bS X.prog X.w (upd H a f) d a f) :
  Inv X pins J (upd H a f) { s with heap:=d,toks:=t' } :=
 I.write (x:=a) (e:=a) h (.inl rfl) (λb q hb z=>(i.2 b hb).trans z) he g
theorem nF{P:Program}{w:World}{i:Hp}{f:Heap}{e:List (Key×V)}{b:List (Key×Value)}(z:e.length<=sizeLine)(g:(a==sysModules)=false)(d:KV e b)(h:f.DictOf (aU P w) a b) :
  bS P w i f a (.dK e):=⟨z,g,b,d,h⟩
theorem v7{M:Hp}{Q:Unit->Shared->Prop}(P:A.units+1<cLine)(I:Inv X pins J H s)(g:uu H a y v M)(C:RelV y u)(D:RelV v r)(h:∀B,Inv X pins J M B->Q () B) :
  wpAny (model X.prog X.w) A (setItem (.ref a) u r) Q E s:=by
 rcases g with⟨d,k,e,p,l,t⟩ | ⟨d,k,b,e,p,L,l,t⟩
 ·subst p t;obtain⟨z,hd,O,rel,x⟩:=oo I.xh e;have j:O.length<=sizeLine:=by rw[← rel.length];exact z
  have n:(putK d k v).length<=sizeLine:=by have:=fP d k v;lia
  refine wpAny_setItem_pairs (hsz:=j) (kD C) x λF i m=>h _ ?_;have he:∃q,F.get? a=some q:=let ⟨q,_,_,f,_⟩:=i;⟨q,f⟩
  exact kI I (by rw[e];exact True.intro) m he (nF n hd (rel.put k D) i)
 ·subst p t;cases (show u=Value.ref b from C);obtain⟨z,hd,N,rel,x⟩:=Fm I.xh e;have j:N.length<=sizeLine:=by rw[← XR rel];exact z
  have n:(putK d k v).length<=sizeLine:=by have:=fP d k v;lia
  refine wpAny_setItem_heap (hsz:=j) (XG P) (dP I.xh L) x λF i m=>h _ ?_;obtain⟨q,Z,ep,f,Y,U,S,_,R⟩:=i;refine kI I (by rw[e];exact True.intro) m ⟨q,f⟩ ⟨n,hd,_,(rel.put k L D).keeps λc ys G=>?_,q,Z,ep,f,Y,U,S,R⟩;rw[aE (FH G e (λz=>nomatch z))];exact G
end
section
variable{X:Cx}{pins:Yz}{J:St}{H:Hp}{s:Shared}{a:Addr}{cg:List (Key×V)}{k:Key}{u:Value}{A:Around}{E:Z3}
theorem FN{Q:Z3}(I:Inv X pins J H s)(e:Rd H a (.dK cg))(h:∀t b,Inv X pins J H b->Q (.int cg.length t) b):wpAny (model X.prog X.w) A (call (.builtin "len") [.ref a]) Q E s:=by
 obtain⟨z,hd,f,rel,d⟩:=mG I.xh e;refine call_len_dict hd d (by rw[← rel.length];rw[XF]at z;lia) ?_;rw[← rel.length];exact h _ _ (I.tok _)
end
theorem sC{X:Cx}{d:Yz}{J:St}{H:Hp}{s:Shared}{a:Addr}{y:V}{o:Option V}(I:Inv X d J H s)(g:iJ H a y o):s.TypeIs (.ref a) "dict" := by
 rcases g with⟨h,k,e,_,_⟩ | ⟨h,k,b,e,_,_,_⟩
 ·obtain⟨_,_,j,_,f⟩:=mG I.xh e;exact f.typeIs
 ·obtain⟨_,_,i,_,f⟩:=oJ I.xh e;exact f.typeIs
theorem tj{P:Program}{w:World}{H:Hp}(h:Heap)(a:sysModules<h.objs.size):bS P w H (h.push { cls:=.type "dict",data:=.dict #[] }) h.objs.size (.dK []) :=
 ⟨ZR _,beq_eq_false_iff_ne.mpr (YF (Zb a)),[],.nil,Heap.DictOf.new h⟩
noncomputable def DJ:TE:=λ_ H Q=>∀p,H p=none->Q (.ref p) (upd H p (.dK []))
section
variable{X:Cx}{pos:Pos}
theorem yi:PE X (.Dict [] [] pos) DJ:=λb s J H Q I h =>
 wpAny_Dict_empty ⟨.ref s.heap.objs.size,_,I.laid (a:=s.heap.objs.size) (o:=.dK []) (t':=s.toks) (λ_ _ q=>Zf _ q) (Zo _) (tj s.heap I.big),rfl,h _ (I.xh.fresh (Zo _))⟩
end
noncomputable def uz:List (TE×TE)->St->Hp->(List (V×V)->Hp->Prop)->Prop
 |[],_,H,Q=>Q [] H
 | (b,a) :: r,J,H,Q=>b J H λx g=>a J g λy f=>uz r J f λd e=>Q ((x,y) :: d) e
noncomputable abbrev VV:List (V×V)->List (Value×Value)->Prop:=Paired λp q=>RelV p.1 q.1/\RelV p.2 q.2
noncomputable def PPs(X:Cx)(e:Pos)(d:List (Option Expr))(a:List Expr)(j:List (TE×TE)):Prop :=
 ∀(b:Yz)(s:Shared)(J:St)(H:Hp)(Q:List (V×V)->Hp->Prop),Inv X b J H s->uz j J H Q →
  wpAny (model X.prog X.w) X.A (evalPairs (pairTrees d a X.env e)) (λh i=>∃f g,Inv X b J g i/\VV f h/\Q f g) X.xe s
theorem uY{X:Cx}{a:Pos}:PPs X a [] [] []:=λb s J H Q I h=>pairTrees_nil_walk ⟨[],H,I,.nil,h⟩
theorem rM{X:Cx}{b:Pos}{k v:Expr}{g:List (Option Expr)}{d:List Expr}{f e:TE}{i:List (TE×TE)}(w:PE X k f)(r:PE X v e)(t:PPs X b g d i) :
  PPs X b (some k :: g) (v :: d) ((f,e) :: i):=λa s J H Q I h =>
 pairTrees_cons_walk (thn (w a s J H _ I h) λu s1 ⟨x,E,B,m,p⟩=>thn (r a s1 J E _ B p) λF j ⟨y,D,A,l,o⟩ =>
  thn (t a j J D _ A o) λws G ⟨q,C,z,rel,n⟩=>⟨(x,y) :: q,C,z,.cons ⟨m,l⟩ rel,n⟩)
noncomputable def lV(d a:List (Key×V)):List (Key×V):=a.foldl (λacc b=>putK acc b.1 b.2) d
theorem KV.merge:∀{more:List (Key×V)}{d:List (Key×Value)}{b:List (Key×V)}{a:List (Key×Value)},KV more d->KV b a->KV (lV b more) (merged a d):=by
 intro more d b a r;unfold KV at r
 induction r generalizing b a with
 |nil=>intro q;exact q
 |@cons p q j i h t g =>
  intro f;have e:KV (putK b p.1 p.2) (stored a q.1 q.2):=by
   have:=f.put p.1 h.2;rw[← h.1];exact this
  exact g e
theorem jZ:∀(more a:List (Key×V)),(lV a more).length<=a.length+more.length
 |[],a=>by show a.length<=a.length+0;exact Z1 _ _
 |p :: r,a=>by
  have d:=jZ r (putK a p.1 p.2);have b:=fP a p.1 p.2;show (lV (putK a p.1 p.2) r).length<=_;rw[Zk];lia
theorem oE{P:Program}{w:World}:∀{e:List (Key×V)}{ws:List (Value×Value)},VV (e.map λf=>(kV f.1,f.2)) ws->∃d,Carries (aU P w) ws d/\KV e d
 |[],_,r=>by rw[WZ]at r;cases r;exact⟨[],True.intro,.nil⟩
 |p :: e,_,r=>by
  rw[Zm]at r;cases r with
  |@cons a b j bs h t =>
   obtain⟨d,c,q⟩:=oE (P:=P) (w:=w) t;obtain⟨i,g⟩:=b;exact⟨(p.1,g) :: d,⟨kD h.1,rfl,c⟩,.cons ⟨rfl,h.2⟩ q⟩
noncomputable def EY(f:List (TE×TE)):TE:=λJ H Q=>∀p,H p=none->uz f J (upd H p (.dK [])) λe d=>d p=some (.dK [])/\∃a:List (Key×V),e=a.map (λb=>(kV b.1,b.2))/\a.length<=15/\Q (.ref p) (upd d p (.dK (lV [] a)))
theorem vq{X:Cx}{f:Pos}{b:List (Option Expr)}{d:List Expr}{l:List (TE×TE)}(h:PPs X f b d l)(L:b.all (·.isSome)=true)(C:b.length=d.length)(E:b≠[])(i:b.length<=15):PE X (.Dict b d f) (EY l):=by
 intro g s J H Q I q;have B:=I.xh.fresh (Zo s.heap.objs.size);have M:=I.laid (a:=s.heap.objs.size) (o:=.dK []) (h':=s.heap.push { cls:=.type "dict",data:=.dict #[] }) (t':=s.toks) (λ_ _ q=>Zf _ q) (Zo _) (tj s.heap I.big);refine wpAny_Dict_walk (knd:=aU X.prog X.w) L C E i (thn (h g _ J _ _ M (q _ B)) λws N ⟨O,R,n,rel,e,j,F,lk,v⟩=>?_);subst F;obtain⟨r,c,t⟩:=oE (P:=X.prog) (w:=X.w) rel;obtain⟨z,hd,p,u,G⟩:=oo n.xh e;cases u;refine⟨r,c,G,λh' m y=>⟨.ref s.heap.objs.size,_,?_,rfl,v⟩⟩;have x:(lV [] j).length<=sizeLine:=by
  have D:=jZ j [];rw[YM]at D;rw[XF];lia
 have he:∃q,h'.get? s.heap.objs.size=some q:=let ⟨q,_,_,A,_⟩:=m;⟨q,A⟩
 exact kI n (by rw[e];exact True.intro) y he (nF x hd (t.merge .nil) m)
structure M1(X:Cx)(o:Expr)(m:Str)(apos:Pos)(e:Expr)(pe:Pos):Prop where
 base:attributeBase o m X.env (eval o X.env)=eval o X.env
 Qs:((backTo pe (starEach [e] X.env)).all (λx=>!x.1)&&(backToKw pe (keywordEach [] X.env)).all (λx=>x.1.isSome)
  && decide (([e]:List Expr).length+([]:List Keyword).length+(if ([]:List Keyword).isEmpty then 0 else 1)<30))=true
 line:(apos.endLine==pe.line)=true
 trees:backTo pe (starEach [e] X.env)=[(false,eval e X.env)]
noncomputable def U8(H:Hp)(a:Addr):Prop:=(∃b,Rd H a (.dK b))\/∃b,Rd H a (.dT b)
theorem Eo{X:Cx}{g:Yz}{J:St}{H:Hp}{s:Shared}{a:Addr}(I:Inv X g J H s)(d:U8 H a) :
  s.TypeIs (.ref a) "dict" ∧ (∀b,Value.ref a=.ref b->∃f,s.heap.get? b=some f/\f.dict=none)/\(a==sysModules)=false:=by
 rcases d with⟨l,e⟩ | ⟨l,e⟩
 ·obtain⟨_,hd,n,_,h⟩:=mG I.xh e;refine⟨h.typeIs,λb q=>?_,hd⟩;cases q;obtain⟨f,_,_,j,i,_⟩:=h;exact⟨f,j,i.2.1⟩
 ·obtain⟨_,hd,m,_,h⟩:=oJ I.xh e;refine⟨h.typeIs,λb q=>?_,hd⟩;cases q;obtain⟨f,_,_,j,i,_⟩:=h;exact⟨f,j,i.2.1⟩
section
variable{X:Cx}{pins:Yz}{J:St}{H:Hp}{s:Shared}{a:Addr}{y d:V}{u r:Value}{o:Option V}{A:Around}{E:Z3}
theorem C4{Q:Z3}(q:A.units+1<cLine)(I:Inv X pins J H s)(g:iJ H a y o)(n:RelV y u)(h:∀j m,Inv X pins J H m->RelV (o.getD .non) j->Q j m) :
  wpAny (model X.prog X.w) A (call (.builtin "dict.get") [.ref a,u]) Q E s:=by
 rcases g with⟨v,k,e,i,l⟩ | ⟨v,k,b,e,i,t,l⟩
 ·subst i;obtain⟨z,hd,x,rel,f⟩:=mG I.xh e;refine call_meetsIn WV f.typeIs PySem.F.entry_dict_get (PySem.F.args_dict_get_2 _ _) (meets_dict_get (aU X.prog X.w) a (kD n) hd) ⟨_,f.mapOf,h _ _ (I.tok _) ?_⟩;rw[l];exact(rel.val k).getD rfl
 ·subst i;cases (show u=Value.ref b from n);obtain⟨z,hd,p,rel,f⟩:=oJ I.xh e;refine call_meetsIn WV f.typeIs PySem.F.entry_dict_get (PySem.F.args_dict_get_2 _ _) (meetsH_dict_get (tupleKind (aU X.prog X.w)) a b hd) ⟨XG q,k,p,dP I.xh t,f,h _ _ (I.tok _) ?_⟩;rw[l];exact(rel.val k).getD rfl
end
noncomputable def Em(f e:TE):TE:=λJ H Q=>f J H λx d=>∃a,x=.ref a/\U8 d a/\e J d λy b=>∃o,iJ b a y o/\Q (o.getD .non) b
section
variable{X:Cx}{o e f:Expr}{apos pe:Pos}{td ty tx:TE}
theorem yU(t:X.A.units+1<cLine)(v:PE X o td)(he:PE X e ty)(m:M1 X o "get" apos e pe):PE X (.Call (.Attribute o "get" apos) [e] [] pe) (Em td ty):=by
 intro b s J H Q I h;refine wpAny_Call_method m.base m.Qs m.line PySem.F.plainAttrs_dict WV PySem.F.type_dict_get (thn (v b s J H _ I h) λu s1 ⟨x,D,i,p,a,ex,d,r⟩=>?_);subst ex;obtain rfl:u=Value.ref a:=p;obtain⟨l,j,_⟩:=Eo i d;refine⟨l,j,?_⟩;rw[m.trees];refine Calls.callWith_builtin rfl (Calls.evalArgs_plain (Calls.spliced_cons (thn (he b s1 J D _ i r) λiv L ⟨y,C,B,n,M,g,q⟩=>Calls.spliced_nil ?_)));exact C4 t B g n λE G z w=>⟨_,C,z,w,q⟩
end
end L2
namespace Vd
open PySem PySem.W PySem.Calls PyProof.Rows
theorem mS{P:Params}{h:Heap}:∀(ns:Vu)(d:Wu),WellAll P h d (ns.map WData.int)->IntsAre d ns:=by
 intro ns
 induction ns with
 |nil =>
  intro d w;rw[WZ]at w;cases w;exact .nil
 |cons n ns e =>
  intro d w;rw[Zm]at w;cases w with
  |cons a b =>
   cases a;exact .cons _ _ (e _ b)
theorem wj{l:OpenLaw}{n:Nat}(w:l.most=some n){P:Params}{h:Heap}{b:List WData}{e:Wu}(f:l.row.toRowW.claim.pre b=true)(j:WellAll P h e b) :
  ∃a o ns,e=[Value.ref a]/\b=[WData.list (ns.map WData.int)]/\h.get? a=some { cls:=.type "list",data:=.seq o.toArray }/\IntsAre o ns/\ns.length<=n:=by
 have m:WShape.hasAll [] b [.list .int]=true:=(pre_splitW f).1;have p:l.pre.holds [] { args:=b }=true:=(pre_splitW f).2;obtain⟨d,r,rfl,z,y⟩:=hasAllW_cons m;obtain rfl:=hasAllW_nil y;obtain⟨B,rfl,x⟩:=hasW_list z;obtain⟨ns,rfl⟩:=items_int x;have hlen:ns.length<=n:=by
  unfold OpenLaw.pre at p;have i:(WTm.not (.lt (.lit (.int (n:Int))) (.len (.arg 0)))).holds [] { args:=[.list (ns.map .int)] }=true:=by
   have i:=(holds_andW p).1;rw[w]at i;exact i
  have g:=condW_of i (w_not (w_lt w_lit (w_len_list (w_arg rfl))));rw[Zx]at g;refine Yu λq=>?_;have u:(n:Int)<((ns.length:Nat):Int):=by omega
  first
   | (rw[decide_eq_true u]at g;exact absurd g (by decide))
   | (simp at g;omega)
 cases j with
 |cons t s =>
  cases s;cases t with
  |list v A=>exact⟨_,_,ns,rfl,rfl,v,mS ns _ A,hlen⟩
theorem vJ(l:OpenLaw)(a:List WData):l.row.toRowW.claim.post a (.bool true) a=true :=
 postW_of (r:=l.row.toRowW) (X:=(true==true))
  (show WShape.has [] (.bool true) .bool=true by first | rfl | decide | simp[WShape.has,WShape.arms,WShape.armsAll])
  (show (WTm.eq .res (.lit (.bool true))).value [] { args:=a,res:=some (.bool true),after:=a }=some (.bool (true==true)) from w_eq_bool (w_res rfl) w_lit) rfl
theorem rT{l:OpenLaw}{n:Nat}{q:Program}{e:List Str}{A:(X9)->Heap->Prop}{z:World->Heap->Prop}{d:DefRec}(E:l.most=some n)(P:d.params.defaults=[])(j:∀(w:World)(p b:Shared)(mg s:X9)(i:Addr)(o:Obj)(pm cd doc:Value)(a:Addr)(g:Wu)(ns:Vu),
   Ground q e [] A w p mg s b.heap->z w b.heap →
   b.heap.get? i=some o->o.data=.func (docDef d.name d.params d.body d.scope pm cd doc)->b.heap.CodeRec cd d.name->mg d.name=some (.ref i) →
   b.heap.get? a=some { cls:=.type "list",data:=.seq g.toArray }->IntsAre g ns->ns.length<=n->b.gens=#[] →
   codeAny (model l.prog w) callerA (.call (.ref i) ⟨[.ref a],[]⟩) (λr m=>r=.ok (.ret (.bool true))/\OldK b.heap m.heap/\m.os=b.os/\AllBare m.gens) b) :
  WalkO q e A z l.row.toRowW d [] (λf g=>PySem.call f g):=by
 intro w p b mg s G Y i o pm cd doc N kV D hd v y u hg args vals Q h x B t H;obtain rfl:N=.none:=Dflts.none y P;obtain rfl:kV=.none:=Dflts.noKw y;obtain⟨a,g,ns,rfl,rfl,O,hints,hlen⟩:=wj E h t;refine enter_call (codeAny_mono (j w p b mg s i o pm cd doc a g ns G Y D (fd_plain hd) v u O hints hlen hg) λr m C=>?_);obtain⟨rfl,M,L,J⟩:=C;exact⟨.inl ⟨.bool true,.bool true,[],rfl,λ_=>rfl,.bool true,vJ l _,λ_=>⟨List.Pairwise.nil,λ_ F=>(nomatch F)⟩⟩,M,L,J⟩
end Vd
namespace L2
open PySem PySem.Spec PyProof.Rows
theorem pH:∀{a:Wu}{ns:Vu},IntsAre a ns->aV (ns.map V.int) a
 |_,_,.nil=>.nil
 |_,_,.cons n t h=>.cons ⟨t,rfl⟩ (pH h)
noncomputable def yz(H:Hp):Prop:=∀b,H b=none\/∃o a,H b=some (.frz o (.lst a))
theorem yD{P:Program}{w:World}{K:Xf}{t D:X9}{CX:Ll}{k:Nat}{G a:Addr}{S:FuncData}{x:Str}{L:Sp}{f:Shared}{j:Wu}{p:Vu}(Y:K.In f.heap)(X:f.heap.Ns mainGlobals t)(g:f.heap.Ns builtinsNs D)(Uj:∀x:Str,x ≠ "__name__" → D x=bootBuiltins x)(RM:f.heap.NoLimit)(hg:f.gens=#[])(B:f.heap.get? a=some { cls:=.type "list",data:=.seq j.toArray })(O:IntsAre j p)(N:p.length<=sizeLine)(hr:xa k callerA)(F:∀base:Heap,K.In base->base.Ns mainGlobals t->FnOk P w K t base CX k G S [x] L)(O1:∀(s:Shared)(u:Value),BindsTo s S ⟨[u],[]⟩ [(x,u)])(LP:∀H:Hp,yz H->Hc K H a (p.map V.int)->L [.ref a] H (λv _=>v=.bl true) λ_ _ _=>False)(Sh:∀H e i,CX [] H f (λ_ _ _=>False) e i->False) :
  codeAny (model P w) callerA (.call (.ref G) ⟨[.ref a],[]⟩) (λr i=>r=.ok (.ret (.bool true))/\OldK f.heap i.heap/\i.os=f.os/\AllBare i.gens) f:=by
 have M:=pH O;have Rr:=O.length;have core:∀H:Hp,yz H->Hc K H a (p.map V.int)->Ic P w H f.heap->(∀b,H b≠none->b=a)->(H a≠none->K.lookup a=none) →
   codeAny (model P w) callerA (.call (.ref G) ⟨[.ref a],[]⟩) (λr i=>r=.ok (.ret (.bool true))/\OldK f.heap i.heap/\i.os=f.os/\AllBare i.gens) f:=by
  intro H Q hS xh R hK;have Z:∀{b:Addr}{o:Obj},f.heap.get? b=some o->H b=none->(qT f.heap H).get? b=some o:=λe n=>zH e n;have OK:∀{b:Addr}{o:Obj}{y:Array DictEntry}{A:Nat},f.heap.get? b=some o->o.data=.dict y A->H b=none:=λ{b o y A} e d=>by
   cases q:H b with
   |none=>rfl
   |some u =>
    have J:b=a:=R b (by rw[q];simp);subst J;rw[B]at e;cases e;have d':Data.seq j.toArray _=Data.dict y A:=d;cases d'
  have C:∀{b:Addr}{m:X9},f.heap.Ns b m->(qT f.heap H).Ns b m:=λ{b m} ⟨o,y,A,e,d,r⟩=>⟨o,y,A,Z e (OK e d),d,r⟩
  have U:K.In (qT f.heap H):=λb o e=>Z (Y b o e) (by
   cases q:H b with
   |none=>rfl
   |some u =>
    have J:b=a:=R b (by rw[q];simp);subst J;rw[hK (by rw[q];simp)]at e;cases e)
  have hM:Mod K t (qT f.heap H):=⟨U,C X,⟨D,C g,Uj⟩,let ⟨mc,h1,h2⟩:=RM;⟨mc,C h1,h2⟩⟩
  have e0:Env0 P w K t (qT f.heap H) callerA [] f H:=⟨rfl,hM,λb o e=>A9 e,XO (wJ _ _),trivial,λb g=>absurd (show b∈([]:Wy) from g) (by simp),xh,.of_eq hg⟩
  refine codeAny_mono ((F _ U (C X)).run callerA [] f H ⟨[.ref a],[]⟩ [.ref a] [.ref a] _ _ hr e0 (O1 f (.ref a)) (.cons rfl .nil) (LP H Q hS)) λr i h=>?_;cases r with
  |error e=>exact(Sh H e i h).elim
  |ok fl =>
   cases fl with
   |next=>exact False.elim h
   |brk=>exact False.elim h
   |cont=>exact False.elim h
   |ret u =>
    obtain⟨v,H',os,bare,un,RH,r',q⟩:=h;have q':v=.bl true:=q;subst q';obtain rfl:u=Value.bool true:=r';refine⟨rfl,OldK.of_keep λb o e=>?_,os,bare⟩;cases q:H b with
    |none=>exact un.keep b o e q (by intro z;exact absurd (show b∈([]:Wy) from z) (by simp)) (by simp)
    |some u =>
     rcases Q b with z | ⟨ob,xs,z⟩
     ·rw[q]at z;cases z
     ·have z2:=un.JC b ob _ z;obtain⟨e1,_⟩:=xh b _ z;obtain⟨e2,_⟩:=RH b _ z2;rw[e]at e1;cases e1;exact e2
 cases E:K.lookup a with
 |some o =>
  have e:=Y a o E;rw[B]at e;cases e;refine core (λ_=>none) (λ_=>.inl rfl) (.inr ⟨_,j.toArray,_,E,rfl,rfl,rfl,by rw[ZJ,Rr];exact N,by simpa using M⟩) (λb u z=>by have l:(none:Option HO)=some u:=z;cases l) (λb z=>absurd rfl z) λz=>absurd rfl z
 |none =>
  refine core (λb=>if b=a then some (.frz { cls:=.type "list",data:=.seq j.toArray } (.lst (p.map V.int))) else none) (λb=>?_) (.inl (.inr ⟨{ cls:=.type "list",data:=.seq j.toArray },Zs rfl⟩)) (λb u z=>?_) (λb z=>?_) λ_=>E
  ·by_cases g:b=a
   ·exact .inr ⟨_,_,Zs g⟩
   ·exact .inl (Zp g)
  ·by_cases g:b=a
   ·have l:=(Zs g).symm.trans z;cases l;subst g;exact⟨B,by rw[Zx];exact N,j,_,M,B⟩
   ·have l:=(Zp g).symm.trans z;cases l
  ·by_cases g:b=a
   ·exact g
   ·exact absurd (Zp g) z
theorem Ak{l:PySem.W.OpenLaw}{n k:Nat}{q:Program}{i:List Str}{M:(X9)->Heap->Prop}{t:World->Heap->Prop}{d:DefRec}{K:Params->Xf}{CX:World->Ll}{sp:World->Sp}{x:Str}(B:l.most=some n)(P:n<=sizeLine)(Q:d.params.defaults=[])(A:xa k callerA)(D:∀(w:World)(h:Heap),t w h->(K w.params).In h)(F:∀(w:World)(mg:X9)(j:Addr)(h:Heap),(K w.params).In h->h.Ns mainGlobals mg->mg d.name=some (.ref j) →
   ∃fd:FuncData,(∀(s:Shared)(u:Value),BindsTo s fd ⟨[u],[]⟩ [(x,u)]) ∧
    ∀base:Heap,(K w.params).In base->base.Ns mainGlobals mg->FnOk l.prog w (K w.params) mg base (CX w) k j fd [x] (sp w))(R:∀(w:World)(H:Hp)(a:Addr)(ns:Vu),ns.length<=n->yz H->Hc (K w.params) H a (ns.map V.int)->sp w [.ref a] H (λv _=>v=.bl true) λ_ _ _=>False)(N:∀(w:World)(H:Hp)(s:Shared)(e:Value)(m:Shared),CX w [] H s (λ_ _ _=>False) e m->False) :
  PySem.W.WalkO q i M t l.row.toRowW d [] (λf r=>PySem.call f r):=by
 refine Vd.rT B Q λw S z mg U j o pm cd doc a r ns G Y X hd C p O hints hlen hg=>?_;have y:=D w _ Y;obtain⟨fd,hb,L⟩:=F w mg j _ y G.T.g p;exact yD y G.T.g G.T.b G.T.builtins G.T.nolimit hg O hints (ZE hlen P) A L hb (λH J E=>R w H a ns hlen J E) λH e m=>N w H z e m
noncomputable def inClass(s:Stmt)(j:Nat):Stmt:=match s with
 |.ClassDef _ _ _ body _ _ _ _ _ _ _=>body.getD j (.Pass ⟨0,0,0,0⟩)
 |_=>.Pass ⟨0,0,0,0⟩
noncomputable def dk(s:Stmt):Arguments:=match s with
 |.FunctionDef _ a _ _ _ _ _ _ _ _=>a
 |_=>{ posonlyargs:=[],args:=[],vararg:=none,kwonlyargs:=[],kw_defaults:=[],kwarg:=none,defaults:=[] }
noncomputable def bu(s:Stmt):List Stmt:=match s with
 |.FunctionDef _ _ b _ _ _ _ _ _ _=>b
 |_=>[]
noncomputable def aj(s:Stmt):Scope:=match s with
 |.FunctionDef _ _ _ _ _ _ sc _ _ _=>sc
 |_=>{ kind:=.function,names:=[],isGenerator:=false,isCoroutine:=false }
noncomputable abbrev HJ:Ll:=λ_ _ _ _ _ _=>False
noncomputable abbrev E0:XK:=λ_ _ _=>False
theorem mF{X:Cx}:jv HJ X E0:=λ_ _ _ _ _ _ _ h=>h.elim
structure G2(K:Xf)(x qual:Str)(st:Stmt)(f:Addr)(fd:FuncData):Prop where
 ex:∃(oc:Value)(od:Option Addr)(kV doc pm:Value)(an:Option Addr)(G0 ct:Value)(Kc:Array (Wt)),
  fd=PySem.W.fnOf x qual (dk st) (bu st) (aj st) .none kV doc pm an G0 ct/\K.lookup f=some ⟨oc,od,.func fd,Kc⟩/\PySem.W.codeIn K G0 qual=true
 kp:PySem.W.keepIn K (.ref f)=true
section
variable{P:Program}{w:World}{K:Xf}{mg:X9}{base:Heap}
theorem G2.ok{x a:Str}{d:Stmt}{f:Addr}{m:FuncData}{N i:List Str}{k:Nat}{g:Sp}(F:G2 K x a d f m)(S:jj N i (aj d))(j:∀b H Q E,g b H Q E->b.length=i.length)(p:∀(e:Value)(A:Around)(outer:List Env)(s:Shared)(H:Hp)(b:List V)(Q:VK)(E:XK),xa k (A.deeper (envOfC a (aj d) s.heap.objs.size f e))->g b H Q E →
   ∃t,Jd (jS HJ P w K mg base N a (aj d) f e A outer s H E).Kg (bu d) t/\t { nx:=λ_ r=>Q .non r,rt:=Q } (start N b) H):FnOk P w K mg base HJ (k+1) f m i g:=by
 obtain⟨oc,u,kV,doc,pm,an,e,ct,v,rfl,lk,l⟩:=F.ex;refine B4 lk l S j λA outer s H b Q E n o=>?_;obtain⟨t,h,q⟩:=p e A outer s H b Q E n o;exact⟨t,h.Kg,q⟩
theorem G2.binds{x a:Str}{b:Stmt}{f:Addr}{i:FuncData}{e:List Str}(F:G2 K x a b f i)(h:∀(kV doc pm:Value)(an:Option Addr)(g ct:Value)(d:Wu),d.length=e.length->bindArgs (PySem.W.fnOf x a (dk b) (bu b) (aj b) .none kV doc pm an g ct) ⟨d,[]⟩=pure (e.zip d)):Binds K i e []:=by
 obtain⟨oc,l,kV,doc,pm,an,g,ct,m,rfl,lk,j⟩:=F.ex;exact .all (h kV doc pm an g ct)
theorem yw{x a:Str}{st:Stmt}{f:Addr}{m:Value}{j i:Option Addr}{n:Array (Wt)}{g b e d h:Value}(l:K.lookup f=some ⟨m,j,.func (PySem.W.fnOf x a (dk st) (bu st) (aj st) .none g b e i d h),n⟩)(c:PySem.W.codeIn K d a=true)(k:PySem.W.keepIn K (.ref f)=true):G2 K x a st f (PySem.W.fnOf x a (dk st) (bu st) (aj st) .none g b e i d h):=⟨⟨m,j,g,b,e,i,d,h,n,rfl,l,c⟩,k⟩
end
theorem kZ{A:Around}{k:Nat}(a:xa k A):A.units+1<cLine:=XY (Nat.add_le_add_left (by decide:1<=64) _) a.units
theorem zx{A B:Prop}(h:B):if false=true then A else B:=by
 rw[Zp Zg];exact h
theorem zy{A B:Prop}(h:A):if true=true then A else B:=by
 rw[Zs rfl];exact h
noncomputable def aO(H a:Hp):Prop:=∀b o,H b=some o->a b=some o
theorem aO.refl(H:Hp):aO H H:=λ_ _ h=>h
theorem aO.trans{H e d:Hp}(a:aO H e)(b:aO e d):aO H d:=λc o h=>b c o (a c o h)
theorem aO.free{H a:Hp}(e:aO H a){l:Addr}(h:a l=Option.none):H l=Option.none:=by
 cases q:H l with
 |none=>rfl
 |some o =>
  rw[e l o q]at h;cases h
end L2
end
section
namespace L2
open PySem PySem.Spec PyProof.Rows
noncomputable abbrev oV:=List (List Key)
noncomputable def hN(w:World)(k:oV):Int:=reduceHash (Builtin.Tuple.tupleHashOf (k.map λx=>reduceHash (Builtin.Tuple.tupleHashOf (x.map (FO w)))))
noncomputable def GR(w:World)(x:oV×Addr×Value):DictEntry:=⟨hN w x.1,.ref x.2.1,x.2.2⟩
noncomputable abbrev KN:List (oV×Addr×V)->List (oV×Addr×Value)->Prop:=Paired λp q=>p.1=q.1/\p.2.1=q.2.1/\RelV p.2.2 q.2.2
noncomputable def DN(a:Addr)(e:List (oV×Addr×V)):HO:=.ext λw h=>e.length<=sizeLine/\(a==sysModules)=false/\∃b:List (oV×Addr×Value),KN e b ∧
 ∃o d f,h.get? a=some o/\o.ExactDict/\o.data=.dict d f/\d.toList=b.map (GR w)/\(b.map (·.1)).Nodup
noncomputable def Qx(H:Hp)(k:oV)(b:Addr):Prop:=∃a:Wy,H b=some (.tup (a.map V.ref))/\Paired (λ(x:List Key) (c:Addr)=>H c=some (.tup (x.map kV))) k a
theorem Qx.mono{H e:Hp}{k:oV}{b:Addr}(x:Qx H k b)(t:∀a d,H a=some (.tup d)->e a=some (.tup d)):Qx e k b:=by
 obtain⟨f,h,r⟩:=x;exact⟨f,t _ _ h,Paired.Ml r λ_ _ z=>t _ _ z⟩
end L2
end
section
namespace VS
open PySem PySem.Spec PyProof.Rows L2
noncomputable def sx(s:Tx):Str:=⟨s.toArray⟩
noncomputable def nI(s:Tx):Prop:=s.length<=fL/\∀c∈s,c<1114112
noncomputable abbrev Me:=Nat->Option V
structure Gx where
 K:Xf
 ct:Nat->Addr×(Nat->Str)
 me:Me:=λ_=>none
noncomputable def Gx.at(G:Gx)(m:Me):Gx:=⟨G.K,G.ct,m⟩
noncomputable def aJ:Key->T
 |.inl i=>.int i
 |.inr x=>.str x.cps.toList
noncomputable def V8(k:oV):T:=.tup (k.map λx=>T.tup (x.map aJ))
noncomputable def mM(K:Xf)(H:Hp)(a:Addr)(d:Vu):Prop :=
 (∃o,H a=some (.frz o (.lst (d.map V.int)))) ∨
  ∃(o:Obj)(b:Array Value)(n:Nat),K.lookup a=some o/\o.cls=.type "list" ∧ o.dict=none/\o.data=.seq b n/\b.size<=sizeLine/\aV (d.map V.int) b.toList
mutual
inductive Rp(G:Gx)(H:Hp):V->T->Wy->Prop
 |non:Rp G H .non .non []
 |bl (b:Bool):Rp G H (.bl b) (.bl b) []
 |int (i:Int):Rp G H (.int i) (.int i) []
 |str (s:Tx):nI s->Rp G H (.str (sx s)) (.str s) []
 |scr {a:Addr} {ns:Vu}:mM G.K H a ns->Rp G H (.ref a) (.scr ns) []
 |tup {a:Addr} {vs:List V} {ts:Vp} {Fs:Yp}:H a=some (.tup vs)->RpL G H vs ts Fs->Rp G H (.ref a) (.tup ts) Fs.flatten
 |lst {a:Addr} {vs:List V} {ts:Vp} {Fs:Yp}:H a=some (.lst vs)->RpL G H vs ts Fs->Rp G H (.ref a) (.lst ts) (a :: Fs.flatten)
 |dct {a:Addr} {ks:List Key} {vs:List V} {ts:Vp} {Fs:Yp}:H a=some (.dK (ks.zip vs))->ks.length=vs.length->RpL G H vs ts Fs->Rp G H (.ref a) (.dct 0 ((ks.map aJ).zip ts)) (a :: Fs.flatten)
 |dctT {a:Addr} {ks:List (List Key)} {vs:List V} {ts:Vp} {Fs:Yp}:H a=some (.dT (ks.zip vs))->ks.length=vs.length->RpL G H vs ts Fs->Rp G H (.ref a) (.dct 1 ((ks.map λk=>T.tup (k.map aJ)).zip ts)) (a :: Fs.flatten)
 |dctN {a:Addr} {ks:List (oV×Addr)} {vs:List V} {ts:Vp} {Fs:Yp}:H a=some (DN a ((ks.zip vs).map λp=>(p.1.1,p.1.2,p.2)))->ks.length=vs.length->(∀p∈ks,Qx H p.1 p.2)->RpL G H vs ts Fs->Rp G H (.ref a) (.dct 2 ((ks.map λp=>V8 p.1).zip ts)) (a :: Fs.flatten)
 |dctZ {a:Addr} {o:Obj} {ks:List Key} {vs:List V} {ts:Vp} {Fs:Yp}:H a=some (.frz o (.dK (ks.zip vs)))->ks.length=vs.length->RpL G H vs ts Fs->Rp G H (.ref a) (.dct 3 ((ks.map aJ).zip ts)) Fs.flatten
 |exc {c:Nat} {a:Addr} {o:Obj}:H a=some (.frz o (.own a))->(o.cls=.ref (G.ct c).1/\o.dict=none/\∃vs,o.data=.fields vs)->Rp G H (.ref a) (.obj c []) []
 |ins {c:Nat} {a dx:Addr} {b:Bool} {ks:Vv} {vs:List V} {ts:Vp} {Fs:Yp}:H a=some (.ins (G.ct (c+1)).1 dx ((ks.map (G.ct (c+1)).2).zip vs))->ks.length=vs.length->(b=true->G.me 0=some (.ref a))->RpL G H vs ts Fs->Rp G H (.ref a) (.obj (c+1) ((0,.bl b) :: ks.zip ts)) (a :: Fs.flatten)
 |mk {m:Nat} {a:Addr} {t:T} {F:Wy}:G.me m=some (.ref a)->Rp G H (.ref a) t F->Rp G H (.ref a) (.obj 0 [(0,.bl true),(m,t)]) F
inductive RpL(G:Gx)(H:Hp):List V->Vp->Yp->Prop
 |nil:RpL G H [] [] []
 |cons {v:V} {t:T} {F:Wy} {vs:List V} {ts:Vp} {Fs:Yp}:Rp G H v t F->RpL G H vs ts Fs->RpL G H (v :: vs) (t :: ts) (F :: Fs)
end
structure Kept(H H':Hp):Prop where
 tup:∀a xs,H a=some (.tup xs)->H' a=some (.tup xs)
 frz:∀a o u,H a=some (.frz o u)->H' a=some (.frz o u)
theorem Kept.refl(H:Hp):Kept H H:=⟨λ_ _ h=>h,λ_ _ _ h=>h⟩
theorem Kept.trans{H e d:Hp}(a:Kept H e)(b:Kept e d):Kept H d:=⟨λc x h=>b.tup c x (a.tup c x h),λc o u h=>b.frz c o u (a.frz c o u h)⟩
theorem Kept.of{H b:Hp}(e:aO H b):Kept H b:=⟨λa _ h=>e a _ h,λa _ _ h=>e a _ h⟩
theorem Kept.upd{H:Hp}{a:Addr}{o:HO}(d:G4 (H a)\/H a=none):Kept H (upd H a o):=by
 have ne:∀b u,H b=some u->¬G4 (some u)->b≠a:=λb u h nm e=>by
  subst e;rcases d with m | m
  ·rw[h]at m;exact nm m
  ·rw[h]at m;cases m
 exact⟨λb f h=>by rw[aE (ne b _ h λz=>z)];exact h,λb o u h=>by rw[aE (ne b _ h λz=>z)];exact h⟩
theorem mM.kept{K:Xf}{H d:Hp}{a:Addr}{b:Vu}(h:mM K H a b)(k:Kept H d):mM K d a b:=by
 rcases h with⟨o,e⟩ | h
 ·exact .inl ⟨o,k.frz _ _ _ e⟩
 ·exact .inr h
theorem mM.seq{K:Xf}{H:Hp}{a:Addr}{b:Vu}(h:mM K H a b):Hc K H a (b.map V.int):=by
 rcases h with⟨o,e⟩ | h
 ·exact .inl (.inr ⟨o,e⟩)
 ·exact .inr h
theorem rh{H d:Hp}{a:Addr}{F:Wy}(f:∀b∈a :: F,∀o,H b=some o->d b=some o):∀b∈F,∀o,H b=some o->d b=some o:=λb m=>f b (Zv _ m)
theorem uH{H a:Hp}{F:Wy}{d:Yp}(f:∀b∈(F :: d).flatten,∀o,H b=some o->a b=some o):(∀b∈F,∀o,H b=some o->a b=some o)/\∀b∈d.flatten,∀o,H b=some o->a b=some o:=by
 rw[ZI]at f;exact⟨λb m=>f b (Yf _ m),λb m=>f b (ZP _ m)⟩
theorem Rp.keep{G:Gx}{H e:Hp}(k:Kept H e){v:V}{t:T}{F:Wy}(r:Rp G H v t F):(∀a∈F,∀o,H a=some o->e a=some o)->Rp G e v t F :=
 Rp.rec (motive_1:=λv t F _=>(∀a∈F,∀o,H a=some o->e a=some o)->Rp G e v t F) (motive_2:=λj q g _=>(∀a∈g.flatten,∀o,H a=some o->e a=some o)->RpL G e j q g)
  (λ_=>.non) (λb _=>.bl b) (λi _=>.int i) (λs h _=>.str s h) (λh _=>.scr (h.kept k)) (λh _ d f=>.tup (k.tup _ _ h) (d f)) (λh _ d f=>.lst (f _ Zw _ h) (d (rh f))) (λh l _ d f=>.dct (f _ Zw _ h) l (d (rh f))) (λh l _ d f=>.dctT (f _ Zw _ h) l (d (rh f)))
  (λh l n _ d f=>.dctN (f _ Zw _ h) l (λp m=>(n p m).mono k.tup) (d (rh f))) (λh l _ d f=>.dctZ (k.frz _ _ _ h) l (d f)) (λh x _=>.exc (k.frz _ _ _ h) x) (λh l m _ d f=>.ins (f _ Zw _ h) l m (d (rh f))) (λh _ d f=>.mk h (d f)) (λ_=>.nil) (λ_ _ w u f=>.cons (w (uH f).1) (u (uH f).2)) r
theorem RpL.keep{G:Gx}{H b:Hp}(k:Kept H b):∀{e:List V}{g:Vp}{d:Yp},RpL G H e g d->(∀a∈d.flatten,∀o,H a=some o->b a=some o)->RpL G b e g d
 |_,_,_,.nil,_=>.nil
 |_,_,_,.cons r q,f=>.cons (r.keep k (uH f).1) (RpL.keep k q (uH f).2)
theorem Rp.same{G:Gx}{H b:Hp}(e:aO H b){v:V}{t:T}{F:Wy}(r:Rp G H v t F):Rp G b v t F:=r.keep (Kept.of e) λa _ o h=>e a o h
theorem RpL.same{G:Gx}{H b:Hp}(e:aO H b){v:List V}{t:Vp}{F:Yp}(r:RpL G H v t F):RpL G b v t F:=r.keep (Kept.of e) λa _ o h=>e a o h
theorem xi{H:Hp}{a:Addr}{F:Wy}(h:G4 (H a))(d:∀b∈F,G4 (H b)):∀b∈a :: F,G4 (H b):=λb m=>(Zj.mp m).elim (λe=>e ▸ h) (d b)
theorem xR{H:Hp}{a:Addr}{o:HO}(h:H a=some o)(m:G4 (some o)):G4 (H a):=by rw[h];exact m
theorem Ff{H:Hp}{F:Wy}{a:Yp}(e:∀b∈F,G4 (H b))(d:∀b∈a.flatten,G4 (H b)):∀b∈(F :: a).flatten,G4 (H b):=λb m=>by
 rw[ZI]at m;exact(Ze.mp m).elim (e b) (d b)
theorem Rp.Hk{G:Gx}{H:Hp}{v:V}{t:T}{F:Wy}(r:Rp G H v t F):∀a∈F,G4 (H a) :=
 Rp.rec (motive_1:=λv t F _=>∀a∈F,G4 (H a)) (motive_2:=λg i f _=>∀a∈f.flatten,G4 (H a))
  (λ_ m=>nomatch m) (λ_ _ m=>nomatch m) (λ_ _ m=>nomatch m) (λ_ _ _ m=>nomatch m) (λ_ _ m=>nomatch m) (λ_ _ b=>b) (λh _ b=>xi (xR h True.intro) b) (λh _ _ b=>xi (xR h True.intro) b) (λh _ _ b=>xi (xR h True.intro) b)
  (λh _ _ _ b=>xi (xR h True.intro) b) (λ_ _ _ b=>b) (λ_ _ _ m=>nomatch m) (λh _ _ _ b=>xi (xR h True.intro) b) (λ_ _ b=>b) (λ_ m=>nomatch m) (λ_ _ e d=>Ff e d) r
theorem RpL.Hk{G:Gx}{H:Hp}:∀{d:List V}{e:Vp}{b:Yp},RpL G H d e b->∀a∈b.flatten,G4 (H a)
 |_,_,_,.nil=>λ_ m=>nomatch m
 |_,_,_,.cons r q=>Ff r.Hk (RpL.Hk q)
theorem G4.p0{o:Option HO}(m:G4 o):o≠none:=λe=>by subst e;exact m
theorem ES{F:Wy}{b:Yp}{t:T}{a:Vp}(e:VS.G5 t=true->F=[])(d:VS.fK a=true->b.flatten=[])(i:VS.fK (t :: a)=true):(F :: b).flatten=[]:=by
 simp only[VS.fK,ZS]at i;rw[ZI,e i.1,d i.2];rfl
theorem Rp.G5{G:Gx}{H:Hp}{v:V}{t:T}{F:Wy}(r:Rp G H v t F):VS.G5 t=true->F=[] :=
 Rp.rec (motive_1:=λv t F _=>VS.G5 t=true->F=[]) (motive_2:=λg a f _=>VS.fK a=true->f.flatten=[])
  (λ_=>rfl) (λ_ _=>rfl) (λ_ _=>rfl) (λ_ _ _=>rfl) (λ_ _=>rfl) (λ_ _ b i=>b (by simpa[VS.G5] using i)) (λ_ _ _ i=>absurd (show false=true from i) Zg) (λ_ _ _ _ i=>absurd (show false=true from i) Zg) (λ_ _ _ _ i=>absurd (show false=true from i) Zg)
  (λ_ _ _ _ _ i=>absurd (show false=true from i) Zg) (λ_ _ _ _ i=>absurd (show false=true from i) Zg) (λ_ _ _=>rfl) (λ_ _ _ _ _ i=>absurd (show false=true from i) Zg) (λ_ _ _ i=>absurd (show false=true from i) Zg) (λ_=>rfl) (λ_ _ e d i=>ES e d i) r
theorem RpL.G5{G:Gx}{H:Hp}:∀{d:List V}{a:Vp}{b:Yp},RpL G H d a b->VS.fK a=true->b.flatten=[]
 |_,_,_,.nil,_=>rfl
 |_,_,_,.cons r q,i=>ES r.G5 (RpL.G5 q) i
theorem RpL.len{G:Gx}{H:Hp}:∀{b:List V}{a:Vp}{d:Yp},RpL G H b a d->b.length=a.length/\d.length=a.length
 |_,_,_,.nil=>⟨rfl,rfl⟩
 |_,_,_,.cons _ q=>by
  have:=RpL.len q;simp only[Zk];lia
theorem RpL.get{G:Gx}{H:Hp}:∀{a:List V}{b:Vp}{d:Yp}(i:Nat){t:T},RpL G H a b d->b[i]?=some t->∃v F,a[i]?=some v/\d[i]?=some F/\Rp G H v t F
 |_,_,_,_,_,.nil,e=>by simp at e
 |_,_,_,0,_,.cons r _,e=>by
  simp at e;subst e;exact⟨_,_,rfl,rfl,r⟩
 |_,_,_,i+1,_,.cons _ q,e=>by
  obtain⟨v,F,h,g,f⟩:=RpL.get i q (by simpa using e);exact⟨v,F,by simpa using h,by simpa using g,f⟩
theorem RpL.append{G:Gx}{H:Hp}:∀{a:List V}{d:Vp}{g:Yp}{b:List V}{e:Vp}{f:Yp},RpL G H a d g->RpL G H b e f->RpL G H (a++b) (d++e) (g++f)
 |_,_,_,_,_,_,.nil,s=>s
 |_,_,_,_,_,_,.cons r q,s=>.cons r (RpL.append q s)
theorem RpL.take{G:Gx}{H:Hp}:∀{a:List V}{b:Vp}{d:Yp}(n:Nat),RpL G H a b d->RpL G H (a.take n) (b.take n) (d.take n)
 |_,_,_,0,_=>by simpa using RpL.nil
 |_,_,_,n+1,.nil=>.nil
 |_,_,_,n+1,.cons r q=>.cons r (RpL.take n q)
theorem RpL.drop{G:Gx}{H:Hp}:∀{a:List V}{b:Vp}{d:Yp}(n:Nat),RpL G H a b d->RpL G H (a.drop n) (b.drop n) (d.drop n)
 |_,_,_,0,q=>q
 |_,_,_,n+1,.nil=>.nil
 |_,_,_,n+1,.cons r q=>RpL.drop n q
noncomputable def kW:Cell->T
 |.pu t=>t
 |.ow t=>t
noncomputable abbrev G6:=Nat->Wy
structure SR(G:Gx)(R:G6)(U:VS.Env)(J:L2.St)(H:Hp):Prop where
 len:U.length=J.length
 rp:∀i c,U[i]?=some (some c)->∃v,J[i]?=some (some v)/\Rp G H v (kW c) (R i)
 nd:∀i t,U[i]?=some (some (.ow t))->(R i).Nodup
 sep:∀i j t c,U[i]?=some (some (.ow t))->U[j]?=some (some c)->i≠j->∀a∈R i,a∉R j
noncomputable def eE(R:G6)(U:VS.Env)(a:Addr):Prop:=∃j t,U[j]?=some (some (.pu t))/\a∈R j
noncomputable def cy(R:G6)(U:VS.Env)(a:Addr):Prop:=∃j t,U[j]?=some (some (.ow t))/\a∈R j
noncomputable def Fp(R:G6)(U:VS.Env)(H:Hp):Md->Wy->Prop
 |.fr,F=>F.Nodup/\∀a∈F,H a=none
 |.pu,F=>∀a∈F,H a=none\/eE R U a
 |.bo,F=>∀a∈F,H a=none\/eE R U a\/cy R U a
theorem SR.same{G:Gx}{R:G6}{U:VS.Env}{J:L2.St}{H a:Hp}(s:SR G R U J H)(e:aO H a):SR G R U J a :=
 ⟨s.len,λi c h=>let ⟨v,d,b⟩:=s.rp i c h;⟨v,d,b.same e⟩,s.nd,s.sep⟩
theorem SR.Lu{G:Gx}{R:G6}{U:VS.Env}{J:L2.St}{H:Hp}{a:Addr}(s:SR G R U J H)(h:eE R U a):G4 (H a):=by
 obtain⟨j,t,d,b⟩:=h;obtain⟨v,_,r⟩:=s.rp j _ d;exact r.Hk a b
theorem SR.Iw{G:Gx}{R:G6}{U:VS.Env}{J:L2.St}{H:Hp}{a:Addr}(s:SR G R U J H)(h:cy R U a):G4 (H a):=by
 obtain⟨j,t,d,b⟩:=h;obtain⟨v,_,r⟩:=s.rp j _ d;exact r.Hk a b
theorem Fp.nil{R:G6}{U:VS.Env}{H:Hp}{m:Md}:Fp R U H m []:=by
 cases m
 ·exact⟨YG,λa h=>by simp at h⟩
 ·exact λa h=>by simp at h
 ·exact λa h=>by simp at h
theorem Fp.bo{R:G6}{U:VS.Env}{H:Hp}{F:Wy}:∀{m:Md},Fp R U H m F->Fp R U H .bo F
 |.fr,h=>λa m=>.inl (h.2 a m)
 |.pu,h=>λa m=>(h a m).elim .inl λz=>.inr (.inl z)
 |.bo,h=>h
theorem Fp.pu{R:G6}{U:VS.Env}{H:Hp}{F:Wy}:∀{m:Md},m ≠ .bo->Fp R U H m F->Fp R U H .pu F
 |.fr,_,h=>λa m=>.inl (h.2 a m)
 |.pu,_,h=>h
 |.bo,n,_=>absurd rfl n
theorem Fp.back{R:G6}{U:VS.Env}{H b:Hp}(e:aO H b){F:Wy}:∀{m:Md},Fp R U b m F->Fp R U H m F
 |.fr,h=>⟨h.1,λa m=>e.free (h.2 a m)⟩
 |.pu,h=>λa m=>(h a m).imp e.free id
 |.bo,h=>λa m=>(h a m).imp e.free id
theorem Fp.up{G:Gx}{R:G6}{U:VS.Env}{H a:Hp}{m:Md}{v:V}{t:T}{F:Wy}(f:Fp R U H m F)(r:Rp G a v t F):Fp R U H (VS.up m t).1 F:=by
 unfold VS.up;by_cases h:VS.G5 t=true
 ·rw[r.G5 h];exact Fp.nil
 ·simp only[h,if_false,XW];exact f
noncomputable def tE(G:Gx)(c:Ex):TE:=λJ H Q=>∃R U m r,SR G R U J H/\c U=some (m,r)/\∀v a F,aO H a->Rp G a v r F->Fp R U H m F->Q v a
noncomputable def PV(G:Gx)(X:Cx)(e:Expr)(c:Ex):Prop:=PE X e (tE G c)
theorem PE.weak{X:Cx}{e:Expr}{t b:TE}(h:PE X e t)(w:∀J H Q,b J H Q->t J H Q):PE X e b:=λa s J H Q I q=>h a s J H Q I (w J H Q q)
theorem PT.weak{X:Cx}{e:Expr}{t b:TT}(h:PT X e t)(w:∀J H Q,b J H Q->t J H Q):PT X e b:=λa s J H Q I q=>h a s J H Q I (w J H Q q)
theorem PA.weak{X:Cx}{e:List Expr}{t b:TA}(h:PA X e t)(w:∀J H Q,b J H Q->t J H Q):PA X e b:=λpos a s J H Q I q=>h pos a s J H Q I (w J H Q q)
noncomputable def tT(G:Gx)(c:Ex):TT:=λJ H Q=>∃R U m r b,SR G R U J H/\c U=some (m,r)/\LL r=some b/\∀a,aO H a->Q b a
noncomputable def Js(G:Gx)(X:Cx)(e:Expr)(c:Ex):Prop:=PT X e (tT G c)
noncomputable def Ig(l:Vr)(a:Yp):Wy:=match l,a with
 |v :: l,F :: a=>match v.1 with
  |.fr=>F++Ig l a
  |_=>Ig l a
 |_,_=>[]
structure L5(R:G6)(U:VS.Env)(H:Hp)(l:Vr)(Fs:Yp):Prop where
 each:∀(i:Nat) v F,l[i]?=some v->Fs[i]?=some F->Fp R U H v.1 F
 nd:(Ig l Fs).Nodup
noncomputable def M9(G:Gx)(c:Hr):TA:=λJ H Q=>∃R U l,SR G R U J H/\c U=some l/\∀b a d,aO H a->RpL G a b (trees l) d->L5 R U H l d->Q b a
noncomputable def Ib(G:Gx)(X:Cx)(a:List Expr)(c:Hr):Prop:=PA X a (M9 G c)
section
variable{G:Gx}{X:Cx}{a b c:Expr}{ca cb cc:Ex}{pos:Pos}
theorem ah{i j pos}:PV G X (.Constant (.int i) j pos) (Q2 i):=PE.weak qC λJ H Q d=>by
 obtain⟨R,U,m,r,s,e,k⟩:=d;cases (show some (Md.fr,T.int i)=some (m,r) from e);exact k _ _ _ (aO.refl _) (.int i) Fp.nil
theorem nZ{i j pos}:PV G X (.Constant (.bool i) j pos) (eC (.bl i)):=PE.weak Fh λJ H Q d=>by
 obtain⟨R,U,m,r,s,e,k⟩:=d;cases (show some (Md.fr,T.bl i)=some (m,r) from e);exact k _ _ _ (aO.refl _) (.bl i) Fp.nil
theorem ui{j pos}:PV G X (.Constant .none j pos) (eC .non):=PE.weak D2 λJ H Q d=>by
 obtain⟨R,U,m,r,s,e,k⟩:=d;cases (show some (Md.fr,T.non)=some (m,r) from e);exact k _ _ _ (aO.refl _) .non Fp.nil
theorem lM{x:Str}{t:Tx}{j pos}(h:x=sx t:=by decide +kernel)(f:nI t:=by decide):PV G X (.Constant (.str x) j pos) (eC (.str t)):=PE.weak xX λJ H Q d=>by
 obtain⟨R,U,m,r,s,e,k⟩:=d;cases (show some (Md.fr,T.str t)=some (m,r) from e);subst h;exact k _ _ _ (aO.refl _) (.str t f) Fp.nil
theorem bC(i:Nat){x:Str}{g:Pos}(w:X.N[i]?=some x:=by rfl)(p:JG X.env.scope x:=by first | exact Or.inl rfl | exact Or.inr (Or.inl rfl) | exact Or.inr (Or.inr rfl))(u:K3 x:=by decide)(j:K4 x:=by decide):PV G X (.Name x g) (aa i):=PE.weak (iu w p u j) λJ H Q q=>by
 obtain⟨R,U,m,r,s,e,k⟩:=q;unfold aa at e;split at e
 ·rename_i t h;obtain⟨v,n,d⟩:=s.rp _ _ h;have o:VS.up .pu t=(m,r):=Zl e;have y:t=r:=congrArg Prod.snd o;have em:(VS.up .pu t).1=m:=congrArg Prod.fst o;rw[← y,← em]at k;refine⟨v,n,k v H (R i) (aO.refl _) d ?_⟩;have f:Fp R U H .pu (R i):=λa l=>.inr ⟨i,_,h,l⟩;exact f.up d
 ·rename_i t h;obtain⟨v,n,d⟩:=s.rp _ _ h;cases e;exact⟨v,n,k v H (R i) (aO.refl _) d λa l=>.inr (.inr ⟨i,_,h,l⟩)⟩
 ·cases e
theorem An{x:Str}{u:Value}{v:V}{t:T}{d:Pos}(j:Gl X x)(i:X.mg x=some u)(r:RelV v u)(g:∀H,Rp G H v t [])(l:K3 x:=by decide):PV G X (.Name x d) (eC t) :=
 PE.weak (Ax j i r l) λJ H Q h=>by
  obtain⟨R,U,m,f,s,e,k⟩:=h;cases (show some (Md.fr,t)=some (m,f) from e);exact k _ _ _ (aO.refl _) (g H) Fp.nil
structure Pn(G:Gx)(R:G6)(U:VS.Env)(H0 H:Hp)(x y:Val)(u w:V)(F1 F2:Wy):Prop where
 same:aO H0 H
 r1:Rp G H u x.2 F1
 r2:Rp G H w y.2 F2
 f1:Fp R U H0 x.1 F1
 f2:Fp R U H0 y.1 F2
 nd:x.1=.fr->y.1=.fr->(F1++F2).Nodup
noncomputable def g0(G:Gx)(r:HR)(f:Val->Val->Vq):Prop:=∀(R:G6)(U:VS.Env)(e H:Hp)(x y:Val)(u w:V)(h g:Wy)(m:Md)(t:T)(Q:VK),Pn G R U e H x y u w h g->f x y=some (m,t) →
 (∀v d F,aO H d->Rp G d v t F->Fp R U e m F->Q v d)->r u w H Q
theorem yB{J:L2.St}{H:Hp}{Q:V->V->Hp->Prop}{R:G6}{U:VS.Env}{x y:Val}(s:SR G R U J H)(m:ca U=some x)(l:cb U=some y)(k:∀u w d f e,Pn G R U H d x y u w f e->Q u w d):tE G ca J H λu g=>tE G cb J g λw d=>Q u w d:=by
 refine⟨R,U,x.1,x.2,s,m,λu g f e1 r1 f1=>⟨R,U,y.1,y.2,s.same e1,l,λw d e e2 r2 f2=>k u w d f e ⟨e1.trans e2,r1.same e2,r2,f1,f2.back e1,λi h=>?_⟩⟩⟩;rw[i]at f1;rw[h]at f2;refine ZK.mpr ⟨f1.1,f2.1,λa j b hb z=>?_⟩;subst z;exact G4.p0 (r1.Hk a j) (f2.2 a hb)
theorem lU{r:HR}{f:Val->Val->Vq}(g:g0 G r f){J:L2.St}{H:Hp}{Q:VK}(h:tE G (e2 f ca cb) J H Q):Oy r (tE G ca) (tE G cb) J H Q:=by
 obtain⟨R,U,m,t,s,e,k⟩:=h;unfold e2 at e;obtain⟨x,j,e⟩:=Zz.mp e;obtain⟨y,i,e⟩:=Zz.mp e;exact yB s j i λu w l p o d=>g R U H l x y u w p o m t Q d e λv n F e1 r1 f1=>k v n F (d.same.trans e1) r1 f1
theorem sE{d:Operator}{r:HR}{f:Val->Val->Vq}(g:OpR X (binaryOp d) r)(e:g0 G r f)(j:PV G X a ca)(i:PV G X b cb):PV G X (.BinOp a d b pos) (e2 f ca cb) :=
 PE.weak (FE g j i) λJ H Q h=>lU e h
theorem DO{d:CmpOp}{r:HR}{f:Val->Val->Vq}(g:OpR X (compareOp d) r)(e:g0 G r f)(l:PV G X a ca)(j:PV G X b cb)(i:behindInMarks d b=false):PV G X (.Compare a [d] [b] pos) (e2 f ca cb) :=
 PE.weak (AK g l j i) λJ H Q h=>lU e h
noncomputable def Tells(f:Val->Val->Vq):Prop:=∀x y m t,f x y=some (m,t)->∃b,t=.bl b
theorem Rp.HZ{H:Hp}{v:V}{b:Bool}{F:Wy}(r:Rp G H v (.bl b) F):v=.bl b:=by cases r;rfl
theorem Rp.int_inv{H:Hp}{v:V}{b:Int}{F:Wy}(r:Rp G H v (.int b) F):v=.int b:=by cases r;rfl
theorem Rp.str_inv{H:Hp}{v:V}{b:Tx}{F:Wy}(r:Rp G H v (.str b) F):v=.str (sx b)/\nI b:=by cases r with | str _ h=>exact⟨rfl,h⟩
theorem tQ{c:Ex}{t:TE}{J:L2.St}{H:Hp}{Q:Bool->Hp->Prop}(h:tT G c J H Q)(f:∀U m r,c U=some (m,r)->∃b,r=.bl b)(w:∀Q,tE G c J H Q->t J H Q):xn t J H Q:=by
 obtain⟨R,U,m,r,b,s,e,d,k⟩:=h;refine w _ ⟨R,U,m,r,s,e,λv j F e1 r1 f1=>?_⟩;obtain⟨i,g⟩:=f U m r e;rw[g]at d r1;cases (show some i=some b from d);exact⟨_,r1.HZ,k j e1⟩
theorem hU{d:CmpOp}{r:HR}{f:Val->Val->Vq}(j:OpR X (compareOp d) r)(g:g0 G r f)(i:Tells f)(o:PV G X a ca)(n:PV G X b cb)(l:behindInMarks d b=false):Js G X (.Compare a [d] [b] pos) (e2 f ca cb) :=
 PT.weak (AJ j o n l) λJ H Q h=>tQ h (λU m r e=>by
  unfold e2 at e;obtain⟨x,_,e⟩:=Zz.mp e;obtain⟨y,_,e⟩:=Zz.mp e;exact i x y m r e) λQ h=>lU g h
theorem bM{R:G6}{U:VS.Env}{e H:Hp}{m:Md}{t:T}{v:V}{Q:VK}(k:∀v d F,aO H d->Rp G d v t F->Fp R U e m F->Q v d)(r:Rp G H v t []):Q v H:=k v H [] (aO.refl _) r Fp.nil
theorem dw{H:Hp}{p:Addr}{o:HO}(h:H p=none):aO H (upd H p o):=λb d e=>by rw[aE (bV e h)];exact e
theorem Fp.new{R:G6}{U:VS.Env}{g:Hp}{p:Addr}{F:Wy}(d:g p=none)(h:p∉F):∀{m:Md},Fp R U g m F->Fp R U g m (p :: F)
 |.fr,f=>⟨ZY.mpr ⟨h,f.1⟩,λa m=>(Zj.mp m).elim (λe=>by rw[e];exact d) (f.2 a)⟩
 |.pu,f=>λa m=>(Zj.mp m).elim (λe=>by rw[e];exact .inl d) (f a)
 |.bo,f=>λa m=>(Zj.mp m).elim (λe=>by rw[e];exact .inl d) (f a)
theorem qI{d m:Md}{l:Vp}{t:T}(e:JA d l=some (m,t)):t=.lst l/\l.length<=fL/\m=(if fK l then .fr else d):=by
 unfold JA at e;split at e
 ·rename_i h;cases e;exact⟨rfl,h,rfl⟩
 ·cases e
theorem jM{R:G6}{U:VS.Env}{i H:Hp}{q m:Md}{l:Vp}{t:T}{o:List V}{n:Yp}{Q:VK}(d:aO i H)(e:JA q l=some (m,t))(r:RpL G H o l n)(f:Fp R U i q n.flatten)(k:∀v j F,aO H j->Rp G j v t F->Fp R U i m F->Q v j):∀p,H p=none->Q (.ref p) (upd H p (.lst o)):=by
 intro p g;obtain⟨rfl,s,rfl⟩:=qI e;refine k _ _ _ (dw g) (.lst aC (r.same (dw g))) ?_;have np:p∉n.flatten:=λm=>G4.p0 (r.Hk p m) g;by_cases h:fK l=true
 ·rw[h,Zs rfl];rw[r.G5 h]at np ⊢;exact Fp.nil.new (d.free g) np
 ·rw[Zp h];exact f.new (d.free g) np
theorem Pn.join{R:G6}{U:VS.Env}{h H:Hp}{x y:Val}{u w:V}{f e:Wy}(i:Pn G R U h H x y u w f e){F:Wy}(g:F.Sublist (f++e)):Fp R U h (x.1.join y.1) F:=by
 obtain⟨same,r1,r2,f1,f2,nd⟩:=i;have split:∀a∈F,a∈f\/a∈e:=λa d=>Ze.mp (g.subset d);obtain⟨l,x⟩:=x;obtain⟨j,y⟩:=y;have both:∀{P:Addr->Prop},(∀a∈f,P a)->(∀a∈e,P a)->∀a∈F,P a:=λn m a d=>(split a d).elim (n a) (m a);cases l<;>cases j
 ·exact⟨(nd rfl rfl).sublist g,both f1.2 f2.2⟩
 ·exact both (λa d=>.inl (f1.2 a d)) f2
 ·exact both (λa d=>.inl (f1.2 a d)) f2
 ·exact both f1 (λa d=>.inl (f2.2 a d))
 ·exact both f1 f2
 ·exact both (f1.bo) f2
 ·exact both f1 (λa d=>.inl (f2.2 a d))
 ·exact both f1 (f2.bo)
 ·exact both f1 f2
theorem g8:fL=sizeLine:=rfl
theorem gn(s:Tx):(sx s).length=s.length:=rfl
theorem C1(s t:Tx):sx s++sx t=sx (s++t):=by
 show Str.append (sx s) (sx t)=_;simp[sx,Str.append]
theorem Rp.lst_inv{H:Hp}{v:V}{l:Vp}{F:Wy}(r:Rp G H v (.lst l) F):∃a d e,v=.ref a/\F=a :: e.flatten/\H a=some (.lst d)/\RpL G H d l e:=by
 cases r with
 |lst h q=>exact⟨_,_,_,rfl,rfl,h,q⟩
theorem Rp.Ii{H:Hp}{v:V}{l:Vp}{F:Wy}(r:Rp G H v (.tup l) F):∃a d e,v=.ref a/\F=e.flatten/\H a=some (.tup d)/\RpL G H d l e:=by
 cases r with
 |tup h q=>exact⟨_,_,_,rfl,rfl,h,q⟩
theorem Rp.Mi{H:Hp}{v:V}{l:Vu}{F:Wy}(r:Rp G H v (.scr l) F):∃a,v=.ref a/\F=[]/\mM G.K H a l:=by
 cases r with
 |scr h=>exact⟨_,rfl,rfl,h⟩
end
section
variable{G:Gx}{X:Cx}
noncomputable def FW:HR:=λx y H Q=>Kx (λi j=>.int (i+j)) x y H Q\/(∃i j,x=.str i/\y=.str j/\i.length+j.length<=sizeLine/\Q (.str (i++j)) H)\/EJ x y H Q
theorem BU:OpR X (binaryOp .Add) FW:=DW.or (t9.or C8)
theorem Dx:g0 G FW bK:=by
 intro R U D H x y u w A z m t Q f e k;have q:=λ{F:Wy} (h:List.Sublist F (A++z))=>f.join h;obtain⟨C,x⟩:=x;obtain⟨B,y⟩:=y;obtain⟨same,r1,r2,f1,f2,nd⟩:=f;unfold bK at e;split at e
 ·rename_i i _ j e1 e2;cases e1;cases e2;cases e;exact .inl ⟨_,_,r1.int_inv,r2.int_inv,bM k (.int _)⟩
 ·rename_i s _ p e1 e2;cases e1;cases e2;split at e
  ·rename_i d;cases e;refine .inr (.inl ⟨_,_,r1.str_inv.1,r2.str_inv.1,by rw[gn,gn,← g8];exact d,?_⟩);rw[C1];exact bM k (.str _ ⟨by rw[Zy];exact d,λc r=>(Ze.mp r).elim (r1.str_inv.2.2 c) (r2.str_inv.2.2 c)⟩)
  ·cases e
 ·rename_i s _ p e1 e2;cases e1;cases e2;obtain⟨a,n,J,rfl,rfl,v,l⟩:=r1.lst_inv;obtain⟨b,o,E,rfl,rfl,hb,g⟩:=r2.lst_inv;obtain⟨_,d,_⟩:=qI e;refine .inr (.inr ⟨a,b,n,o,rfl,rfl,v,hb,?_,jM same e (l.append g) (q ?_) k⟩)
  ·rw[Zy]at d;rw[l.len.1,g.len.1,← g8];exact d
  ·rw[Z4];exact(Yd _ _).append (Yd _ _)
 ·cases e
theorem Dr:g0 G (Kx λi j=>.int (i-j)) jU:=by
 intro R U f H x y u w h g m t Q a e k;obtain⟨d,x⟩:=x;obtain⟨b,y⟩:=y;obtain⟨same,r1,r2,f1,f2,nd⟩:=a;unfold jU at e;split at e
 ·rename_i e1 e2;cases e1;cases e2;cases e;exact⟨_,_,r1.int_inv,r2.int_inv,bM k (.int _)⟩
 ·cases e
theorem AH:g0 G (rI FQ λi j=>.int (i/j)) ic:=by
 intro R U f H x y u w l g m t Q a e k;obtain⟨d,x⟩:=x;obtain⟨b,y⟩:=y;obtain⟨same,r1,r2,f1,f2,nd⟩:=a;unfold ic at e;split at e
 ·rename_i e1 e2;cases e1;cases e2;split at e
  ·rename_i h;cases e;exact⟨_,_,r1.int_inv,r2.int_inv,h,bM k (.int _)⟩
  ·cases e
 ·cases e
theorem Es:g0 G (rI (λ_ j=>0<j) λi j=>.int (i%j)) oMod:=by
 intro R U f H x y u w l g m t Q a e k;obtain⟨d,x⟩:=x;obtain⟨b,y⟩:=y;obtain⟨same,r1,r2,f1,f2,nd⟩:=a;unfold oMod at e;split at e
 ·rename_i e1 e2;cases e1;cases e2;split at e
  ·rename_i h;cases e;exact⟨_,_,r1.int_inv,r2.int_inv,h,bM k (.int _)⟩
  ·cases e
 ·cases e
theorem nS:∀(s t:Tx),Ld s t=decide (s<t)
 |[],[]=>by simp[Ld]
 |[],_ :: _=>by simp[Ld]
 |_ :: _,[]=>by simp[Ld]
 |a :: s,b :: t=>by
  unfold Ld;rw[nS s t];by_cases e:a<b
  ·simp[e,XE]
  ·by_cases d:b<a
   ·have:¬a=b:=by exact WB d
    simp[e,d,XE,this]
   ·have:a=b:=by lia
    subst this;simp[XE]
noncomputable def Tt:HR:=λx y H Q=>Kx (λi j=>.bl (decide (i<j))) x y H Q\/(∃i j,x=.str i/\y=.str j/\Q (.bl (decide (i.cps.toList<j.cps.toList))) H)
theorem ug:OpR X (compareOp .Lt) Tt:=EN.or wX
theorem zP:g0 G Tt oLt:=by
 intro R U g H x y u w i h m t Q b e k;obtain⟨f,x⟩:=x;obtain⟨d,y⟩:=y;obtain⟨same,r1,r2,f1,f2,nd⟩:=b;unfold oLt at e;split at e
 ·rename_i e1 e2;cases e1;cases e2;cases e;exact .inl ⟨_,_,r1.int_inv,r2.int_inv,bM k (.bl _)⟩
 ·rename_i s _ a e1 e2;cases e1;cases e2;cases e;refine .inr ⟨_,_,r1.str_inv.1,r2.str_inv.1,?_⟩;have:decide ((sx s).cps.toList<(sx a).cps.toList)=Ld s a:=by rw[nS];exact decide_eq_decide.mpr (by simp[sx])
  rw[this];exact bM k (.bl _)
 ·cases e
theorem kP:Tells oLt:=by
 intro x y m t e;unfold oLt at e;split at e<;>first | (cases e;exact⟨_,rfl⟩) | cases e
theorem Ed:Pr=2 ^ 64:=rfl
theorem Di:g0 G (rI AA λi j=>.int (i*j)) fY:=by
 intro R U f H x y u w l g m t Q a e k;obtain⟨d,x⟩:=x;obtain⟨b,y⟩:=y;obtain⟨same,r1,r2,f1,f2,nd⟩:=a;unfold fY at e;split at e
 ·rename_i e1 e2;cases e1;cases e2;split at e
  ·rename_i h;cases e;refine⟨_,_,r1.int_inv,r2.int_inv,?_,bM k (.int _)⟩;rw[Ed]at h;exact h
  ·cases e
 ·cases e
theorem vR:OpR X (compareOp .LtE) (λx y H Q=>∃i j,x=.str i/\y=.str j/\Q (.bl (!decide (j.cps.toList<i.cps.toList))) H):=by
 intro a s J H x y v u Q I d b h;obtain⟨i,j,rfl,rfl,q⟩:=h;obtain⟨t,rfl⟩:=d;obtain⟨e,rfl⟩:=b;exact PySem.P.le_str ⟨.bl _,H,I,rfl,q⟩
noncomputable def Tu:HR:=λx y H Q=>Kx (λi j=>.bl (decide (i<=j))) x y H Q\/(∃i j,x=.str i/\y=.str j/\Q (.bl (!decide (j.cps.toList<i.cps.toList))) H)
theorem DI:OpR X (compareOp .LtE) Tu:=ET.or vR
theorem Fb:g0 G Tu oLe:=by
 intro R U g H x y u w i h m t Q b e k;obtain⟨f,x⟩:=x;obtain⟨d,y⟩:=y;obtain⟨same,r1,r2,f1,f2,nd⟩:=b;unfold oLe at e;split at e
 ·rename_i e1 e2;cases e1;cases e2;cases e;exact .inl ⟨_,_,r1.int_inv,r2.int_inv,bM k (.bl _)⟩
 ·rename_i s _ a e1 e2;cases e1;cases e2;cases e;refine .inr ⟨_,_,r1.str_inv.1,r2.str_inv.1,?_⟩;have:decide ((sx a).cps.toList<(sx s).cps.toList)=Ld a s:=by rw[nS];exact decide_eq_decide.mpr (by simp[sx])
  rw[this];exact bM k (.bl _)
 ·cases e
theorem zC:Tells oLe:=by
 intro x y m t e;unfold oLe at e;split at e<;>first | (cases e;exact⟨_,rfl⟩) | cases e
theorem uk{n:Nat}{i:Int}:Iq n i=Nn n i:=by
 unfold Iq Nn;by_cases h:0<=i
 ·rw[Zs h,Zs h]
 ·rw[Zp h,Zp h];by_cases a:0<=i+n
  ·rw[Zs a,Zs (by lia)]
  ·rw[Zp a,Zp (by lia)]
theorem nW{α:Type}{l:List α}{i:Int}{k:Nat}{x:α}(b:Iq l.length i=some k)(a:l[k]?=some x):NV l i=some x:=by
 unfold NV;rw[← uk,b];exact a
theorem dv{a:Yp}{F:Wy}{i:Nat}(h:a[i]?=some F):F.Sublist a.flatten:=by
 obtain⟨b,rfl⟩:=ZX.mp h;exact List.sublist_flatten_of_mem (Yt b)
theorem Fp.sub{R:G6}{U:VS.Env}{H:Hp}{F d:Wy}(h:F.Sublist d):∀{m:Md},Fp R U H m d->Fp R U H m F
 |.fr,f=>⟨f.1.sublist h,λa b=>f.2 a (h.subset b)⟩
 |.pu,f=>λa b=>f a (h.subset b)
 |.bo,f=>λa b=>f a (h.subset b)
theorem w6:g0 G (QL G.K) aA:=by
 intro R U L H x y u w N M m t Q B e k;obtain⟨J,x⟩:=x;obtain⟨E,y⟩:=y;obtain⟨same,r1,r2,f1,f2,nd⟩:=B;unfold aA at e;split at e
 ·rename_i p l o i e1 e2;cases e1;cases e2;obtain⟨j,d,e⟩:=Zz.mp e;obtain⟨x,b,e⟩:=Zu.mp e;obtain⟨a,n,D,rfl,rfl,q,h⟩:=r1.lst_inv;obtain⟨v,F,s,r,g⟩:=h.get j b;refine .inl ⟨a,n,i,v,rfl,r2.int_inv,Hc.of q,nW (by rw[h.len.1];exact d) s,?_⟩;have f:=((f1.sub (Yd _ _)).sub (dv r)).up g;unfold VS.sub at e;rw[e]at f;have z:x=t:=congrArg Prod.snd e;rw[z]at g;exact k v H F (aO.refl _) g f
 ·rename_i p l o i e1 e2;cases e1;cases e2;obtain⟨j,d,e⟩:=Zz.mp e;obtain⟨x,b,e⟩:=Zu.mp e;obtain⟨a,n,D,rfl,rfl,q,h⟩:=r1.Ii;obtain⟨v,F,s,r,g⟩:=h.get j b;refine .inr (.inl ⟨a,n,i,v,rfl,r2.int_inv,HX.of q,nW (by rw[h.len.1];exact d) s,?_⟩);have f:=(f1.sub (dv r)).up g;unfold VS.sub at e;rw[e]at f;have z:x=t:=congrArg Prod.snd e;rw[z]at g;exact k v H F (aO.refl _) g f
 ·rename_i p l o i e1 e2;cases e1;cases e2;obtain⟨j,d,e⟩:=Zz.mp e;obtain⟨x,b,e⟩:=Zu.mp e;cases e;obtain⟨a,rfl,rfl,sa⟩:=r1.Mi;refine .inl ⟨a,l.map V.int,i,.int x,rfl,r2.int_inv,sa.seq,nW (by rw[Zx];exact d) (by rw[ZM,b];rfl),bM k (.int _)⟩
 ·rename_i p l o i e1 e2;cases e1;cases e2;obtain⟨j,d,e⟩:=Zz.mp e;obtain⟨x,b,e⟩:=Zu.mp e;cases e;obtain⟨rfl,A⟩:=r1.str_inv;refine .inr (.inr ⟨sx l,i,x,rfl,r2.int_inv,by rw[gn,← g8];exact A.1,nW (k:=j) (by simpa[sx] using d) (by simpa[sx] using b),?_⟩);exact bM k (.str [x] ⟨by show 1<=fL;decide,λc C=>by rw[Za.mp C];exact A.2 x (Xj b)⟩)
 ·cases e
end
section
variable{G:Gx}{X:Cx}{a b c e:Expr}{es:List Expr}{ca cb cc:Ex}{cs:Hr}{pos p:Pos}
theorem vm{x:Addr}:∀{l:Vr}{d:Yp},x∈Ig l d->∃(i:Nat)(v:Val)(F:Wy),l[i]?=some v/\v.1=.fr/\d[i]?=some F/\x∈F
 |[],_,h=>by simp[Ig]at h
 |_ :: _,[],h=>by simp[Ig]at h
 |v :: l,F :: d,h=>by
  have go:x∈Ig l d->∃(i:Nat)(u:Val)(f:Wy),(v :: l)[i]?=some u/\u.1=.fr/\(F :: d)[i]?=some f/\x∈f:=λm=>by
   obtain⟨i,u,f,q,o,n,j⟩:=vm m;exact⟨i+1,u,f,by simpa using q,o,by simpa using n,j⟩
  unfold Ig at h;split at h
  ·rename_i g;rcases Ze.mp h with h | h
   ·exact⟨0,v,F,rfl,g,rfl,h⟩
   ·exact go h
  ·exact go h
theorem ag:Ib G X [] ai:=PA.weak iX λJ H Q d=>by
 obtain⟨R,U,l,s,e,k⟩:=d;cases (show some ([]:Vr)=some l from e);exact k [] H [] (aO.refl _) .nil ⟨λi v F h=>by simp at h,by simp[Ig]⟩
theorem ab(B:PV G X e ca)(w:Ib G X es cs)(t:K1 e es X:=by rfl):Ib G X (e :: es) (ae ca cs):=PA.weak (eT B w t) λJ H Q A=>by
 obtain⟨R,U,l,s,e,k⟩:=A;unfold ae at e;obtain⟨x,L,e⟩:=Zz.mp e;obtain⟨j,E,e⟩:=Zz.mp e;cases e;refine⟨R,U,x.1,x.2,s,L,λv O F e1 r1 f1=>⟨R,U,j,s.same e1,E,λm M N e2 r2 f2=>k (v :: m) M (F :: N) (e1.trans e2) (.cons (r1.same e2) r2) ⟨λi u h g d=>?_,?_⟩⟩⟩
 ·cases i with
  |zero =>
   cases (show some x=some u from g);cases (show some F=some h from d);exact f1
  |succ i=>exact(f2.each i u h (by simpa using g) (by simpa using d)).back e1
 ·unfold Ig;split
  ·rename_i r;rw[r]at f1;refine ZK.mpr ⟨f1.1,f2.nd,λy o z n q=>?_⟩;subst q;obtain⟨i,u,h,g,d,D,C⟩:=vm n;have f:=f2.each i u h g D;rw[d]at f;exact G4.p0 (r1.Hk y o) (f.2 y C)
  ·exact f2.nd
theorem lq:∀{l:Vr},cA l=.fr->∀v∈l,v.1=.fr
 |[],_,v,h=>by simp at h
 | (m,t) :: r,e,v,h=>by
  have d:m.join (cA r)=.fr:=e;have g:m=.fr:=by
   revert d;cases m<;>cases cA r<;>simp[Md.join]
  have f:cA r=.fr:=by
   revert d;cases m<;>cases cA r<;>simp[Md.join]
  rcases Zj.mp h with rfl | h
  ·exact g
  ·exact lq f v h
theorem kU:∀{l:Vr},cA l ≠ .bo->∀v∈l,v.1 ≠ .bo
 |[],_,v,h=>by simp at h
 | (m,t) :: r,e,v,h=>by
  have d:m.join (cA r) ≠ .bo:=e;have g:m ≠ .bo:=by
   revert d;cases m<;>cases cA r<;>simp[Md.join]
  have f:cA r ≠ .bo:=by
   revert d;cases m<;>cases cA r<;>simp[Md.join]
  rcases Zj.mp h with rfl | h
  ·exact g
  ·exact kU f v h
theorem vi:∀{l:Vr}{d:Yp},l.length=d.length->(∀v∈l,v.1=.fr)->Ig l d=d.flatten
 |[],[],_,_=>rfl
 |[],_ :: _,h,_=>by simp at h
 |_ :: _,[],h,_=>by simp at h
 |v :: l,F :: d,h,q=>by
  unfold Ig;rw[q v Zw,vi (by simpa using h) λu f=>q u (Zv _ f)];rfl
theorem gz{x:Addr}{d:Yp}(h:x∈d.flatten):∃(i:Nat)(F:Wy),d[i]?=some F/\x∈F:=by
 obtain⟨F,j,f⟩:=List.mem_flatten.mp h;obtain⟨i,g⟩:=List.mem_iff_getElem?.mp j;exact⟨i,F,g,f⟩
theorem L5.join{R:G6}{U:VS.Env}{H:Hp}{l:Vr}{j:Yp}(f:L5 R U H l j)(n:l.length=j.length):Fp R U H (cA l) j.flatten:=by
 have at':∀x∈j.flatten,∃v F,v∈l/\x∈F/\Fp R U H v.1 F:=λx d=>by
  obtain⟨i,F,m,g⟩:=gz d;have:i<l.length:=by
   have:=(ZX.mp m).1;lia
  exact⟨l[i],F,Yt this,g,f.each i _ F (Zq this) m⟩
 cases e:cA l with
 |fr =>
  have al:=lq e;refine⟨by rw[← vi n al];exact f.nd,λx d=>?_⟩;obtain⟨v,F,h,g,q⟩:=at' x d;rw[al v h]at q;exact q.2 x g
 |pu =>
  have al:=kU (l:=l) (by rw[e];decide);intro x d;obtain⟨v,F,h,g,q⟩:=at' x d;exact Fp.pu (al v h) q x g
 |bo =>
  intro x d;obtain⟨v,F,h,g,q⟩:=at' x d;exact q.bo x g
structure Args(G:Gx)(R:G6)(U:VS.Env)(H0 H:Hp)(l:Vr)(vs:List V)(Fs:Yp):Prop where
 same:aO H0 H
 rp:RpL G H vs (trees l) Fs
 fp:L5 R U H0 l Fs
theorem Args.len{R:G6}{U:VS.Env}{g H:Hp}{l:Vr}{f:List V}{d:Yp}(A:Args G R U g H l f d):l.length=d.length:=by
 have:=A.rp.len.2;simp[trees]at this;exact Eq.symm this
noncomputable def fq(G:Gx)(r:List V->Hp->VK->Prop)(f:Vr->Vq):Prop:=∀(R:G6)(U:VS.Env)(h H:Hp)(l:Vr)(g:List V)(i:Yp)(m:Md)(t:T)(Q:VK),Args G R U h H l g i->f l=some (m,t) →
 (∀v d F,aO H d->Rp G d v t F->Fp R U h m F->Q v d)->r g H Q
theorem B7{r:List V->Hp->VK->Prop}{f:Vr->Vq}(h:fq G r f){J:L2.St}{H:Hp}{Q:VK}{U:VS.Env}{R:G6}{l:Vr}{m:Md}{t:T}(s:SR G R U J H)(i:cs U=some l)(e:f l=some (m,t))(k:∀v d F,aO H d->Rp G d v t F->Fp R U H m F->Q v d):M9 G cs J H λg n=>r g n Q :=
 ⟨R,U,l,s,i,λg d o e1 r1 f1=>h R U H d l g o m t Q ⟨e1,r1,f1⟩ e λv j F e2 r2 f2=>k v j F (e1.trans e2) r2 f2⟩
theorem ji{r:List V->Hp->VK->Prop}{f:Vr->Vq}{d:String}{x:Str}(q:dN X (.builtin d) r)(g:fq G r f)(o:Gl X x)(n:X.mg x=none)(h:bootBuiltins x=some (.builtin d))(u:Ib G X (e :: es) cs)(j:x ≠ "__name__" := by decide)(w:K3 x:=by decide)(he:K1 e es X:=by rfl)(hpl:K2 pos es X:=by rfl):PV G X (.Call (.Name x p) (e :: es) [] pos) (eN f cs) :=
 PE.weak (sI q o n h u j w he hpl) λJ H Q i=>by
  obtain⟨R,U,m,t,s,e,k⟩:=i;unfold eN at e;obtain⟨l,v,e⟩:=Zz.mp e;exact B7 g s v e k
theorem jL{r:List V->Hp->VK->Prop}{f:Vr->Vq}{Ty:String}{x:Str}(o:dN X (.type Ty) r)(d:fq G r f)(n:Gl X x)(j:X.mg x=none)(g:bootBuiltins x=some (.type Ty))(q:Ib G X (e :: es) cs)(i:x ≠ "__name__" := by decide)(v:K3 x:=by decide)(he:K1 e es X:=by rfl)(hpl:K2 pos es X:=by rfl):PV G X (.Call (.Name x p) (e :: es) [] pos) (eN f cs) :=
 PE.weak (wx o n j g q i v he hpl) λJ H Q h=>by
  obtain⟨R,U,m,t,s,e,k⟩:=h;unfold eN at e;obtain⟨l,u,e⟩:=Zz.mp e;exact B7 d s u e k
theorem eV(h:Ib G X es cs):PV G X (.List es pos) (il cs):=PE.weak (ua h) λJ H Q f=>by
 obtain⟨R,U,m,t,s,e,k⟩:=f;unfold il at e;obtain⟨l,i,e⟩:=Zz.mp e;refine⟨R,U,l,s,i,λd n o e1 r1 f1=>?_⟩;have A:Args G R U H n l d o:=⟨e1,r1,f1⟩
 obtain⟨_,g,_⟩:=qI e;refine⟨by rw[r1.len.1,← g8];exact g,jM e1 e r1 (f1.join A.len) λv j F e2 r2 f2=>k v j F (e1.trans e2) r2 f2⟩
theorem nL{x1}(h:Ib G X es cs):PV G X (.Tuple es x1 pos) (oT cs):=PE.weak (DK h) λJ H Q d=>by
 obtain⟨R,U,m,t,s,e,k⟩:=d;unfold oT at e;obtain⟨l,n,e⟩:=Zz.mp e;refine⟨R,U,l,s,n,λf g i e1 r1 f1=>?_⟩;have A:Args G R U H g l f i:=⟨e1,r1,f1⟩
 unfold rz at e;split at e
 ·rename_i j;cases e;refine⟨by rw[r1.len.1,← g8,trees,Zx];exact j,λq d=>?_⟩;have r2:Rp G (upd g q (.tup f)) (.ref q) (.tup (trees l)) i.flatten:=.tup aC (r1.same (dw d));exact k _ _ _ (e1.trans (dw d)) r2 (Fp.up (f1.join A.len) r2)
 ·cases e
theorem Bz{H:Hp}{v:V}{t:T}{F:Wy}{k:Bool}(r:Rp G H v t F)(h:LL t=some k):Cu G.K v H k:=by
 cases r with
 |non=>cases h;rfl
 |bl b=>cases h;rfl
 |int i=>cases h;rfl
 |str s j =>
  cases h;refine⟨by rw[gn,← g8];exact j.1,?_⟩;rw[gn];cases s with
  |nil=>rfl
  |cons a r =>
   have:((List.length (a :: r):Int) != 0)=true:=by simp;lia
   rw[this];rfl
 |scr d=>cases h
 |tup d q =>
  cases h;refine .inr (.inl ⟨_,HX.of d,?_⟩);have:=q.len.1;rename_i f g _;cases f<;>cases g<;>simp_all
 |lst d q =>
  cases h;refine .inl ⟨_,Hc.of d,?_⟩;have:=q.len.1;rename_i f g _;cases f<;>cases g<;>simp_all
 |dct d j q =>
  cases h;refine .inr (.inr ⟨_,d,?_⟩);have:=q.len.1;rename_i l f g _;cases l<;>cases f<;>cases g<;>simp_all
 |dctT d j q=>cases h
 |dctN d j n q=>cases h
 |dctZ _ _ _=>cases h
 |exc _ _=>cases h
 |ins _ _ _ _=>cases h
 |mk _ _=>cases h
theorem ni(h:PV G X a ca)(d:X.K=G.K:=by rfl)(he:∀whole,isTrue a X.env whole=(do let v ← whole;standAt a.pos;holding [v] (truthy v)):=by intro _;rfl):Js G X a ca :=
 PT.weak (yP h he) λJ H Q ⟨R,U,m,r,b,s,e,f,k⟩=>⟨R,U,m,r,s,e,λv g F e1 r1 f1=>⟨b,by rw[d];exact Bz r1 f,k g e1⟩⟩
noncomputable def KI(G:Gx)(X:Cx)(e:Expr)(c:Ex):Prop:=PW X e (tT G c)
theorem PW.weak{X:Cx}{e:Expr}{t f:TT}(h:PW X e t)(w:∀J H Q,f J H Q->t J H Q):PW X e f:=λg d s J H Q I q=>h g d s J H Q I (w J H Q q)
theorem KI.ME(h:KI G X e ca):Js G X e ca:=PW.pt h
variable{rest:List Expr}
theorem sW{U:VS.Env}{m:Md}{r:T}(e:jg ca cb U=some (m,r)):(∃n,ca U=some (n,.bl true)/\cb U=some (m,r))\/(∃n,ca U=some (n,.bl false)/\m=.fr/\r=.bl false):=by
 unfold jg at e;obtain⟨⟨n,x⟩,d,e⟩:=Zz.mp e;split at e
 ·rename_i h;cases (show x=.bl true from h);exact .inl ⟨n,d,e⟩
 ·rename_i h;cases (show x=.bl false from h);cases e;exact .inr ⟨n,d,rfl,rfl⟩
 ·cases e
theorem BF{U:VS.Env}{m:Md}{r:T}(e:LY ca cb U=some (m,r)):(∃n,ca U=some (n,.bl false)/\cb U=some (m,r))\/(∃n,ca U=some (n,.bl true)/\m=.fr/\r=.bl true):=by
 unfold LY at e;obtain⟨⟨n,x⟩,d,e⟩:=Zz.mp e;split at e
 ·rename_i h;cases (show x=.bl true from h);cases e;exact .inr ⟨n,d,rfl,rfl⟩
 ·rename_i h;cases (show x=.bl false from h);exact .inl ⟨n,d,e⟩
 ·cases e
theorem lA(j:Js G X a ca)(i:KI G X (.BoolOp .And (b :: rest) pos) cb):KI G X (.BoolOp .And (a :: b :: rest) pos) (jg ca cb) :=
 PW.weak (D7 j i) λJ H Q h=>by
  obtain⟨R,U,m,r,k,s,e,f,q⟩:=h;rcases sW e with⟨n,d,e2⟩ | ⟨n,d,rfl,rfl⟩
  ·refine⟨R,U,n,_,true,s,d,rfl,λg e1=>?_⟩;refine zy ?_;exact⟨R,U,m,r,k,s.same e1,e2,f,λl e2=>q l (e1.trans e2)⟩
  ·refine⟨R,U,n,_,false,s,d,rfl,λg e1=>?_⟩;refine zx ?_;cases f;exact q g e1
theorem oI(j:Js G X a ca)(i:KI G X (.BoolOp .Or (b :: rest) pos) cb):KI G X (.BoolOp .Or (a :: b :: rest) pos) (LY ca cb) :=
 PW.weak (EB j i) λJ H Q h=>by
  obtain⟨R,U,m,r,k,s,e,f,q⟩:=h;rcases BF e with⟨n,d,e2⟩ | ⟨n,d,rfl,rfl⟩
  ·refine⟨R,U,n,_,false,s,d,rfl,λg e1=>?_⟩;refine zx ?_;exact⟨R,U,m,r,k,s.same e1,e2,f,λl e2=>q l (e1.trans e2)⟩
  ·refine⟨R,U,n,_,true,s,d,rfl,λg e1=>?_⟩;refine zy ?_;cases f;exact q g e1
theorem sL{U:VS.Env}{m:Md}{r:T}(e:mW ca U=some (m,r)):∃n b,ca U=some (n,.bl b)/\m=.fr/\r=.bl (!b):=by
 unfold mW at e;obtain⟨⟨n,x⟩,d,e⟩:=Zz.mp e;split at e
 ·rename_i b h;cases (show x=.bl b from h);cases e;exact⟨n,b,d,rfl,rfl⟩
 ·cases e
theorem jR(f:Js G X a ca):Js G X (.UnaryOp .Not a pos) (mW ca):=PT.weak (De f) λJ H Q d=>by
 obtain⟨R,U,m,r,k,s,e,g,q⟩:=d;obtain⟨n,b,h,rfl,rfl⟩:=sL e;cases g;exact⟨R,U,n,_,b,s,h,rfl,λi e1=>q i e1⟩
theorem Ea(f:PV G X a ca):PV G X (.UnaryOp .Not a pos) (mW ca):=PE.weak (D9 f) λJ H Q d=>by
 obtain⟨R,U,m,r,s,e,q⟩:=d;obtain⟨n,b,g,rfl,rfl⟩:=sL e;exact⟨R,U,n,_,s,g,λv h F e1 r1 f1=>⟨b,r1.HZ,q _ h _ e1 (.bl _) Fp.nil⟩⟩
theorem Da{op}(h:PV G X a ca):PV G X (.BoolOp op [a] pos) ca:=Ec h
theorem Eu(i:PV G X a ca)(h:PV G X (.BoolOp .And (b :: rest) pos) cb):PV G X (.BoolOp .And (a :: b :: rest) pos) (jg ca cb) :=
 PE.weak (DT i h) λJ H Q g=>by
  obtain⟨R,U,m,r,s,e,q⟩:=g;rcases sW e with⟨n,d,e2⟩ | ⟨n,d,rfl,rfl⟩
  ·refine⟨R,U,n,_,s,d,λv f F e1 r1 f1=>⟨true,r1.HZ,?_⟩⟩;refine zy ?_;exact⟨R,U,m,r,s.same e1,e2,λv j F e2 r2 f2=>q v j F (e1.trans e2) r2 (f2.back e1)⟩
  ·refine⟨R,U,n,_,s,d,λv f F e1 r1 f1=>⟨false,r1.HZ,?_⟩⟩;refine zx ?_;exact q _ f _ e1 (.bl _) Fp.nil
theorem Gg(g:Js G X c cc)(i:PV G X a ca)(h:PV G X b cb):PV G X (.IfExp c a b pos) (Qt cc ca cb) :=
 PE.weak (zI g i h) λJ H Q f=>by
  obtain⟨R,U,m,r,s,e,q⟩:=f;unfold Qt at e;obtain⟨⟨n,x⟩,l,e⟩:=Zz.mp e;obtain⟨k,j,e⟩:=Zz.mp e;refine⟨R,U,n,x,k,s,l,j,λo e1=>?_⟩;cases k with
  |true =>
   rw[Zs rfl]at e;refine zy ?_;exact⟨R,U,m,r,s.same e1,e,λv d F e2 r2 f2=>q v d F (e1.trans e2) r2 (f2.back e1)⟩
  |false =>
   rw[Zp Zg]at e;refine zx ?_;exact⟨R,U,m,r,s.same e1,e,λv d F e2 r2 f2=>q v d F (e1.trans e2) r2 (f2.back e1)⟩
theorem vg{H:Hp}{v:V}{t:T}{F:Wy}(r:Rp G H v t F):decide (v=.non)=N2 t:=by
 cases r<;>simp[N2]
theorem Cq{t:TE}{c:Ex}{J:L2.St}{H:Hp}{Q:Bool->Hp->Prop}(h:tT G c J H Q)(f:∀U m r,c U=some (m,r)->∃b,r=.bl b)(w:∀Q,tE G c J H Q->t J H Q):tB t J H Q:=by
 obtain⟨R,U,m,r,b,s,e,d,k⟩:=h;refine w _ ⟨R,U,m,r,s,e,λv j F e1 r1 f1=>?_⟩;obtain⟨i,g⟩:=f U m r e;rw[g]at d r1;cases (show some i=some b from d);exact⟨_,r1.HZ,k j e1⟩
end
section
variable{G:Gx}{X:Cx}{a b c e:Expr}{es:List Expr}{ca cb cc:Ex}{cs:Hr}{pos p:Pos}
theorem RpL.one{H:Hp}{vs:List V}{t:T}{Fs:Yp}(r:RpL G H vs [t] Fs):∃v F,vs=[v]/\Fs=[F]/\Rp G H v t F:=by
 cases r with
 |cons r q=>cases q;exact⟨_,_,rfl,rfl,r⟩
theorem RpL.two{H:Hp}{g:List V}{t h:T}{i:Yp}(r:RpL G H g [t,h] i):∃v d F f,g=[v,d]/\i=[F,f]/\Rp G H v t F/\Rp G H d h f:=by
 cases r with
 |cons r q =>
  obtain⟨d,f,rfl,rfl,j⟩:=q.one;exact⟨_,_,_,_,rfl,rfl,r,j⟩
noncomputable def Ga(K:Xf):List V->Hp->VK->Prop:=λd H Q=>(∃x n,d=[x]/\FX K x H n/\Q (.int n) H)\/(∃a f,d=[V.ref a]/\H a=some (.dK f)/\Q (.int f.length) H)
theorem uc:dN X (.builtin "len") (λf H Q=>∃a d,f=[V.ref a]/\H a=some (.dK d)/\Q (.int d.length) H):=by
 intro g s J H f m Q I r h;obtain⟨a,d,rfl,j,q⟩:=h;obtain⟨u,rfl,i⟩:=vals1 r;cases i;exact FN I (.inl j) λt n l=>⟨.int d.length,H,l,⟨t,rfl⟩,q⟩
theorem vU:dN X (.builtin "len") (Ga X.K):=zL.or uc
theorem CS:fq G (Ga G.K) bY:=by
 intro R U B H l j o m t Q A e k;refine L2.iB λz f=>?_;unfold bY at e;split at e
 ·rename_i x;obtain⟨w,x⟩:=x;obtain⟨n,d,e⟩:=Zu.mp e;cases e;obtain⟨v,F,rfl,rfl,r⟩:=(show RpL G H j [x] o from A.rp).one;have fin:Q (.int (n:Int)) H:=bM k (.int _);cases r with
  |non=>cases d
  |bl b=>cases d
  |int i=>cases d
  |str s g =>
   cases d;refine f ?_;exact .inl ⟨_,_,rfl,⟨by rw[gn,← g8];exact g.1,rfl⟩,by rw[gn];exact fin⟩
  |scr h =>
   cases d;refine f ?_;refine .inl ⟨_,_,rfl,.inl ⟨_,h.seq,rfl⟩,?_⟩;rw[Zx];exact fin
  |tup h q =>
   cases d;refine f ?_;refine .inl ⟨_,_,rfl,.inr ⟨_,HX.of h,rfl⟩,?_⟩;rw[q.len.1];exact fin
  |lst h q =>
   cases d;refine f ?_;refine .inl ⟨_,_,rfl,.inl ⟨_,Hc.of h,rfl⟩,?_⟩;rw[q.len.1];exact fin
  |dct h g q =>
   cases d;refine f ?_;refine .inr ⟨_,_,rfl,h,?_⟩;rename_i y ws u _;have e1:=q.len.1;rw[Yn,Zx]at fin;rw[Yn,e1];exact fin
  |dctT h g q=>cases d
  |dctN h g n q=>cases d
  |dctZ _ _ _=>cases d
  |exc _ _=>cases d
  |ins _ _ _ _=>cases d
  |mk _ _=>cases d
 ·cases e
theorem A8:fq G (λd H Q=>∃i j,d=[.int i,.int j]/\Q (.int (if j<i then j else i)) H) sv:=by
 intro R U o H l f h m t Q A e k;unfold sv at e;split at e
 ·rename_i _ i _ j;cases e;obtain⟨v,n,F,q,rfl,rfl,r,g⟩:=(show RpL G H f [.int i,.int j] h from A.rp).two;exact⟨i,j,by rw[r.int_inv,g.int_inv],bM k (.int _)⟩
 ·cases e
noncomputable def B5(K:Xf):List V->Hp->VK->Prop:=λf H Q=>∃p d,f=[.ref p]/\(Hc K H p d\/HX K H p d)/\∀l,H l=none->Q (.ref l) (upd H l (.lst d))
theorem vy:fq G (B5 G.K) Cm:=by
 intro R U r H l j n m t Q A e k;unfold Cm at e;split at e
 ·rename_i o x;obtain⟨v,F,rfl,rfl,g⟩:=(show RpL G H j [.lst x] n from A.rp).one;obtain⟨a,d,q,rfl,rfl,i,h⟩:=g.lst_inv;have f:=A.fp.each 0 _ _ rfl rfl;exact⟨a,d,rfl,.inl (Hc.of i),jM A.same e h (f.sub (Yd _ _)) k⟩
 ·rename_i o x;obtain⟨v,F,rfl,rfl,g⟩:=(show RpL G H j [.tup x] n from A.rp).one;obtain⟨a,d,q,rfl,rfl,i,h⟩:=g.Ii;have f:=A.fp.each 0 _ _ rfl rfl;exact⟨a,d,rfl,.inr (HX.of i),jM A.same e h f k⟩
 ·cases e
noncomputable def tO(G:Gx)(c:Option Ex):TO:=λJ H Q=>∃R U o,SR G R U J H/\vH c U=some o/\∀d,aO H d->Q o d
noncomputable def Qw(G:Gx)(X:Cx)(e:Option Expr)(c:Option Ex):Prop:=PO X e (tO G c)
theorem PO.weak{X:Cx}{e:Option Expr}{t f:TO}(h:PO X e t)(w:∀J H Q,f J H Q->t J H Q):PO X e f:=λd s J H Q I q=>h d s J H Q I (w J H Q q)
theorem kT:Qw G X none none:=PO.weak By λJ H Q d=>by
 obtain⟨R,U,o,s,e,k⟩:=d;cases (show some (none:Option Int)=some o from e);exact k H (aO.refl _)
theorem fM(h:PV G X a ca):Qw G X (some a) (some ca):=PO.weak (BM h) λJ H Q f=>by
 obtain⟨R,U,o,s,e,k⟩:=f;obtain⟨⟨m,y⟩,g,e⟩:=Zz.mp (show (ca U).bind (λy=>(int? y.2).map some)=some o from e);obtain⟨i,d,e⟩:=Zu.mp e;cases e;refine⟨R,U,m,y,s,g,λv l F e1 r1 f1=>?_⟩;cases y with
 |int j =>
  cases d;exact⟨_,r1.int_inv,k l e1⟩
 |_=>cases d
theorem lR{α:Type}(l:List α)(d f:Option Int):cut l d f=(l.drop (HT.HL l.length 0 d)).take (HT.HL l.length l.length f-HT.HL l.length 0 d):=by
 unfold cut;cases d<;>cases f<;>rfl
theorem yF(d f:Option Int)(n:Nat):Builtin.Str.strSliceIndices d f 1 n=Builtin.Str.strSliceIndices (some ((min (HT.HL n 0 d) n:Nat):Int)) (some ((min (HT.HL n n f) n:Nat):Int)) 1 n:=by
 have e1:∀k:Nat,¬((k:Int)<0):=λk=>by lia
 unfold Builtin.Str.strSliceIndices;simp only[show (1:Int) > 0 by decide,if_true,e1,if_false];congr 1
 ·cases d with
  |none=>simp only[HT.HL];lia
  |some i =>
   simp only[HT.HL];by_cases h:i<0
   ·simp only[h,if_true];lia
   ·simp only[h,if_false];lia
 ·cases f with
  |none=>simp only[HT.HL];lia
  |some i =>
   simp only[HT.HL];by_cases h:i<0
   ·simp only[h,if_true];lia
   ·simp only[h,if_false];lia
theorem pd(s:Tx)(d f:Option Int):PySem.StrLaws.sliceText (sx s) d f=sx (cut s d f):=by
 have key:PySem.StrLaws.sliceText (sx s) d f=PySem.StrLaws.sliceText (sx s) (some ((min (HT.HL s.length 0 d) s.length:Nat):Int)) (some ((min (HT.HL s.length s.length f) s.length:Nat):Int)):=by
  unfold PySem.StrLaws.sliceText;rw[gn,yF]
 rw[key];have hd:∀a:Nat,s.drop (min a s.length)=s.drop a:=λa=>by
  by_cases h:a<=s.length
  ·rw[YW h]
  ·rw[Wi (by exact Xe h),Xu (Zo _),Xu (by exact Xe h)]
 by_cases h:min (HT.HL s.length 0 d) s.length<=min (HT.HL s.length s.length f) s.length
 ·rw[PySem.StrLaws.sliceText_nat (sx s) h (by rw[gn];exact Nat.min_le_right _ _),lR];show (⟨_⟩:Str)=⟨_⟩;congr 2;show ((sx s).cps.toList.drop _).take _=_;have:(sx s).cps.toList=s:=rfl;rw[this,hd];by_cases i:HT.HL s.length 0 d<=s.length
  ·rw[YW i];by_cases g:HT.HL s.length s.length f<=s.length
   ·rw[YW g]
   ·rw[Wi (by exact Xe g),Yr (by rw[Z7];exact Zo _),Yr (by rw[Z7];lia)]
  ·rw[Xu (by exact Xe i)];simp
 ·have j:cut s d f=[]:=by
   rw[lR];have:HT.HL s.length s.length f-HT.HL s.length 0 d=0:=by omega
   rw[this,List.take_zero]
  rw[j];unfold PySem.StrLaws.sliceText;have e2:Builtin.Str.strSliceIndices (some ((min (HT.HL s.length 0 d) s.length:Nat):Int)) (some ((min (HT.HL s.length s.length f) s.length:Nat):Int)) 1 (sx s).length=[]:=by
   have e1:∀k:Nat,¬((k:Int)<0):=λk=>by lia
   unfold Builtin.Str.strSliceIndices sliceRange;simp only[show (1:Int) > 0 by decide,if_true,e1,if_false,gn];rw[Zp (by omega)];rfl
  rw[e2];have:¬((1:Int)==1&&([]:Vv).length==(sx s).length)=true:=by
   rw[gn];simp;lia
  rw[Zp this];rfl
noncomputable def Fg:V->Option Int->Option Int->Hp->VK->Prop:=λx lo d H Q=>∃z,x=.str z/\z.length<=sizeLine/\Q (.str (PySem.StrLaws.sliceText z lo d)) H
theorem part_of{v:Value}{o:Option Int}(h:IsPart v o):∃q:Option (Int×Tok),v=partValue q/\o=q.map (·.1):=by
 cases h with
 |none=>exact⟨none,rfl,rfl⟩
 |int i t=>exact⟨some (i,t),rfl,rfl⟩
theorem qm{α β:Type}(f:α->Option β)(l:List α):(l.filterMap f).length<=l.length:=List.length_filterMap_le f l
theorem Bg(d f:Option Int)(n:Nat):(Builtin.Str.strSliceIndices d f 1 n).length<=n:=by
 rw[yF];by_cases h:min (HT.HL n 0 d) n<=min (HT.HL n n f) n
 ·rw[PySem.StrLaws.strSliceIndices_plain h (by exact Nat.min_le_right _ _),Zx,ZO];lia
 ·have e1:∀k:Nat,¬((k:Int)<0):=λk=>by lia
  unfold Builtin.Str.strSliceIndices sliceRange;simp only[show (1:Int) > 0 by decide,if_true,e1,if_false];rw[Zp (by omega)];simp
theorem Et:M3 X Fg:=by
 intro f s J H x v o n lo w r Q I g m i pu h;obtain⟨z,rfl,j,q⟩:=h;obtain⟨t,rfl⟩:=g;obtain⟨l,rfl,rfl⟩:=part_of i;obtain⟨u,rfl,rfl⟩:=part_of pu;refine⟨"str",_,F.slot_str_getitem.lookup,typeIs_str s z t,wpAny_getItem_str_slice (l:=l) (u:=u) (st:=none) m rfl ?_⟩;unfold sliceMade;split
 ·rename_i d;refine⟨.str z,H,I,⟨t,rfl⟩,?_⟩;have e:PySem.StrLaws.sliceText z (l.map (·.1)) (u.map (·.1))=z:=by
   unfold PySem.StrLaws.sliceText;exact Zs d
  rw[e]at q;exact q
 ·rename_i d;refine⟨ZE ?_ j,.str _,H,I.tok _,⟨_,rfl⟩,?_⟩
  ·show (List.filterMap _ _).toArray.size<=_;rw[ZJ];exact ZE (qm _ _) (Bg _ _ _)
  ·have e:PySem.StrLaws.sliceText z (l.map (·.1)) (u.map (·.1))=⟨((slicePicked z l u none).filterMap (z.cps[·]?)).toArray⟩:=by
    unfold PySem.StrLaws.sliceText;exact Zp d
   rw[e]at q;exact q
noncomputable def VQ(K:Xf):V->Option Int->Option Int->Hp->VK->Prop:=λx lo d H Q=>Fg x lo d H Q\/Fu K x lo d H Q
theorem Gw:M3 X (VQ X.K):=Et.or Ar
theorem AW{α:Type}(l:List α)(d f:Option Int):(cut l d f).length<=l.length:=by
 rw[lR,ZC,Z7];lia
theorem RpL.cut{H:Hp}{g:List V}{i:Vp}{j:Yp}(r:RpL G H g i j)(d f:Option Int):RpL G H (wF g d f) (VS.cut i d f) (VS.cut j d f):=by
 have h:=r.len;rw[lR,lR,h.2];unfold wF;rw[h.1];exact(r.drop _).take _
theorem vt{α:Type}(l:List α)(d f:Option Int):(VS.cut l d f).Sublist l:=by
 rw[lR];exact(List.take_sublist _ _).trans (List.drop_sublist _ _)
theorem yW{F G:Yp}(h:F.Sublist G):F.flatten.Sublist G.flatten:=by
 induction h with
 |slnil=>exact XI _
 |cons a _ d=>rw[ZI];exact d.trans (Y1 _ _)
 |cons_cons a _ d=>rw[ZI,ZI];exact(XI _).append d
theorem iy{j n:Option Expr}{u w:Option Ex}{E:Pos}(S:PV G X a ca)(d:Qw G X j u)(O:Qw G X n w)(Y:X.K=G.K:=by rfl):PV G X (.Subscript a (.Slice j n none E) pos) (Lj ca u w) :=
 PE.weak (xp Gw S d O) λJ H Q N=>by
  obtain⟨R,U,m,t,s,e,k⟩:=N;unfold Lj at e;obtain⟨⟨L,x⟩,ea,r⟩:=Zz.mp e;obtain⟨l,el,y⟩:=Zz.mp r;obtain⟨h,eh,f⟩:=Zz.mp y;clear e r y;refine⟨R,U,L,x,s,ea,λv H1 F e1 r1 f1=>⟨R,U,l,s.same e1,el,λH2 e2=>⟨R,U,h,(s.same e1).same e2,eh,λA o=>?_⟩⟩⟩;have g:aO H A:=(e1.trans e2).trans o;have i:=(r1.same e2).same o;unfold TF at f;split at f
  ·rename_i M z q;cases q;cases f;obtain⟨rfl,d⟩:=i.str_inv;refine .inl ⟨_,rfl,by rw[gn,← g8];exact d.1,?_⟩;rw[pd];exact k _ A _ g (.str _ ⟨ZE (AW _ _ _) d.1,λc P=>d.2 c ((vt _ _ _).subset P)⟩) Fp.nil
  ·rename_i M z q;cases q;obtain⟨a',B,Fs,rfl,rfl,Hn,C⟩:=i.lst_inv;refine .inr ⟨a',B,rfl,by rw[Y];exact Hc.of Hn,jM g f (C.cut l h) ((f1.sub (Yd _ _)).sub (yW (vt _ _ _))) λv H4 F e5 D Z=>k v H4 F (g.trans e5) D Z⟩
  ·cases f
noncomputable def K8:Ty->String
 |.int => "int"
 |.str => "str"
 |.bool => "bool"
 |.list => "list"
 |.tuple => "tuple"
 |.dict => "dict"
noncomputable def VR(K:Xf):List V->Hp->VK->Prop:=λd H Q=>∃x c t b,d=[x,.ty c]/\Io K H x t/\PySem.W.kitOne K t (.type c)=some b/\Q (.bl b) H
theorem Av:dN X (.builtin "isinstance") (VR X.K):=by
 intro d s J H f i Q I r h;obtain⟨x,c,t,b,rfl,ty,e,q⟩:=h;obtain⟨u,g,rfl,r1,r2⟩:=vals2 r;cases r2;exact wI I r1 ty e λj=>⟨.bl b,H,I.tok _,rfl,q⟩
theorem BR(K:Xf)(d:Ty):(PySem.W.kitOne K (.type "NoneType") (.type (K8 d))=some false)/\(PySem.W.kitOne K (.type "bool") (.type (K8 d))=some (tD d (.bl true)))/\(PySem.W.kitOne K (.type "int") (.type (K8 d))=some (tD d (.int 0))) ∧
  (PySem.W.kitOne K (.type "str") (.type (K8 d))=some (tD d (.str [])))/\(PySem.W.kitOne K (.type "list") (.type (K8 d))=some (tD d (.lst [])))/\(PySem.W.kitOne K (.type "tuple") (.type (K8 d))=some (tD d (.tup [])))/\(PySem.W.kitOne K (.type "dict") (.type (K8 d))=some (tD d (.dct 0 []))):=by
 cases d<;>refine⟨?_,?_,?_,?_,?_,?_,?_⟩<;>kernel_rfl
theorem Gc{H:Hp}{v:V}{t:T}{F:Wy}(d:Ty)(r:Rp G H v t F)(h:uQ t=true):∃g,Io G.K H v g/\PySem.W.kitOne G.K g (.type (K8 d))=some (tD d t):=by
 obtain⟨y,x,w,u,o,m,j⟩:=BR G.K d;cases r with
 |non=>exact⟨_,.non,by rw[y];cases d<;>rfl⟩
 |bl b=>exact⟨_,.bl b,by rw[x];cases d<;>rfl⟩
 |int i=>exact⟨_,.int i,by rw[w];cases d<;>rfl⟩
 |str s _=>exact⟨_,.str _,by rw[u];cases d<;>rfl⟩
 |scr _=>cases h
 |tup f q=>exact⟨_,.tup f,by rw[m];cases d<;>rfl⟩
 |lst f q=>exact⟨_,.lst f,by rw[o];cases d<;>rfl⟩
 |dct f l q=>exact⟨_,.dK f,by rw[j];cases d<;>rfl⟩
 |dctT f l q=>exact⟨_,.dT f,by rw[j];cases d<;>rfl⟩
 |dctN f l n q=>simp at h
 |dctZ _ _ _=>cases h
 |exc _ _=>cases h
 |ins _ _ _ _=>cases h
 |mk _ _=>cases h
theorem EG(f:Ty){x:Str}{n d:Pos}(B:PV G X a ca)(A:Gl X "isinstance")(w:X.mg "isinstance" = none)(L:Gl X x)(M:X.mg x=none)(q:bootBuiltins x=some (.type (K8 f)))(j:X.K=G.K:=by rfl)(u:x ≠ "__name__" := by decide)(O:K3 x:=by decide)(i:starEach [a,.Name x d] X.env=(false,eval a X.env) :: starEach [.Name x d] X.env:=by rfl)(N:starEach [.Name x d] X.env=(false,eval (.Name x d) X.env) :: starEach [] X.env:=by rfl)(g:(backTo pos (starEach [Expr.Name x d] X.env)).any (·.1)=false:=by rfl) :
  PV G X (.Call (.Name "isinstance" n) [a,.Name x d] [] pos) (O8 f ca) :=
 PE.weak (sI Av A w boot_isinstance (eT B (eT (AX (v:=.ty (K8 f)) L M q rfl u O) iX N) i) (by decide) rfl i g) λJ H Q r=>by
  obtain⟨R,U,m,t,s,e,k⟩:=r;unfold O8 at e;obtain⟨⟨o,y⟩,E,h⟩:=Zz.mp e;split at h
  ·rename_i z;cases h;refine⟨R,U,o,y,s,E,λv P F e1 r1 f1=>?_⟩;obtain⟨l,D,C⟩:=Gc f r1 z;exact⟨v,K8 f,l,_,rfl,by rw[j];exact D,by rw[j];exact C,k _ P _ e1 (.bl _) Fp.nil⟩
  ·cases h
end
section
variable{G:Gx}{X:Cx}{a b c e:Expr}{es:List Expr}{ca cb cc:Ex}{cs:Hr}{pos p:Pos}
theorem vd{H:Hp}:∀{d:List V}{l:Vp}{g:Yp}{f:List Tx},RpL G H d l g->strs? l=some f->d=f.map λs=>V.str (sx s)
 |_,_,_,_,.nil,e=>by cases e;rfl
 |_,_,_,_,.cons (t:=t) r q,e=>by
  cases t with
  |str s =>
   simp only[strs?]at e;obtain⟨h,e1,e2⟩:=Zu.mp e;subst e2;rw[vd q e1,r.str_inv.1];rfl
  |_=>cases e
end
end VS
end
section
namespace VS
@[simp] noncomputable def IK(x y:Val):Vq:=match x.2 with
 |.dct 0 l=>if g7 y.2 then (df l y.2).map (sub x.1) else none
 |_=>aA x y
@[simp] noncomputable def flat:T->Bool
 |.non=>true
 |.bl _=>true
 |.int _=>true
 |.str _=>true
 |_=>false
@[simp] noncomputable def k8(x y:Val):Vq:=match y.2 with
 |.dct 0 l=>if g7 x.2 then some (.fr,.bl (df l x.2).isSome) else none
 |.lst l=>if flat x.2&&l.all flat then some (.fr,.bl (l.any λy=>eqT y x.2)) else none
 |.tup l=>if flat x.2&&l.all flat then some (.fr,.bl (l.any λy=>eqT y x.2)) else none
 |_=>none
@[simp] noncomputable def cE(x y:Val):Vq:=match k8 x y with
 |some (_,.bl b)=>some (.fr,.bl (!b))
 |_=>none
noncomputable def pm{α:Type}(f:T->Option (T×α)):List Ky->T->Option (T×α)
 |[],t=>f t
 |.fld k :: r,.obj (c+1) (q :: fs)=>(fs.findIdx? λp=>p.1==k).bind λi=>(fs[i]?).bind λp=>(pm f r p.2).map λz=>(.obj (c+1) (q :: fs.set i (p.1,z.1)),z.2)
 |.un :: r,.obj 0 [(0,.bl true),(m,x)]=>(pm f r x).map λz=>(.obj 0 [(0,.bl true),(m,z.1)],z.2)
 |.at (.int i) :: r,.lst l=>(Iq l.length i).bind λj=>(l[j]?).bind λx=>(pm f r x).map λz=>(.lst (l.set j z.1),z.2)
 |.at k :: r,.dct 0 l=>if g7 k then (l.findIdx? λp=>eqT p.1 k).bind λi=>(l[i]?).bind λp=>(pm f r p.2).map λz=>(.dct 0 (l.set i (p.1,z.1)),z.2) else none
 |_,_=>none
end VS
end
section
namespace VS
open PySem PySem.Spec PyProof.Rows L2
section
variable{G:Gx}{X:Cx}{a b c e:Expr}{es:List Expr}{ca cb cc:Ex}{cs:Hr}{pos p:Pos}
mutual
noncomputable def Jh:T->PyData
 |.non=>.none
 |.bl b=>.bool b
 |.int i=>.int i
 |.str s=>.str (sx s)
 |.tup l=>.tuple (oh l)
 |.lst l=>.list (oh l)
 |_=>.none
noncomputable def oh:Vp->List PyData
 |[]=>[]
 |t :: r=>Jh t :: oh r
end
theorem Ge{s:Tx}(h:nI s):PyData.strOk (sx s)=true:=by
 unfold PyData.strOk sx;simp only[Array.all_eq_true,decide_eq_true_eq];intro i a;have:s.toArray[i]∈s:=by simp
 have:=h.2 _ this;simpa using this
theorem ye{s t:Tx}:(sx s==sx t)=(s==t):=by
 rw[Xa,beq_iff_eq,beq_iff_eq];constructor
 ·intro h;have:(sx s).cps=(sx t).cps:=by rw[h]
  simpa[sx] using this
 ·intro h;rw[h]
mutual
theorem qb:∀(n k:Nat)(t u:T),HS n t=true->HS k u=true->PyData.eqv (Jh t) (Jh u)=eqT t u
 |n,k,t,u,b,a=>by
  cases t with
  |scr _=>cases n<;>simp at b
  |dct _ _=>cases n<;>simp at b
  |obj _ _=>cases n<;>simp at b
  |tup l =>
   cases n with
   |zero=>simp at b
   |succ n =>
    cases u with
    |tup r =>
     cases k with
     |zero=>simp at a
     |succ k =>
      simp only[Jh,PyData.eqv,eqT];exact oi n k l r (by simpa using b) (by simpa using a)
    |scr _=>cases k<;>simp at a
    |dct _ _=>cases k<;>simp at a
    |obj _ _=>cases k<;>simp at a
    |_=>simp[Jh,PyData.eqv,eqT]
  |lst l =>
   cases n with
   |zero=>simp at b
   |succ n =>
    cases u with
    |lst r =>
     cases k with
     |zero=>simp at a
     |succ k =>
      simp only[Jh,PyData.eqv,eqT];exact oi n k l r (by simpa using b) (by simpa using a)
    |scr _=>cases k<;>simp at a
    |dct _ _=>cases k<;>simp at a
    |obj _ _=>cases k<;>simp at a
    |_=>simp[Jh,PyData.eqv,eqT]
  |str s =>
   cases u with
   |str r=>simp only[Jh,PyData.eqv,eqT];exact ye
   |scr _=>cases k<;>simp at a
   |dct _ _=>cases k<;>simp at a
   |obj _ _=>cases k<;>simp at a
   |_=>simp[Jh,PyData.eqv,eqT]
  |_ =>
   cases u with
   |scr _=>cases k<;>simp at a
   |dct _ _=>cases k<;>simp at a
   |obj _ _=>cases k<;>simp at a
   |_=>simp[Jh,PyData.eqv,eqT]
theorem oi:∀(n k:Nat)(l r:Vp),(∀t∈l,HS n t=true)->(∀t∈r,HS k t=true)->PyData.eqvAll (oh l) (oh r)=um l r
 |_,_,[],[],_,_=>rfl
 |_,_,[],_ :: _,_,_=>rfl
 |_,_,_ :: _,[],_,_=>rfl
 |n,k,t :: l,u :: r,d,b=>by
  simp only[oh,PyData.eqvAll,um];rw[qb n k t u (d t Zw) (b u Zw),oi n k l r (λx a=>d x (Zv _ a)) λx a=>b x (Zv _ a)]
end
theorem Rp.Lp{H:Hp}{v:V}{d:Vp}{F:Wy}(r:Rp G H v (.tup d) F):∃b a e,v=.ref b/\H b=some (.tup a)/\RpL G H a d e:=by
 cases r with
 |tup h q=>exact⟨_,_,_,rfl,h,q⟩
theorem Rp.Lz{H:Hp}{v:V}{d:Vp}{F:Wy}(r:Rp G H v (.lst d) F):∃b a e,v=.ref b/\H b=some (.lst a)/\RpL G H a d e:=by
 cases r with
 |lst h q=>exact⟨_,_,_,rfl,h,q⟩
theorem lK{H:Hp}{s:Shared}{n:Nat}(f:∀{v:V}{t:T}{F:Wy}{u:Value},Rp G H v t F->RelV v u->HS n t=true->∃b,Reads s.heap u (Jh t) b/\(Jh t).canLay0=true/\(Jh t).depth<=n):∀{d:List V}{a:Vp}{o:Yp}{e:Wu},RpL G H d a o->aV d e->(∀t∈a,HS n t=true) →
  ∃b,ReadsAll s.heap e (oh a) b/\PyData.canLayAll0 (oh a)=true/\PyData.depthAll (oh a)<=n
 |_,_,_,_,.nil,r,_=>by cases r;exact⟨_,.nil,rfl,ZR _⟩
 |_,_,_,_,.cons p q,r,h=>by
  cases r with
  |cons r1 r2 =>
   obtain⟨b,j,i,w⟩:=f p r1 (h _ Zw);obtain⟨bs,m,l,x⟩:=lK f q r2 λt g=>h t (Zv _ g);exact⟨_,.cons j m,by simp only[oh,PyData.canLayAll0,i,l,Bool.and_self],by simp only[oh,PyData.depthAll];lia⟩
theorem nV{h:Heap}{H:Hp}{v:V}{t:T}{F:Wy}{u:Value}{n:Nat}(r:Rp G H v t F)(a:RelV v u)(d:flat t=true):∃e,Reads h u (Jh t) e/\(Jh t).canLay0=true/\(Jh t).depth<=n:=by
 cases r with
 |non=>cases a;exact⟨_,.none,rfl,ZR _⟩
 |bl b=>cases a;exact⟨_,.bool b,rfl,ZR _⟩
 |int i=>obtain⟨t,rfl⟩:=a;exact⟨_,.int i t,rfl,ZR _⟩
 |str s h=>obtain⟨t,rfl⟩:=a;exact⟨_,.str _ t,Ge h,ZR _⟩
 |_=>cases d
theorem kM{H:Hp}{d:Yz}{J:L2.St}{s:Shared}(I:Inv X d J H s)(n:Nat):∀{v:V}{t:T}{F:Wy}{u:Value},Rp G H v t F->RelV v u->HS n t=true->∃w,Reads s.heap u (Jh t) w/\(Jh t).canLay0=true/\(Jh t).depth<=n:=by
 induction n with
 |zero =>
  intro v t F u r a h;refine nV r a ?_;cases t<;>first | rfl | exact h
 |succ n x =>
  intro v t F u r a h;cases t with
  |tup l =>
   obtain⟨b,y,E,rfl,e,q⟩:=Rp.Lp r;cases a;obtain⟨B,f,z,D⟩:=I.tuple (HX.of e);obtain⟨w,p,m,j⟩:=lK x q f (by simpa using h);obtain⟨o,g,i,C,hd⟩:=z;exact⟨_,.tuple g i hd (by simpa using p),m,by simp only[Jh,PyData.depth];exact Y8 j⟩
  |lst l =>
   obtain⟨b,y,E,rfl,e,q⟩:=Rp.Lz r;cases a;obtain⟨B,f,A,D⟩:=I.list (Hc.of e);obtain⟨w,p,m,j⟩:=lK x q f (by simpa using h);obtain⟨o,g,i,C,hd⟩:=A.isList;exact⟨_,.list g i hd (by simpa using p),m,by simp only[Jh,PyData.depth];exact Y8 j⟩
  |scr _=>simp at h
  |dct _ _=>simp at h
  |obj _ _=>simp at h
  |_=>exact nV r a rfl
noncomputable def Bw(G:Gx)(a:Bool):HR:=λx y H Q=>∃t u F b,Rp G H x t F/\Rp G H y u b/\HS 60 t=true/\HS 60 u=true/\Q (.bl (if a then !eqT t u else eqT t u)) H
theorem jN{d:PyData}(h:d.canLay0=true)(a:d.depth<=60):SeqAt.shaped d=true:=by
 unfold SeqAt.shaped;rw[h,Bool.true_and];exact decide_eq_true (by lia)
theorem xF(g:X.A.units+64<cLine):OpR X (compareOp .Eq) (Bw G false):=by
 intro a s J H x y v u Q I f e h;obtain⟨t,w,F,r,r1,r2,d,b,q⟩:=h;obtain⟨p,o,n,m⟩:=kM I 60 r1 f d;obtain⟨bs,l,j,i⟩:=kM I 60 r2 e b;refine eq_dataH o l (jN n m) (jN j i) g ⟨.bl _,H,I,rfl,?_⟩;rw[qb 60 60 t w d b];exact q
theorem DE(g:X.A.units+64<cLine):OpR X (compareOp .NotEq) (Bw G true):=by
 intro a s J H x y v u Q I f e h;obtain⟨t,w,F,r,r1,r2,d,b,q⟩:=h;obtain⟨p,o,n,m⟩:=kM I 60 r1 f d;obtain⟨bs,l,j,i⟩:=kM I 60 r2 e b;refine ne_dataH o l (jN n m) (jN j i) g ⟨.bl _,H,I,rfl,?_⟩;rw[qb 60 60 t w d b];exact q
theorem Cf:g0 G (Bw G false) oEq:=by
 intro R U b H x y u w f d m t Q a e k;unfold oEq at e;split at e
 ·rename_i h;cases e;exact⟨_,_,_,_,a.r1,a.r2,h.1,h.2,bM k (.bl _)⟩
 ·cases e
theorem FV:g0 G (Bw G true) KU:=by
 intro R U b H x y u w f d m t Q a e k;unfold KU at e;split at e
 ·rename_i h;cases e;exact⟨_,_,_,_,a.r1,a.r2,h.1,h.2,bM k (.bl _)⟩
 ·cases e
theorem tells_eq:Tells oEq:=by
 intro x y m t e;unfold oEq at e;split at e<;>first | (cases e;exact⟨_,rfl⟩) | cases e
theorem zu:Tells KU:=by
 intro x y m t e;unfold KU at e;split at e<;>first | (cases e;exact⟨_,rfl⟩) | cases e
end
structure HG(R:G6)(U:VS.Env)(H:Hp)(R':G6)(U':VS.Env)(H':Hp):Prop where
 keep:∀a o,H a=some o->¬cy R U a->H' a=some o/\¬cy R' U' a
 Hk:∀a,H a≠none->H' a≠none
 ow:∀a,cy R' U' a->cy R U a\/H a=none
 pu:∀a,eE R' U' a->eE R U a\/cy R U a\/H a=none
 kept:Kept H H'
theorem HG.refl(R:G6)(U:VS.Env)(H:Hp):HG R U H R U H:=⟨λa o h n=>⟨h,n⟩,λ_ h=>h,λ_ h=>.inl h,λ_ h=>.inl h,Kept.refl H⟩
theorem HG.none{R d:G6}{U U':VS.Env}{H b:Hp}(f:HG R U H d U' b){a:Addr}(h:b a=none):H a=none:=by
 cases e:H a with
 |none=>rfl
 |some o=>exact absurd h (f.Hk a (by rw[e];exact λz=>nomatch z))
theorem HG.trans{R e d:G6}{U U1 b:VS.Env}{H j i:Hp}(f:HG R U H e U1 j)(g:HG e U1 j d b i):HG R U H d b i where
 keep:=λa o h n=>let ⟨m,l⟩:=f.keep a o h n;g.keep a o m l
 Hk:=λa h=>g.Hk a (f.Hk a h)
 ow:=λa h=>by
  rcases g.ow a h with h | h
  ·exact f.ow a h
  ·exact .inr (f.none h)
 pu:=λa h=>by
  rcases g.pu a h with h | h | h
  ·exact f.pu a h
  ·rcases f.ow a h with h | h
   ·exact .inr (.inl h)
   ·exact .inr (.inr h)
  ·exact .inr (.inr (f.none h))
 kept:=f.kept.trans g.kept
theorem HG.same{R:G6}{U:VS.Env}{H b:Hp}(e:aO H b):HG R U H R U b :=
 ⟨λa o h n=>⟨e a o h,n⟩,λa h z=>h (e.free z),λ_ h=>.inl h,λ_ h=>.inl h,Kept.of e⟩
noncomputable def sy(R:G6)(U:VS.Env)(H:Hp):Md->Wy->Prop
 |.fr,F=>F.Nodup/\∀a∈F,H a=none\/cy R U a
 |_,F=>∀a∈F,H a=none\/eE R U a\/cy R U a
theorem sy.back{R e:G6}{U d:VS.Env}{H g:Hp}(f:HG R U H e d g){F:Wy}:∀{m:Md},sy e d g m F->sy R U H m F
 |.fr,h=>⟨h.1,λa b=>(h.2 a b).elim (λz=>.inl (f.none z)) λz=>(f.ow a z).elim .inr .inl⟩
 |.pu,h=>λa b=>by
  rcases h a b with z | z | z
  ·exact .inl (f.none z)
  ·rcases f.pu a z with z | z | z
   ·exact .inr (.inl z)
   ·exact .inr (.inr z)
   ·exact .inl z
  ·exact(f.ow a z).elim (λz=>.inr (.inr z)) .inl
 |.bo,h=>λa b=>by
  rcases h a b with z | z | z
  ·exact .inl (f.none z)
  ·rcases f.pu a z with z | z | z
   ·exact .inr (.inl z)
   ·exact .inr (.inr z)
   ·exact .inl z
  ·exact(f.ow a z).elim (λz=>.inr (.inr z)) .inl
noncomputable def Nx(G:Gx)(R:G6)(U:VS.Env)(H:Hp)(b:VS.Env)(k:L2.St->Hp->Prop):Prop:=∀d e a,SR G d b e a->HG R U H d b a->k e a
noncomputable def uL(G:Gx)(R:G6)(U:VS.Env)(H:Hp)(D:Ends):Out->Prop
 |.nx a=>Nx G R U H a D.nx
 |.bk a=>Nx G R U H a D.bk
 |.ct a=>Nx G R U H a D.ct
 |.rt v a=>∀u b F d e,SR G d a e b->HG R U H d a b->Rp G b u v.2 F->sy R U H v.1 F->D.rt u b
noncomputable def tS(G:Gx)(c:Sx):TS:=λD J H=>∃R U o,SR G R U J H/\c U=some o/\uL G R U H D o
noncomputable def PSV(G:Gx)(X:Cx)(a:Stmt)(c:Sx):Prop:=PS X a (tS G c)
noncomputable def jy(G:Gx)(X:Cx)(a:List Stmt)(c:Sx):Prop:=Jd X a (tS G c)
theorem PS.weak{X:Cx}{e:Stmt}{t b:TS}(h:PS X e t)(w:∀D J H,b D J H->t D J H):PS X e b:=λa s J H D I q=>h a s J H D I (w D J H q)
theorem Jd.weak{X:Cx}{e:List Stmt}{t b:TS}(h:Jd X e t)(w:∀D J H,b D J H->t D J H):Jd X e b:=λa s J H D I q=>h a s J H D I (w D J H q)
theorem uL.back{G:Gx}{R j:G6}{U i:VS.Env}{H l:Hp}{D:Ends}(f:HG R U H j i l):∀{o:Out},uL G R U H D o->uL G j i l D o
 |.nx e,h=>λa b d s g=>h a b d s (f.trans g)
 |.bk e,h=>λa b d s g=>h a b d s (f.trans g)
 |.ct e,h=>λa b d s g=>h a b d s (f.trans g)
 |.rt v e,h=>λu d F a b s g r q=>h u d F a b s (f.trans g) r (q.back f)
section
variable{G:Gx}{X:Cx}{st:Stmt}{OA:List Stmt}{c c1 c2:Sx}{pos:Pos}{e:Expr}{ce:Ex}
theorem bI:jy G X [] eQ:=Jd.weak AC λD J H a=>by
 obtain⟨R,U,o,s,e,k⟩:=a;cases (show some (Out.nx U)=some o from e);exact k R J H s (HG.refl _ _ _)
theorem af(i:PSV G X st c1)(h:jy G X OA c2):jy G X (st :: OA) (ak c1 c2):=Jd.weak (zU i h) λD J H g=>by
 obtain⟨R,U,o,s,e,k⟩:=g;unfold ak at e;obtain⟨b,e1,e2⟩:=Zz.mp e;refine⟨R,U,b,s,e1,?_⟩;cases b with
 |nx a=>exact λj l m d f=>⟨j,a,o,d,e2,k.back f⟩
 |rt v a=>cases e2;exact k
 |bk a=>cases e2;exact k
 |ct a=>cases e2;exact k
theorem cn{t:Expr}{f:Ex}{a b:List Stmt}(i:Js G X t f)(l:jy G X a c1)(j:jy G X b c2):PSV G X (.If t a b pos) (HQ f c1 c2):=PS.weak (FR i l j) λD J H h=>by
 obtain⟨R,U,o,s,e,k⟩:=h;unfold HQ at e;obtain⟨⟨m,x⟩,n,e1⟩:=Zz.mp e;obtain⟨g,p,e2⟩:=Zz.mp e1;refine⟨R,U,m,x,g,s,n,p,λq d=>?_⟩;cases g with
 |true =>
  rw[Zs rfl]at e2;exact zy ⟨R,U,o,s.same d,e2,k.back (HG.same d)⟩
 |false =>
  rw[Zp Zg]at e2;exact zx ⟨R,U,o,s.same d,e2,k.back (HG.same d)⟩
theorem Fp.ret{R:G6}{U:VS.Env}{H:Hp}{F:Wy}:∀{m:Md},Fp R U H m F->sy R U H (match m with | .bo=>.pu | m=>m) F
 |.fr,f=>⟨f.1,λa b=>.inl (f.2 a b)⟩
 |.pu,f=>λa b=>(f a b).elim .inl λz=>.inr (.inl z)
 |.bo,f=>f
theorem bt(he:PV G X e ce):PSV G X (.Return (some e) pos) (d8 ce):=PS.weak (qL he) λD J H a=>by
 obtain⟨R,U,o,s,e,k⟩:=a;unfold d8 at e;obtain⟨⟨m,x⟩,b,e1⟩:=Zz.mp e;cases e1;exact⟨R,U,m,x,s,b,λv d F e1 r1 f1=>k v d F R J (s.same e1) (HG.same e1) r1 f1.ret⟩
theorem cZ{U:VS.Env}{i j:Nat}{c:Cell}(h:(U.set i none)[j]?=some (some c)):j≠i/\U[j]?=some (some c):=by
 rw[W3]at h;split at h
 ·split at h<;>cases h
 ·rename_i n;exact⟨λz=>n z.symm,h⟩
theorem SR.drop{R:G6}{U:VS.Env}{J:L2.St}{H:Hp}(s:SR G R U J H)(i:Nat):SR G R (U.set i none) J H :=
 ⟨by rw[Yb];exact s.len,λj c h=>s.rp j c (cZ h).2,λj t h=>s.nd j t (cZ h).2,λj k t c b a n=>s.sep j k t c (cZ b).2 (cZ a).2 n⟩
theorem HG.drop{R:G6}{U:VS.Env}{H:Hp}(i:Nat):HG R U H R (U.set i Option.none) H :=
 ⟨λa o h n=>⟨h,λ⟨j,t,d,b⟩=>n ⟨j,t,(cZ d).2,b⟩⟩,λ_ h=>h,λa ⟨j,t,d,b⟩=>.inl ⟨j,t,(cZ d).2,b⟩,λa ⟨j,t,d,b⟩=>.inl ⟨j,t,(cZ d).2,b⟩,Kept.refl H⟩
theorem dA(i:Nat){x:Str}{p:Pos}(u:X.N[i]?=some x:=by rfl)(l:JG X.env.scope x:=by first | exact Or.inl rfl | exact Or.inr (Or.inl rfl) | exact Or.inr (Or.inr rfl))(r:K3 x:=by decide)(d:K4 x:=by decide):PSV G X (.Return (some (.Name x p)) pos) (gp i):=PS.weak (qL (iu u l r d)) λD J H n=>by
 obtain⟨R,U,o,s,e,k⟩:=n;unfold gp at e;split at e
 ·rename_i t h;obtain⟨v,j,b⟩:=s.rp _ _ h;cases e;exact⟨v,j,k v H (R i) R J (s.drop i) (HG.drop i) b ⟨s.nd i t h,λa g=>.inr ⟨i,t,h,g⟩⟩⟩
 ·rename_i t h;obtain⟨v,j,b⟩:=s.rp _ _ h;cases e;refine⟨v,j,k v H (R i) R J s (HG.refl _ _ _) b ?_⟩;have f:Fp R U H .pu (R i):=λa g=>.inr ⟨i,t,h,g⟩;have f2:=(f.up b).ret;have:(match (VS.up .pu (kW (.pu t))).1 with | .bo=>Md.pu | m=>m)=(VS.up .pu t).1:=by
   show (match (VS.up .pu t).1 with | .bo=>Md.pu | m=>m)=_;unfold VS.up;split<;>(rename_i q;revert q;split<;>simp)
  rw[this]at f2;exact f2
 ·cases e
noncomputable def kc(R:G6)(i:Nat)(F:Wy):G6:=λj=>if j=i then F else R j
theorem i6{R:G6}{i:Nat}{F:Wy}:kc R i F i=F:=Zs rfl
theorem fG{R:G6}{i j:Nat}{F:Wy}(h:j≠i):kc R i F j=R j:=Zp h
theorem iS{U:VS.Env}{i j:Nat}{c a:Cell}(h:(U.set i (some c))[j]?=some (some a)):(j=i/\a=c)\/(j≠i/\U[j]?=some (some a)):=by
 rw[W3]at h;split at h
 ·rename_i e;split at h
  ·exact .inl ⟨e.symm,(Zl (Zl h)).symm⟩
  ·cases h
 ·rename_i n;exact .inr ⟨λz=>n z.symm,h⟩
theorem SR.put{R:G6}{U:VS.Env}{J:L2.St}{H H':Hp}{i:Nat}{v:V}{c:Cell}{F:Wy}(s:SR G R U J H)(x:i<U.length)(r:Rp G H' v (kW c) F)(u:∀j b,j≠i->U[j]?=some (some b)->∀w,Rp G H w (kW b) (R j)->Rp G H' w (kW b) (R j))(m:∀t,c=.ow t->F.Nodup)(y:∀t,c=.ow t->∀j b,j≠i->U[j]?=some (some b)->∀a∈F,a∉R j)(l:∀j t,j≠i->U[j]?=some (some (.ow t))->∀a∈R j,a∉F) :
  SR G (kc R i F) (U.set i (some c)) (J.set i (some v)) H' where
 len:=by rw[Yb,Yb];exact s.len
 rp:=λj b h=>by
  rcases iS h with⟨rfl,rfl⟩ | ⟨n,h⟩
  ·exact⟨v,by rw[XM (by rw[← s.len];exact x)],by rw[i6];exact r⟩
  ·obtain⟨w,o,f⟩:=s.rp j b h;exact⟨w,by rw[Y4 (YF n)];exact o,by rw[fG n];exact u j b n h w f⟩
 nd:=λj t h=>by
  rcases iS h with⟨rfl,e⟩ | ⟨n,h⟩
  ·rw[i6];exact m t e.symm
  ·rw[fG n];exact s.nd j t h
 sep:=λj k t b o f n=>by
  rcases iS o with⟨rfl,e⟩ | ⟨g,q⟩
  ·rcases iS f with⟨rfl,e2⟩ | ⟨d,p⟩
   ·exact absurd rfl n
   ·rw[i6,fG d];exact y t e.symm k b d p
  ·rcases iS f with⟨rfl,e2⟩ | ⟨d,p⟩
   ·rw[i6,fG g];exact l j t g q
   ·rw[fG g,fG d];exact s.sep j k t b q p n
theorem n9{R:G6}{U:VS.Env}{i:Nat}{c:Cell}{F:Wy}{a:Addr}(h:cy (kc R i F) (U.set i (some c)) a):(∃t,c=.ow t/\a∈F)\/cy R U a:=by
 obtain⟨j,t,d,b⟩:=h;rcases iS d with⟨rfl,e⟩ | ⟨n,d⟩
 ·rw[i6]at b;exact .inl ⟨t,e.symm,b⟩
 ·rw[fG n]at b;exact .inr ⟨j,t,d,b⟩
theorem uy{R:G6}{U:VS.Env}{i:Nat}{c:Cell}{F:Wy}{a:Addr}(h:eE (kc R i F) (U.set i (some c)) a):(∃t,c=.pu t/\a∈F)\/eE R U a:=by
 obtain⟨j,t,d,b⟩:=h;rcases iS d with⟨rfl,e⟩ | ⟨n,d⟩
 ·rw[i6]at b;exact .inl ⟨t,e.symm,b⟩
 ·rw[fG n]at b;exact .inr ⟨j,t,d,b⟩
theorem SR.Lv{R:G6}{U:VS.Env}{J:L2.St}{H:Hp}(s:SR G R U J H){a:Addr}(h:cy R U a)(g:eE R U a):False:=by
 obtain⟨j,t,d,f⟩:=h;obtain⟨k,u,b,i⟩:=g;have n:j≠k:=λe=>by subst e;rw[d]at b;cases b
 exact s.sep j k t _ d b n a f i
theorem SR.val{R:G6}{U:VS.Env}{J:L2.St}{H y:Hp}{i:Nat}{v:V}{t:T}{m:Md}{F:Wy}{c:Cell}(s:SR G R U J H)(B:i<U.length)(e:aO H y)(r:Rp G y v t F)(f:Fp R U H m F)(p:(c=.pu t/\m ≠ .bo)\/(c=.ow t/\m=.fr)):SR G (kc R i F) (U.set i (some c)) (J.set i (some v)) y/\HG R U H (kc R i F) (U.set i (some c)) y:=by
 have Hk:∀{a},H a=none->∀j x,U[j]?=some (some x)->a∉R j:=λ{a} h j x g b=>by
  obtain⟨w,_,q⟩:=s.rp j x g;exact G4.p0 (q.Hk a b) h
 have ct:kW c=t:=by rcases p with⟨rfl,_⟩ | ⟨rfl,_⟩<;>rfl
 have A:∀a∈F,H a=none\/eE R U a:=λa b=>by
  rcases p with⟨_,n⟩ | ⟨_,n⟩
  ·exact f.pu n a b
  ·rw[n]at f;exact .inl (f.2 a b)
 constructor
 ·refine s.put B (by rw[ct];exact r) (λj x n g w q=>q.same e) (λu d=>?_) (λu d j x n g a b=>?_) λj u n g a b C=>?_
  ·rcases p with⟨h,_⟩ | ⟨_,h⟩
   ·rw[h]at d;cases d
   ·rw[h]at f;exact f.1
  ·rcases p with⟨h,_⟩ | ⟨_,h⟩
   ·rw[h]at d;cases d
   ·rw[h]at f;exact Hk (f.2 a b) j x g
  ·rcases A a C with z | z
   ·exact Hk z j _ g b
   ·exact s.Lv ⟨j,u,g,b⟩ z
 ·refine⟨λa o h n=>⟨e a o h,λz=>?_⟩,λa h z=>h (e.free z),λa h=>?_,λa h=>?_,Kept.of e⟩
  ·rcases n9 z with⟨u,d,b⟩ | z
   ·rcases p with⟨l,_⟩ | ⟨_,l⟩
    ·rw[l]at d;cases d
    ·rw[l]at f;rw[f.2 a b]at h;cases h
   ·exact n z
  ·rcases n9 h with⟨u,d,b⟩ | z
   ·rcases p with⟨l,_⟩ | ⟨_,l⟩
    ·rw[l]at d;cases d
    ·rw[l]at f;exact .inr (f.2 a b)
   ·exact .inl z
  ·rcases uy h with⟨u,d,b⟩ | z
   ·exact(A a b).elim (λz=>.inr (.inr z)) .inl
   ·exact .inl z
theorem hZ{i:Nat}{x:Str}{a:Pos}(he:PV G X e ce)(q:X.N.Nodup)(n:X.N[i]?=some x:=by rfl)(g:Loc X.env.scope x:=by first | exact Or.inl rfl | exact Or.inr rfl)(h:swapsWith e (some (.Name x a)) pos.line X.env=pure false:=by rfl)(p:X.fn x=true\/X.env.scope.names.lookup x=some .local:=by first | exact .inl rfl | exact .inr rfl) :
  PSV G X (.Assign [.Name x a] e pos) (oN i ce):=PS.weak (t6 q n g he h p) λD J H j=>by
 obtain⟨R,U,o,s,e,k⟩:=j;unfold oN at e;obtain⟨⟨m,t⟩,u,e1⟩:=Zz.mp e;obtain⟨c,eC,e2⟩:=Zz.mp e1;split at e2
 ·rename_i l;cases e2;refine⟨R,U,m,t,s,u,λv y F w b r=>?_⟩;obtain⟨f,d⟩:=s.val (c:=c) l w b r (by
   unfold cellOf at eC;cases m with
   |fr =>
    simp only[Option.some.injEq]at eC;split at eC
    ·exact .inr ⟨eC.symm,rfl⟩
    ·exact .inl ⟨eC.symm,by decide⟩
   |pu=>cases eC;exact .inl ⟨rfl,by decide⟩
   |bo=>cases eC)
  exact k _ _ y f d
 ·cases e2
theorem ar{i:Nat}{x:Str}{a:Pos}(he:PV G X e ce)(r:X.N.Nodup)(p:X.N[i]?=some x:=by rfl)(g:Loc X.env.scope x:=by first | exact Or.inl rfl | exact Or.inr rfl)(h:swapsWith e (some (.Name x a)) pos.line X.env=pure false:=by rfl)(q:X.fn x=true\/X.env.scope.names.lookup x=some .local:=by first | exact .inl rfl | exact .inr rfl) :
  PSV G X (.Assign [.Name x a] e pos) (aH i ce):=PS.weak (t6 r p g he h q) λD J H j=>by
 obtain⟨R,U,o,s,e,k⟩:=j;unfold aH at e;obtain⟨⟨m,t⟩,w,e1⟩:=Zz.mp e;split at e1
 ·cases e1
 ·rename_i l;split at e1
  ·rename_i n;cases e1;refine⟨R,U,m,t,s,w,λv z F y b u=>?_⟩;obtain⟨f,d⟩:=s.val (c:=.pu t) n y b u (.inl ⟨rfl,l⟩);exact k _ _ z f d
  ·cases e1
theorem SR.frz{R:G6}{U:VS.Env}{J:L2.St}{H:Hp}{i:Nat}{t:T}(s:SR G R U J H)(h:U[i]?=some (some (.ow t))):SR G R (U.set i (some (.pu t))) J H/\HG R U H R (U.set i (some (.pu t))) H:=by
 have back:∀{j c},(U.set i (some (.pu t)))[j]?=some (some c)->∃l,U[j]?=some (some l)/\kW l=kW c/\∀u,c=.ow u->l=.ow u:=λ{j c} g=>by
  rcases iS g with⟨rfl,rfl⟩ | ⟨n,g⟩
  ·exact⟨.ow t,h,rfl,λu p=>nomatch p⟩
  ·exact⟨c,g,rfl,λu p=>p⟩
 refine⟨⟨by rw[Yb];exact s.len,λj c g=>?_,λj u g=>?_,λj k u c b d n=>?_⟩,⟨λa o r n=>⟨r,λ⟨j,u,b,d⟩=>?_⟩,λ_ h=>h,λa ⟨j,u,b,d⟩=>?_,λa ⟨j,u,b,d⟩=>?_,Kept.refl H⟩⟩
 ·obtain⟨l,b,d,_⟩:=back g;obtain⟨v,f,x⟩:=s.rp j l b;exact⟨v,f,by rw[← d];exact x⟩
 ·obtain⟨l,b,_,w⟩:=back g;rw[w u rfl]at b;exact s.nd j u b
 ·obtain⟨c1,f,_,m⟩:=back b;obtain⟨c2,q,_,_⟩:=back d;rw[m u rfl]at f;exact s.sep j k u c2 f q n
 ·obtain⟨c1,f,_,m⟩:=back b;rw[m u rfl]at f;exact n ⟨j,u,f,d⟩
 ·obtain⟨c1,f,_,m⟩:=back b;rw[m u rfl]at f;exact .inl ⟨j,u,f,d⟩
 ·rcases iS b with⟨rfl,_⟩ | ⟨n,b⟩
  ·exact .inr (.inl ⟨j,t,h,d⟩)
  ·exact .inl ⟨j,u,b,d⟩
theorem uN(i:Nat)(h:jy G X OA c):jy G X OA (ak (Ab i) c):=Jd.weak h λD J H f=>by
 obtain⟨R,U,o,s,e,k⟩:=f;unfold ak at e;obtain⟨g,e1,e2⟩:=Zz.mp e;unfold Ab at e1;split at e1
 ·rename_i t d;cases e1;obtain⟨b,a⟩:=s.frz d;exact⟨R,_,o,b,e2,k.back a⟩
 ·cases e1;exact⟨R,U,o,s,e2,k⟩
 ·cases e1
end
section
variable{G:Gx}{X:Cx}{st:Stmt}{OA:List Stmt}{c c1 c2:Sx}{pos:Pos}{e:Expr}{es:List Expr}{ce:Ex}{cs:Hr}
structure Chg(G:Gx)(H:Hp)(v:V)(F:Wy)(t':T)(H2:Hp)(F':Wy):Prop where
 kept:Kept H H2
 keep:∀b o,b∉F->H b=some o->H2 b=some o
 Hk:∀b,H b≠none->H2 b≠none
 rp:Rp G H2 v t' F'
 nd:F'.Nodup
 sub:∀a∈F',a∈F\/H a=none
theorem SR.mut{R:G6}{U:VS.Env}{J:L2.St}{H x:Hp}{i:Nat}{v:V}{t r:T}{p:Wy}(s:SR G R U J H)(m:U[i]?=some (some (.ow t)))(A:J[i]?=some (some v))(g:Chg G H v (R i) r x p) :
  SR G (kc R i p) (U.set i (some (.ow r))) J x/\HG R U H (kc R i p) (U.set i (some (.ow r))) x:=by
 have C:i<U.length:=(ZX.mp m).1;have off:∀j d,j≠i->U[j]?=some (some d)->∀a∈R j,a∉R i:=λj d n f a b l=>s.sep i j t d m f (YF n) a l b;have es:J.set i (some v)=J:=by
  obtain⟨h,e⟩:=ZX.mp A;rw[← e];exact WU h
 have new:∀a∈p,∀j d,j≠i->U[j]?=some (some d)->a∉R j:=λa b j d n f l=>by
  rcases g.sub a b with z | z
  ·exact off j d n f a l z
  ·obtain⟨w,_,q⟩:=s.rp j d f;exact G4.p0 (q.Hk a l) z
 constructor
 ·have:=s.put (c:=.ow r) (F:=p) (H':=x) (v:=v) C g.rp (λj d n f w q=>q.keep g.kept λa b o B=>g.keep a o (off j d n f a b) B) (λ_ _=>g.nd) (λu y j d n f a b=>new a b j d n f) λj u n f a b l=>new a l j _ n f b;rw[es]at this;exact this
 ·refine⟨λa o h n=>⟨g.keep a o (λz=>n ⟨i,t,m,z⟩) h,λz=>?_⟩,g.Hk,λa h=>?_,λa h=>?_,g.kept⟩
  ·rcases n9 z with⟨u,_,b⟩ | z
   ·rcases g.sub a b with z | z
    ·exact n ⟨i,t,m,z⟩
    ·rw[z]at h;cases h
   ·exact n z
  ·rcases n9 h with⟨u,_,b⟩ | z
   ·rcases g.sub a b with z | z
    ·exact .inl ⟨i,t,m,z⟩
    ·exact .inr z
   ·exact .inl z
  ·rcases uy h with⟨u,y,b⟩ | z
   ·cases y
   ·exact .inl z
noncomputable def yj(G:Gx)(r:V->List V->Hp->VK->Prop)(f:T->Vr->Option (T×Val)):Prop:=∀(R:G6)(U:VS.Env)(H g:Hp)(v:V)(t b:T)(F:Wy)(l:Vr)(a:List V)(h:Yp)(x:Val)(Q:VK),
 Rp G H v t F->F.Nodup->Args G R U H g l a h->f t l=some (b,x)->(∀u d i,Chg G H v F b d i->Q u d)->r v a g Q
theorem zM{q m:String}{a x:Str}{r:V->List V->Hp->VK->Prop}{f:T->Vr->Option (T×Val)}{b d j:Pos}(i:Nat)(S:PlainAttrs q)(h:Slot q a m)(OW:typeOf (.builtin m)=pure (.type "method_descriptor"))(hm:Qy X m r)(Y:yj G r f)(hT:∀H v t F l z,Rp G H v t F->f t l=some z->tyV G.K q v H)(ha:Ib G X (e :: es) cs)(hK:X.K=G.K:=by rfl)(hN:X.N[i]?=some x:=by rfl)(hv:JG X.env.scope x:=by first | exact Or.inl rfl | exact Or.inr (Or.inl rfl) | exact Or.inr (Or.inr rfl))(hd:K3 x:=by decide)(p:K4 x:=by decide)(HN:attributeBase (.Name x j) a X.env (eval (.Name x j) X.env)=eval (.Name x j) X.env:=by rfl)(Iy:((backTo d (starEach (e :: es) X.env)).all (λx=>!x.1)&&(backToKw d (keywordEach [] X.env)).all (λx=>x.1.isSome)
   && decide ((e :: es).length+([]:List Keyword).length+(if ([]:List Keyword).isEmpty then 0 else 1)<30))=true:=by rfl)(HC:(b.endLine==d.line)=true:=by rfl)(hs:K1 e es X:=by rfl)(HE:K2 d es X:=by rfl)(JY:swapsWith (.Call (.Attribute (.Name x j) a b) (e :: es) [] d) none pos.line X.env=pure false:=by rfl) :
  PSV G X (.Expr (.Call (.Attribute (.Name x j) a b) (e :: es) [] d) pos) (sX (oU i [] f cs)) :=
 PS.weak (jO (rN S h OW hm (iu hN hv hd p) ha HN Iy HC hs HE) JY) λD J H hq=>by
  obtain⟨R,U,o,s,e,k⟩:=hq;unfold sX oU at e;obtain⟨⟨w,U'⟩,e1,e2⟩:=Zu.mp e;split at e1
  ·rename_i t n;obtain⟨Z,ek,e3⟩:=Zz.mp e1;cases (show some ([]:List Ky)=some Z from ek);obtain⟨l,el,e4⟩:=Zz.mp e3;obtain⟨⟨y,x2⟩,e5,e6⟩:=Zu.mp e4;cases e6;cases e2;obtain⟨v,B,A⟩:=s.rp _ _ n;have C:f t l=some (y,w):=e5;refine⟨v,B,by rw[hK];exact hT H v t _ l _ A C,R,U,l,s,el,λM H' Fs Q P O=>?_⟩;refine Y R U H H' v t y (R i) l M Fs w _ A (s.nd i t n) ⟨Q,P,O⟩ C λu H2 F' g=>?_;obtain⟨L,E⟩:=s.mut n B g;exact k _ J H2 L E
  ·cases e1
theorem Chg.upd{H d:Hp}{v:V}{F:Wy}{a:Addr}{o:HO}{t':T}{f:Wy}(e:aO H d)(m:a∈F)(l:G4 (d a))(r:Rp G (upd d a o) v t' f)(j:f.Nodup)(g:∀a∈f,a∈F\/H a=none):Chg G H v F t' (upd d a o) f :=
 ⟨(Kept.of e).trans (Kept.upd (.inl l)),λb i hb h=>by rw[aE (λz=>hb (by rw[z];exact m))];exact e b i h,
  λb h z=>by
   by_cases q:b=a
   ·subst q;rw[aC]at z;cases z
   ·rw[aE q]at z;exact h (e.free z),r,j,g⟩
theorem RpL.off{H:Hp}{f:List V}{g:Vp}{d:Yp}{a:Addr}{o:HO}(r:RpL G H f g d)(j:G4 (H a))(h:a∉d.flatten):RpL G (upd H a o) f g d :=
 r.keep (Kept.upd (.inl j)) λb hb l i=>by rw[aE (λz=>h (by rw[← z];exact hb))];exact i
theorem nc{v:Val}{t:T}(h:fit v=some t):v=(.fr,t):=by
 obtain⟨m,x⟩:=v;unfold fit at h;cases m<;>first | (cases h;rfl) | cases h
theorem lY:yj G qN aI:=by
 intro R U H j v t N F l s L x Q r nd A e k;unfold aI at e;split at e
 ·rename_i M y;obtain⟨z,D,e1⟩:=Zz.mp e;have E:=nc D;subst E;split at e1
  ·rename_i B;cases e1;obtain⟨a,p,n,rfl,rfl,i,g⟩:=r.lst_inv;obtain⟨w,f,rfl,rfl,J⟩:=(show RpL G j s [z] L from A.rp).one;have d:Fp R U H .fr f:=A.fp.each 0 _ _ rfl rfl;have q:j a=some (.lst p):=A.same a _ i;have h:G4 (j a):=by rw[q];exact True.intro
   have na:a∉n.flatten:=(ZY.mp nd).1;have nw:a∉f:=λz=>by rw[d.2 a z]at i;cases i
   refine⟨a,p,w,rfl,rfl,q,by rw[g.len.1];exact B,k _ _ (a :: (n++[f]).flatten) ?_⟩;have off:∀b∈n.flatten,b∉f:=λb hb hw=>G4.p0 (g.Hk b hb) (d.2 b hw);refine Chg.upd A.same Zw h (.lst aC (((g.same A.same).off h na).append (.cons (J.keep (Kept.upd (.inl h)) λb hb o u=>by rw[aE (λz=>nw (by rw[← z];exact hb))];exact u) .nil))) ?_ ?_
   ·rw[Z4];refine ZY.mpr ⟨λm=>?_,ZK.mpr ⟨(ZY.mp nd).2,by simpa using d.1,λb hb c C z=>?_⟩⟩
    ·rcases Ze.mp m with m | m
     ·exact na m
     ·exact nw (by simpa using m)
    ·subst z;exact off b hb (by simpa using C)
   ·intro b hb;rcases Zj.mp hb with rfl | hb
    ·exact .inl Zw
    ·rw[Z4]at hb;rcases Ze.mp hb with hb | hb
     ·exact .inl (Zv _ hb)
     ·exact .inr (d.2 b (by simpa using hb))
  ·cases e1
 ·cases e
theorem xr{H:Hp}{v:V}{b:Vp}{F:Wy}(r:Rp G H v (.lst b) F):tyV G.K "list" v H:=by
 obtain⟨a,f,h,rfl,rfl,d,g⟩:=r.lst_inv;exact .inl ⟨rfl,_,Hc.of d⟩
theorem jo{H:Hp}{v:V}{t:T}{F:Wy}{l:Vr}{z:T×Val}(r:Rp G H v t F)(h:aI t l=some z):tyV G.K "list" v H:=by
 unfold aI at h;split at h
 ·exact xr r
 ·cases h
end
structure K6(G:Gx)(Jq:It)(l:Vp)(C:Wy)(H:Hp):Prop where
 run:∀H2,Kept H H2->(∀a∈C,∀o,H a=some o->H2 a=some o) →
  (∀(i:Nat)(t:T),l[i]?=some t->Jq.go i H2/\∀x H3,Jq.Pt i H2 x H3->aO H2 H3/\∃F,Rp G H3 x t F/\∀a∈F,a∈C\/H2 a=none)/\∀(i:Nat),l.length<=i->Jq.stop i H2
 Hk:∀a∈C,H a≠none
noncomputable def Va(R:G6)(U:VS.Env)(H:Hp)(m:Md)(C:Wy):Prop:=∀a∈C,H a=none\/eE R U a\/(m=.bo/\cy R U a)
theorem Fp.c{R:G6}{U:VS.Env}{H:Hp}{F:Wy}:∀{m:Md},Fp R U H m F->Va R U H m F
 |.fr,f=>λa b=>.inl (f.2 a b)
 |.pu,f=>λa b=>(f a b).imp id .inl
 |.bo,f=>λa b=>(f a b).imp id λz=>z.imp id λz=>⟨rfl,z⟩
noncomputable def tI(G:Gx)(c:JL):TI:=λJ H Rq=>∃R U m l,SR G R U J H/\c U=some (m,l)/\∀b a C,aO H a->K6 G b l C a->Va R U H m C->Rq b a
noncomputable def PVI(G:Gx)(X:Cx)(b a:Expr)(c:JL):Prop:=PI X b a (tI G c)
theorem PI.weak{X:Cx}{b e:Expr}{t d:TI}(h:PI X b e t)(w:∀J H Q,d J H Q->t J H Q):PI X b e d:=λa s J H Q I q=>h a s J H Q I (w J H Q q)
section
variable{G:Gx}{X:Cx}{tg e a b:Expr}{es:List Expr}{ca cb:Ex}{cs:Hr}{pos p:Pos}
theorem rE(H:Hp)(d:Int)(n:Nat):K6 G (Po d n) (rng d n) [] H:=by
 refine⟨λq _ _=>⟨λi t h=>?_,λi h=>(by simpa[rng] using h:n<=i)⟩,λa h=>by simp at h⟩;unfold rng at h;rw[ZM]at h;obtain⟨k,g,e⟩:=Zu.mp h;obtain⟨f,e2⟩:=ZX.mp g;rw[ZO]at f;have j:i=k:=by simpa using e2
 subst j;refine⟨f,λx o ⟨m,l⟩=>?_⟩;subst m;subst l;rw[← e];exact⟨aO.refl _,[],.int _,λa h=>by simp at h⟩
theorem cT(u:PV G X a ca)(t:Gl X "range")(r:X.mg "range" = none)(o:K1 a [] X:=by rfl)(z:starEach [a] X.env=[(false,eval a X.env)]:=by rfl):PVI G X tg (.Call (.Name "range" p) [a] [] pos) (cq ca) :=
 PI.weak (vW t r (eT u iX o) z) λJ H Rq q=>by
  obtain⟨R,U,m,l,s,e,k⟩:=q;unfold cq at e;obtain⟨⟨n,x⟩,w,e1⟩:=Zz.mp e;obtain⟨j,f,e2⟩:=Zz.mp e1;split at e2
  ·rename_i d;cases e2;refine⟨R,U,n,x,s,w,λv g F y i B=>?_⟩;cases x with
   |int A =>
    cases f;refine⟨j,by rw[i.int_inv],?_,?_,k _ g [] y (rE g 0 j.toNat) λa h=>by simp at h⟩
    ·have:=d.1;unfold My at this;lia
    ·have:=d.2;unfold My at this;lia
   |_=>cases f
  ·cases e2
theorem oP(E:PV G X a ca)(D:PV G X b cb)(C:Gl X "range")(A:X.mg "range" = none)(u:starEach [a,b] X.env=(false,eval a X.env) :: starEach [b] X.env:=by rfl)(P:starEach [a,b] X.env=[(false,eval a X.env),(false,eval b X.env)]:=by rfl)(O:K1 b [] X:=by rfl)(Q:starEach [b] X.env=[(false,eval b X.env)]:=by rfl) :
  PVI G X tg (.Call (.Name "range" p) [a,b] [] pos) (i7 ca cb) :=
 PI.weak (wm C A (eT E (eT D iX O) u) P Q) λJ H Rq z=>by
  obtain⟨R,U,m,l,s,e,k⟩:=z;unfold i7 at e;obtain⟨⟨t,x⟩,M,e1⟩:=Zz.mp e;obtain⟨⟨r,y⟩,L,e1⟩:=Zz.mp e1;obtain⟨i,f,e2⟩:=Zz.mp e1;obtain⟨j,d,e2⟩:=Zz.mp e2;split at e2
  ·rename_i B;cases e2;refine⟨R,U,t,x,s,M,λv H' F g q f3=>⟨R,U,r,y,s.same g,L,λw n F2 N o Z=>?_⟩⟩;cases x with
   |int Y =>
    cases f;cases y with
    |int S =>
     cases d;refine⟨i,j,by rw[q.int_inv,o.int_inv],?_,k _ n [] (g.trans N) (rE n i (j-i).toNat) λa h=>by simp at h⟩;unfold My at B;omega
    |_=>cases d
   |_=>cases f
  ·cases e2
theorem dC{d:Yp}{i:Nat}{F:Wy}(h:d[i]?=some F){a:Addr}(f:a∈F):a∈d.flatten:=(dv h).subset f
theorem Al{H:Hp}{a:Addr}{d:List V}{f:Vp}{j:Yp}(K:Xf)(l:H a=some (.lst d))(r:RpL G H d f j):K6 G (Td K a) f (a :: j.flatten) H:=by
 refine⟨λn k c=>?_,λb hb=>?_⟩
 ·have g:n a=some (.lst d):=c a Zw _ l;have r2:RpL G n d f j:=r.keep k λb hb o q=>c b (Zv _ hb) o q;refine⟨λi t h=>?_,λi h=>⟨d,Hc.of g,by rw[r.len.1];exact h⟩⟩;obtain⟨v,F,m,u,s⟩:=r2.get i h;refine⟨⟨d,v,Hc.of g,m⟩,λx w ⟨e1,e2⟩=>?_⟩;subst e1;have ex:=e2 d (Hc.of g);rw[m]at ex;cases ex;exact⟨aO.refl _,F,s,λb hb=>.inl (Zv _ (dC u hb))⟩
 ·rcases Zj.mp hb with rfl | hb
  ·rw[l];exact λz=>nomatch z
  ·exact G4.p0 (r.Hk b hb)
theorem Dq{H:Hp}{a:Addr}{d:List V}{f:Vp}{j:Yp}(K:Xf)(q:H a=some (.tup d))(r:RpL G H d f j):K6 G (Tc K a) f j.flatten H:=by
 refine⟨λm k c=>?_,λb hb=>G4.p0 (r.Hk b hb)⟩;have g:m a=some (.tup d):=k.tup a _ q;have r2:RpL G m d f j:=r.keep k λb hb o n=>c b hb o n;refine⟨λi t h=>?_,λi h=>⟨d,HX.of g,by rw[r.len.1];exact h⟩⟩;obtain⟨v,F,l,u,s⟩:=r2.get i h;refine⟨⟨d,v,HX.of g,l⟩,λx w ⟨e1,e2⟩=>?_⟩;subst e1;have ex:=e2 d (HX.of g);rw[l]at ex;cases ex;exact⟨aO.refl _,F,s,λb hb=>.inl (dC u hb)⟩
noncomputable def tG(G:Gx)(g:Tg):TG:=λv J H Q=>∃R U t F d,SR G R U J H/\Rp G H v t F/\(∀a∈F,¬cy R U a)/\g t U=some d ∧
 ∀f h,SR G f d h H->(∀a,cy f d a->cy R U a)->(∀a,eE f d a->eE R U a\/a∈F)->Q h H
noncomputable def VC(G:Gx)(l:List Tg):Mw:=λj J H Q=>∃R U h g d,SR G R U J H/\RpL G H j h g/\(∀a∈g.flatten,¬cy R U a)/\oj l h U=some d ∧
 ∀f i,SR G f d i H->(∀a,cy f d a->cy R U a)->(∀a,eE f d a->eE R U a\/a∈g.flatten)->Q i H
noncomputable def M4(G:Gx)(X:Cx)(e:Expr)(g:Tg):Prop:=PG X e (tG G g)
noncomputable def Au(G:Gx)(X:Cx)(e:List Expr)(g:List Tg):Prop:=L4 X e (VC G g)
theorem PG.weak{X:Cx}{e:Expr}{t f:TG}(h:PG X e t)(w:∀v J H Q,f v J H Q->t v J H Q):PG X e f:=λd s J H v u Q I r q=>h d s J H v u Q I r (w v J H Q q)
theorem L4.weak{X:Cx}{e:List Expr}{t f:Mw}(h:L4 X e t)(w:∀v J H Q,f v J H Q->t v J H Q):L4 X e f:=λd s J H v u Q I r q=>h d s J H v u Q I r (w v J H Q q)
theorem aK(i:Nat){x:Str}(B:X.N.Nodup)(y:X.N[i]?=some x:=by rfl)(l:Loc X.env.scope x:=by first | exact Or.inl rfl | exact Or.inr rfl)(A:X.fn x=true\/X.env.scope.names.lookup x=some .local:=by first | exact .inl rfl | exact .inr rfl):M4 G X (.Name x pos) (bg i):=PG.weak (Bv B y l A) λv J H Q m=>by
 obtain⟨R,U,t,F,E,s,r,no,e,k⟩:=m;unfold bg at e;split at e
 ·rename_i o;cases e;refine k (kc R i F) (J.set i (some v)) (s.put (c:=.pu t) o r (λj D n g w q=>q) (λu d=>nomatch d) (λu d=>nomatch d) λj u n g a f C=>no a C ⟨j,u,g,f⟩) (λa h=>?_) λa h=>?_
  ·rcases n9 h with⟨u,d,_⟩ | z
   ·cases d
   ·exact z
  ·rcases uy h with⟨u,d,f⟩ | z
   ·exact .inr f
   ·exact .inl z
 ·cases e
theorem kJ:Au G X [] []:=L4.weak BA λv J H Q f=>by
 obtain⟨R,U,g,i,d,s,r,no,e,k⟩:=f;cases r with
 |nil =>
  cases (show some U=some d from e);exact⟨rfl,k R J s (λ_ h=>h) λ_ h=>.inl h⟩
 |cons r q=>cases (show (none:Option VS.Env)=some d from e)
theorem d9{g:Tg}{i:List Tg}(y:M4 G X e g)(x:Au G X es i)(u:(assignEach (e :: es) X.env).map (·.2)=assign e X.env :: (assignEach es X.env).map (·.2):=by rfl):Au G X (e :: es) (g :: i) :=
 L4.weak (yT y x u) λv J H Q w=>by
  obtain⟨R,U,E,P,l,s,r,no,e,k⟩:=w;cases r with
  |nil=>cases (show (none:Option VS.Env)=some l from e)
  |cons r q =>
   rename_i D F S M L O;obtain⟨j,e1,e2⟩:=Zz.mp e;refine⟨_,_,rfl,R,U,_,_,j,s,r,λa d=>no a (by rw[ZI];exact Yf _ d),e1,λB N s1 f o=>?_⟩;refine⟨B,j,_,_,l,s1,q,λa d z=>no a (by rw[ZI];exact ZP _ d) (f a z),e2,λA C m t n=>k A C m (λa h=>f a (t a h)) λa h=>?_⟩;rcases n a h with h | h
   ·rcases o a h with h | h
    ·exact .inl h
    ·exact .inr (by rw[ZI];exact Yf _ h)
   ·exact .inr (by rw[ZI];exact ZP _ h)
theorem sF:∀{i:List Tg}{f:Vp}{U d:VS.Env},oj i f U=some d->f.length=i.length
 |[],[],_,_,_=>rfl
 |[],_ :: _,_,_,h=>by simp[oj]at h
 |_ :: _,[],_,_,h=>by simp[oj]at h
 |g :: i,t :: f,U,d,h=>by
  obtain⟨j,_,e2⟩:=Zz.mp (show (g t U).bind (λd=>oj i f d)=some d from h);simp[sF e2]
theorem nq{d:List Tg}{k:Nat}(m:X.calm=true)(h:Au G X es d)(j:(assignEach es X.env).length=d.length:=by rfl)(w:(assignEach es X.env).findIdx? (·.1)=none:=by rfl)(z:X.K=G.K:=by rfl):M4 G X (.Tuple es k pos) (j8 d) :=
 PG.weak (Cy (n:=d.length) m h j w) λv J H Q i=>by
  obtain⟨R,U,t,F,u,s,r,no,e,q⟩:=i;unfold j8 at e;split at e
  ·rename_i l;obtain⟨o,g,y,rfl,rfl,x,f⟩:=r.Ii;exact⟨o,g,rfl,HX.of x,by rw[f.len.1];exact sF e,R,U,l,y,u,s,f,no,e,q⟩
  ·cases e
theorem pD{tgt:Tg}{body:Sx}{l:Vp}{U:VS.Env}{i:Nat}{t:T}(h:l[i]?=some t):l.drop i=t :: l.drop (i+1):=by
 obtain⟨d,e⟩:=ZX.mp h;rw[← e];exact Y2 d
theorem DR{ci:JL}{g:Tg}{E:Sx}{D:Ends}{J:L2.St}{H:Hp}(hq:tS G (eW g ci E) D J H):FY (tI G ci) (tG G g) (tS G E) D J H:=by
 obtain⟨R,U,o,s,e,k⟩:=hq;unfold eW at e;obtain⟨⟨m,l⟩,el,e1⟩:=Zz.mp e;dsimp only at e1;split at e1
 ·rename_i hm;have IF:m ≠ .bo:=λz=>by rw[z]at hm;cases hm
  refine⟨R,U,m,l,s,el,λJq P C e2 ok fc=>?_⟩;have cno:∀a∈C,¬cy R U a:=λa A z=>by
   rcases fc a A with q | q | q
   ·exact G4.p0 (s.Iw z) q
   ·exact s.Lv z q
   ·exact IF q.1
  refine⟨λi n J2 O=>n=l.length-i/\∃N d,SR G N d J2 O/\HG R U H N d O/\Kept P O/\(∀a∈C,∀o,P a=some o->O a=some o/\¬cy N d a)/\forL g E (l.drop i) d=some o,
   ⟨l.length-0,rfl,R,U,s.same e2,HG.same e2,Kept.refl _,λa A y B=>⟨B,cno a A⟩,by rw[XJ];exact e1⟩,?_⟩
  rintro i n J2 O ⟨rfl,N,d,s2,f2,kp,con,Z⟩;obtain⟨go,stop⟩:=ok.run O kp λa A y B=>(con a A y B).1;cases hit:l[i]? with
  |none =>
   have hl:l.length<=i:=Yi.mp hit;left;rw[Xu hl]at Z;cases (show some (Out.nx d)=some o from Z);exact⟨stop i hl,k N J2 O s2 f2⟩
  |some t =>
   have hl:i<l.length:=(ZX.mp hit).1;right;obtain⟨g1,y1⟩:=go i t hit;rw[pD (tgt:=g) (body:=E) (U:=d) hit]at Z;obtain⟨U3,e4,e5⟩:=Zz.mp (show (g t d).bind (λU1=>(E U1).bind λo=>match o with
    |.nx d=>forL g E (l.drop (i+1)) d
    |.ct d=>forL g E (l.drop (i+1)) d
    |.bk d=>some (.nx d)
    |.rt v d=>some (.rt v d))=some o from Z)
   obtain⟨y,e6,Y⟩:=Zz.mp e5;refine⟨g1,λL r=>∃j f,SR G j f L r/\HG R U H j f r/\Kept P r/\(∀a∈C,∀o,P a=some o->r a=some o/\¬cy j f a)/\forL g E (l.drop (i+1)) f=some o,λL r ⟨j,f,q⟩=>⟨l.length-(i+1),by omega,rfl,j,f,q⟩,λx H3 yl=>?_⟩;obtain⟨Q,F,rF,hF⟩:=y1 x H3 yl;have s3:=s2.same Q;have V6:∀a∈F,¬cy N d a:=λa A z=>by
    rcases hF a A with q | q
    ·have Jc:=ok.Hk a q;cases B:P a with
     |none=>exact Jc B
     |some V4=>exact(con a q V4 B).2 z
    ·exact G4.p0 (s2.Iw z) q
   refine⟨N,d,t,F,U3,s3,rF,V6,e4,λR3 J3 s4 o3 p3=>?_⟩;have S:HG R U H R3 U3 H3:=⟨λa y h n=>let ⟨h1,n1⟩:=f2.keep a y h n;⟨Q a y h1,λz=>n1 (o3 a z)⟩,λa h z=>f2.Hk a h (Q.free z),λa h=>f2.ow a (o3 a h),λa h=>by
    rcases p3 a h with h | h
    ·exact f2.pu a h
    ·rcases hF a h with q | q
     ·rcases fc a q with q | q | q
      ·exact .inr (.inr q)
      ·exact .inl q
      ·exact .inr (.inl q.2)
     ·exact .inr (.inr (f2.none q)),f2.kept.trans (Kept.of Q)⟩
   have next:∀{j f r},HG R3 U3 H3 j f r->Kept P r/\∀a∈C,∀o,P a=some o->r a=some o/\¬cy j f a:=λw =>
    ⟨(kp.trans (Kept.of Q)).trans w.kept,λa A y B=>by
     obtain⟨h1,n1⟩:=con a A y B;exact w.keep a y (Q a y h1) λz=>n1 (o3 a z)⟩
   refine⟨R3,U3,y,s4,e6,?_⟩;cases y with
   |nx f=>exact λj L r M w=>⟨j,f,M,S.trans w,(next w).1,(next w).2,Y⟩
   |ct f=>exact λj L r M w=>⟨j,f,M,S.trans w,(next w).1,(next w).2,Y⟩
   |bk f =>
    cases (show some (Out.nx f)=some o from Y);exact λj L r M w=>k j L r M (S.trans w)
   |rt v f =>
    cases (show some (Out.rt v f)=some o from Y);exact λu r F4 j L M w r5 q5=>k u r F4 j L M (S.trans w) r5 (q5.back S)
 ·cases e1
theorem cj{d:Expr}{f:List Stmt}{h:JL}{g:Tg}{i:Sx}(m:PassesOwn (model X.prog X.w) X.A X.env X.xe)(q:X.calm=true)(n:PVI G X tg d h)(o:M4 G X tg g)(r:jy G X f i)(j:∀x,foldedSetIterable d X.env x=pure x:=by intro _;rfl):PSV G X (.For tg d f [] pos) (eW g h i):=PS.weak (Dp m q n o r j) λD J H l=>DR l
end
noncomputable def GH(H:Hp)(b:Yp):Md->Wy->Prop
 |.fr,F=>F.Nodup/\∀a∈F,H a=none
 |_,F=>∀a∈F,H a=none\/a∈b.flatten
noncomputable def Kb(G:Gx)(g:Fn):Sp:=λe H Q _=>∃b d m r,RpL G H e b d/\g b=some (m,r)/\∀v a F,aO H a->Rp G a v r F->GH H d m F->Q v a
section
variable{G:Gx}{X:Cx}{k:Nat}{f:Addr}{fd:FuncData}{ps:List Str}{x:Str}{p pos:Pos}{e:Expr}{es:List Expr}{cs:Hr}{g:Fn}
theorem call_of{J:L2.St}{H:Hp}{Q:VK}{E:XK}(h:tE G (aZ g cs) J H Q):Cp (Kb G g) [] E (M9 G cs) J H Q:=by
 obtain⟨R,U,m,t,s,e,u⟩:=h;unfold aZ at e;obtain⟨l,O,e1⟩:=Zz.mp e;obtain⟨⟨n,r⟩,N,e2⟩:=Zz.mp e1;refine⟨R,U,l,s,O,λD y C b M L=>?_⟩;have A:Args G R U H y l D C:=⟨b,M,L⟩
 have i:=L.join A.len;show Kb G g (D++[]) y Q E;rw[ZQ];refine⟨trees l,C,n,r,M,N,λv B F q o j=>?_⟩;have wide:(∀a∈F,y a=none\/a∈C.flatten)->Fp R U H ((Md.pu).join (cA l)) F:=λh=>by
  cases w:cA l with
  |fr =>
   rw[w]at i;exact λa d=>.inl ((h a d).elim b.free (i.2 a))
  |pu =>
   rw[w]at i;exact λa d=>(h a d).elim (λz=>.inl (b.free z)) (i a)
  |bo =>
   rw[w]at i;exact λa d=>(h a d).elim (λz=>.inl (b.free z)) (i a)
 cases n with
 |fr =>
  cases e2;exact u v B F (b.trans q) o ⟨j.1,λa d=>b.free (j.2 a d)⟩
 |pu =>
  cases e2;exact u v B F (b.trans q) o (wide j)
 |bo =>
  cases e2;exact u v B F (b.trans q) o (wide j)
theorem BP(F:FnOk X.prog X.w X.K X.mg X.base HJ k f fd ps (Kb G g))(b:xa k X.A)(j:Gl X x)(d:X.mg x=some (.ref f))(i:PySem.W.keepIn X.K (.ref f)=true)(l:Binds X.K fd ps [])(m:Ib G X (e :: es) cs)(n:K3 x:=by decide)(he:K1 e es X:=by rfl)(a:K2 pos es X:=by rfl) :
  PV G X (.Call (.Name x p) (e :: es) [] pos) (aZ g cs) :=
 PE.weak (BC F b j d i l .nil mF m n he a) λJ H Q h=>call_of h
theorem yf{H:Hp}{d:List V}{a:Vp}{m:Yp}(r:RpL G H d a m)(n o:Nat)(w:o=d.length):SR G (λi=>m.getD i []) (a.map (λt=>some (.pu t))++List.replicate (n-a.length) none) (d.map some++List.replicate (n-o) none) H:=by
 subst w;have A:=r.len;have back:∀{i:Nat}{c:Cell},(a.map (λt=>some (Cell.pu t))++List.replicate (n-a.length) none)[i]?=some (some c)->∃t,a[i]?=some t/\c=.pu t:=λ{i c} h=>by
  by_cases q:i<a.length
  ·rw[Ys (by rw[Zx];exact q),ZM]at h;obtain⟨t,l,b⟩:=Zu.mp h;exact⟨t,l,(Zl b).symm⟩
  ·rw[Yq (by rw[Zx];exact Yu q),YD]at h;split at h<;>cases h
 refine⟨by simp;lia,λi c h=>?_,λi t h=>?_,λi j t c h=>?_⟩
 ·obtain⟨t,l,rfl⟩:=back h;obtain⟨v,F,s,z,y⟩:=r.get i l;refine⟨v,?_,?_⟩
  ·have:i<d.length:=(ZX.mp s).1;rw[Ys (by rw[Zx];exact this),ZM,s];rfl
  ·show Rp G H v t (m.getD i []);rw[Zr,z];exact y
 ·obtain⟨u,_,b⟩:=back h;cases b
 ·obtain⟨u,_,b⟩:=back h;cases b
theorem jC{b:Vp}{n:Nat}{R:G6}{a:Addr}:¬cy R (b.map (λt=>some (Cell.pu t))++List.replicate n none) a:=by
 rintro⟨i,t,h,_⟩;by_cases d:i<b.length
 ·rw[Ys (by rw[Zx];exact d),ZM]at h;obtain⟨l,_,j⟩:=Zu.mp h;cases j
 ·rw[Yq (by rw[Zx];exact Yu d),YD]at h;split at h<;>cases h
theorem tR{H:Hp}{vs:List V}{j:Vp}{d:Yp}{n:Nat}{a:Addr}(h:eE (λi=>d.getD i []) (j.map (λt=>some (Cell.pu t))++List.replicate n none) a):a∈d.flatten:=by
 obtain⟨i,t,_,b⟩:=h;simp only[Zr]at b;cases e:d[i]? with
 |none=>rw[e]at b;simp at b
 |some F=>rw[e]at b;exact dC e b
end
section
variable{G:Gx}{P:Program}{w:World}{K:Xf}{mg:X9}{base:Heap}
theorem Sk{x b:Str}{e:Stmt}{f:Addr}{J:FuncData}{N n:List Str}{k D j:Nat}{c:Sx}(F:G2 K x b e f J)(S:jj N n (aj e))(U:n.length=D)(X:N.length=j)(Y:∀(l:Value)(A:Around)(outer:List PySem.Env)(s:Shared)(H:Hp)(E:XK),xa k (A.deeper (envOfC b (aj e) s.heap.objs.size f l))->jy G (jS HJ P w K mg base N b (aj e) f l A outer s H E).Kg (bu e) c) :
  FnOk P w K mg base HJ (k+1) f J n (Kb G (fn D j c)):=by
 refine F.ok S (λvs H Q E h=>?_) λl A outer s H vs Q E R h=>⟨_,Y l A outer s H E R,?_⟩
 ·obtain⟨L,Fs,m,r,t,d,_⟩:=h;unfold fn at d;split at d
  ·rename_i p;rw[t.len.1,p,U]
  ·cases d
 ·obtain⟨L,Fs,m,r,t,d,q⟩:=h;unfold fn at d;split at d
  ·rename_i p;obtain⟨o,e1,e2⟩:=Zz.mp d;have C:=yf t j vs.length rfl;rw[p]at C;have Z:L2.start N vs=vs.map some++List.replicate (j-vs.length) none:=by
    unfold L2.start;rw[X]
   rw[Z];refine⟨_,_,o,C,e1,?_⟩;cases o with
   |nx y =>
    cases e2;intro R' J' B M fr;exact q .non B [] (λa o h=>(fr.keep a o h jC).1) .non ⟨YG,λa h=>by simp at h⟩
   |rt v y =>
    cases e2;intro u B F' R' J' M fr O i;refine q u B F' (λa o h=>(fr.keep a o h jC).1) O ?_;cases m with
    |fr=>exact⟨i.1,λa g=>(i.2 a g).elim id λz=>absurd z jC⟩
    |pu=>exact λa g=>(i a g).elim .inl λz=>z.elim (λz=>.inr (tR (H:=H) (vs:=vs) z)) λz=>absurd z jC
    |bo=>exact λa g=>(i a g).elim .inl λz=>z.elim (λz=>.inr (tR (H:=H) (vs:=vs) z)) λz=>absurd z jC
   |bk y=>cases e2
   |ct y=>cases e2
  ·cases d
end
end VS
end
section
namespace L2
open PySem PySem.Spec PyProof.Rows
theorem lJ(b:Env):∀(l:List (Str×NameKind))(acc:List (Str×Addr)),(∀y∈l,y.2=.free->∃c,b.cells.lookup y.1=some c)->(∀x c,acc.lookup x=some c->b.cells.lookup x=some c) →
  ∃cl,(forIn l acc (λx r=>if (x.snd==NameKind.free)=true then (do let a ← cellOf b x.fst;pure (ForInStep.yield ((x.fst,a) :: r))) else pure (ForInStep.yield r)):Sem (List (Str×Addr)))=pure cl ∧
   (∀x c,cl.lookup x=some c->b.cells.lookup x=some c)/\(∀x c,acc.lookup x=some c->∃e,cl.lookup x=some e)/\∀y∈l,y.2=.free->∃c,cl.lookup y.1=some c
 |[],acc,_,i=>⟨acc,rfl,i,λx c h=>⟨c,h⟩,λy d=>nomatch d⟩
 | (n,k) :: l,acc,o,i=>by
  by_cases m:k=.free
  ·subst m;obtain⟨c,p⟩:=o (n,.free) Zw rfl;have u:cellOf b n=pure c:=by unfold cellOf;dsimp only at p;rw[p]
   have v:∀x e,((n,c) :: acc).lookup x=some e->b.cells.lookup x=some e:=λx e h=>by
    rw[Ya]at h;split at h
    ·rename_i g;have:x=n:=by simpa using g
     rw[this,← h];exact p
    ·exact i x e h
   obtain⟨cl,t,s,f,q⟩:=lJ b l ((n,c) :: acc) (λy d=>o y (Zv _ d)) v;refine⟨cl,?_,s,λx e h=>?_,λy d j=>?_⟩
   ·rw[List.forIn_cons];dsimp only;rw[Zs (show (NameKind.free==NameKind.free)=true from rfl),u,pure_bind,pure_bind];exact t
   ·by_cases g:x=n
    ·exact f x c (by rw[Ya,g];simp)
    ·refine f x e ?_;rw[Ya];have:(x==n)=false:=by simpa using g
     rw[this];exact h
   ·rcases Zj.mp d with rfl | d
    ·exact f n c (by rw[Ya];simp)
    ·exact q y d j
  ·obtain⟨cl,t,s,f,q⟩:=lJ b l acc (λy d=>o y (Zv _ d)) i;refine⟨cl,?_,s,f,λy d j=>?_⟩
   ·rw[List.forIn_cons];dsimp only;rw[Zp (by simpa using m),pure_bind];exact t
   ·rcases Zj.mp d with rfl | d
    ·exact absurd j m
    ·exact q y d j
theorem Aw{sc:Scope}{env:Env}(a:∀y∈sc.names,y.2=.free->∃c,env.cells.lookup y.1=some c) :
  ∃cl,closureFor sc env=pure cl/\(∀x c,cl.lookup x=some c->env.cells.lookup x=some c)/\∀y∈sc.names,y.2=.free->∃c,cl.lookup y.1=some c:=by
 obtain⟨cl,e,d,_,b⟩:=lJ env sc.names [] a (λx c h=>nomatch h);refine⟨cl,?_,d,b⟩;simp only[closureFor];rw[e];rfl
theorem ig{l:List (Str×NameKind)}{x:Str}{k:NameKind}(h:l.lookup x=some k):(x,k)∈l:=by
 induction l with
 |nil=>cases h
 |cons p l a =>
  rw[Ya]at h;split at h
  ·rename_i b;have e:x=p.1:=by simpa using b
   cases h;rw[e];exact Zw
  ·exact Zv _ (a h)
theorem dH{a:Env}{x:Str}{k:NameKind}:∀{l:List (Str×NameKind)},(l.map λ(n,k)=>if (k==NameKind.free&&a.scope.kind == .function&&a.kindOf n==some .cell) then (n,NameKind.cell) else (n,k)).lookup x=some k →
  ∃e,l.lookup x=some e/\(k=e\/(e=.free/\k=.cell))
 |[],h=>nomatch h
 | (n,d) :: l,h=>by
  rw[Zm,Ya]at h;by_cases f:(d==NameKind.free&&a.scope.kind == .function&&a.kindOf n==some .cell)=true
  ·simp only[f,if_true]at h;rw[Ya];cases b:x==n with
   |true =>
    rw[b]at h;have:d=.free:=by
     have:=(Xh.mp (Xh.mp f).1).1;simpa using this
    exact⟨d,rfl,.inr ⟨this,(Zl h).symm⟩⟩
   |false=>rw[b]at h;exact dH h
  ·simp only[f,if_false,XW]at h;rw[Ya];cases b:x==n with
   |true=>rw[b]at h;exact⟨d,rfl,.inl (Zl h).symm⟩
   |false=>rw[b]at h;exact dH h
noncomputable def cF(X:Cx)(N:List Str)(a:Scope)(d:List (Str×Addr))(C:Addr)(s:Shared)(H:Hp)(b:Wy):Cx :=
 { X with N:=N,s₀:=s,H₀:=H,env:=compEnvC a d C X.env,outer:=X.stack,ex:=b,fn:=λ_=>false,pn:=[],xe:=λ_ _=>False }
noncomputable def o9(a:Env)(b:Scope):Bool:=b.kind == .function&&b.names.all λy=>match y.2 with
 |.cell=>false
 |.local=>b.names.lookup y.1==some .local
 |.free=>a.kindOf y.1==some .cell||a.kindOf y.1==some .free
 |_=>true
noncomputable def lX(d:Scope):List Str->List Str->Bool
 |[],[]=>true
 |a :: e,b :: bs=>((a==b&&d.names.lookup a==some .free)||d.names.lookup a==none||d.names.lookup a==some .globalImplicit)&&lX d e bs
 |_,_=>false
theorem vh{d:Scope}:∀{f bs:List Str},lX d f bs=true->f.length=bs.length/\∀(i:Nat)(x:Str),f[i]?=some x->(bs[i]?=some x/\d.names.lookup x=some .free)\/d.names.lookup x=none\/d.names.lookup x=some .globalImplicit
 |[],[],_=>⟨rfl,λi x h=>by simp at h⟩
 |a :: f,b :: bs,h=>by
  simp only[lX,ZS]at h;obtain⟨g,n⟩:=h;obtain⟨l,r⟩:=vh n;refine⟨by simp[l],λi x e=>?_⟩;cases i with
  |zero =>
   have:a=x:=by simpa using e
   subst this;simp only[Bool.or_eq_true,ZS]at g;rcases g with (⟨m,j⟩ | z) | z
   ·exact .inl ⟨by simpa using(by simpa using m:a=b).symm,by simpa using j⟩
   ·exact .inr (.inl (by simpa using z))
   ·exact .inr (.inr (by simpa using z))
  |succ i=>simpa using r i x (by simpa using e)
 |[],_ :: _,h=>by simp[lX]at h
 |_ :: _,[],h=>by simp[lX]at h
section
variable{X:Cx}{pins:Yz}{J:St}{H:Hp}{s:Shared}
theorem Inv.block{N:List Str}{sc:Scope}{cl:List (Str×Addr)}{C D:Addr}{fp:Wy}{k:Nat}{B:Heap}{t:Nat}{m:X9}(I:Inv X pins J H s)(S:o9 X.env sc=true)(Kk:lX sc (N.drop k) X.N=true)(Kn:k<=N.length)(g:∀x c,cl.lookup x=some c->X.env.cells.lookup x=some c)(P8:∀y∈sc.names,y.2=.free->∃c,cl.lookup y.1=some c)(F:∀b∈fp,o6 X pins H b)(A:s.heap.objs.size<=D)(Z:s.heap.objs.size<=C)(P9:D≠C)(P6:C∉fp)(d:∀b u,s.heap.get? b=some u->B.get? b=some u)(P1:B.Ns C m)(Sd:B.get? D=some { cls:=.type "list",data:=.seq ([]:Wu).toArray 0 }) :
  Inv (cF X N sc cl C s H fp) [] (List.replicate k none++J) (upd H D (.lst [])) { s with heap:=B,toks:=t }:=by
 unfold o9 at S;rw[ZS,Yk]at S;obtain⟨hk,Jj⟩:=S;have Jo:sc.kind=.function:=by simpa using hk
 obtain⟨hlen,O⟩:=vh Kk;have Jr:∀y∈sc.names,y.2 ≠ .cell:=λy hy e=>by have:=Jj y hy;rw[e]at this;cases this
 have frees:∀x a,(relabel sc X.env).names.lookup x=some a->a=.cell\/a=.free->sc.names.lookup x=some .free:=λx a h Ub=>by
  obtain⟨n,f,L⟩:=dH h;rcases L with e | ⟨e,_⟩
  ·subst e;rcases Ub with e | e
   ·subst e;exact absurd rfl (Jr _ (ig f))
   ·subst e;exact f
  ·subst e;exact f
 have Mq:H D=none:=I.xh.fresh A;have P:H C=none:=I.xh.fresh Z;refine⟨⟨I.mod,Jo,I.ok.glob,I.ok.blt,Z,λx y c e1 e2=>I.ok.inj x y c (g x c e1) (g y c e2),λx hx=>?_,λx c e=>(nomatch e),I.ok.hd,I.ok.frames,.inl rfl,λb hb=>⟨λ(e:b=C)=>P6 (e ▸ hb),λx c e=>(F b hb).2.2.2.2.1 x c (g x c e)⟩,
  I.bs,ZE I.ok.Ms I.sz,λb o e hb=>?_,λb hb U=>?_,I.stack,I.Kw⟩,rfl,I.bare,Un.laid d A Mq,⟨m,P1,λi x v e1 e2 Q=>?_⟩,λx c e=>?_,?_,λx c e=>?_,λp hp=>(nomatch hp),I.xh.laid d A ?_,?_⟩
 ·have h:∃a,(relabel sc X.env).names.lookup x=some a/\(a=.cell\/a=.free):=by
   rcases hx with e | e
   ·exact⟨_,e,.inl rfl⟩
   ·exact⟨_,e,.inr rfl⟩
  obtain⟨a,E,R⟩:=h;exact P8 _ (ig (frees x a E R)) rfl
 ·have U:b∈fp:=hb;rcases (F b U).2.2.2.1 with z | z
  ·exact I.ok.Lx b o e z
  ·exact absurd (ZF (ZU e) (ZE I.ok.Ms z)) (YO _)
 ·have M:b∈Ig X.stack:=U;rcases Zj.mp (I.Jy b M) with z | z
  ·exact(F b hb).2.1 z
  ·exact(F b hb).2.2.1 z
 ·
  have MT:k<=i:=by
   rcases Wb i k with z | z
   ·rw[Ys (by simpa using z),YD]at e2;split at e2<;>cases e2
   ·exact z
  rw[Yq (by simpa using MT),Xp]at e2;have NO:(N.drop k)[i-k]?=some x:=by
   rw[List.getElem?_drop,show k+(i-k)=i by exact W0 MT];exact e1
  have Vk:sc.names.lookup x=some .free->∃a,(relabel sc X.env).names.lookup x=some a/\(a=.cell\/a=.free):=λf=>by
   have w:JG (relabel sc X.env) x:=Q;rcases w with z | z | z
   ·obtain⟨n,E,R⟩:=dH z;rw[f]at E;cases E;rcases R with q | ⟨_,q⟩<;>cases q
   ·exact⟨_,z,.inl rfl⟩
   ·exact⟨_,z,.inr rfl⟩
  have no:∀n,sc.names.lookup x=some n->∃a,(relabel sc X.env).names.lookup x=some a->True:=λ_ _=>⟨.local,λ_=>trivial⟩
  rcases O _ x NO with⟨hX,f⟩ | f | f
  ·obtain⟨a,LR,KY⟩:=Vk f;have hf:=Jj _ (ig f);have Ui:X.env.kindOf x=some .cell\/X.env.kindOf x=some .free:=by
    simpa using hf
   obtain⟨mX,hnX,G⟩:=I.loc;have QF:JG X.env.scope x:=Ui.elim (λz=>.inr (.inl z)) λz=>.inr (.inr z);obtain⟨u,r,l⟩:=G _ x v hX e2 QF;refine⟨u,r,.inr ⟨?_,?_⟩⟩
   ·rcases KY with z | z
    ·subst z;exact .inl LR
    ·subst z;exact .inr LR
   ·obtain⟨c,Y⟩:=P8 _ (ig f) rfl;refine⟨c,Y,?_⟩;rcases l with⟨z,_⟩ | ⟨_,c',J0,NG⟩
    ·rcases Ui with q | q<;>(rw[z]at q;cases q)
    ·have:=g x c Y;rw[J0]at this;cases this;exact NG.keeps d
  ·have w:JG (relabel sc X.env) x:=Q;rcases w with z | z | z<;>(obtain⟨n,j,_⟩:=dH z;rw[f]at j;cases j)
  ·have w:JG (relabel sc X.env) x:=Q;rcases w with z | z | z<;>(obtain⟨n,j,z2⟩:=dH z;rw[f]at j;cases j;rcases z2 with q | ⟨q,_⟩<;>cases q)
 ·obtain⟨v,z⟩:=I.cell x c (g x c e);exact⟨v,z.keeps d⟩
 ·show upd H D (.lst []) C=none;rw[aE (YF P9)];exact P
 ·obtain⟨v,z⟩:=I.cell x c (g x c e);rw[aE (Zb (ZF z.lt A))];exact I.HW x c (g x c e)
 ·exact⟨ZR _,[],0,.nil,Sd⟩
 ·show (List.replicate k none++J).length=N.length;rw[Zy,Xp,I.len,← hlen,Z7];exact W0 Kn
noncomputable def yX(X:Cx)(a:List Expr)(t:TT):Prop :=
 ∀(pins:Yz)(s:Shared)(J:St)(H:Hp)(Q:Bool->Hp->Prop),Inv X pins J H s->t J H Q →
  wpAny (model X.prog X.w) X.A (forIn a true λc r=>if r=true then (do let ok ← isTrue c X.env (eval c X.env);pure (ForInStep.yield ok)) else pure (ForInStep.yield r)) (TP X pins J Q) X.xe s
theorem nM:yX X [] (λJ H Q=>Q true H):=λpins s J H Q I q=>ZW ⟨H,I,q⟩
theorem zE{c:Expr}{t:TT}(h:PT X c t):yX X [c] t:=λpins s J H Q I q=>by
 rw[List.forIn_cons,Zs rfl];refine Zn (Zn (thn (h pins s J H Q I q) λb s1 a=>ZW ?_));exact ZW a
section
variable{prog:Program}{w:World}{A:Around}{Rq:Result->Shared->Prop}
theorem qX{i a f:Expr}{g:List Expr}{d:Scope}{o:Pos}{p j:Value}{b:Env}{s:Shared}(I:Nat->Shared->Prop)(l:∀n s,I n s->wpAny (model prog w) A (pyNext p) (λr t=>match r with
   |none=>Rq (.ok .next) t
   |some v=>wpAny (model prog w) A (letOwnedTupleGo a p v) (λ_ C=>wpAny (model prog w) A (assign a b v) (λ_ B =>
     wpAny (model prog w) A (forIn g true λc r=>if r=true then (do let ok ← isTrue c b (eval c b);pure (ForInStep.yield ok)) else pure (ForInStep.yield r)) (λok q =>
      if ok=true then wpAny (model prog w) A (eval i b) (λx z =>
       wpAny (model prog w) A (call (.builtin "list.append") [j,x]) (λ_ y=>∃m,m<n/\I m y) (λ_ _=>False) z) (λ_ _=>False) q
      else ∃m,m<n/\I m q) (λ_ _=>False) B) (λ_ _=>False) C) (λ_ _=>False) t) (λ_ _=>False) s)(n:Nat)(h:I n s) :
  codeAny (model prog w) A (.compLoop (.ListComp i [⟨a,f,g,0⟩] d o) 0 p j b) Rq s:=by
 refine codeAny_loop rfl I (λn s L=>?_) n h;show wpAny _ A ((compTurn (.ListComp i [⟨a,f,g,0⟩] d o) 0 p j b).onRaise (λx=>do noteFrame x b;theTreesLotGoes x)) _ _ s;refine wpAny_noted ?_;rw[compTurn_list];refine Zn (wpAny_standAt (Zn (YA (l n s L) (λr t D=>?_) λ_ _ e=>e.elim)));cases r with
 |none=>exact ZW D
 |some v =>
  refine Zn (YA D (λ_ C h₀=>?_) λ_ _ e=>e.elim);refine Zn (YA h₀ (λ_ B G=>Zn (YA G (λok q u=>?_) λ_ _ e=>e.elim)) λ_ _ e=>e.elim);cases ok with
  |false=>exact ZW ⟨rfl,u⟩
  |true =>
   rw[Zs rfl]at u;exact Zn (Zn (YA u (λx z F=>Zn (YA F (λ_ y E=>ZW (ZW ⟨rfl,E⟩)) λ_ _ e=>e.elim)) λ_ _ e=>e.elim))
end
noncomputable def vb(k:Nat)(q:TI)(g:TG)(t:TT)(r:TE)(J:St)(H:Hp)(Q:VK):Prop:=q J H λh p=>∀D,p D=none->∃W:Nat->Nat->St->Hp->Prop,
 (∃m,W 0 m (List.replicate k none++J) (upd p D (.lst [])))/\∀i m j d,W i m j d->(h.stop i d/\Q (.ref D) d)\/(h.go i d/\∀x o,h.Pt i d x o->g x j o λe u=>t e u λb n =>
  if b=true then r e n λy l=>∃f,l D=some (.lst f)/\f.length<sizeLine/\∃a,a<m/\W (i+1) a e (upd l D (.lst (f++[y]))) else ∃a,a<m/\W (i+1) a e n)
theorem pj{E tg f:Expr}{l:List Expr}{sc:Scope}{pos Z:Pos}{N:List Str}{k:Nat}{wi:TI}{g:TG}{tc:TT}{te:TE}{use:Option (Value->Sem Unit)}{QQ:Z3}{Q:VK}(Hv:X.calm=true)(hi:PI X tg f wi)(JJ:o9 X.env sc=true)(Kk:lX sc (N.drop k) X.N=true)(Kn:k<=N.length)(Jp:∀cl C s H fp,PG (cF X N sc cl C s H fp) tg g/\yX (cF X N sc cl C s H fp) l tc/\PE (cF X N sc cl C s H fp) E te)(hs:∀x,foldedSetIterable f X.env x=pure x)(I:Inv X pins J H s)(h:vb k wi g tc te J H Q)(hq:∀O j D C m,Inv X pins J j O->Q (.ref D) j->O.heap.Ns C m->o6 X pins j C->compPost (model X.prog X.w) X.A X.xe use QQ (.ref D) C (.ok .next) O) :
  wpAny (model X.prog X.w) X.A (comprehension (.ListComp E [⟨tg,f,l,0⟩] sc pos) sc X.env Z (newList []) false (eval f X.env) use) QQ X.xe s:=by
 have Nv:=JJ;unfold o9 at Nv;rw[ZS,Yk]at Nv;obtain⟨hk,Jj⟩:=Nv;have Jo:sc.kind=.function:=by simpa using hk
 have Jr:∀y∈sc.names,y.2 ≠ .cell:=λy B e=>by have:=Jj y B;rw[e]at this;cases this
 have NC:∀y∈sc.names,y.2=.local->sc.names.lookup y.1=some .local:=λy B e=>by
  have:=Jj y B;rw[e]at this;simpa using this
 obtain⟨cl,hcl,LU,P8⟩:=Aw (sc:=sc) (env:=X.env) λy B e=>I.ok.has y.1 (by
  have:=Jj y B;rw[e]at this;simpa using this)
 refine wpAny_comprehension_free (use:=use) rfl hs hcl Jo NC (thn (hi pins s J H _ I h) λv s1 h1=>thn h1 λRv a h2=>?_);obtain⟨it,fp,tn,Jq,H2,e,I2,T,HH,f2,hW⟩:=h2;subst e;refine WW (wpAny_newFunctionEnv Jr (by intro y B;simp at B) (λh₁ Kj JB=>?_) Jo);dsimp only at Kj JB ⊢;generalize hP:a.heap.push { cls:=.type "list",dict:=none,data:=.seq ([]:Wu).toArray }=P at Kj JB ⊢;have Sf:P.objs.size=a.heap.objs.size+1:=by rw[← hP,W5]
 have old:∀b o,a.heap.get? b=some o->h₁.get? b=some o:=λb o e =>
  JB.extBut b o (by rw[Sf];exact Zb (XQ (ZU e))) (Zf _ (hP ▸ Zf _ e))
 have P9:a.heap.objs.size≠P.objs.size:=by rw[Sf];exact Zb (YI _)
 have Sd:h₁.get? a.heap.objs.size=some { cls:=.type "list",data:=.seq ([]:Wu).toArray 0 }:=JB.extBut _ _ P9 (Zf _ (hP ▸ ZL _ rfl));have NI:a.heap.objs.size<=P.objs.size:=by rw[Sf];exact XS _
 have MK:∀b∈fp,b<a.heap.objs.size:=λb hb=>let ⟨o,ho,_⟩:=T.obj 0 _ HH b hb;ZU ho
 have P6:P.objs.size∉fp:=λhb=>absurd (ZF (MK _ hb) NI) (YO _);have IY:=I2.block (N:=N) (sc:=sc) (cl:=cl) (C:=P.objs.size) (D:=a.heap.objs.size) (fp:=fp) (k:=k) (t:=a.toks+([]:List (Str×Value)).length) JJ Kk Kn LU P8 f2 (Zo _) NI P9 P6 old Kj Sd;obtain⟨hG,hT,hE⟩:=Jp cl P.objs.size a H2 fp;generalize hY:cF X N sc cl P.objs.size a H2 fp=Y at IY hG hT hE;have hYm:Y.prog=X.prog/\Y.w=X.w/\Y.K=X.K/\Y.A=X.A/\Y.env=compEnvC sc cl P.objs.size X.env/\Y.calm=X.calm/\(Y.xe=λ_ _=>False):=by rw[← hY];exact⟨rfl,rfl,rfl,rfl,rfl,rfl,rfl⟩
 obtain⟨L,G,y3,F,y5,y6,y7⟩:=hYm;have Kf:∀{j:Hp},(∀b∈fp,j b=none)->∀b∈fp,o6 Y [] j b:=λ{j} hn b hb=>by
  rw[← hY];refine⟨hn b hb,λ(e:b=P.objs.size)=>P6 (e ▸ hb),λIu=>?_,.inl hb,λx c e=>(f2 b hb).2.2.2.2.1 x c (LU x c e),λp hp=>(nomatch hp)⟩;rcases Zj.mp (I2.Jy b Iu) with z | z
  ·exact(f2 b hb).2.1 z
  ·exact(f2 b hb).2.2.1 z
 obtain⟨W,⟨m0,w0⟩,turn⟩:=hW a.heap.objs.size (I2.xh.fresh (Zo _));have RX:∀b∈fp,upd H2 a.heap.objs.size (.lst []) b=none:=λb hb=>by rw[aE (Zb (MK b hb))];exact(f2 b hb).1
 have Jz:tn 0 h₁:=T.keep _ _ _ HH λb _ o e=>old b o e;have loop:codeAny (model X.prog X.w) X.A (.compLoop (.ListComp E [⟨tg,f,l,0⟩] sc pos) 0 (.ref it) (.ref a.heap.objs.size) (compEnvC sc cl P.objs.size X.env)) (compPost (model X.prog X.w) X.A X.xe use QQ (.ref a.heap.objs.size) P.objs.size)
   { a with heap:=h₁,toks:=a.toks+([]:List (Str×Value)).length }:=by
  refine qX (λn O=>∃i J' j,Inv Y [] J' j O/\tn i O.heap/\(∀b∈fp,j b=none)/\W i n J' j) ?_ m0 ⟨0,_,_,IY,Jz,RX,w0⟩;rintro n s3 ⟨i,J3,H3,I3,Jz,O5,w3⟩;rcases turn i n J3 H3 w3 with⟨stop,qn⟩ | ⟨go,step⟩
  ·have q:=T.done Y L G y3 (y6.trans Hv) i [] s3 J3 H3 (λ_ _=>False) I3 (Kf O5) Jz stop;rw[F]at q;refine thn q λr s4 ⟨hr,S⟩=>?_;subst hr;have IX:Inv X pins J H3 s4:=by
    have b4:=S.base;have o4:=S.os;have k4:=S.xh;rw[← hY]at b4 o4 k4;refine I2.Pe (ch:=fp) o4 b4 k4 S.bare λb hb=>?_;exact⟨(f2 b hb).2.2.2.1,(f2 b hb).2.1,(f2 b hb).2.2.2.2.1,(f2 b hb).2.2.2.2.2⟩
   obtain⟨mC,T8,_⟩:=S.loc;have f4:=S.free;rw[y5]at T8 f4;exact hq s4 H3 _ P.objs.size mC IX qn T8 (I2.LH NI f4)
  ·have q:=T.item Y L G y3 (y6.trans Hv) i [] s3 J3 H3 (λ_ _=>False) I3 (Kf O5) Jz go;rw[F]at q;refine thn q λr s4 ⟨u,hr,h4⟩=>?_;subst hr;refine thn h4 λ_ s5 ⟨x,H5,I5,r5,Vf,Na,Sj⟩=>?_;have Th:=I5.pinned (Kf Sj) (T.obj _ _ Na);have again:∀{J7:St}{U:Hp}{M:Shared}{m:Nat},Inv Y ([]++og fp s5.heap) J7 U M->W (i+1) m J7 U->∃i J' j,Inv Y [] J' j M/\tn i M.heap/\(∀b∈fp,j b=none)/\W i m J' j:=λ{J7 U M m} R w7=>by
    refine⟨i+1,J7,U,R.Ih,T.keep _ _ _ Na λb hb o e=>(R.pin (b,o) (ZP _ (ZP _ (iY hb e)))).1,λb hb=>?_,w7⟩;obtain⟨o,e,d⟩:=T.obj _ _ Na b hb;exact(R.pin (b,o) (ZP _ (ZP _ (iY hb e)))).2.1
   have qa:=hG _ s5 J3 H5 x u _ Th r5 (step x H5 Vf);rw[L,G,F,y5,y7]at qa;refine thn qa λ_ s6 ⟨J6,H6,I6,q6⟩=>?_;have qt:=hT _ s6 J6 H6 _ I6 q6;rw[L,G,F,y5,y7]at qt;refine thn qt λb M ⟨U,R,q7⟩=>?_;cases b with
   |false =>
    rw[Zp Zg]at q7 ⊢;obtain⟨m',hm,w7⟩:=q7;exact⟨m',hm,again R w7⟩
   |true =>
    rw[Zs rfl]at q7 ⊢;have qe:=hE _ M J6 U _ R q7;rw[L,G,F,y5,y7]at qe;refine thn qe λyv s8 ⟨y,H8,I8,r8,ys,hD8,hl8,m',hm,w8⟩=>?_;have qp:=iE (X:=Y) _ s8 J6 H8 (.ref a.heap.objs.size) [y] (.ref a.heap.objs.size) [yv] (λ_ H9=>W (i+1) m' J6 H9) I8 rfl (.cons r8 .nil) ⟨_,ys,y,rfl,rfl,hD8,hl8,w8⟩;rw[L,G,F,y7]at qp;refine thn qp λ_ s9 ⟨_,H9,I9,_,w9⟩=>?_;exact⟨m',hm,again I9 w9⟩
 exact codeAny_compStart_list loop (T.self _ 0 _ _ _ Jz loop)
theorem qx{j l a:Expr}{i:List Expr}{d:Scope}{n:Pos}{N:List Str}{k:Nat}{p:TI}{g:TG}{t:TT}{r:TE}(L:X.calm=true)(y:PI X l a p)(F:o9 X.env d=true)(A:lX d (N.drop k) X.N=true)(z:k<=N.length)(B:∀cl C s H fp,PG (cF X N d cl C s H fp) l g/\yX (cF X N d cl C s H fp) i t/\PE (cF X N d cl C s H fp) j r)(v:∀x,foldedSetIterable a X.env x=pure x:=by intro _;rfl):PE X (.ListComp j [⟨l,a,i,0⟩] d n) (vb k p g t r):=by
 intro pins s J H Q I h;rw[eval_ListComp];refine pj (use:=none) L y F A z B v I h λu M D C m G q w f=>⟨m,w,λO E=>?_⟩
 exact⟨.ref D,M,G.turned (it:=C) (t':=u.toks) (λb o hb e=>E.extBut b o hb e) f.1 f.2.1 f.2.2.2.1 f.2.2.2.2.1 f.2.2.2.2.2,rfl,q⟩
theorem uo{p t d:Expr}{n:List Expr}{l:Scope}{r j G:Pos}{N:List Str}{k i:Nat}{x:Str}{B:TI}{g:TG}{F:TT}{E:TE}(Z:X.N.Nodup)(RU:X.N[i]?=some x)(O:Loc X.env.scope x)(Hv:X.calm=true)(S:PI X t d B)(JJ:o9 X.env l=true)(Kk:lX l (N.drop k) X.N=true)(Kn:k<=N.length)(Jp:∀cl C s H fp,PG (cF X N l cl C s H fp) t g/\yX (cF X N l cl C s H fp) n F/\PE (cF X N l cl C s H fp) p E)(JY:swapsWith (.ListComp p [⟨t,d,n,0⟩] l r) (some (.Name x j)) G.line X.env=pure true)(U:X.fn x=true\/X.env.scope.names.lookup x=some .local)(P:∀x,foldedSetIterable d X.env x=pure x:=by intro _;rfl) :
  PS X (.Assign [.Name x j] (.ListComp p [⟨t,d,n,0⟩] l r) G) (λD J H=>vb k B g F E J H λv H1=>D.nx (J.set i (some v)) H1):=by
 intro pins s J H D I h;rw[exec_Assign_Name_used _ _ _ _ JY];refine Zn (wpAny_standAt (Zn ?_));show wpAny _ X.A (do let _ ← comprehension (.ListComp p [⟨t,d,n,0⟩] l r) l X.env _ (newList []) false (eval d X.env) (some (assign (.Name x j) X.env))) _ _ s;refine Zn (YA (pj (use:=some (assign (.Name x j) X.env)) (QQ:=λ_ u=>SP X pins D .next u) Hv S JJ Kk Kn Jp P I h λu H' L C m I' q R f=>?_) (λ_ u Q=>ZW (ZW Q)) λ_ _ e=>e);show wpAny _ X.A (assign (.Name x j) X.env (.ref L)) _ _ _;refine wpAny_assign_Name (pE I' Z RU O (v:=.ref L) rfl (λM I2 ⟨a,w,Y⟩=>?_) U);have y:C≠a:=λe=>by
  rcases Y with z | z
  ·exact f.2.1 (e.trans z)
  ·exact f.2.2.2.2.1 x a z e.symm
 refine⟨m,R.sameBut w y,λh' Jn=>⟨_,H',?_,q⟩⟩;exact I2.turned (it:=C) (t':=M.toks) (λb o hb e=>Jn.extBut b o hb e) f.1 f.2.1 f.2.2.2.1 f.2.2.2.2.1 f.2.2.2.2.2
end
end L2
end
section
namespace VS
open PySem PySem.Spec PyProof.Rows L2
noncomputable def pb(k:Nat)(g:Tg):Prop:=∀t U a,g t U=some a->a.length=U.length/\∀i,k<=i->a[i]?=U[i]?
theorem fF{k i:Nat}(h:i<k:=by decide):pb k (bg i):=λt U b e=>by
 unfold bg at e;split at e
 ·cases e;exact⟨by simp,λj a=>by rw[Y4 (by lia)]⟩
 ·cases e
theorem vf{k:Nat}:∀{d:List Tg},(∀g∈d,pb k g)->∀b U a,oj d b U=some a->a.length=U.length/\∀i,k<=i->a[i]?=U[i]?
 |[],_,[],U,a,e=>by cases (show some U=some a from e);exact⟨rfl,λ_ _=>rfl⟩
 |[],_,_ :: _,U,a,e=>by simp[oj]at e
 |_ :: _,_,[],U,a,e=>by simp[oj]at e
 |g :: d,h,t :: b,U,a,e=>by
  obtain⟨j,e1,e2⟩:=Zz.mp (show (g t U).bind (λa=>oj d b a)=some a from e);obtain⟨p,o⟩:=h g Zw t U j e1;obtain⟨n,m⟩:=vf (λl hg=>h l (Zv _ hg)) b j a e2;exact⟨n.trans p,λi f=>(m i f).trans (o i f)⟩
theorem xE{k:Nat}{b a:Tg}(f:pb k b)(d:pb k a):pb k (j8 [b,a]):=λt U h e=>by
 unfold j8 at e;split at e
 ·refine vf (λg hg=>?_) _ U h e;rcases Zj.mp hg with rfl | hg
  ·exact f
  ·rw[Za.mp hg];exact d
 ·cases e
theorem uK:∀(l:Vp){i:Nat}{t:T},fK l=true->l[i]?=some t->G5 t=true
 |[],_,_,_,h=>by simp at h
 |x :: l,0,t,h,e=>by
  simp only[fK,ZS]at h;simp at e;rw[← e];exact h.1
 |x :: l,i+1,t,h,e=>by
  simp only[fK,ZS]at h;exact uK l h.2 (by simpa using e)
noncomputable def tC(G:Gx):Option Ex->TT
 |none=>λJ H Q=>Q true H
 |some c=>tT G c
section
variable{G:Gx}{R:G6}{U:VS.Env}{J:L2.St}{H:Hp}{k:Nat}
theorem kX{i:Nat}{c:Cell}:(List.replicate k none++U)[i]?=some (some c)↔k<=i/\U[i-k]?=some (some c):=by
 rcases Wb i k with h | h
 ·rw[Ys (by simpa using h),YD];constructor
  ·intro e;split at e<;>cases e
  ·intro ⟨e,_⟩;lia
 ·rw[Yq (by simpa using h),Xp];exact⟨λe=>⟨h,e⟩,λe=>e.2⟩
theorem zi{a:Addr}:cy (λi=>R (i-k)) (List.replicate k none++U) a↔cy R U a:=by
 constructor
 ·rintro⟨j,t,d,b⟩;exact⟨j-k,t,(kX.mp d).2,b⟩
 ·rintro⟨j,t,d,b⟩;refine⟨j+k,t,kX.mpr ⟨Xr _ _,by rw[Xv];exact d⟩,?_⟩;show a∈R (j+k-k);rw[Xv];exact b
theorem xf{a:Addr}:eE (λi=>R (i-k)) (List.replicate k none++U) a↔eE R U a:=by
 constructor
 ·rintro⟨j,t,d,b⟩;exact⟨j-k,t,(kX.mp d).2,b⟩
 ·rintro⟨j,t,d,b⟩;refine⟨j+k,t,kX.mpr ⟨Xr _ _,by rw[Xv];exact d⟩,?_⟩;show a∈R (j+k-k);rw[Xv];exact b
theorem SR.sh(s:SR G R U J H):SR G (λi=>R (i-k)) (List.replicate k none++U) (List.replicate k none++J) H:=by
 refine⟨by simp[s.len],λi c h=>?_,λi t h=>?_,λi j t c b a n=>?_⟩
 ·obtain⟨b,a⟩:=kX.mp h;obtain⟨v,e,d⟩:=s.rp _ c a;refine⟨v,?_,d⟩;rw[Yq (by simpa using b),Xp];exact e
 ·exact s.nd _ t (kX.mp h).2
 ·obtain⟨m,g⟩:=kX.mp b;obtain⟨l,f⟩:=kX.mp a;exact s.sep _ _ t c g f (by lia)
theorem SR.less{a:VS.Env}(s:SR G R a J H)(b:U.length=a.length)(h:∀(i:Nat) c,U[i]?=some (some c)->a[i]?=some (some c)):SR G R U J H :=
 ⟨b.trans s.len,λi c e=>s.rp i c (h i c e),λi t e=>s.nd i t (h i _ e),λi j t c e1 e2 n=>s.sep i j t c (h i _ e1) (h j _ e2) n⟩
theorem SR.off{D:Addr}{o:HO}(s:SR G R U J H)(m:G4 (H D)\/H D=none)(d:¬eE R U D)(a:¬cy R U D):SR G R U J (upd H D o):=by
 refine⟨s.len,λi c e=>?_,s.nd,s.sep⟩;obtain⟨v,h,g⟩:=s.rp i c e;refine⟨v,h,g.keep (Kept.upd m) λb hb j f=>?_⟩;rw[aE λz=>?_]
 ·exact f
 ·subst z;cases c with
  |pu t=>exact d ⟨i,t,e,hb⟩
  |ow t=>exact a ⟨i,t,e,hb⟩
theorem ox:∀(l:Vr)(v:Val),cA (l++[v])=(cA l).join v.1
 |[],(m,t)=>by cases m<;>rfl
 | (m,t) :: l,v=>by
  show m.join (cA (l++[v]))=(m.join (cA l)).join v.1;rw[ox l v];generalize cA l=q;generalize v.1=r;cases m<;>cases q<;>cases r<;>rfl
theorem Fp.OS{m n:Md}{F j:Wy}(f:Fp R U H m F)(g:Fp R U H n j)(d:n=.fr->∀a∈F,a∉j):Fp R U H (m.join n) (F++j):=by
 have both:∀{P:Addr->Prop},(∀a∈F,P a)->(∀a∈j,P a)->∀a∈F++j,P a:=λp q a h=>(Ze.mp h).elim (p a) (q a);cases m<;>cases n
 ·exact⟨ZK.mpr ⟨f.1,g.1,λa i b hb e=>d rfl a i (e ▸ hb)⟩,both f.2 g.2⟩
 ·exact both (λa i=>.inl (f.2 a i)) g
 ·exact both (λa i=>.inl (f.2 a i)) g
 ·exact both f λa i=>.inl (g.2 a i)
 ·exact both f g
 ·exact both (λa i=>(f a i).imp id .inl) g
 ·exact both f λa i=>.inl (g.2 a i)
 ·exact both f λa i=>(g a i).imp id .inl
 ·exact both f g
theorem Fp.Pc{m:Md}{F:Wy}{D:Addr}(f:Fp R U H m F)(h:H D=none)(d:D∉F):Fp R U H m (D :: F):=by
 have all:∀{P:Addr->Prop},P D->(∀a∈F,P a)->∀a∈D :: F,P a:=λp q a b=>(Zj.mp b).elim (λe=>e ▸ p) (q a);cases m
 ·exact⟨ZY.mpr ⟨d,f.1⟩,all h f.2⟩
 ·exact all (.inl h) f
 ·exact all (.inl h) f
end
section
variable{G:Gx}{k:Nat}{tg:Tg}{ci:JL}{cond:Option Ex}{ce:Ex}
noncomputable def CI(G:Gx)(R:G6)(U b:VS.Env)(H p:Hp)(D:Addr)(l:Vp)(h:Vr)(q:Tg)(d:Option Ex)(r:Ex)(i n:Nat)(s:L2.St)(f:Hp):Prop:=n=l.length-i/\∃e g j m rest,SR G e b s f/\(∀a,cy e b a->cy R U a)/\(∀a,eE e b a->H a=none\/eE R U a)/\¬eE e b D/\¬cy e b D/\Kept p f ∧
     (∀a o,a≠D->p a=some o->f a=some o)/\f D=some (.lst m)/\RpL G f m (trees g) j/\D∉j.flatten/\Fp R U H (cA g) j.flatten/\jX q d r b (l.drop i)=some rest/\g++rest=h
theorem nk{J:L2.St}{H:Hp}{Q:VK}(Jp:pb k tg)(h:tE G (du k tg ci cond ce) J H Q):vb k (tI G ci) (tG G tg) (tC G cond) (tE G ce) J H Q:=by
 refine L2.iB λP_ N=>?_;obtain⟨R,U,m,r,s,e,kq⟩:=h;unfold du at e;obtain⟨⟨mi,l⟩,el,e1⟩:=Zz.mp e;dsimp only at e1;split at e1
 ·rename_i xh;obtain⟨all,ea,e2⟩:=Zz.mp e1;unfold JA at e2;split at e2
  ·rename_i hlen;cases e2;refine N ?_;refine⟨R,U,mi,l,s,el,λJq H1 C e3 ok fc D hD=>?_⟩;have S:H D=none:=e3.free hD;let P:VS.Env:=List.replicate k none++U
   have good:∀{t:T}{i:Nat}{L X:Hp}{v:V}{F:Wy},l[i]?=some t->Rp G X v t F->(∀a,H1 a≠none->L a≠none)->(∀a∈F,a∈C\/L a=none)->∀a∈F,(H a=none\/eE R U a)/\¬cy R U a:=λ{t i L X v F} hi rF keep hF a d=>by
    have Hk:∀{b},H b≠none->L b≠none:=λ{b} hb=>keep b λz=>hb (e3.free z);rcases hF a d with z | z
    ·rcases fc a z with q | q | ⟨q,w⟩
     ·exact⟨.inl q,λw=>G4.p0 (s.Iw w) q⟩
     ·exact⟨.inr q,λw=>s.Lv w q⟩
     ·subst q;have:G5 t=true:=by
       exact uK l xh hi
      rw[rF.G5 this]at d;simp at d
    ·have hz:H a=none:=Classical.byContradiction λq=>Hk q z;exact⟨.inl hz,λw=>G4.p0 (s.Iw w) hz⟩
   refine⟨CI G R U P H H1 D l all tg cond ce,?_,?_⟩
   ·refine⟨l.length-0,rfl,λi=>R (i-k),[],[],[],all,?_,λa h=>zi.mp h,λa h=>.inr (xf.mp h),λh=>?_,λh=>?_,Kept.upd (.inr hD),λa o n h=>by rw[aE n];exact h,aC,.nil,by simp,Fp.nil,by rw[XJ];exact ea,rfl⟩
    ·exact((s.same e3).sh).off (.inr hD) (λh=>G4.p0 (s.Lu (xf.mp h)) S) λh=>G4.p0 (s.Iw (zi.mp h)) S
    ·exact G4.p0 (s.Lu (xf.mp h)) S
    ·exact G4.p0 (s.Iw (zi.mp h)) S
   ·intro i n J' L hh_;refine L2.iB λP_ N=>?_;obtain⟨rfl,R1,M,Fs,Y,rest,s1,Tz,VW,V5,V7,kp,old,N9,rp,nD,fp,er,ev⟩:=hh_;refine N ?_;have KA:∀a,H1 a≠none->L a≠none:=λa d z=>by
     by_cases q:a=D
     ·subst q;rw[N9]at z;cases z
     ·cases e:H1 a with
      |none=>exact d e
      |some o=>rw[old a o q e]at z;cases z
    refine L2.iB λP_ N=>?_;obtain⟨go,stop⟩:=ok.run L kp λa d o ho=>old a o (λz=>ok.Hk a d (z ▸ hD)) ho;cases hit:l[i]? with
    |none =>
     have hl:l.length<=i:=Yi.mp hit;refine N ?_;left;refine⟨stop i hl,?_⟩;rw[Xu hl]at er;cases (show some ([]:Vr)=some rest from er);rw[ZQ]at ev;subst ev;refine kq (.ref D) L (D :: Fs.flatten) (λa o h=>old a o (λz=>by rw[z,S]at h;cases h) (e3 a o h)) (.lst N9 rp) ?_;by_cases hi:fK (trees M)=true
     ·rw[Zs hi,rp.G5 hi];exact⟨by simp,λa d=>by rw[Za.mp d];exact S⟩
     ·rw[Zp hi];exact fp.Pc S nD
    |some t =>
     have hl:i<l.length:=(ZX.mp hit).1;obtain⟨g1,y1⟩:=go i t hit;refine N ?_;right;refine⟨g1,λx X yl=>?_⟩;refine L2.iB λP_ N=>?_;obtain⟨B,F,rF,hF⟩:=y1 x X yl;rw[pD (tgt:=tg) (body:=eQ) (U:=U) hit]at er;rw[jX]at er;obtain⟨p,e4,e5⟩:=Zz.mp er;obtain⟨b,eb,e6⟩:=Zz.mp e5;have gd:=good hit rF KA hF;have s2:=s1.same B;have DF:D∉F:=λh=>by
      rcases hF D h with z | z
      ·exact ok.Hk D z hD
      ·rw[N9]at z;cases z
     refine N ?_;refine⟨R1,P,t,F,p,s2,rF,λa d z=>(gd a d).2 (Tz a z),e4,λg J3 s3 o3 p3=>?_⟩;obtain⟨tl,Ow⟩:=Jp t P p e4;have low:∀j c,P[j]?=some (some c)->p[j]?=some (some c):=λj c h=>by rw[Ow j (kX.mp h).1];exact h
     have PJ:∀a,eE g p a->H a=none\/eE R U a:=λa h=>(p3 a h).elim (VW a) λh=>(gd a h).1;have QP:∀a,cy g p a->cy R U a:=λa h=>Tz a (o3 a h);have OI:¬eE g p D:=λh=>(p3 D h).elim V5 DF;have PN:¬cy g p D:=λh=>V7 (o3 D h);have PH:∀a,eE g P a->eE g p a:=λa ⟨j,u,h1,h2⟩=>⟨j,u,low j _ h1,h2⟩
     have PK:∀a,cy g P a->cy g p a:=λa ⟨j,u,h1,h2⟩=>⟨j,u,low j _ h1,h2⟩
     have MD:∀A,aO X A->(if b=true then tE G ce J3 A λy E=>∃ys,E D=some (.lst ys)/\ys.length<sizeLine/\∃m',m'<l.length-i/\CI G R U P H H1 D l all tg cond ce (i+1) m' J3 (upd E D (.lst (ys++[y]))) else ∃m',m'<l.length-i/\CI G R U P H H1 D l all tg cond ce (i+1) m' J3 A):=λA f=>by
      have eo:∀{E},aO A E->∀a o,L a=some o->E a=some o:=λ{E} Oe a o h=>Oe a o (f a o (B a o h));cases b with
      |false =>
       rw[Zp Zg]at e6 ⊢;have same:=eo (aO.refl A);exact⟨_,by lia,rfl,g,M,Fs,Y,rest,(s3.same f).less (by rw[tl]) low,λa h=>QP a (PK a h),λa h=>PJ a (PH a h),λh=>OI (PH D h),λh=>PN (PK D h),kp.trans ((Kept.of B).trans (Kept.of f)),λa o n h=>same a o (old a o n h),same D _ N9,rp.same (aO.trans B f),nD,fp,e6,ev⟩
      |true =>
       rw[Zs rfl]at e6 ⊢;obtain⟨⟨Z,tv⟩,ece,e7⟩:=Zz.mp e6;obtain⟨OE,er1,IH⟩:=Zu.mp e7;refine⟨g,p,Z,tv,s3.same f,ece,λy E Fy Oe ry O=>?_⟩;have same:=eo Oe;have Us:=same D _ N9;have PR:G4 (E D):=by rw[Us];exact True.intro
       have Se:A D=some (.lst Y):=f D _ (B D _ N9);have Lw:∀a,A a=none->H a=none:=λa h=>Classical.byContradiction λq=>KA a (λz=>q (e3.free z)) (B.free (f.free h));have fyo:Fp R U H Z Fy:=by
        cases Z with
        |fr=>exact⟨O.1,λa d=>Lw a (O.2 a d)⟩
        |pu=>exact λa d=>(O a d).elim (λz=>.inl (Lw a z)) (PJ a)
        |bo=>exact λa d=>(O a d).elim (λz=>.inl (Lw a z)) λz=>z.elim (λz=>(PJ a z).imp id .inl) λz=>.inr (.inr (QP a z))
       have Vc:D∉Fy:=λh=>by
        cases Z with
        |fr=>have:=O.2 D h;rw[Se]at this;cases this
        |pu=>exact(O D h).elim (λz=>by rw[Se]at z;cases z) OI
        |bo=>exact(O D h).elim (λz=>by rw[Se]at z;cases z) λz=>z.elim OI PN
       have VP:RpL G E Y (trees M) Fs:=rp.same ((B.trans f).trans Oe);have XN:Y.length=M.length:=by rw[rp.len.1];simp
       have XZ:M.length<all.length:=by rw[← ev,← IH];simp
       refine⟨Y,Us,?_,_,by lia,rfl,g,M++[(Z,tv)],Fs++[Fy],Y++[y],OE,(((s3.same f).same Oe).off (.inl PR) OI PN).less (by rw[tl]) low,λa h=>QP a (PK a h),λa h=>PJ a (PH a h),λh=>OI (PH D h),λh=>PN (PK D h),?_,λa o n h=>?_,aC,?_,?_,?_,er1,?_⟩
       ·have T9:all.length<=fL:=by simpa using hlen
        have:sizeLine=fL:=rfl;lia
       ·exact(kp.trans ((Kept.of B).trans ((Kept.of f).trans (Kept.of Oe)))).trans (Kept.upd (.inl PR))
       ·rw[aE n];exact same a o (old a o n h)
       ·have:trees (M++[(Z,tv)])=trees M++[tv]:=by simp
        rw[this];exact(VP.off PR nD).append (.cons (ry.keep (Kept.upd (.inl PR)) λb hb o ho=>by rw[aE (λz=>Vc (by rw[← z];exact hb))];exact ho) .nil)
       ·rw[Z4];intro h;rcases Ze.mp h with z | z
        ·exact nD z
        ·exact Vc (by simpa using z)
       ·rw[Z4,ox];have:([Fy]:Yp).flatten=Fy:=by simp
        rw[this];refine fp.OS fyo λhm a d hb=>?_;subst hm;have h4:=O.2 a hb;have:G4 (A a):=(rp.same (B.trans f)).Hk a d;rw[h4]at this;exact this
       ·rw[Zd,← ev,← IH];rfl
     cases cond with
     |none =>
      cases (show some true=some b from eb);exact MD X (aO.refl X)
     |some c =>
      obtain⟨⟨mc,xc⟩,ec1,NM⟩:=Zz.mp eb;exact⟨g,p,mc,xc,b,s3,ec1,NM,λA f=>MD A f⟩
  ·cases e2
 ·cases e1
end
section
variable{G:Gx}{X:Cx}{elt tg iter c:Expr}{sc:Scope}{pos pos' Lq:Pos}{N:List Str}{k i:Nat}{x:Str}{ci:JL}{g:Tg}{cc ce:Ex}
theorem kQ(k:Nat)(N:List Str)(m:X.calm=true)(b:PVI G X tg iter ci)(j:pb k g)(d:∀cl C s H fp,M4 G (cF X N sc cl C s H fp) tg g)(he:∀cl C s H fp,PV G (cF X N sc cl C s H fp) elt ce)(l:o9 X.env sc=true:=by rfl)(f:lX sc (N.drop k) X.N=true:=by rfl)(e:k<=N.length:=by decide)(a:∀x,foldedSetIterable iter X.env x=pure x:=by intro _;rfl) :
  PV G X (.ListComp elt [⟨tg,iter,[],0⟩] sc pos) (du k g ci none ce) :=
 PE.weak (qx m b l f e (λcl C s H fp=>⟨d cl C s H fp,nM,he cl C s H fp⟩) a) λJ H Q h=>nk (cond:=none) j h
theorem wu(k:Nat)(N:List Str)(n:X.calm=true)(b:PVI G X tg iter ci)(l:pb k g)(d:∀cl C s H fp,M4 G (cF X N sc cl C s H fp) tg g)(e:∀cl C s H fp,Js G (cF X N sc cl C s H fp) c cc)(he:∀cl C s H fp,PV G (cF X N sc cl C s H fp) elt ce)(m:o9 X.env sc=true:=by rfl)(j:lX sc (N.drop k) X.N=true:=by rfl)(f:k<=N.length:=by decide)(a:∀x,foldedSetIterable iter X.env x=pure x:=by intro _;rfl) :
  PV G X (.ListComp elt [⟨tg,iter,[c],0⟩] sc pos) (du k g ci (some cc) ce) :=
 PE.weak (qx n b m j f (λcl C s H fp=>⟨d cl C s H fp,zE (e cl C s H fp),he cl C s H fp⟩) a) λJ H Q h=>nk (cond:=some cc) l h
theorem vI{D:Ends}{J:L2.St}{H:Hp}{a:Ex}(h:tS G (aH i a) D J H):tE G a J H λv u=>D.nx (J.set i (some v)) u:=by
 refine L2.iB λy j=>?_;obtain⟨R,U,o,s,e,k⟩:=h;unfold aH at e;obtain⟨⟨m,t⟩,q,e1⟩:=Zz.mp e;refine j ?_;split at e1
 ·cases e1
 ·rename_i l;split at e1
  ·rename_i n;cases e1;refine⟨R,U,m,t,s,q,λv w F r b p=>?_⟩;obtain⟨f,d⟩:=s.val (c:=.pu t) n r b p (.inl ⟨rfl,l⟩);exact k _ _ w f d
  ·cases e1
theorem sj(k:Nat)(N:List Str){a:Sx}(l:∀D J H,tS G a D J H->tE G (du k g ci none ce) J H λv w=>D.nx (J.set i (some v)) w)(u:X.calm=true)(e:PVI G X tg iter ci)(q:pb k g)(f:∀cl C s H fp,M4 G (cF X N sc cl C s H fp) tg g)(he:∀cl C s H fp,PV G (cF X N sc cl C s H fp) elt ce)(m:X.N.Nodup)(n:X.N[i]?=some x:=by rfl)(b:Loc X.env.scope x:=by first | exact Or.inl rfl | exact Or.inr rfl)(t:o9 X.env sc=true:=by rfl)(p:lX sc (N.drop k) X.N=true:=by rfl)(o:k<=N.length:=by decide)(r:swapsWith (.ListComp elt [⟨tg,iter,[],0⟩] sc pos) (some (.Name x pos')) Lq.line X.env=pure true:=by rfl)(j:X.fn x=true\/X.env.scope.names.lookup x=some .local:=by first | exact .inl rfl | exact .inr rfl)(d:∀x,foldedSetIterable iter X.env x=pure x:=by intro _;rfl) :
  PSV G X (.Assign [.Name x pos'] (.ListComp elt [⟨tg,iter,[],0⟩] sc pos) Lq) a :=
 PS.weak (uo m n b u e t p o (λcl C s H fp=>⟨f cl C s H fp,nM,he cl C s H fp⟩) r j d) λD J H h=>nk (cond:=none) q (l D J H h)
end
end VS
end
section
namespace L2
open PySem PySem.Spec PyProof.Rows
noncomputable def Tf(K:Xf)(a:Addr):It :=
 ⟨λi H=>∃b x,Hc K H a b/\b[i]?=some x,λi H v d=>∃p x,H p=none/\v=.ref p/\d=upd H p (.tup [.int i,x])/\∀b,Hc K H a b->b[i]?=some x,λi H=>∃b,Hc K H a b/\b.length<=i⟩
theorem wq{P:Program}{w:World}{K:Xf}{B:List Expr}{n:Nat}{G:Pos}(a e f:Addr)(Jc:e≠f):Turn P w K (.Tuple B n G) (Tf K a) [e,f] e (λi h=>(∃old,IsEnum h e f i old)/\h.IsListIter f a i) where
 mem:=by simp
 obj:=λi h st b hb=>by
  obtain⟨⟨old,he⟩,o,M,c,d⟩:=st;rcases Zj.mp hb with rfl | hb
  ·exact⟨_,he,λv z=>by cases (show Data.fields _=Data.cell v from z)⟩
  ·rw[Za.mp hb];exact⟨o,M,λv z=>by rw[d]at z;cases z⟩
 keep:=λi h h' st k=>⟨let ⟨old,he⟩:=st.1;⟨old,k e (by simp) _ he⟩,st.2.at λo x=>k f (by simp) o x⟩
 item:=by
  intro X O hw Q hc i g s J H E I l st hg;subst O hw Q;obtain⟨xs,x,D,L⟩:=hg;obtain⟨oe,F,p,hz⟩:=I.list D;obtain⟨u,hu,ru⟩:=F.get L;obtain⟨⟨old,he⟩,hit⟩:=st;refine wpAny_pyNext_enum_item he hit p.isList (x:=u) (by simpa using hu) Jc λh1 M RR hT hsz hk=>⟨_,rfl,?_⟩
  refine wpAny_letOwnedTupleGo_enum M λA N C=>?_;have C:Heap.SameBut e h1 A:=C;have TN:e<s.heap.objs.size:=ZU he;have ltI:f<s.heap.objs.size:=let ⟨_,z,_⟩:=hit;ZU z
  have Ur:H s.heap.objs.size=none:=I.xh.fresh (Zo _);have t:∀b o,b∉[e,f]->s.heap.get? b=some o->A.get? b=some o:=λb o hb q=>by
   have Uv:b≠e:=λz=>hb (by simp[z]);have R:b≠f:=λz=>hb (by simp[z]);exact(C.2 b Uv).trans (hk b o Uv R q)
  have Um:A.get? s.heap.objs.size=some { cls:=.type "tuple",data:=.seq #[.int i s.toks,u] }:=(C.2 _ (WB TN)).trans hT;have TJ:∀b o,H b=some o->b∉[e,f]:=λb o q hb=>by rw[(l b hb).1]at q;cases q
  have lt:∀b o,s.heap.get? b=some o->b≠s.heap.objs.size:=λb o q=>Zb (ZU q);have up:∀b o,H b=some o->upd H s.heap.objs.size (.tup [.int i,x]) b=some o:=λb o q=>by rw[aE (bV q Ur)];exact q
  have RG:Ic X.prog X.w (upd H s.heap.objs.size (.tup [.int i,x])) A:=λb ob q=>by
   by_cases hb:b=s.heap.objs.size
   ·subst hb;rw[aC]at q;cases q;exact⟨by show 2<=sizeLine;decide,[.int i s.toks,u],.cons ⟨_,rfl⟩ (.cons ru .nil),Mx.of Um rfl,⟨_,Um,rfl,_,rfl⟩⟩
   ·rw[aE hb]at q;refine(I.xh b ob q).KP (λc v j r=>t c v ?_ r) (λc r=>up c _ r) λc Z r=>up c _ r;rcases j with z | z
    ·rw[z];exact TJ b ob q
    ·exact TJ c _ z
  refine⟨.ref s.heap.objs.size,upd H s.heap.objs.size (.tup [.int i,x]),?_,rfl,⟨_,x,Ur,rfl,rfl,λZ hy=>by rw[I.JW hy D];exact L⟩,⟨⟨u,by simpa using N⟩,RR.at λo y=>(C.2 f Jc.symm).trans y⟩,λb hb=>?_⟩
  ·show Inv X g J _ { s with heap:=A,gens:=s.gens,drawn:=s.drawn,toks:=s.toks+1 };refine I.step (g':=s.gens) (d':=s.drawn) (t':=s.toks+1) (ch:=[e,f]) (λb hb=>?_) (λb o _ _ j q _=>t b o j q) (λb o _ _ j q _=>⟨o.slots,t b o j q⟩) (λb o _ q r=>by rw[aE (lt b o q)];exact r) (λb o j q=>⟨o,t b o j q⟩)
    (λb Z q=>up b _ q) (λb o v q=>up b _ q) (λb ps q=>⟨#[],by rw[up b _ q];simp⟩) (λm hm=>?_) RG I.bare
   ·obtain⟨f0,f1,f2,Y,U,S⟩:=l b hb;exact⟨Y,f1,U,S⟩
   ·obtain⟨o,es,ep,Ki,r⟩:=hm;refine⟨o,es,ep,t _ o (λz=>?_) Ki,r⟩;exact(l _ z).2.1 rfl
  ·have:b≠s.heap.objs.size:=by
    rcases Zj.mp hb with rfl | hb
    ·exact Zb TN
    ·rw[Za.mp hb];exact Zb ltI
   rw[aE this];exact(l b hb).1
 done:=by
  intro X O hw Q hc i g s J H E I l st hg;subst O hw Q;obtain⟨xs,D,L⟩:=hg;obtain⟨oe,F,p,hz⟩:=I.list D;obtain⟨⟨old,he⟩,hit⟩:=st;obtain⟨f0,f1,f2,Y,U,S⟩:=l f (by simp);have hl:=F.length;exact wpAny_pyNext_enum_end (I.ok.hd hc) he hit p.isList (by simp;lia) λh' eb=>⟨rfl,I.turned (t':=s.toks) (λb o hb q=>eb b o hb q) f0 f1 Y U S⟩
 self:=λ_ _ _ _ _ st h=>let ⟨_,he⟩:=st.1;wpAny_pyIter_enum he h
section
variable{X:Cx}{tg a:Expr}{ta:TA}{p pos:Pos}
noncomputable def Gp(K:Xf)(ta:TA):TI:=λJ H Rq=>ta J H λe b=>∃l,e=[.ref l]/\(∃d,Hc K b l d)/\Rq (Tf K l) b
theorem Bq{f:List Expr}{n:Nat}{A:Pos}(y:Gl X "enumerate")(w:X.mg "enumerate" = none)(z:PA X [a] ta)(u:starEach [a] X.env=[(false,eval a X.env)]:=by rfl):PI X (.Tuple f n A) (.Call (.Name "enumerate" p) [a] [] pos) (Gp X.K ta):=by
 intro d s J H Rq I h;refine Call_ (l7 I y w boot_enumerate (Xn (thn (z pos d s J H _ I h) λE s1 ⟨D,B,g,r1,m⟩=>?_) u rfl));obtain⟨l,e,⟨C,v⟩,q⟩:=m;subst e;cases r1 with
 |cons r j =>
  cases j;cases r;obtain⟨G,F,o,L⟩:=g.list v;refine call_enumerate_list o.isList λM he hit t x=>?_;refine wpAny_pyIter_enum he ?_;refine⟨_,_,_,_,B,rfl,g.kept (t':=s1.toks) x,wq l (s1.heap.objs.size+1) s1.heap.objs.size (Nat.succ_ne_self _),⟨⟨_,he⟩,hit⟩,λb hb=>?_,q⟩;have i:s1.heap.objs.size<=b:=by
   rcases Zj.mp hb with rfl | hb
   ·exact Z1 _ _
   ·rw[Za.mp hb];exact Zo _
  exact g.LH i (g.xh.fresh i)
end
end L2
namespace VS
open PySem PySem.Spec PyProof.Rows L2
section
variable{G:Gx}{X:Cx}{a:Expr}{ca:Ex}{pos p Mc:Pos}{elts:List Expr}{n:Nat}
theorem rK:∀(l:Vp)(k i:Nat){t:T},(jc k l)[i]?=some t->∃x,l[i]?=some x/\t=.tup [.int ((k+i:Nat):Int),x]
 |[],_,_,_,h=>by simp[jc]at h
 |x :: l,k,0,t,h=>by
  simp[jc]at h;exact⟨x,rfl,by rw[← h];rfl⟩
 |x :: l,k,i+1,t,h=>by
  obtain⟨y,d,b⟩:=rK l (k+1) i (by simpa[jc] using h);refine⟨y,by simpa using d,?_⟩;rw[b,show k+1+i=k+(i+1) by lia]
theorem pV:∀(l:Vp)(k:Nat),(jc k l).length=l.length
 |[],_=>rfl
 |x :: l,k=>by simp[jc,pV l (k+1)]
theorem Bx{H:Hp}{a:Addr}{d:List V}{e:Vp}{j:Yp}(K:Xf)(m:H a=some (.lst d))(r:RpL G H d e j):K6 G (Tf K a) (jc 0 e) (a :: j.flatten) H:=by
 refine⟨λf k c=>?_,λb hb=>?_⟩
 ·have g:f a=some (.lst d):=c a Zw _ m;have r2:RpL G f d e j:=r.keep k λb hb o B=>c b (Zv _ hb) o B;refine⟨λi t h=>?_,λi h=>⟨d,Hc.of g,by rw[pV]at h;rw[r.len.1];exact h⟩⟩;obtain⟨y,w,u⟩:=rK e 0 i h;rw[YB]at u;obtain⟨v,F,s,D,C⟩:=r2.get i w;refine⟨⟨d,v,Hc.of g,s⟩,λx J ⟨p,z,A,e1,e2,E⟩=>?_⟩;subst e1 e2;have ex:=E d (Hc.of g);rw[s]at ex;cases ex;have l:aO f (upd f p (.tup [.int i,v])):=λb o q=>by rw[aE (bV q A)];exact q
  refine⟨l,F,?_,λb hb=>.inl (Zv _ (dC D hb))⟩;rw[u];have:F=([[],F]:Yp).flatten:=by simp
  rw[this];exact .tup aC (.cons (.int _) (.cons (C.same l) .nil))
 ·rcases Zj.mp hb with rfl | hb
  ·rw[m];exact λz=>nomatch z
  ·exact G4.p0 (r.Hk b hb)
theorem sP(r:PV G X a ca)(q:Gl X "enumerate")(o:X.mg "enumerate" = none)(i:K1 a [] X:=by rfl)(z:starEach [a] X.env=[(false,eval a X.env)]:=by rfl) :
  PVI G X (.Tuple elts n Mc) (.Call (.Name "enumerate" p) [a] [] pos) (qY ca) :=
 PI.weak (Bq q o (eT r iX i) z) λJ H Rq j=>by
  obtain⟨R,U,m,l,s,e,k⟩:=j;unfold qY at e;obtain⟨⟨h,x⟩,u,e1⟩:=Zz.mp e;refine⟨R,U,h,x,s,u,λv A F w g t=>?_⟩;cases x with
  |lst B =>
   cases e1;obtain⟨y,d,C,rfl,rfl,b,f⟩:=g.lst_inv;exact⟨y,rfl,⟨d,Hc.of b⟩,k _ A _ w (Bx X.K b f) t.c⟩
  |_=>cases e1
end
noncomputable instance {s:Tx}:Decidable (nI s):=inferInstanceAs (Decidable (_/\_))
section
variable{G:Gx}{X:Cx}{a b c e:Expr}{es:List Expr}{ca cb cc:Ex}{cs:Hr}{pos p p1 p2 apos pe:Pos}{k k':Nat}
theorem w_add(f:PV G X a ca)(d:PV G X b cb):PV G X (.BinOp a .Add b pos) (e2 bK ca cb):=sE BU Dx f d
theorem w_sub(f:PV G X a ca)(d:PV G X b cb):PV G X (.BinOp a .Sub b pos) (e2 jU ca cb):=sE Ct Dr f d
theorem w_mul(f:PV G X a ca)(d:PV G X b cb):PV G X (.BinOp a .Mult b pos) (e2 fY ca cb):=sE DQ Di f d
theorem iO(f:PV G X a ca)(d:PV G X b cb):PV G X (.BinOp a .FloorDiv b pos) (e2 ic ca cb):=sE Bs AH f d
theorem w_mod(f:PV G X a ca)(d:PV G X b cb):PV G X (.BinOp a .Mod b pos) (e2 oMod ca cb):=sE DG Es f d
theorem pL(d:xa k X.A)(g:PV G X a ca)(f:PV G X b cb):Js G X (.Compare a [.Eq] [b] pos) (e2 oEq ca cb):=hU (xF d.units) Cf tells_eq g f (ka _)
theorem rP(d:xa k X.A)(g:PV G X a ca)(f:PV G X b cb):Js G X (.Compare a [.NotEq] [b] pos) (e2 KU ca cb):=hU (DE d.units) FV zu g f (ka _)
theorem aP(g:PV G X a ca)(f:PV G X b cb)(d:lB b:=by intro _ _;rfl)(i:X.K=G.K:=by rfl):PV G X (.Subscript a b pos) (e2 aA ca cb) :=
 PE.weak (uT qD g f d) λJ H Q h=>by rw[i];exact lU w6 h
theorem dm(d:X.mg "len" = none)(g:Ib G X [e] cs)(f:Gl X "len" := by rfl)(h:X.K=G.K:=by rfl)(he:K1 e [] X:=by rfl):PV G X (.Call (.Name "len" p) [e] [] pos) (eN bY cs) :=
 ji (h ▸ vU) CS f d PySem.boot_len g (he:=he) (hpl:=rfl)
theorem C6:bootBuiltins ("min" : Str)=some (.builtin "min"):=by decide +kernel
theorem BO:bootBuiltins ("list" : Str)=some (.type "list"):=by decide +kernel
theorem xK(d:X.mg "min" = none)(h:Ib G X [a,b] cs)(g:X.calm=true:=by rfl)(f:Gl X "min" := by rfl)(he:starEach [a,b] X.env=(false,eval a X.env) :: starEach [b] X.env:=by rfl)(hpl:(backTo pos (starEach [b] X.env)).any (·.1)=false:=by rfl):PV G X (.Call (.Name "min" p) [a,b] [] pos) (eN sv cs) :=
 ji (vK g) A8 f d C6 h (he:=he) (hpl:=hpl)
noncomputable def NY:Ty->Str
 |.int => "int" |.str => "str" |.bool => "bool" |.list => "list" |.tuple => "tuple" |.dict => "dict"
theorem Fl(t:Ty):bootBuiltins (NY t)=some (.type (K8 t)):=by cases t<;>decide +kernel
theorem w_is(t:Ty)(f:X.mg "isinstance" = none)(l:X.mg (NY t)=none)(h:PV G X a ca)(g:Gl X "isinstance" := by rfl)(j:Gl X (NY t):=by rfl)(i:X.K=G.K:=by rfl)(d:starEach [a,.Name (NY t) p2] X.env=(false,eval a X.env) :: starEach [.Name (NY t) p2] X.env:=by rfl):PV G X (.Call (.Name "isinstance" p1) [a,.Name (NY t) p2] [] pos) (O8 t ca) :=
 EG t h g f j l (Fl t) i (by cases t<;>decide) (by cases t<;>decide) d rfl rfl
theorem jF(i:Nat){x:Str}(m:Ib G X [e] cs)(o:X.K=G.K:=by rfl)(n:X.N[i]?=some x:=by rfl)(f:JG X.env.scope x:=by first | exact Or.inl rfl | exact Or.inr (Or.inl rfl) | exact Or.inr (Or.inr rfl))(j:K3 x:=by decide)(d:K4 x:=by decide)(q:((backTo pe (starEach [e] X.env)).all (λx=>!x.1)&&(backToKw pe (keywordEach [] X.env)).all (λx=>x.1.isSome)
   && decide ([e].length+([]:List Keyword).length+(if ([]:List Keyword).isEmpty then 0 else 1)<30))=true:=by rfl)(s:(apos.endLine==pe.line)=true:=by rfl)(g:K1 e [] X:=by rfl) :
  PSV G X (.Expr (.Call (.Attribute (.Name x p1) "append" apos) [e] [] pe) pos) (sX (oU i [] aI cs)) :=
 zM i XU Xb Xc iE lY (λH v t F l z r h=>jo r h) m o n f j d rfl q s g rfl rfl
end
structure FnAt(P:Program)(w:World)(K:Xf)(mg:X9)(base:Heap)(k:Nat)(x:Str)(ps:List Str)(G:Gx)(g:Fn):Prop where
 ex:∃f fd,FnOk P w K mg base HJ k f fd ps (Kb G g)/\mg x=some (.ref f)/\PySem.W.keepIn K (.ref f)=true/\Binds K fd ps []
section
variable{G:Gx}{X:Cx}{e:Expr}{es:List Expr}{cs:Hr}{pos p:Pos}{k k':Nat}{x:Str}{ps:List Str}{g:Fn}
theorem bw(F:FnAt X.prog X.w X.K X.mg X.base k x ps G g)(b:xa k' X.A)(i:Ib G X (e :: es) cs)(d:k<=k':=by decide)(h:Gl X x:=by rfl)(o:K3 x:=by decide)(he:K1 e es X:=by rfl)(a:K2 pos es X:=by rfl) :
  PV G X (.Call (.Name x p) (e :: es) [] pos) (aZ g cs):=by
 obtain⟨f,fd,n,m,l,j⟩:=F.ex;exact BP n (b.mono d) h m l j i o he a
end
section
variable{G:Gx}{P:Program}{w:World}{K:Xf}{mg:X9}{base:Heap}
theorem eY{x:Str}{a:Stmt}{f:Addr}{i:FuncData}{N b:List Str}{k g h:Nat}{c:Sx}(F:G2 K x x a f i)(m:mg x=some (.ref f))(S:jj N b (aj a))(j:b.length=g)(l:N.length=h)(o:∀(kV doc pm:Value)(an:Option Addr)(d ct:Value)(e:Wu),e.length=b.length->bindArgs (PySem.W.fnOf x x (dk a) (bu a) (aj a) .none kV doc pm an d ct) ⟨e,[]⟩=pure (b.zip e))(n:∀(d:Value)(A:Around)(outer:List PySem.Env)(s:Shared)(H:Hp)(E:XK),xa k (A.deeper (envOfC x (aj a) s.heap.objs.size f d))->jy G (jS HJ P w K mg base N x (aj a) f d A outer s H E).Kg (bu a) c) :
  FnAt P w K mg base (k+1) x b G (fn g h c) :=
 ⟨f,i,Sk F S j l n,m,F.kp,F.binds o⟩
end
end VS
end
section
namespace L2
open PySem PySem.Spec PyProof.Rows
noncomputable def JL(x:Str):It:=⟨λi _=>i<x.cps.size,λi H v a=>a=H/\∃c,x.cps[i]?=some c/\v=.str ⟨#[c]⟩,λi _=>x.cps.size<=i⟩
theorem pM{P:Program}{w:World}{K:Xf}{G:Expr}(x:Str)(t:Tok)(a:Addr)(j:String)(O:["enumerate", "zip", "dict_itemiterator", "dict_reverseitemiterator", "odict_iterator", "itertools.zip_longest", "itertools.pairwise"].contains j=false)(W:∀A:Around,A.handled=none->Walks P w A a [a] [a] x.cps.size (λi v=>∃c u,x.cps[i]?=some c/\v=.str ⟨#[c]⟩ u) (λi h=>h.IsStrIter a j x t i))(U:∀(A:Around),A.handled=none->∀(i:Nat)(s:Shared)(Q:Wt->Shared->Prop)(E:Z3),s.heap.IsStrIter a j x t i->x.cps[i]?=none->(∀g,Heap.ExtBut a s.heap g->Q none { s with heap:=g })->wpAny (model P w) A (pyNext (.ref a)) Q E s)(Y:∀(A:Around)(i:Nat)(s:Shared)(Q:Z3)(E:Z3),s.heap.IsStrIter a j x t i->Q (.ref a) s->wpAny (model P w) A (pyIter (.ref a)) Q E s) :
  Turn P w K G (JL x) [a] a (λi h=>h.IsStrIter a j x t i) where
 mem:=by simp
 obj:=λi h st b hb=>by
  rw[Za.mp hb];obtain⟨o,e,c,d⟩:=st;exact⟨o,e,λv z=>by rw[d]at z;cases z⟩
 keep:=λi h g st k=>let ⟨o,e,r⟩:=st;⟨o,k a (by simp) o e,r⟩
 item:=by
  intro X n hw p m i f s J H E I l st hg;subst n hw p;obtain⟨C,f1,f2,B,y,q⟩:=l a (by simp);refine(W X.A (I.ok.hd m)).item i s _ _ hg st λv g D N F L=>?_;obtain⟨c,u,Z,rfl⟩:=N;have I1:Inv X f J H { s with heap:=g,toks:=D }:=I.turned (λb o hb e=>L b o (by simpa using hb) e) C f1 B y q;obtain⟨o,e,S,d⟩:=id F;exact⟨_,rfl,rg (s:={ s with heap:=g,toks:=D }) e S d O ⟨.str ⟨#[c]⟩,H,I1,⟨u,rfl⟩,⟨rfl,c,Z,rfl⟩,F,λb hb=>(l b hb).1⟩⟩
 done:=by
  intro X n hw p m i f s J H E I l st hg;subst n hw p;obtain⟨C,f1,f2,B,y,q⟩:=l a (by simp);have M:x.cps.size<=i:=hg;exact U X.A (I.ok.hd m) i s _ _ st (by simp[M]) λg R=>⟨rfl,I.turned (t':=s.toks) (λb o hb e=>R b o hb e) C f1 B y q⟩
 self:=λA i s Q E st h=>Y A i s Q E st h
theorem yZ{P:Program}{w:World}{K:Xf}{g:Expr}(x:Str)(t:Tok)(a:Addr):Turn P w K g (JL x) [a] a (λi h=>h.IsStrIter a (strIterType x) x t i):=by
 cases f:x.cps.all (· < 128)
 ·have e:strIterType x = "str_iterator" := by simp[strIterType,f]
  rw[e];exact pM x t a "str_iterator" rfl (λA b=>Walks.strWide b a x t) (λA b i s Q E st d q=>wpAny_pyNext_wide_end b st d q) λA i s Q E st q=>wpAny_pyIter_striter_wide st q
 ·have e:strIterType x = "str_ascii_iterator" := by simp[strIterType,f]
  rw[e];exact pM x t a "str_ascii_iterator" rfl (λA b=>Walks.strAscii b a x t) (λA b i s Q E st d q=>wpAny_pyNext_ascii_end b st d q) λA i s Q E st q=>wpAny_pyIter_striter_ascii st q
section
variable{X:Cx}{tg l a b c:Expr}{tl ta tb tc:TE}{pos:Pos}
noncomputable def FS(K:Xf)(f:TE):TI:=λJ H Rq=>f J H λx d=>(∃a,x=.ref a/\(∃e,Hc K d a e)/\Rq (Td K a) d)\/(∃a,x=.ref a/\(∃e,HX K d a e)/\Rq (Tc K a) d)\/∃z,x=.str z/\Rq (JL z) d
theorem Bc(y:PE X l tl):PI X tg l (FS X.K tl):=by
 intro d s J H Rq I h;refine thn (y d s J H _ I h) λv s1 ⟨x,g,f,r1,u⟩=>?_;have j:∀b∈[s1.heap.objs.size],o6 X d g b:=λb hb=>by
  rw[Za.mp hb];exact f.LH (Zo _) (f.xh.fresh (Zo _))
 rcases u with⟨a,e,⟨n,i⟩,q⟩ | ⟨a,e,⟨n,i⟩,q⟩ | ⟨z,e,q⟩
 ·subst e;cases r1;obtain⟨m,r,p,w⟩:=f.list i;exact wpAny_pyIter_list p.isList ⟨s1.heap.objs.size,[s1.heap.objs.size],_,_,g,rfl,f.kept (t':=s1.toks) λb o e=>Zf _ e,wC a _,⟨_,ZL _ rfl,rfl,rfl⟩,j,q⟩
 ·subst e;cases r1;obtain⟨m,r,p,w⟩:=f.tuple i;exact wpAny_pyIter_tuple (show s1.heap.IsTuple a m.toArray from p) ⟨s1.heap.objs.size,[s1.heap.objs.size],_,_,g,rfl,f.kept (t':=s1.toks) λb o e=>Zf _ e,t5 a _,⟨_,ZL _ rfl,rfl,rfl⟩,j,q⟩
 ·subst e;obtain⟨t,rfl⟩:=r1;exact wpAny_pyIter_strU ⟨s1.heap.objs.size,[s1.heap.objs.size],_,_,g,rfl,f.kept (t':=s1.toks) λb o e=>Zf _ e,yZ z t _,⟨_,ZL _ rfl,rfl,rfl⟩,j,q⟩
theorem BH{s:Shared}{d:Heap}{o:Obj}(g:∀b x,b∉[s.heap.objs.size]->(s.heap.push o).get? b=some x->d.get? b=some x)(b:Addr)(x:Obj)(e:s.heap.get? b=some x):d.get? b=some x :=
 g b x (λf=>YO _ (by have:=ZU e;rw[Za.mp f]at this;exact this)) (Zf _ e)
theorem yn(F:X.calm=true):dN X (.builtin "sum") (λr H Q=>∃p,∃ns:Vu,r=[.ref p]/\Hc X.K H p (ns.map V.int)/\Q (.int ns.sum) H):=by
 intro w s J H r L Q I B h;obtain⟨p,ns,rfl,E,q⟩:=h;obtain⟨u,rfl,j⟩:=B.one;cases j;obtain⟨d,g,m,N⟩:=I.list E;have y:p<s.heap.objs.size:=by obtain⟨_,e,_⟩:=m.isList;exact ZU e
 refine call_sum_walkG (wpAny_pyIter_list m.isList ⟨s.heap.objs.size,[s.heap.objs.size,p],[s.heap.objs.size],d.toArray.size,_,_,λi=>(ns[i]?).getD 0,rfl,Walks.list (A:=X.A.in1) (I.ok.hd F) _ p (Zb y) d.toArray,
  ⟨⟨_,ZL _ rfl,rfl,rfl⟩,m.isList.push _⟩,λb hb=>?_,λi v G=>?_,λO M z o=>⟨.int ns.sum,H,I.kept (BH o),⟨z,?_⟩,q⟩⟩)
 ·rw[W5];rcases Zj.mp hb with rfl | hb
  ·exact YI _
  ·rw[Za.mp hb];exact XQ y
 ·have f:d[i]?=some v:=by simpa using G
  cases e:ns[i]? with
  |none =>
   have:=g.none_of (i:=i) (by rw[ZM,e];rfl);rw[this]at f;cases f
  |some n =>
   obtain⟨u,D,j⟩:=g.get (i:=i) (x:=.int n) (by rw[ZM,e];rfl);rw[D]at f;cases f;obtain⟨t,rfl⟩:=j;exact⟨t,by simp[e]⟩
 ·have hlen:d.toArray.size=ns.length:=by have:=g.length;simp at this ⊢;exact Eq.symm this
  have:∀k,k<=ns.length->preSum (λi=>(ns[i]?).getD 0) k=(ns.take k).sum:=λk=>by
   induction k with
   |zero=>intro _;simp[preSum]
   |succ k C =>
    intro o;rw[List.take_succ,List.sum_append,preSum,C (by exact WA o)];cases e:ns[k]? <;> simp
  rw[hlen,this _ (Zo _),List.take_length]
theorem wQ:OpR X (compareOp .Gt) (λx y H Q=>∃i j,x=.str i/\y=.str j/\Q (.bl (decide (j.cps.toList<i.cps.toList))) H):=by
 intro d s J H x y v u Q I f e h;obtain⟨i,j,rfl,rfl,q⟩:=h;obtain⟨t,rfl⟩:=f;obtain⟨g,rfl⟩:=e;exact PySem.P.gt_str ⟨.bl _,H,I,rfl,q⟩
theorem v8:OpR X (compareOp .GtE) (λx y H Q=>∃i j,x=.str i/\y=.str j/\Q (.bl (!decide (i.cps.toList<j.cps.toList))) H):=by
 intro d s J H x y v u Q I f e h;obtain⟨i,j,rfl,rfl,q⟩:=h;obtain⟨t,rfl⟩:=f;obtain⟨g,rfl⟩:=e;exact PySem.P.ge_str ⟨.bl _,H,I,rfl,q⟩
end
end L2
end
section
namespace VS
open PySem PySem.Spec PyProof.Rows L2
section
variable{G:Gx}{X:Cx}{a b c e tg:Expr}{es:List Expr}{ca cb cc:Ex}{cs:Hr}{pos p p1 p2 apos pe:Pos}{k k':Nat}
theorem C2(H:Hp)(s:Tx)(l:nI s):K6 G (L2.JL (sx s)) (s.map λc=>T.str [c]) [] H:=by
 have sz:(sx s).cps.size=s.length:=rfl;refine⟨λo _ _=>⟨λi t h=>?_,λi h=>(by rw[Zx]at h;show (sx s).cps.size<=i;lia)⟩,λa h=>by simp at h⟩;rw[ZM]at h;obtain⟨c,f,rfl⟩:=Zu.mp h;refine⟨(by show i<(sx s).cps.size;have:=(ZX.mp f).1;lia),λx n ⟨e1,g,j,e2⟩=>?_⟩;subst e1;have:g=c:=by
  have m:(sx s).cps[i]?=some c:=by simp[sx,f]
  rw[m]at j;exact(Zl j).symm
 subst this;rw[e2];exact⟨aO.refl _,[],.str [g] ⟨(by show 1<=fL;decide),λd hd=>by rw[Za.mp hd];exact l.2 g (Xj f)⟩,λa h=>by simp at h⟩
theorem dF(w:PV G X a ca)(B:X.K=G.K:=by rfl):PVI G X tg a (gM ca) :=
 PI.weak (Bc w) λJ H Rq u=>by
  obtain⟨R,U,m,l,s,e,k⟩:=u;unfold gM at e;obtain⟨⟨t,x⟩,y,e1⟩:=Zz.mp e;refine⟨R,U,t,x,s,y,λv f F n j q=>?_⟩;cases x with
  |lst r =>
   cases e1;obtain⟨o,g,A,rfl,rfl,d,i⟩:=j.lst_inv;exact .inl ⟨o,rfl,⟨g,Hc.of d⟩,k _ f _ n (Al X.K d i) q.c⟩
  |tup r =>
   cases e1;obtain⟨o,g,A,rfl,rfl,d,i⟩:=j.Ii;exact .inr (.inl ⟨o,rfl,⟨g,HX.of d⟩,k _ f _ n (Dq X.K d i) q.c⟩)
  |str z =>
   cases e1;obtain⟨rfl,ok⟩:=j.str_inv;exact .inr (.inr ⟨_,rfl,k _ f [] n (C2 f z ok) λa h=>by simp at h⟩)
  |_=>cases e1
theorem uO{H:Hp}:∀{d:List V}{l:Vp}{g:Yp}{f:Vu},RpL G H d l g->oG l=some f->d=f.map V.int
 |_,_,_,_,.nil,e=>by cases e;rfl
 |_,_,_,_,.cons (t:=t) r q,e=>by
  cases t with
  |int s =>
   simp only[oG]at e;obtain⟨h,e1,e2⟩:=Zu.mp e;subst e2;rw[uO q e1,r.int_inv];rfl
  |_=>cases e
theorem CW:fq G (λd H Q=>∃p,∃ns:Vu,d=[.ref p]/\Hc G.K H p (ns.map V.int)/\Q (.int ns.sum) H) BG:=by
 intro R U r H l f n m t Q A e k;unfold BG at e;split at e
 ·rename_i q x;obtain⟨i,e1,e2⟩:=Zz.mp e;cases e2;obtain⟨v,F,rfl,rfl,g⟩:=(show RpL G H f [.lst x] n from A.rp).one;obtain⟨a,o,s,rfl,rfl,j,h⟩:=g.lst_inv;exact⟨a,i,rfl,by rw[← uO h e1];exact Hc.of j,bM k (.int _)⟩
 ·cases e
theorem C7:bootBuiltins ("sum" : Str)=some (.builtin "sum"):=by decide +kernel
theorem zq:bootBuiltins ("tuple" : Str)=some (.type "tuple"):=by decide +kernel
theorem w_sum(d:X.mg "sum" = none)(h:Ib G X [e] cs)(f:Gl X "sum" := by rfl)(i:X.K=G.K:=by rfl)(g:X.calm=true:=by rfl)(he:K1 e [] X:=by rfl):PV G X (.Call (.Name "sum" p) [e] [] pos) (eN BG cs) :=
 ji (yn g) (i ▸ CW) f d C7 h (he:=he) (hpl:=rfl)
theorem xk:fq G (λh H Q=>∃p d,h=[.ref p]/\((Hc G.K H p d/\∀l,H l=none->Q (.ref l) (upd H l (.tup d)))\/(HX G.K H p d/\Q (.ref p) H))) kG:=by
 intro R U B H l i w m t Q A e k;unfold kG at e;split at e
 ·rename_i y x;split at e
  ·rename_i z;cases e;obtain⟨v,F,rfl,rfl,j⟩:=(show RpL G H i [.lst x] w from A.rp).one;obtain⟨a,d,u,rfl,rfl,s,n⟩:=j.lst_inv;have f:=(A.fp.each 0 _ _ rfl rfl).sub (Yd _ _);refine⟨a,d,rfl,.inl ⟨Hc.of s,λq o=>?_⟩⟩;have g:aO H (upd H q (.tup d)):=dw o;have r:Rp G (upd H q (.tup d)) (.ref q) (.tup x) u.flatten:=.tup aC (n.same g);exact k _ _ _ g r (f.up r)
  ·cases e
 ·cases e
theorem BE(d:X.mg "tuple" = none)(g:Ib G X [e] cs)(f:Gl X "tuple" := by rfl)(h:X.K=G.K:=by rfl)(he:K1 e [] X:=by rfl):PV G X (.Call (.Name "tuple" p) [e] [] pos) (eN kG cs) :=
 jL oW (h ▸ xk) f d zq g (he:=he) (hpl:=rfl)
noncomputable def Tv:HR:=λx y H Q=>Kx (λi j=>.bl (decide (j<i))) x y H Q\/(∃i j,x=.str i/\y=.str j/\Q (.bl (decide (j.cps.toList<i.cps.toList))) H)
noncomputable def Tw:HR:=λx y H Q=>Kx (λi j=>.bl (decide (j<=i))) x y H Q\/(∃i j,x=.str i/\y=.str j/\Q (.bl (!decide (i.cps.toList<j.cps.toList))) H)
theorem xM(s t:Tx):decide ((sx s).cps.toList<(sx t).cps.toList)=Ld s t:=by rw[nS];exact decide_eq_decide.mpr (by simp[sx])
theorem Gd:g0 G Tv La:=by
 intro R U i H x y u w l j m t Q d e k;obtain⟨h,x⟩:=x;obtain⟨g,y⟩:=y;obtain⟨same,r1,r2,f1,f2,nd⟩:=d;unfold La oLt at e;split at e
 ·rename_i e1 e2;cases e1;cases e2;cases e;exact .inl ⟨_,_,r1.int_inv,r2.int_inv,bM k (.bl _)⟩
 ·rename_i s _ f e1 e2;cases e1;cases e2;cases e;refine .inr ⟨_,_,r1.str_inv.1,r2.str_inv.1,?_⟩;rw[xM];exact bM k (.bl _)
 ·cases e
theorem FA:g0 G Tw LO:=by
 intro R U i H x y u w l j m t Q d e k;obtain⟨h,x⟩:=x;obtain⟨g,y⟩:=y;obtain⟨same,r1,r2,f1,f2,nd⟩:=d;unfold LO oLe at e;split at e
 ·rename_i e1 e2;cases e1;cases e2;cases e;exact .inl ⟨_,_,r1.int_inv,r2.int_inv,bM k (.bl _)⟩
 ·rename_i s _ f e1 e2;cases e1;cases e2;cases e;refine .inr ⟨_,_,r1.str_inv.1,r2.str_inv.1,?_⟩;rw[xM];exact bM k (.bl _)
 ·cases e
theorem zY:Tells La:=λx y m t e=>kP y x m t e
theorem zh:Tells LO:=λx y m t e=>zC y x m t e
theorem uS(f:PV G X a ca)(d:PV G X b cb):Js G X (.Compare a [.Gt] [b] pos) (e2 La ca cb):=hU (r:=Tv) (FL.or wQ) Gd zY f d (ka _)
theorem zz(f:PV G X a ca)(d:PV G X b cb):Js G X (.Compare a [.GtE] [b] pos) (e2 LO ca cb):=hU (r:=Tw) (EA.or v8) FA zh f d (ka _)
theorem yG{r o:HR}{f g:Val->Val->Vq}(L:g0 G r f)(V3:g0 G o g){J:L2.St}{H:Hp}{Q:VK}(h:tE G (ke f g ca cb cc) J H Q):xN r o (tE G ca) (tE G cb) (tE G cc) J H Q:=by
 obtain⟨R,U,m,t,s,e,k⟩:=h;unfold ke at e;obtain⟨x,ea,e⟩:=Zz.mp e;obtain⟨y,eb,e⟩:=Zz.mp e;obtain⟨⟨M,z⟩,Y,e⟩:=Zz.mp e;refine yB s ea eb λu w H2 F1 A d=>L R U H H2 x y u w F1 A M z _ d Y λv H3 F e1 r1 f1=>?_;cases z with
 |bl q =>
  refine⟨q,r1.HZ,?_⟩;cases q with
  |false =>
   cases e;rw[Zp Zg];exact k _ H3 [] (d.same.trans e1) (.bl false) Fp.nil
  |true =>
   rw[Zs rfl];obtain⟨l,Z,e⟩:=Zz.mp (show (cc U).bind (λz=>g y z)=some (m,t) from e);have i:=d.same.trans e1;refine⟨R,U,l.1,l.2,s.same i,Z,λB H4 F4 n E j=>?_⟩;refine V3 R U H H4 y l w B A F4 m t Q ⟨i.trans n,(d.r2.same e1).same n,E,d.f2,j.back i,λO N=>?_⟩ e λC H5 F5 e5 D S=>k C H5 F5 ((i.trans n).trans e5) D S;have f2:=d.f2;rw[O]at f2;rw[N]at j;refine ZK.mpr ⟨f2.1,j.1,λa P b hb z=>?_⟩;subst z;exact G4.p0 ((d.r2.same e1).Hk a P) (j.2 a hb)
 |_=>cases e
theorem vC{x:Str}{i:Int}(h:∃t,X.mg x=some (.int i t))(f:Gl X x:=by rfl)(g:K3 x:=by decide):PV G X (.Name x pos) (Q2 i):=by
 obtain⟨t,d⟩:=h;exact An (v:=.int i) f d ⟨t,rfl⟩ (λH=>.int i) g
end
end VS
end
section
namespace VS
open PySem PySem.Spec PyProof.Rows L2
section
variable{G:Gx}{X:Cx}{a b c e tg:Expr}{es:List Expr}{ca cb cc:Ex}{cs:Hr}{pos p p1 p2 apos pe:Pos}{k k':Nat}
theorem uE:PV G X (.Dict [] [] pos) (mZ 0 []):=PE.weak yi λJ H Q d=>by
 obtain⟨R,U,m,t,s,e,k⟩:=d;cases (show some (Md.fr,T.dct 0 [])=some (m,t) from e);intro q d;have:Rp G (upd H q (.dK [])) (.ref q) (.dct 0 ((([]:List Key).map aJ).zip [])) (q :: ([]:Yp).flatten):=.dct aC rfl .nil;exact k _ _ [q] (dw d) this ⟨by simp,λb hb=>by rw[Za.mp hb];exact d⟩
end
section
variable{G:Gx}{X:Cx}{a b c e tg:Expr}{es:List Expr}{ca cb cc ce:Ex}{cs:Hr}{pos p p1 p2 apos pe pos':Pos}{k k':Nat}
theorem jK{h:List Stmt}{C:Sx}(hp:PassesOwn (model X.prog X.w) X.A X.env X.xe)(hc:Js G X c cc)(hb:jy G X h C):PSV G X (.While c h [] pos) (lG cc C) :=
 PS.weak (zT hp hc hb) λD J H Z=>by
  obtain⟨R,U,o,s,e,k⟩:=Z;refine⟨λn E F=>∃r m,SR G r m E F/\HG R U H r m F/\fE cc C n m=some o,⟨vX,R,U,s,HG.refl R U H,e⟩,?_⟩;rintro n E F ⟨r,m,N,f2,e2⟩;cases n with
  |zero=>cases (show (none:Option Out)=some o from e2)
  |succ n =>
   rw[fE]at e2;obtain⟨⟨Y,x⟩,ex,e3⟩:=Zz.mp e2;obtain⟨t,et,B⟩:=Zz.mp e3;refine⟨r,m,Y,x,t,N,ex,et,λP L=>?_⟩;have M:=N.same L;have y:HG R U H r m P:=f2.trans (HG.same L);cases t with
   |false =>
    rw[Zp Zg]at B;cases B;show if false=true then _ else _
    rw[Zp Zg];exact k r E P M y
   |true =>
    rw[Zs rfl]at B;show if true=true then _ else _
    rw[Zs rfl];obtain⟨O,e5,z⟩:=Zz.mp B;refine⟨λi g=>∃f d,SR G f d i g/\HG R U H f d g/\fE cc C n d=some o,λi g q=>⟨n,YI n,q⟩,r,m,O,M,e5,?_⟩;cases O with
    |nx d=>exact λf i g j l=>⟨f,d,j,y.trans l,z⟩
    |ct d=>exact λf i g j l=>⟨f,d,j,y.trans l,z⟩
    |bk d =>
     cases (show some (Out.nx d)=some o from z);exact λf i g j l=>k f i g j (y.trans l)
    |rt v d =>
     cases (show some (Out.rt v d)=some o from z);exact λu g F4 f i j l Q S=>k u g F4 f i j (y.trans l) Q (S.back y)
noncomputable def OC:Sx:=λ_=>none
theorem qh{f:Stmt}:PSV G X f OC:=λd s J H D I ⟨_,_,_,_,e,_⟩=>nomatch (show (none:Option Out)=some _ from e)
theorem dM{H:Hp}{v:V}{l:List (T×T)}{F:Wy}(r:Rp G H v (.dct 0 l) F):∃(a:Addr)(f:List Key)(d:List V)(g:Vp)(i:Yp),v=.ref a/\F=a :: i.flatten/\H a=some (.dK (f.zip d))/\f.length=d.length/\l=(f.map aJ).zip g/\RpL G H d g i:=by
 cases r with
 |dct h j q=>exact⟨_,_,_,_,_,rfl,rfl,h,j,rfl,q⟩
theorem dP{H:Hp}{v:V}{t:T}{F:Wy}(r:Rp G H v t F)(h:g7 t=true):∃k:Key,v=kV k/\t=aJ k:=by
 cases t with
 |int i=>exact⟨.inl i,r.int_inv,rfl⟩
 |str s=>exact⟨.inr (sx s),r.str_inv.1,by simp[aJ,sx]⟩
 |_=>cases h
theorem jP{H:Hp}{k:Key}:∀{d:List Key}{f:List V}{ts:Vp}{Fs:Yp},d.length=f.length->RpL G H f ts Fs →
  (df ((d.map aJ).zip ts) (aJ k)=none/\cR (d.zip f) k=none)\/∃(i:Nat)(v:V)(t:T)(F:Wy),df ((d.map aJ).zip ts) (aJ k)=some t/\cR (d.zip f) k=some v/\f[i]?=some v/\Fs[i]?=some F/\Rp G H v t F
 |[],[],_,_,_,.nil=>.inl ⟨rfl,rfl⟩
 |k' :: d,v :: f,_,_,o,.cons (t:=t) (F:=F) (ts:=ts) (Fs:=Fs) r q=>by
  have e:eqT (aJ k') (aJ k)=decide (k'=k):=by
   rw[Xa,decide_eq_true_eq];cases k with
   |inl i=>cases k'<;>simp[aJ]
   |inr x =>
    obtain⟨⟨x⟩⟩:=x;cases k' with
    |inl j=>simp[aJ]
    |inr y=>obtain⟨⟨y⟩⟩:=y;simp[aJ]
  by_cases g:k'=k
  ·refine .inr ⟨0,v,t,F,?_,cL g,rfl,rfl,r⟩;have l:eqT (aJ k') (aJ k)=true:=by rw[e];exact decide_eq_true g
   simp only[df,Zm,ZV,Yy,l];rfl
  ·have u:df (((k' :: d).map aJ).zip (t :: ts)) (aJ k)=df ((d.map aJ).zip ts) (aJ k):=by
    have l:eqT (aJ k') (aJ k)=false:=by rw[e];exact ZG g
    simp only[df,Zm,ZV,Yy,l]
   have s:cR ((k' :: d).zip (v :: f)) k=cR (d.zip f) k:=by simp[cR,g]
   rw[u,s];rcases jP (k:=k) (by simpa using o) q with h | ⟨i,m,n,D,C,B,A,z,w⟩
   ·exact .inl h
   ·exact .inr ⟨i+1,m,n,D,C,B,by simpa using A,by simpa using z,w⟩
theorem qd(m:X.A.units+1<cLine):K5 X (λx y H Q=>∃a v,x=.ref a/\iJ H a y (some v)/\Q v H):=by
 intro value slice d s J H x y v u Q I l j h n;obtain⟨a,w,rfl,g,q⟩:=h;cases l;have f:=sC I g;unfold subscriptTail;refine Zn ?_;rw[getitemInPython_of_ne f.not_modules];refine Zn (wpAny_specialOf f PySem.F.slot_dict_getitem.lookup ?_);have fin:wpAny (model X.prog X.w) X.A (subscripted slice false (.ref a) u) (λr i=>wpAny (model X.prog X.w) X.A (letTemporaryGo value (.ref a) r >>= λ_=>pure r) (EP X d J Q) X.xe i) X.xe s:=by
  rw[n];exact wpAny_operating (wM m I g j λz B t o=>Zn (wpAny_letTemporaryGo (ZW ⟨w,H,t,o,q⟩)))
 first
  |exact ZW (Zn fin)
  |exact Zn (ZW (Zn fin))
  |exact Zn fin
noncomputable def FP(K:Xf):HR:=λx y H Q=>QL K x y H Q\/∃a v,x=.ref a/\iJ H a y (some v)/\Q v H
theorem E4:g0 G (FP G.K) IK:=by
 intro R U E H x y u w L J m t Q d e k;obtain⟨g,x⟩:=x;by_cases hd:∃l,x=.dct 0 l
 ·obtain⟨l,rfl⟩:=hd;simp only[IK]at e;split at e
  ·rename_i o;obtain⟨P,e1,e2⟩:=Zu.mp e;obtain⟨a,S,M,N,Fs,rfl,rfl,r,n,rfl,q⟩:=dM d.r1;obtain⟨j,rfl,z⟩:=dP d.r2 o;rw[z]at e1;rcases jP (k:=j) n q with⟨s,_⟩ | ⟨i,v,O,F,D,C,Z,B,h⟩
   ·rw[s]at e1;cases e1
   ·rw[D]at e1;cases e1;cases e2;refine .inr ⟨a,v,rfl,by rw[← C];exact iJ.k r,?_⟩;have f:=((d.f1.sub (Yd _ _)).sub (dv B)).up h;exact k v H F (aO.refl _) h f
  ·cases e
 ·have A:aA (g,x) y=some (m,t):=by
   simp only[IK]at e;split at e
   ·rename_i l Y;exact absurd ⟨_,rfl⟩ hd
   ·exact e
  exact .inl (w6 R U E H (g,x) y u w L J m t Q d A k)
theorem qy(f:xa k X.A)(i:PV G X a ca)(g:PV G X b cb)(d:lB b:=by intro _ _;rfl)(j:X.K=G.K:=by rfl):PV G X (.Subscript a b pos) (e2 IK ca cb) :=
 PE.weak (uT (K5.or qD (qd (kZ f))) i g d) λJ H Q h=>by rw[j];exact lU E4 h
noncomputable def fV:T->V
 |.bl b=>.bl b
 |.int i=>.int i
 |.str s=>.str (sx s)
 |_=>.non
theorem Co{H:Hp}{v:V}{t:T}{F:Wy}(r:Rp G H v t F)(h:flat t=true):v=fV t/\gr v=true:=by
 cases r with
 |non=>exact⟨rfl,rfl⟩
 |bl b=>exact⟨rfl,rfl⟩
 |int i=>exact⟨rfl,rfl⟩
 |str s d=>exact⟨rfl,rfl⟩
 |_=>cases h
theorem Fx:∀{t u:T},flat t=true->flat u=true->LX (fV t) (fV u)=eqT t u
 |.non,.non,_,_=>rfl
 |.non,.bl _,_,_=>rfl
 |.non,.int _,_,_=>rfl
 |.non,.str _,_,_=>rfl
 |.bl _,.non,_,_=>rfl
 |.bl _,.bl _,_,_=>rfl
 |.bl _,.int _,_,_=>rfl
 |.bl _,.str _,_,_=>rfl
 |.int _,.non,_,_=>rfl
 |.int _,.bl _,_,_=>rfl
 |.int _,.int _,_,_=>rfl
 |.int _,.str _,_,_=>rfl
 |.str _,.non,_,_=>rfl
 |.str _,.bl _,_,_=>rfl
 |.str _,.int _,_,_=>rfl
 |.str _,.str _,_,_=>ye
theorem za{H:Hp}{v w:V}{t u:T}{F h:Wy}(r:Rp G H v t F)(g:Rp G H w u h)(f:flat t=true)(d:flat u=true):LX v w=eqT t u/\gr v=true/\gr w=true:=by
 obtain⟨e1,f1⟩:=Co r f;obtain⟨e2,f2⟩:=Co g d;refine⟨?_,f1,f2⟩;rw[e1,e2];exact Fx f d
theorem ql{H:Hp}{x:V}{t:T}{F:Wy}(r:Rp G H x t F)(g:flat t=true):∀{d:List V}{f:Vp}{m:Yp},RpL G H d f m->f.all flat=true->d.all gr=true/\OU x d=f.any λy=>eqT y t
 |_,_,_,.nil,_=>⟨rfl,rfl⟩
 |_,_,_,.cons j q,h=>by
  rw[Wj,ZS]at h;obtain⟨l,i⟩:=ql r g q h.2;obtain⟨e1,e2,n⟩:=za j r h.1 g;refine⟨by rw[Wj,e2,l];rfl,?_⟩;unfold OU at i ⊢;rw[YH,YH,i,e1]
noncomputable def EZ(K:Xf):HR:=λx y H Q=>PF K false x y H Q\/∃a o,y=.ref a/\iJ H a x o/\Q (.bl o.isSome) H
noncomputable def vA(K:Xf):HR:=λx y H Q=>PF K true x y H Q\/∃a o,y=.ref a/\iJ H a x o/\Q (.bl (!o.isSome)) H
theorem A7(j:X.A.units+1<cLine):OpR X (compareOp .In) (λx y H Q=>∃a o,y=.ref a/\iJ H a x o/\Q (.bl o.isSome) H):=by
 intro d s J H x y v u Q I i f h;obtain⟨a,o,rfl,g,q⟩:=h;cases f;exact GK j I g i λm l=>⟨.bl o.isSome,H,l,rfl,q⟩
theorem yY(j:X.A.units+1<cLine):OpR X (compareOp .NotIn) (λx y H Q=>∃a o,y=.ref a/\iJ H a x o/\Q (.bl (!o.isSome)) H):=by
 intro d s J H x y v u Q I i f h;obtain⟨a,o,rfl,g,q⟩:=h;cases f;exact Af j I g i λm l=>⟨.bl (!o.isSome),H,l,rfl,q⟩
theorem sU{R:G6}{U:VS.Env}{L H:Hp}{x y:Val}{u w:V}{N M:Wy}{m:Md}{t:T}(f:Pn G R U L H x y u w N M)(e:k8 x y=some (m,t)) :
  ∃b,m=.fr/\t=.bl b/\((∃p n,w=.ref p/\(Hc G.K H p n\/HX G.K H p n)/\gr u=true/\n.all gr=true/\OU u n=b)\/∃a o,w=.ref a/\iJ H a u o/\o.isSome=b):=by
 obtain⟨Q,y⟩:=y;simp only[k8]at e;split at e
 ·split at e
  ·rename_i d;cases e;obtain⟨a,B,g,O,A,rfl,rfl,h,C,rfl,q⟩:=dM f.r2;obtain⟨z,rfl,D⟩:=dP f.r1 d;refine⟨_,rfl,rfl,.inr ⟨a,cR (B.zip g) z,rfl,iJ.k h,?_⟩⟩;rw[D];rcases jP (k:=z) C q with⟨l,j⟩ | ⟨i,v,P,F,J,E,_⟩
   ·rw[l,j];rfl
   ·rw[J,E];rfl
  ·cases e
 ·split at e
  ·rename_i d;cases e;rw[ZS]at d;obtain⟨a,g,A,rfl,rfl,h,r⟩:=f.r2.lst_inv;obtain⟨l,j⟩:=ql f.r1 d.1 r d.2;have s:gr u=true:=(za f.r1 f.r1 d.1 d.1).2.1;exact⟨_,rfl,rfl,.inl ⟨a,g,rfl,.inl (Hc.of h),s,l,j⟩⟩
  ·cases e
 ·split at e
  ·rename_i d;cases e;rw[ZS]at d;obtain⟨a,g,A,rfl,rfl,h,r⟩:=f.r2.Ii;obtain⟨l,j⟩:=ql f.r1 d.1 r d.2;have s:gr u=true:=(za f.r1 f.r1 d.1 d.1).2.1;exact⟨_,rfl,rfl,.inl ⟨a,g,rfl,.inr (HX.of h),s,l,j⟩⟩
  ·cases e
 ·cases e
theorem FG:g0 G (EZ G.K) k8:=by
 intro R U j H x y u w n l m t Q f e k;obtain⟨b,rfl,rfl,h⟩:=sU f e;rcases h with⟨p,d,rfl,i,f1,f2,hb⟩ | ⟨a,o,rfl,g,hb⟩
 ·refine .inl ⟨p,d,rfl,i,f1,f2,?_⟩;rw[hb];exact bM k (.bl b)
 ·refine .inr ⟨a,o,rfl,g,?_⟩;rw[hb];exact bM k (.bl b)
theorem Dt:g0 G (vA G.K) cE:=by
 intro R U r H x y u w v s m t Q i e k;unfold cE at e;split at e
 ·rename_i q d l;cases e;obtain⟨b,rfl,n,h⟩:=sU i l;cases n;rcases h with⟨p,f,rfl,j,f1,f2,hb⟩ | ⟨a,o,rfl,g,hb⟩
  ·refine .inl ⟨p,f,rfl,j,f1,f2,?_⟩;rw[hb];exact bM k (.bl (!d))
  ·refine .inr ⟨a,o,rfl,g,?_⟩;rw[hb];exact bM k (.bl (!d))
 ·cases e
theorem zJ:Tells k8:=by
 intro x y m t e;simp only[k8]at e;split at e
 all_goals first | (split at e<;>first | (cases e;exact⟨_,rfl⟩) | cases e) | cases e
theorem wb:Tells cE:=by
 intro x y m t e;unfold cE at e;split at e
 ·cases e;exact⟨_,rfl⟩
 ·cases e
theorem B9(d:xa k X.A)(h:PV G X a ca)(g:PV G X b cb)(f:behindInMarks .In b=false:=by with_unfolding_all rfl)(i:X.K=G.K:=by rfl):Js G X (.Compare a [.In] [b] pos) (e2 k8 ca cb):=hU (r:=EZ X.K) (vP.or (A7 (kZ d))) (i ▸ FG) zJ h g f
theorem ot(d:xa k X.A)(h:PV G X a ca)(g:PV G X b cb)(f:behindInMarks .NotIn b=false:=by with_unfolding_all rfl)(i:X.K=G.K:=by rfl):Js G X (.Compare a [.NotIn] [b] pos) (e2 cE ca cb):=hU (r:=vA X.K) (qA.or (yY (kZ d))) (i ▸ Dt) wb h g f
end
end VS
end
section
open PySem PyProof.Rows
namespace TS
noncomputable def qo:Bool->Keyed->Array Keyed->Nat->Nat->Nat->StateT SortSt Sem (Option Nat):=sortPriv% PySem.Builtin.gallop
noncomputable def nG:Array Keyed->Array Keyed->StateT SortSt Sem (Array Keyed):=sortPriv% PySem.Builtin.mergeLo
noncomputable def oR:Array Keyed->Array Keyed->StateT SortSt Sem (Array Keyed):=sortPriv% PySem.Builtin.mergeHi
theorem all2{e d:Type}{P:e×d->Prop}(h:∀b a,P (b,a)):∀x,P x:=λ(b,a)=>h b a
theorem jf{g f e:Type}{P:g×f×e->Prop}(h:∀d b a,P (d,b,a)):∀x,P x:=λ(d,b,a)=>h d b a
theorem vQ{m l j i g:Type}{P:m×l×j×i×g->Prop}(h:∀f e d b a,P (f,e,d,b,a)):∀x,P x:=λ(f,e,d,b,a)=>h f e d b a
theorem tF{o n m l j i:Type}{P:o×n×m×l×j×i->Prop}(h:∀g f e d b a,P (g,f,e,d,b,a)):∀x,P x:=λ(g,f,e,d,b,a)=>h g f e d b a
theorem Aq{q p o n m l j:Type}{P:q×p×o×n×m×l×j->Prop}(h:∀i g f e d b a,P (i,g,f,e,d,b,a)):∀x,P x:=λ(i,g,f,e,d,b,a)=>h i g f e d b a
variable{prog:Program}{w:World}{A:Around}{E:Z3}{s:Shared}
structure Iv(prog:Program)(w:World)(A:Around)(E:Z3)(s:Shared)(κ:SortKind)(G:Keyed->Prop)(r:Keyed->Keyed->Bool):Prop where
 run:∀(st:SortSt)(x y:Keyed)(Q:Option Bool->SortSt->Prop),kindOf st=κ->G x->G y->Q (some (r x y)) st->wpS (model prog w) A E s (lt' x y) Q st
 Pk:∀x y,G x->G y->r x y=true->r y x=false
 trans:∀x y z,G x->G y->G z->r y x=false->r z y=false->r z x=false
variable{κ:SortKind}{G:Keyed->Prop}{r:Keyed->Keyed->Bool}
noncomputable def le(r:Keyed->Keyed->Bool)(x y:Keyed):Prop:=r y x=false
theorem eU{a:Array Keyed}{i:Nat}{Q:Keyed->SortSt->Prop}{b:SortSt}(d:i<a.size)(h:Q a[i] b):wpS (model prog w) A E s (elem' a i) Q b:=by
 rw[elem'_eq,getElem?_pos a i d];exact Zi h
noncomputable def KZ(r:Keyed->Keyed->Bool)(left:Bool)(a x:Keyed):Bool:=if left then r x a else !(r a x)
noncomputable def bf(left:Bool)(a:Keyed)(b:Array Keyed)(i:Nat):StateT SortSt Sem (Option Bool):=do
 let x ← elem' b i
 if left=true then lt' x a else do
  let l ← lt' a x
  pure (Option.map (λx=>!x) l)
theorem lC(C:Iv prog w A E s κ G r){left:Bool}{b:Keyed}{a:Array Keyed}{i:Nat}{Q:Option Bool->SortSt->Prop}{d:SortSt}(e:kindOf d=κ)(j:G b)(l:∀x∈a,G x)(f:i<a.size)(h:Q (some (KZ r left b a[i])) d) :
  wpS (model prog w) A E s (bf left b a i) Q d:=by
 unfold bf;refine ZZ (eU f ?_);have g:=l _ (Zh f);cases left with
 |true=>exact C.run d _ _ _ e g j h
 |false=>exact ZZ (C.run d _ _ _ e j g (Zi h))
theorem tV(C:Iv prog w A E s κ G r){left:Bool}{v:Keyed}{d:Array Keyed}{b n a:Nat}{Q:Option Nat->SortSt->Prop}{y:SortSt}(M:kindOf y=κ)(S:G v)(U:∀x∈d,G x)(hb:b+n<=d.size)(hh:a<n)(H:∀i j (g:b+i<d.size) (Z:b+j<d.size),i<=j->j<n->KZ r left v d[b+j]=true->KZ r left v d[b+i]=true)(h:∀k,k<=n->(∀i (g:b+i<d.size),i<k->KZ r left v d[b+i]=true)->(∀i (g:b+i<d.size),k<=i->i<n->KZ r left v d[b+i]=false)->Q (some k) y) :
  wpS (model prog w) A E s (qo left v d b n a) Q y:=by
 obtain⟨f,F⟩:∃f:Nat->Bool,∀i (g:b+i<d.size),f i=KZ r left v d[b+i]:=⟨λi=>if g:b+i<d.size then KZ r left v d[b+i] else false,λi g=>dif_pos g⟩
 have J:∀i j,i<=j->j<n->f j=true->f i=true:=λi j Kl Z e=>by
  rw[F j (by lia)]at e;rw[F i (by lia)];exact H i j (by lia) (by lia) Kl Z e
 have fin:∀k,k<=n->(∀i,i<k->f i=true)->(∀i,k<=i->i<n->f i=false)->Q (some k) y:=λk R P O =>
  h k R (λi g MT=>by rw[← F i g];exact P i MT) λi g N h5=>by rw[← F i g];exact O i N h5
 clear h H;unfold qo;change wpS (model prog w) A E s (_>>=_) Q y;dsimp only;have h0:b+a<d.size:=by lia
 refine ZZ (lC C M S U h0 ?_);dsimp only;rw[← F _ h0];cases e0:f a with
 |true =>
  rw[Zs rfl];refine ZZ (Y5 (Yc
   (I:=λx c l=>y=l/\c.1=none/\f (a+c.2.1)=true/\c.2.1<c.2.2/\a+c.2.1<n/\x<c.2.2)
   (Q:=λc l=>y=l/\c.1=none/\f (a+c.2.1)=true/\c.2.1<c.2.2/\a+c.2.1<n/\(a+c.2.2<n->f (a+c.2.2)=false)) ?step1 ?fin1 ?init1) ?post1)
  case init1=>exact⟨rfl,rfl,e0,by decide,by dsimp only;omega,by decide⟩
  case fin1 =>
   refine jf λD q p=>?_;rintro l ⟨rfl,e1,u,o,m,t⟩;dsimp only at *;exact⟨rfl,e1,u,o,m,λz=>by(try dsimp only at z);lia⟩
  case step1 =>
   intro x;refine jf λD q p=>?_;rintro l _ X ⟨rfl,e1,u,o,m,t⟩;dsimp only at *;split
   ·exact Zi ⟨rfl,rfl,u,o,m,λz=>by(try dsimp only at z);lia⟩
   ·have B:b+(a+p)<d.size:=by lia
    refine ZZ (lC C M S U B ?_);dsimp only;rw[← F _ B];cases e:f (a+p) with
    |true=>exact Zi ⟨rfl,rfl,e,by dsimp only;lia,by dsimp only;lia,by dsimp only;lia⟩
    |false=>exact Zi ⟨rfl,rfl,u,o,m,λ_=>e⟩
  case post1 =>
   refine jf λD q p=>?_;rintro l ⟨rfl,e1,u,o,m,t⟩;dsimp only at *;subst e1;dsimp only;have R:a+q+1<=a+min p (n-a):=by omega
   have P:a+min p (n-a)<=n:=by omega
   have O:∀i,i<a+q+1->f i=true:=λi g=>J i _ (by exact YT g) (by omega) u;have N:∀i,a+min p (n-a)<=i->i<n->f i=false:=λi g L=>by
    cases e2:f i with
    |false=>rfl
    |true =>
     have:=t (by lia);rw[J _ i (by lia) L e2]at this;cases this
   clear u o m t;refine ZZ (Y5 (Yc
    (I:=λx c l=>y=l/\c.1=none/\c.2.1<=c.2.2/\c.2.2<=n/\(∀i,i<c.2.1->f i=true)/\(∀i,c.2.2<=i->i<n->f i=false)/\c.2.2-c.2.1+x<=n)
    (Q:=λc l=>y=l/\c.1=none/\c.2.1=c.2.2/\c.2.2<=n/\(∀i,i<c.2.1->f i=true)/\(∀i,c.2.2<=i->i<n->f i=false)) ?step ?fin ?init) ?post)
   case init=>exact⟨rfl,rfl,R,P,O,N,by(try dsimp only);omega⟩
   case fin =>
    refine jf λD q p=>?_;rintro l ⟨rfl,e1,u,o,m,t,Y⟩
    try dsimp only at *
    exact⟨rfl,e1,by(try dsimp only at *);lia,o,m,t⟩
   case step =>
    intro x;refine jf λD q p=>?_;rintro l _ X ⟨rfl,e1,u,o,m,t,Y⟩
    try dsimp only at *
    split
    ·exact Zi ⟨rfl,rfl,by(try dsimp only at *);lia,o,m,t⟩
    ·have B:b+(q+(p-q)/2)<d.size:=by lia
     refine ZZ (lC C M S U B ?_)
     try dsimp only
     rw[← F _ B];cases e:f (q+(p-q)/2) with
     |true =>
      rw[Zs rfl];exact Zi ⟨rfl,rfl,by(try dsimp only);lia,o,λi g=>J i _ (by(try dsimp only at g);exact YT g) (by lia) e,t,by(try dsimp only);lia⟩
     |false =>
      rw[Zp Zg];refine Zi ⟨rfl,rfl,by(try dsimp only);exact Z1 _ _,by(try dsimp only);lia,m,λi g L=>?_,by(try dsimp only);omega⟩
      try dsimp only at g
      cases e2:f i with
      |false=>rfl
      |true=>rw[J _ i g L e2]at e;cases e
   case post =>
    refine jf λD q p=>?_;rintro l ⟨rfl,e1,u,o,m,t⟩
    try dsimp only at *
    subst e1;exact Zi (fin p o (λi g=>m i (by lia)) t)
 |false =>
  rw[Zp Zg];refine ZZ (Y5 (Yc
   (I:=λx c l=>y=l/\c.1=none/\f (a-c.2.1)=false/\c.2.1<c.2.2/\c.2.1<=a/\x<c.2.2)
   (Q:=λc l=>y=l/\c.1=none/\f (a-c.2.1)=false/\c.2.1<c.2.2/\c.2.1<=a/\(c.2.2<=a->f (a-c.2.2)=true)) ?step1 ?fin1 ?init1) ?post1)
  case init1=>exact⟨rfl,rfl,e0,by decide,by dsimp only;exact ZR _,by decide⟩
  case fin1 =>
   refine jf λD q p=>?_;rintro l ⟨rfl,e1,u,o,m,t⟩;dsimp only at *;exact⟨rfl,e1,u,o,m,λz=>by(try dsimp only at z);lia⟩
  case step1 =>
   intro x;refine jf λD q p=>?_;rintro l _ X ⟨rfl,e1,u,o,m,t⟩;dsimp only at *;split
   ·exact Zi ⟨rfl,rfl,u,o,m,λz=>by(try dsimp only at z);lia⟩
   ·have B:b+(a-p)<d.size:=by lia
    refine ZZ (lC C M S U B ?_);dsimp only;rw[← F _ B];cases e:f (a-p) with
    |true=>exact Zi ⟨rfl,rfl,u,o,m,λ_=>e⟩
    |false=>exact Zi ⟨rfl,rfl,e,by dsimp only;lia,by dsimp only;lia,by dsimp only;lia⟩
  case post1 =>
   refine jf λD q p=>?_;rintro l ⟨rfl,e1,u,o,m,t⟩;dsimp only at *;subst e1;dsimp only;have R:a+1-min p (a+1)<=a-q:=by omega
   have P:a-q<=n:=by lia
   have O:∀i,i<a+1-min p (a+1)->f i=true:=λi g=>J i _ (by omega) (by omega) (t (by omega));have N:∀i,a-q<=i->i<n->f i=false:=λi g L=>by
    cases e2:f i with
    |false=>rfl
    |true=>rw[J _ i (by omega) L e2]at u;cases u
   clear u o m t;refine ZZ (Y5 (Yc
    (I:=λx c l=>y=l/\c.1=none/\c.2.1<=c.2.2/\c.2.2<=n/\(∀i,i<c.2.1->f i=true)/\(∀i,c.2.2<=i->i<n->f i=false)/\c.2.2-c.2.1+x<=n)
    (Q:=λc l=>y=l/\c.1=none/\c.2.1=c.2.2/\c.2.2<=n/\(∀i,i<c.2.1->f i=true)/\(∀i,c.2.2<=i->i<n->f i=false)) ?step ?fin ?init) ?post)
   case init=>exact⟨rfl,rfl,R,P,O,N,by(try dsimp only);omega⟩
   case fin =>
    refine jf λD q p=>?_;rintro l ⟨rfl,e1,u,o,m,t,Y⟩
    try dsimp only at *
    exact⟨rfl,e1,by(try dsimp only at *);lia,o,m,t⟩
   case step =>
    intro x;refine jf λD q p=>?_;rintro l _ X ⟨rfl,e1,u,o,m,t,Y⟩
    try dsimp only at *
    split
    ·exact Zi ⟨rfl,rfl,by(try dsimp only at *);lia,o,m,t⟩
    ·have B:b+(q+(p-q)/2)<d.size:=by lia
     refine ZZ (lC C M S U B ?_)
     try dsimp only
     rw[← F _ B];cases e:f (q+(p-q)/2) with
     |true =>
      rw[Zs rfl];exact Zi ⟨rfl,rfl,by(try dsimp only);lia,o,λi g=>J i _ (by(try dsimp only at g);exact YT g) (by lia) e,t,by(try dsimp only);lia⟩
     |false =>
      rw[Zp Zg];refine Zi ⟨rfl,rfl,by(try dsimp only);exact Z1 _ _,by(try dsimp only);lia,m,λi g L=>?_,by(try dsimp only);omega⟩
      try dsimp only at g
      cases e2:f i with
      |false=>rfl
      |true=>rw[J _ i g L e2]at e;cases e
   case post =>
    refine jf λD q p=>?_;rintro l ⟨rfl,e1,u,o,m,t⟩
    try dsimp only at *
    subst e1;exact Zi (fin p o (λi g=>m i (by lia)) t)
end TS
end
section
open PySem PyProof.Rows
namespace TS
variable{prog:Program}{w:World}{A:Around}{E:Z3}{s:Shared}{κ:SortKind}{G:Keyed->Prop}{r:Keyed->Keyed->Bool}
theorem Iv.refl(C:Iv prog w A E s κ G r){x:Keyed}(h:G x):le r x x:=by
 unfold le;cases e:r x x with
 |false=>rfl
 |true=>exact absurd (C.Pk x x h h e) (by rw[e];exact λz=>nomatch z)
theorem Iv.tr(C:Iv prog w A E s κ G r){x y z:Keyed}(d:G x)(b:G y)(a:G z)(f:le r x y)(e:le r y z):le r x z:=C.trans x y z d b a f e
theorem Iv.IW(C:Iv prog w A E s κ G r){x y:Keyed}(b:G x)(a:G y)(h:r x y=true):le r x y:=C.Pk x y b a h
noncomputable def Seg(r:Keyed->Keyed->Bool)(a:Array Keyed)(b d:Nat):Prop:=∀i j (f:i<a.size) (e:j<a.size),b<=i->i<=j->j<d->le r a[i] a[j]
theorem h9(C:Iv prog w A E s κ G r){left:Bool}{d:Keyed}{b:Array Keyed}{a n hint:Nat}{Q:Option Nat->SortSt->Prop}{m:SortSt}(v:kindOf m=κ)(l:G d)(t:∀x∈b,G x)(z:a+n<=b.size)(y:hint<n)(u:Seg r b a (a+n))(h:∀k,k<=n->(∀i (f:i<b.size),a<=i->i<a+k->le r b[i] d)->(∀i (f:i<b.size),a+k<=i->i<a+n->le r d b[i])->Q (some k) m) :
  wpS (model prog w) A E s (qo left d b a n hint) Q m:=by
 have g:∀i (f:i<b.size),G b[i]:=λi f=>t _ (Zh f);refine tV C v l t z y (λi j f o M L e=>?_) λk H F D=>h k H (λi f q B=>?_) λi f q B=>?_
 ·have s1:=u (a+i) (a+j) f o (by exact Z1 _ _) (by lia) (by lia);cases left with
  |true =>
   unfold KZ at e ⊢;rw[Zs rfl]at e ⊢;cases e2:r b[a+i] d with
   |true=>rfl
   |false=>rw[show r b[a+j] d=false from C.tr l (g _ f) (g _ o) e2 s1]at e;cases e
  |false =>
   unfold KZ at e ⊢;rw[Zp Zg]at e ⊢;have J:r d b[a+j]=false:=by simpa using e
   have:=C.tr (g _ f) (g _ o) l s1 J;rw[show r d b[a+i]=false from this];rfl
 ·have e:=F (i-a) (by lia) (by lia);have p:a+(i-a)=i:=by exact W0 q
  simp only[p]at e;cases left with
  |true =>
   unfold KZ at e;rw[Zs rfl]at e;exact C.IW (g _ f) l e
  |false =>
   unfold KZ at e;rw[Zp Zg]at e;show r d b[i]=false;simpa using e
 ·have e:=D (i-a) (by lia) (by lia) (by omega);have p:a+(i-a)=i:=by lia
  simp only[p]at e;cases left with
  |true =>
   unfold KZ at e;rw[Zs rfl]at e;exact e
  |false =>
   unfold KZ at e;rw[Zp Zg]at e;exact C.IW l (g _ f) (by simpa using e)
theorem rL{a:Array Keyed}{i:Nat}{x:Keyed}(h:x∈a.toList.drop i):∃j,∃(d:j<a.size),i<=j/\a[j]=x:=by
 obtain⟨k,b,e⟩:=Ym h;rw[Z7]at b;rw[Xl]at e;have:i+k<a.size:=by simpa using(by omega:i+k<a.toList.length)
 exact⟨i+k,this,by exact Z1 _ _,by simpa using e⟩
theorem kH{a:Array Keyed}{i k:Nat}{x:Keyed}(h:x∈(a.toList.drop i).take k):∃j,∃(d:j<a.size),i<=j/\j<i+k/\a[j]=x:=by
 obtain⟨m,b,e⟩:=Ym h;rw[ZC,Z7]at b;rw[Xm,Xl]at e;have:i+m<a.size:=by simpa using(by omega:i+m<a.toList.length)
 exact⟨i+m,this,by exact Z1 _ _,by lia,by simpa using e⟩
theorem vE{a:Array Keyed}{i:Nat}(h:i<a.size):a.toList.drop i=a[i] :: a.toList.drop (i+1):=by
 have:i<a.toList.length:=by simpa using h
 rw[Y2 this];simp
theorem jG{a:Array Keyed}(h:Seg r a 0 a.size):a.toList.Pairwise (le r):=by
 rw[YL];intro i j d b e;simpa using h i j (by simpa using d) (by simpa using b) (ZR _) (by exact Z0 e) (by simpa using b)
theorem xI(C:Iv prog w A E s κ G r){a:Array Keyed}(f:∀x∈a,G x)(h:a.toList.Pairwise (le r)):Seg r a 0 a.size:=by
 intro i j d e _ g _;rcases Wb i j with l | b
 ·have:=YL.mp h i j (by simpa using d) (by simpa using e) l;simpa using this
 ·have:i=j:=by exact Nat.le_antisymm g b
  subst this;exact C.refl (f _ (Zh d))
structure MI(r:Keyed->Keyed->Bool)(a b out:Array Keyed)(ia ib:Nat):Prop where
 pm:(out.toList++(a.toList.drop ia++b.toList.drop ib)).Perm (a.toList++b.toList)
 so:out.toList.Pairwise (le r)
 la:∀x∈out.toList,∀y∈a.toList.drop ia,le r x y
 lb:∀x∈out.toList,∀y∈b.toList.drop ib,le r x y
noncomputable def MR(r:Keyed->Keyed->Bool)(a b d:Array Keyed):Prop:=d.toList.Perm (a.toList++b.toList)/\d.toList.Pairwise (le r)
theorem MI.size{a b out:Array Keyed}{e d:Nat}(m:MI r a b out e d)(g:e<=a.size)(f:d<=b.size):out.size+(a.size-e)+(b.size-d)=a.size+b.size:=by
 have:=m.pm.length_eq;simp at this;lia
theorem MI.Kq{a b f:Array Keyed}{d l k:Nat}(m:MI r a b f d l)(p:Seg r a 0 a.size)(q:∀i (o:i<a.size),d<=i->i<d+k->∀j (n:j<b.size),l<=j->le r a[i] b[j]) :
  MI r a b (f++a.extract d (d+k)) (d+k) l:=by
 have e1:(f++a.extract d (d+k)).toList=f.toList++(a.toList.drop d).take k:=by
  simp[List.extract_eq_drop_take]
 have e2:a.toList.drop d=(a.toList.drop d).take k++a.toList.drop (d+k):=by
  rw[← List.drop_drop];exact(YS _ _).symm
 have h:(a.toList.drop d).Pairwise (le r):=(jG p).drop;rw[e2,Z5]at h;refine⟨?_,?_,?_,?_⟩
 ·rw[e1];have:=m.pm;rw[e2]at this;simpa[Zd] using this
 ·rw[e1,Z5];refine⟨m.so,h.1,λx e y g=>m.la x e y ?_⟩;exact YX g
 ·rw[e1];intro x e y g;rcases Ze.mp e with e | e
  ·exact m.la x e y (by rw[e2];exact ZP _ g)
  ·exact h.2.2 x e y g
 ·rw[e1];intro x e y g;rcases Ze.mp e with e | e
  ·exact m.lb x e y g
  ·obtain⟨i,o,v,u,rfl⟩:=kH e;obtain⟨j,n,t,rfl⟩:=rL g;exact q i o v u j n t
theorem MI.swap{a b d:Array Keyed}{f e:Nat}(m:MI r a b d f e):MI r b a d e f :=
 ⟨((YJ.append_left _).trans m.pm).trans YJ,m.so,m.lb,m.la⟩
theorem MI.LK{a b e:Array Keyed}{f d k:Nat}(m:MI r a b e f d)(g:Seg r b 0 b.size)(h:∀i (n:i<b.size),d<=i->i<d+k->∀j (l:j<a.size),f<=j->le r b[i] a[j]) :
  MI r a b (e++b.extract d (d+k)) f (d+k):=(m.swap.Kq g h).swap
theorem yE{a b:Array Keyed}{i:Nat}(h:i<a.size):b.push a[i]=b++a.extract i (i+1):=by
 apply Array.ext';have:(a.extract i (i+1)).toList=[a[i]]:=by
  have e:i<a.toList.length:=by simpa using h
  simp[List.extract_eq_drop_take,Y2 e]
 rw[YZ,this,W6]
theorem MI.Hu{a b e:Array Keyed}{d f:Nat}(m:MI r a b e d f)(l:Seg r a 0 a.size)(h:d<a.size)(n:∀j (g:j<b.size),f<=j->le r a[d] b[j]):MI r a b (e.push a[d]) (d+1) f:=by
 rw[yE h];refine m.Kq l λi p t q j g o=>?_;have:i=d:=by lia
 subst this;exact n j g o
theorem MI.ID{a b d:Array Keyed}{f e:Nat}(m:MI r a b d f e)(g:Seg r b 0 b.size)(h:e<b.size)(i:∀j (l:j<a.size),f<=j->le r b[e] a[j]):MI r a b (d.push b[e]) f (e+1):=(m.swap.Hu g h i).swap
theorem m7{a:Array Keyed}{i:Nat}:(a.extract i a.size).toList=a.toList.drop i:=by
 rw[X2,List.extract_eq_drop_take,Yr (by simp)]
theorem MI.fin{a b d:Array Keyed}{g f:Nat}(m:MI r a b d g f)(n:Seg r a 0 a.size)(l:Seg r b 0 b.size)(h:g=a.size\/f=b.size):MR r a b (d++a.extract g a.size++b.extract f b.size):=by
 have e:(d++a.extract g a.size++b.extract f b.size).toList=d.toList++(a.toList.drop g++b.toList.drop f):=by
  rw[YZ,YZ,m7,m7,Zd]
 refine⟨by rw[e];exact m.pm,?_⟩;rw[e,Z5];refine⟨m.so,?_,λx j y i=>?_⟩
 ·rcases h with h | h
  ·rw[YV (as:=a.toList) (by simp[h]),Yg];exact(jG l).drop
  ·rw[YV (as:=b.toList) (by simp[h]),ZQ];exact(jG n).drop
 ·rcases Ze.mp i with i | i
  ·exact m.la x j y i
  ·exact m.lb x j y i
theorem MI.last{a b d:Array Keyed}{f i:Nat}(m:MI r a b d f i)(o:Seg r b 0 b.size)(h:f+1=a.size)(p:∀j (n:j<b.size),le r b[j] a[f]):MR r a b (d++b.extract i b.size++a.extract f a.size):=by
 have e:(d++b.extract i b.size++a.extract f a.size).toList=d.toList++(b.toList.drop i++a.toList.drop f):=by
  rw[YZ,YZ,m7,m7,Zd]
 have e2:a.toList.drop f=[a[f]]:=by rw[vE (by omega),YV (by simp;lia)]
 refine⟨by rw[e];exact(YJ.append_left _).trans m.pm,?_⟩;rw[e,Z5];refine⟨m.so,?_,λx l y g=>?_⟩
 ·rw[Z5];refine⟨(jG o).drop,by rw[e2];exact List.pairwise_singleton _ _,λx l y g=>?_⟩;rw[e2]at g;obtain⟨j,n,_,rfl⟩:=rL l;rw[Za.mp g];exact p j n
 ·rcases Ze.mp g with g | g
  ·exact m.lb x l y g
  ·exact m.la x l y g
end TS
end
section
open PySem PyProof.Rows
namespace TS
variable{prog:Program}{w:World}{A:Around}{E:Z3}{s:Shared}{κ:SortKind}{G:Keyed->Prop}{r:Keyed->Keyed->Bool}
noncomputable def ir(a b:SortSt):Prop:=kindOf b=kindOf a/\arrOf b=arrOf a/\pendingOf b=pendingOf a/\failedOf b=failedOf a
noncomputable def fH:Nat->StateT SortSt Sem Unit:=sortPriv% PySem.Builtin.setMinGallop
theorem iN{g:Nat}{Q:Unit->SortSt->Prop}{a d:SortSt}(e:ir d a)(h:∀b,ir d b->Q () b):wpS (model prog w) A E s (fH g) Q a:=by
 unfold fH;exact X6 (h _ e)
theorem iM{t:String}{Q:Unit->SortSt->Prop}{a:SortSt}(h:Q () a):wpS (model prog w) A E s (liftM (rule t)) Q a:=wpS_lift (wpAny_rule ⟨rfl,h⟩)
theorem aD{α:Type}{c:Prop}[Decidable c]{x y:StateT SortSt Sem α}{Q:α->SortSt->Prop}{b:SortSt}(d:c->wpS (model prog w) A E s x Q b)(e:¬c->wpS (model prog w) A E s y Q b) :
  wpS (model prog w) A E s (if c then x else y) Q b:=by
 by_cases a:c
 ·rw[Zs a];exact d a
 ·rw[Zp a];exact e a
theorem u6{α:Type}{c:Nat->Prop}[∀n,Decidable (c n)]{d a:Nat->StateT SortSt Sem α}{Q:α->SortSt->Prop}{b:SortSt}(e:∀n,d n=a (n-1))(h:∀n,wpS (model prog w) A E s (a n) Q b):∀n,wpS (model prog w) A E s (if c n then d n else a n) Q b :=
 λn=>aD (λ_=>by rw[e];exact h _) λ_=>h n
theorem bF{α:Type}{a:Array Keyed}{i:Nat}{c:Keyed->Prop}[∀v,Decidable (c v)]{x y:Keyed->StateT SortSt Sem α}{Q:α->SortSt->Prop}{b:SortSt}(e:i<a.size)(d:c a[i]->wpS (model prog w) A E s (x a[i]) Q b)(f:¬c a[i]->wpS (model prog w) A E s (y a[i]) Q b) :
  wpS (model prog w) A E s (elem' a i >>= λv=>if c v then x v else y v) Q b:=ZZ (eU e (aD d f))
theorem yh{α:Type}{c d:Prop}[Decidable c][Decidable d]{x y z:StateT SortSt Sem α}{Q:α->SortSt->Prop}{a:SortSt}(g:c->wpS (model prog w) A E s x Q a)(f:¬c->d->wpS (model prog w) A E s y Q a)(b:¬c->¬d->wpS (model prog w) A E s z Q a) :
  wpS (model prog w) A E s (if c then x else if d then y else z) Q a:=aD g λe=>aD (f e) (b e)
theorem jD{α β:Type}{a:Array Keyed}{i:Nat}{m:Keyed->StateT SortSt Sem β}{f:Keyed->β->StateT SortSt Sem α}{Q:α->SortSt->Prop}{b:SortSt}(d:i<a.size)(h:wpS (model prog w) A E s (m a[i]) (λv e=>wpS (model prog w) A E s (f a[i] v) Q e) b) :
  wpS (model prog w) A E s (elem' a i >>= λu=>m u >>= λv=>f u v) Q b:=ZZ (eU d (ZZ h))
structure MC(G:Keyed->Prop)(r:Keyed->Keyed->Bool)(a b:Array Keyed):Prop where
 ga:∀x∈a,G x
 gb:∀x∈b,G x
 sa:Seg r a 0 a.size
 sb:Seg r b 0 b.size
 na:0<a.size
 nb:0<b.size
 first:le r b[0] a[0]
 last:∀j (hj:j<b.size),le r b[j] a[a.size-1]
theorem MC.IZ{a b:Array Keyed}(M:MC G r a b){i:Nat}(f:i<a.size)(h:i+1=a.size):∀j (d:j<b.size),le r b[j] a[i]:=by
 intro j d;have:=M.last j d;have e:a.size-1=i:=by lia
 simpa[e] using this
theorem MC.bA(C:Iv prog w A E s κ G r){a b:Array Keyed}(M:MC G r a b){i j:Nat}(e:i<a.size)(f:j<b.size)(h:le r b[j] a[i]):∀k (d:k<a.size),i<=k->le r b[j] a[k]:=λk d g =>
 C.tr (M.gb _ (Zh f)) (M.ga _ (Zh e)) (M.ga _ (Zh d)) h (M.sa i k e d (ZR _) g d)
theorem MC.aB(C:Iv prog w A E s κ G r){a b:Array Keyed}(M:MC G r a b){i j:Nat}(f:i<a.size)(e:j<b.size)(h:le r a[i] b[j]):∀k (d:k<b.size),j<=k->le r a[i] b[k]:=λk d g =>
 C.tr (M.ga _ (Zh f)) (M.gb _ (Zh e)) (M.gb _ (Zh d)) h (M.sb j k e d (ZR _) g d)
theorem jQ{a:Array Keyed}(h:Seg r a 0 a.size)(d e:Nat):Seg r a d e:=λi j g b m f l=>h i j g b (ZR _) f b
theorem ER(C:Iv prog w A E s κ G r){a b:Array Keyed}{D:SortSt}{Q:Array Keyed->SortSt->Prop}(hk:kindOf D=κ)(M:MC G r a b)(h:∀res o,ir D o->MR r a b res->Q res o) :
  wpS (model prog w) A E s (nG a b) Q D:=by
 have T7:=M.na;have hnb:=M.nb;unfold nG;change wpS (model prog w) A E s (_>>=_) Q D;dsimp only;refine ZZ (iM ?_);have m0:MI r a b #[] 0 0:=⟨by simp,by simp,by simp,by simp⟩
 have m1:MI r a b #[b[0]] 0 1:=m0.ID M.sb M.nb λj l _=>M.bA C M.na M.nb M.first j l (ZR _);have Nm:ir D D:=⟨rfl,rfl,rfl,rfl⟩
 refine bF M.nb (λe=>?_) λe1=>?_
 ·exact Zi (h _ _ Nm (m1.fin M.sa M.sb (.inr (by simpa using e))))
 refine aD (λe=>?_) λe2=>?_
 ·exact Zi (h _ _ Nm (m1.last M.sb (by simpa using e) (M.IZ M.na (by simpa using e))))
 have NO:1<b.size:=by simp at e1;lia
 have II:0+1<a.size:=by simp at e2;lia
 refine ZZ (WR ?_);refine ZZ (Y5 (Yc
  (I:=λx c o=>ir D o/\c.1=none/\MI r a b c.2.1 c.2.2.1 c.2.2.2.1/\c.2.2.1+1<a.size/\c.2.2.2.1<b.size/\x<c.2.1.size)
  (Q:=λc o=>ir D o/\∃res,c.1=some res/\MR r a b res) ?step ?fin ?init) ?post)
 case init=>exact⟨Nm,rfl,m1,II,NO,by simp⟩
 case fin =>
  refine vQ λO out u B mg o d=>?_;have kp:=d.1;have t:=d.2.1;have m:=d.2.2.1;have p:=d.2.2.2.1;have f:=d.2.2.2.2.1;have J:=d.2.2.2.2.2;clear d;dsimp only at *;have:=m.size (by lia) (by exact Z0 f);lia
 case post =>
  refine vQ λO out u B mg=>?_;rintro o ⟨kp,res,t,p⟩;dsimp only at *;subst t;exact Zi (h _ _ kp p)
 case step =>
  intro x;refine vQ λO out u B mg o _ hx d=>?_;have kp:=d.1;have t:=d.2.1;have m:=d.2.2.1;have p:=d.2.2.2.1;have f:=d.2.2.2.2.1;have J:=d.2.2.2.2.2;clear d;dsimp only at *;refine ZZ (Y5 (Yc
   (I:=λy c o=>ir D o/\c.1=none/\MI r a b c.2.1 c.2.2.1 c.2.2.2.1/\c.2.2.1+1<a.size/\c.2.2.2.1<b.size/\x+y<c.2.1.size)
   (Q:=λc o=>ir D o/\((∃res,c.1=some res/\MR r a b res)\/(c.1=none/\MI r a b c.2.1 c.2.2.1 c.2.2.2.1/\c.2.2.1+1<a.size/\c.2.2.2.1<b.size/\x+1<c.2.1.size))) ?step2 ?fin2 ?init2) ?post2)
  case init2=>exact⟨kp,rfl,m,p,f,by simpa using J⟩
  case fin2 =>
   refine tF λO out u B ac bc o d=>?_;have kp:=d.1;have t:=d.2.1;have m:=d.2.2.1;have p:=d.2.2.2.1;have f:=d.2.2.2.2.1;have J:=d.2.2.2.2.2;clear d;dsimp only at *;exact⟨kp,.inr ⟨t,m,p,f,by(try dsimp only);lia⟩⟩
  case step2 =>
   intro y;refine tF λO out u B ac bc o _ hy d=>?_;have kp:=d.1;have t:=d.2.1;have m:=d.2.2.1;have p:=d.2.2.2.1;have f:=d.2.2.2.2.1;have J:=d.2.2.2.2.2;clear d;dsimp only at *;have R:u<a.size:=by exact Ws p
   have gA:=M.ga _ (Zh R);have gB:=M.gb _ (Zh f);refine jD f (eU R ?_);refine ZZ (C.run _ _ _ _ (kp.1.trans hk) gB gA ?_);dsimp only;cases e:r b[B] a[u] with
   |true =>
    rw[Zs rfl];have H:=m.ID M.sb f (M.bA C R f (C.IW gB gA e));refine bF f (λN=>?_) λN=>?_
    ·exact Zi ⟨kp,.inl ⟨_,rfl,H.fin M.sa M.sb (.inr (by simpa using N))⟩⟩
    ·have JD:B+1<b.size:=by simp at N;lia
     refine aD (λ_=>?_) λ_=>?_
     ·exact Zi ⟨kp,.inr ⟨rfl,H,p,JD,by simp;lia⟩⟩
     ·exact Zi ⟨kp,rfl,H,p,JD,by simp;lia⟩
   |false =>
    rw[Zp Zg];have H:=m.Hu M.sa R (M.aB C R f e);refine bF R (λN=>?_) λN=>?_
    ·exact Zi ⟨kp,.inl ⟨_,rfl,H.last M.sb (by simpa using N) (M.IZ (by omega) (by simpa using N))⟩⟩
    ·have JD:u+1+1<a.size:=by simp at N;lia
     refine aD (λ_=>?_) λ_=>?_
     ·exact Zi ⟨kp,.inr ⟨rfl,H,JD,f,by simp;lia⟩⟩
     ·exact Zi ⟨kp,rfl,H,JD,f,by simp;lia⟩
  case post2 =>
   refine tF λO out u B ac bc=>?_;rintro o ⟨kp,⟨res,t,p⟩ | ⟨t,m,p,f,J⟩⟩
   ·dsimp only at *;subst t;exact Zi ⟨kp,res,rfl,p⟩
   ·dsimp only at *;subst t;dsimp only;refine ZZ (iM ?_);refine ZZ (Y5 (Yc
     (I:=λy c o=>ir D o/\c.1=none/\MI r a b c.2.1 c.2.2.1 c.2.2.2.1/\c.2.2.1+1<a.size/\c.2.2.2.1<b.size/\x+1<c.2.1.size)
     (Q:=λc o=>ir D o/\((∃res,c.1=some res/\MR r a b res)\/(c.1=none/\MI r a b c.2.1 c.2.2.1 c.2.2.2.1/\c.2.2.1+1<a.size/\c.2.2.2.1<b.size/\x+1<c.2.1.size))) ?step3 ?fin3 ?init3) ?post3)
    case init3=>exact⟨kp,rfl,m,p,f,J⟩
    case fin3 =>
     refine tF λO out u B ac bc o d=>?_;have kp:=d.1;have t:=d.2.1;have m:=d.2.2.1;have p:=d.2.2.2.1;have f:=d.2.2.2.2.1;have J:=d.2.2.2.2.2;clear d;exact⟨kp,.inr ⟨t,m,p,f,J⟩⟩
    case post3 =>
     refine Aq λO out u B mg ac bc=>?_;rintro o ⟨kp,⟨res,t,p⟩ | ⟨t,m,p,f,J⟩⟩
     ·dsimp only at *;subst t;exact Zi ⟨kp,res,rfl,p⟩
     ·dsimp only at *;subst t;dsimp only;exact ZZ (iN kp λY n=>Zi ⟨n,rfl,m,p,f,J⟩)
    case step3 =>
     intro y;refine Aq λO out u B mg ac bc o _ hy d=>?_;have kp:=d.1;have t:=d.2.1;have m:=d.2.2.1;have p:=d.2.2.2.1;have f:=d.2.2.2.2.1;have J:=d.2.2.2.2.2;clear d;dsimp only at *;have both:∀{mg:Nat}{F:Unit->StateT SortSt Sem (ForInStep (Option (Array Keyed)×Array Keyed×Nat×Nat×Nat×Nat×Nat))}{P},(∀Y,ir D Y->wpS (model prog w) A E s (F ()) P Y)->wpS (model prog w) A E s (fH mg>>=F) P o:=λhF=>ZZ (iN kp λY n=>hF Y n);revert mg;refine u6 (λ_=>rfl) λXD=>?_;refine both λY n=>?_;have R:u<a.size:=by exact Ws p
     have gB:=M.gb _ (Zh f);refine jD f (h9 C (n.1.trans hk) gB M.ga (by lia) (by exact WC R) (jQ M.sa _ _) λk LR KY N6=>?_);dsimp only;refine aD (λe5=>?_) λe5=>?_
     ·have H:=m.Kq (k:=k) M.sa (λi L h1 h2 j l h3=>C.tr (M.ga _ (Zh L)) gB (M.gb _ (Zh l)) (KY i L h1 h2) (M.sb _ j f l (ZR _) h3 l));refine yh (λq=>?_) (λq g=>?_) λq g=>?_
      ·exact Zi ⟨n,.inl ⟨_,rfl,H.last M.sb (by simpa using q) (M.IZ (by simp at q;lia) (by simpa using q))⟩⟩
      ·exact Zi ⟨n,.inl ⟨_,rfl,H.fin M.sa M.sb (.inl (by simpa using g))⟩⟩
      have v:u+k<a.size:=by simp at q g;lia
      have Oa:u+k+1<a.size:=by simp at q g;lia
      have hle:∀j (l:j<a.size),u+k<=j->le r b[B] a[j]:=λj l h=>N6 j l h (by lia);clear q;have S:=H.ID M.sb f hle;refine bF f (λU=>?_) λU=>?_
      ·exact Zi ⟨n,.inl ⟨_,rfl,S.fin M.sa M.sb (.inr (by simpa using U))⟩⟩
      have NN:B+1<b.size:=by simp at U;lia
      refine jD v (h9 C (n.1.trans hk) (M.ga _ (Zh v)) M.gb (by lia) (by exact WC NN) (jQ M.sb _ _) λk2 LQ Ik Ji=>?_);dsimp only;have Z:=S.LK (k:=k2) M.sb (λi L h1 h2 j l h3=>C.tr (M.gb _ (Zh L)) (M.ga _ (Zh v)) (M.ga _ (Zh l)) (Ik i L h1 h2) (M.sa _ j v l (ZR _) h3 l));refine aD (λe5=>?_) λe5=>?_
      ·refine aD (λq=>?_) λq=>?_
       ·exact Zi ⟨n,.inl ⟨_,rfl,Z.fin M.sa M.sb (.inr (by simpa using q))⟩⟩
       have z:=Z.Hu M.sa v (λj l h=>Ji j l h (by omega));refine bF v (λg=>?_) λg=>?_
       ·exact Zi ⟨n,.inl ⟨_,rfl,z.last M.sb (by simpa using g) (M.IZ (by simp at g;omega) (by simpa using g))⟩⟩
       have X:=g;simp at X;refine aD (λ_=>?_) λ_=>?_
       ·exact Zi ⟨n,.inr ⟨rfl,z,by(try dsimp only);lia,by(try dsimp only);(try simp at q);lia,by simp;lia⟩⟩
       ·exact Zi ⟨n,rfl,z,by(try dsimp only);lia,by(try dsimp only);(try simp at q);lia,by simp;lia⟩
      ·have z:=S.Hu M.sa v (λj l h=>Ji j l (by lia) (by omega));refine bF v (λg=>?_) λg=>?_
       ·exact Zi ⟨n,.inl ⟨_,rfl,z.last M.sb (by simpa using g) (M.IZ (by simp at g;omega) (by simpa using g))⟩⟩
       have X:=g;simp at X;refine aD (λ_=>?_) λ_=>?_
       ·exact Zi ⟨n,.inr ⟨rfl,z,by(try dsimp only);lia,by(try dsimp only);(try simp at q);omega,by simp;lia⟩⟩
       ·exact Zi ⟨n,rfl,z,by(try dsimp only);lia,by(try dsimp only);(try simp at q);omega,by simp;lia⟩
     ·have H:=m;have v:u<a.size:=by omega
      have hle:∀j (l:j<a.size),u<=j->le r b[B] a[j]:=λj l h=>N6 j l (by lia) (by lia);have S:=H.ID M.sb f hle;refine bF f (λU=>?_) λU=>?_
      ·exact Zi ⟨n,.inl ⟨_,rfl,S.fin M.sa M.sb (.inr (by simpa using U))⟩⟩
      have NN:B+1<b.size:=by simp at U;lia
      refine jD v (h9 C (n.1.trans hk) (M.ga _ (Zh v)) M.gb (by lia) (by exact WC NN) (jQ M.sb _ _) λk2 LQ Ik Ji=>?_);dsimp only;have Z:=S.LK (k:=k2) M.sb (λi L h1 h2 j l h3=>C.tr (M.gb _ (Zh L)) (M.ga _ (Zh v)) (M.ga _ (Zh l)) (Ik i L h1 h2) (M.sa _ j v l (ZR _) h3 l));refine aD (λe5=>?_) λe5=>?_
      ·refine aD (λq=>?_) λq=>?_
       ·exact Zi ⟨n,.inl ⟨_,rfl,Z.fin M.sa M.sb (.inr (by simpa using q))⟩⟩
       have z:=Z.Hu M.sa v (λj l h=>Ji j l h (by omega));refine bF v (λg=>?_) λg=>?_
       ·exact Zi ⟨n,.inl ⟨_,rfl,z.last M.sb (by simpa using g) (M.IZ (by simp at g;omega) (by simpa using g))⟩⟩
       have X:=g;simp at X;refine aD (λ_=>?_) λ_=>?_
       ·exact Zi ⟨n,.inr ⟨rfl,z,by(try dsimp only);lia,by(try dsimp only);(try simp at q);lia,by simp;lia⟩⟩
       ·exact Zi ⟨n,rfl,z,by(try dsimp only);lia,by(try dsimp only);(try simp at q);lia,by simp;lia⟩
      ·have z:=S.Hu M.sa v (λj l h=>Ji j l (by lia) (by omega));refine bF v (λg=>?_) λg=>?_
       ·exact Zi ⟨n,.inl ⟨_,rfl,z.last M.sb (by simpa using g) (M.IZ (by simp at g;omega) (by simpa using g))⟩⟩
       have X:=g;simp at X;refine aD (λ_=>?_) λ_=>?_
       ·exact Zi ⟨n,.inr ⟨rfl,z,by(try dsimp only);lia,by(try dsimp only);(try simp at q);omega,by simp;lia⟩⟩
       ·exact Zi ⟨n,rfl,z,by(try dsimp only);lia,by(try dsimp only);(try simp at q);omega,by simp;lia⟩
end TS
end
section
open PySem PyProof.Rows
namespace TS
variable{prog:Program}{w:World}{A:Around}{E:Z3}{s:Shared}{κ:SortKind}{G:Keyed->Prop}{r:Keyed->Keyed->Bool}
theorem zX{a:Array Keyed}{n:Nat}{x:Keyed}(h:x∈a.toList.take n):∃j,∃(d:j<a.size),j<n/\a[j]=x:=by
 obtain⟨m,b,e⟩:=Ym h;rw[ZC]at b;rw[Xm]at e;have:m<a.size:=by simpa using(by lia:m<a.toList.length)
 exact⟨m,this,by lia,by simpa using e⟩
structure HI(r:Keyed->Keyed->Bool)(a b out:Array Keyed)(na nb:Nat):Prop where
 pm:(a.toList.take na++(b.toList.take nb++out.toList.reverse)).Perm (a.toList++b.toList)
 so:out.toList.reverse.Pairwise (le r)
 la:∀x∈out.toList,∀y∈a.toList.take na,le r y x
 lb:∀x∈out.toList,∀y∈b.toList.take nb,le r y x
theorem HI.size{a b out:Array Keyed}{e d:Nat}(m:HI r a b out e d)(g:e<=a.size)(f:d<=b.size):out.size+e+d=a.size+b.size:=by
 have:=m.pm.length_eq;simp at this;lia
theorem HI.Kq{a b d:Array Keyed}{f n k:Nat}(m:HI r a b d f n)(q:Seg r a 0 a.size)(u:k<=f)(t:∀i (p:i<a.size),k<=i->i<f->∀j (o:j<b.size),j<n->le r b[j] a[i]) :
  HI r a b (d++(a.extract k f).reverse) k n:=by
 have e1:(d++(a.extract k f).reverse).toList.reverse=(a.toList.drop k).take (f-k)++d.toList.reverse:=by
  simp[List.extract_eq_drop_take]
 have e2:a.toList.take f=a.toList.take k++(a.toList.drop k).take (f-k):=by
  rw[← YS k (a.toList.take f),List.take_take,WO,YW u]
 have l:(a.toList.take f).Pairwise (le r):=(jG q).take;rw[e2,Z5]at l;have mem:∀x,x∈(d++(a.extract k f).reverse).toList->x∈d.toList\/x∈(a.toList.drop k).take (f-k):=λx e=>by
  have:x∈(d++(a.extract k f).reverse).toList.reverse:=Y9.mpr e;rw[e1]at this;rcases Ze.mp this with h | h
  ·exact .inr h
  ·exact .inl (Y9.mp h)
 refine⟨?_,?_,?_,?_⟩
 ·rw[e1];have:=m.pm;rw[e2]at this;refine List.Perm.trans ?_ this;rw[Zd];refine List.Perm.append_left _ ?_;rw[← Zd,← Zd];exact List.Perm.append_right _ YJ
 ·rw[e1,Z5];refine⟨l.2.1,m.so,λx e y g=>m.la y (Y9.mp g) x ?_⟩;rw[e2];exact ZP _ e
 ·intro x e y g;rcases mem x e with e | e
  ·exact m.la x e y (by rw[e2];exact Yf _ g)
  ·exact l.2.2 y g x e
 ·intro x e y g;rcases mem x e with e | e
  ·exact m.lb x e y g
  ·obtain⟨i,p,z,B,rfl⟩:=kH e;obtain⟨j,o,v,rfl⟩:=zX g;exact t i p z (by lia) j o v
theorem HI.swap{a b d:Array Keyed}{f e:Nat}(m:HI r a b d f e):HI r b a d e f:=by
 refine⟨?_,m.so,m.lb,m.la⟩;refine List.Perm.trans ?_ (m.pm.trans YJ);rw[← Zd,← Zd];exact List.Perm.append_right _ YJ
theorem HI.LK{a b d:Array Keyed}{f e k:Nat}(m:HI r a b d f e)(g:Seg r b 0 b.size)(l:k<=e)(h:∀i (o:i<b.size),k<=i->i<e->∀j (n:j<a.size),j<f->le r a[j] b[i]) :
  HI r a b (d++(b.extract k e).reverse) f k:=(m.swap.Kq g l h).swap
theorem yS{a b:Array Keyed}{i:Nat}(h:i<a.size):b.push a[i]=b++(a.extract i (i+1)).reverse:=by
 apply Array.ext';have:(a.extract i (i+1)).toList=[a[i]]:=by
  have e:i<a.toList.length:=by simpa using h
  simp[List.extract_eq_drop_take,Y2 e]
 rw[YZ,WM,this,W6];rfl
theorem HI.Hu{a b f:Array Keyed}{d g:Nat}(m:HI r a b f d g)(n:Seg r a 0 a.size)(v:0<d)(h:d-1<a.size)(o:∀j (l:j<b.size),j<g->le r b[j] a[d-1]):HI r a b (f.push a[d-1]) (d-1) g:=by
 rw[yS h];have e:d-1+1=d:=by lia
 rw[e];refine m.Kq n (by exact YN _ _) λi q u t j l p=>?_;have:i=d-1:=by lia
 subst this;exact o j l p
theorem HI.ID{a b e:Array Keyed}{f d:Nat}(m:HI r a b e f d)(g:Seg r b 0 b.size)(l:0<d)(h:d-1<b.size)(i:∀j (n:j<a.size),j<f->le r a[j] b[d-1]):HI r a b (e.push b[d-1]) f (d-1):=(m.swap.Hu g l h i).swap
theorem AQ{a:Array Keyed}{n:Nat}:(a.extract 0 n).toList=a.toList.take n:=by
 rw[X2,List.extract_eq_drop_take,XJ,Nat.sub_zero]
theorem HI.fin{a b d:Array Keyed}{g f:Nat}(m:HI r a b d g f)(n:Seg r a 0 a.size)(l:Seg r b 0 b.size)(h:g=0\/f=0):MR r a b (a.extract 0 g++b.extract 0 f++d.reverse):=by
 have e:(a.extract 0 g++b.extract 0 f++d.reverse).toList=a.toList.take g++(b.toList.take f++d.toList.reverse):=by
  rw[YZ,YZ,AQ,AQ,Zd,WM]
 refine⟨by rw[e];exact m.pm,?_⟩;rw[e,← Zd,Z5];refine⟨?_,m.so,λx i y j=>?_⟩
 ·rcases h with h | h
  ·subst h;rw[List.take_zero,Yg];exact(jG l).take
  ·subst h;rw[List.take_zero,ZQ];exact(jG n).take
 ·rcases Ze.mp i with i | i
  ·exact m.la y (Y9.mp j) x i
  ·exact m.lb y (Y9.mp j) x i
theorem HI.first{a b d:Array Keyed}{i g:Nat}(m:HI r a b d i g)(o:Seg r a 0 a.size)(h:g=1)(q:0<b.size)(p:∀j (n:j<a.size),le r b[0] a[j]):MR r a b (b.extract 0 g++a.extract 0 i++d.reverse):=by
 have e:(b.extract 0 g++a.extract 0 i++d.reverse).toList=b.toList.take g++(a.toList.take i++d.toList.reverse):=by
  rw[YZ,YZ,AQ,AQ,Zd,WM]
 have e2:b.toList.take g=[b[0]]:=by
  subst h;have:=vE q;rw[XJ]at this;rw[this];rfl
 refine⟨?_,?_⟩
 ·rw[e];exact m.swap.pm.trans YJ
 rw[e,← Zd,Z5];refine⟨?_,m.so,λx f y l=>?_⟩
 ·rw[Z5];refine⟨by rw[e2];exact List.pairwise_singleton _ _,(jG o).take,λx f y l=>?_⟩;rw[e2]at f;obtain⟨j,n,_,rfl⟩:=zX l;rw[Za.mp f];exact p j n
 ·rcases Ze.mp f with f | f
  ·exact m.lb y (Y9.mp l) x f
  ·exact m.la y (Y9.mp l) x f
theorem MC.IA(C:Iv prog w A E s κ G r){a b:Array Keyed}(M:MC G r a b):∀j (d:j<a.size),le r (b[0]'M.nb) a[j]:=λj d=>M.bA C M.na M.nb M.first j d (ZR _)
theorem E7(C:Iv prog w A E s κ G r){a b:Array Keyed}{J:SortSt}{Q:Array Keyed->SortSt->Prop}(hk:kindOf J=κ)(M:MC G r a b)(h:∀res n,ir J n->MR r a b res->Q res n) :
  wpS (model prog w) A E s (oR a b) Q J:=by
 have T7:=M.na;have hnb:=M.nb;unfold oR;change wpS (model prog w) A E s (_>>=_) Q J;dsimp only;have Ua:a.size-1<a.size:=by omega
 refine ZZ (iM ?_);have m0:HI r a b #[] a.size b.size:=⟨by simp[Yr],by simp,by simp,by simp⟩
 have m1:HI r a b #[a[a.size-1]] (a.size-1) b.size:=m0.Hu M.sa T7 Ua λj g _=>M.last j g;have Nm:ir J J:=⟨rfl,rfl,rfl,rfl⟩
 refine bF Ua (λe=>?_) λe1=>?_
 ·exact Zi (h _ _ Nm (m1.fin M.sa M.sb (.inl (by simpa using e))))
 refine aD (λe=>?_) λe2=>?_
 ·exact Zi (h _ _ Nm (m1.first M.sa (by simpa using e) M.nb (M.IA C)))
 have NO:0<a.size-1:=by simp at e1;exact Z2 e1
 have II:1<b.size:=by simp at e2;lia
 refine ZZ (WR ?_);refine ZZ (Y5 (Yc
  (I:=λx c n=>ir J n/\c.1=none/\HI r a b c.2.2.2.1 c.2.1 c.2.2.1/\0<c.2.1/\c.2.1<=a.size/\1<c.2.2.1/\c.2.2.1<=b.size/\x<c.2.2.2.1.size)
  (Q:=λc n=>ir J n/\∃res,c.1=some res/\MR r a b res) ?step ?fin ?init) ?post)
 case init=>exact⟨Nm,rfl,m1,NO,by(try dsimp only);exact YN _ _,II,Zo _,by simp⟩
 case fin =>
  refine vQ λU na nb out mg n d=>?_;have kp:=d.1;have u:=d.2.1;have m:=d.2.2.1;have o:=d.2.2.2.1;have H:=d.2.2.2.2.1;have v:=d.2.2.2.2.2.1;have D:=d.2.2.2.2.2.2.1;have O:=d.2.2.2.2.2.2.2;clear d;dsimp only at *;have:=m.size (by omega) (by omega);lia
 case post =>
  refine vQ λU na nb out mg=>?_;rintro n ⟨kp,res,u,o⟩;dsimp only at *;subst u;exact Zi (h _ _ kp o)
 case step =>
  intro x;refine vQ λU na nb out mg n _ hx d=>?_;have kp:=d.1;have u:=d.2.1;have m:=d.2.2.1;have o:=d.2.2.2.1;have H:=d.2.2.2.2.1;have v:=d.2.2.2.2.2.1;have D:=d.2.2.2.2.2.2.1;have O:=d.2.2.2.2.2.2.2;clear d;dsimp only at *;refine ZZ (Y5 (Yc
   (I:=λy c n=>ir J n/\c.1=none/\HI r a b c.2.2.2.1 c.2.1 c.2.2.1/\0<c.2.1/\c.2.1<=a.size/\1<c.2.2.1/\c.2.2.1<=b.size/\x+y<c.2.2.2.1.size)
   (Q:=λc n=>ir J n/\((∃res,c.1=some res/\MR r a b res)\/(c.1=none/\HI r a b c.2.2.2.1 c.2.1 c.2.2.1/\0<c.2.1/\c.2.1<=a.size/\1<c.2.2.1/\c.2.2.1<=b.size/\x+1<c.2.2.2.1.size))) ?step2 ?fin2 ?init2) ?post2)
  case init2=>exact⟨kp,rfl,m,o,H,v,D,by simpa using O⟩
  case fin2 =>
   refine tF λU na nb out ac bc n d=>?_;have kp:=d.1;have u:=d.2.1;have m:=d.2.2.1;have o:=d.2.2.2.1;have H:=d.2.2.2.2.1;have v:=d.2.2.2.2.2.1;have D:=d.2.2.2.2.2.2.1;have O:=d.2.2.2.2.2.2.2;clear d;dsimp only at *;exact⟨kp,.inr ⟨u,m,o,H,v,D,by(try dsimp only);lia⟩⟩
  case step2 =>
   intro y;refine tF λU na nb out ac bc n _ hy d=>?_;have kp:=d.1;have u:=d.2.1;have m:=d.2.2.1;have o:=d.2.2.2.1;have H:=d.2.2.2.2.1;have v:=d.2.2.2.2.2.1;have D:=d.2.2.2.2.2.2.1;have O:=d.2.2.2.2.2.2.2;clear d;dsimp only at *;have f:na-1<a.size:=by lia
   have t:nb-1<b.size:=by lia
   have gA:=M.ga _ (Zh f);have Z:=M.gb _ (Zh t);refine jD t (eU f ?_);refine ZZ (C.run _ _ _ _ (kp.1.trans hk) Z gA ?_);dsimp only;cases e:r b[nb-1] a[na-1] with
   |true =>
    rw[Zs rfl];have N:=m.Hu M.sa o f (λj g Uc=>C.tr (M.gb _ (Zh g)) Z gA (M.sb j _ g t (ZR _) (by lia) t) (C.IW Z gA e));refine bF f (λS=>?_) λS=>?_
    ·exact Zi ⟨kp,.inl ⟨_,rfl,N.fin M.sa M.sb (.inl (by simpa using S))⟩⟩
    ·have JD:0<na-1:=by simp at S;exact Z2 S
     refine aD (λ_=>?_) λ_=>?_
     ·exact Zi ⟨kp,.inr ⟨rfl,N,JD,by(try dsimp only);exact Z0 f,v,D,by simp;lia⟩⟩
     ·exact Zi ⟨kp,rfl,N,JD,by(try dsimp only);exact Z0 f,v,D,by simp;lia⟩
   |false =>
    rw[Zp Zg];have N:=m.ID M.sb (by exact Ws v) t (λj g Uc=>C.tr (M.ga _ (Zh g)) gA Z (M.sa j _ g f (ZR _) (by lia) f) e);refine bF t (λS=>?_) λS=>?_
    ·exact Zi ⟨kp,.inl ⟨_,rfl,N.first M.sa (by simpa using S) M.nb (M.IA C)⟩⟩
    ·have JD:1<nb-1:=by simp at S;lia
     refine aD (λ_=>?_) λ_=>?_
     ·exact Zi ⟨kp,.inr ⟨rfl,N,o,H,JD,by(try dsimp only);exact Z0 t,by simp;lia⟩⟩
     ·exact Zi ⟨kp,rfl,N,o,H,JD,by(try dsimp only);exact Z0 t,by simp;lia⟩
  case post2 =>
   refine tF λU na nb out ac bc=>?_;rintro n ⟨kp,⟨res,u,o⟩ | ⟨u,m,o,H,v,D,O⟩⟩
   ·dsimp only at *;subst u;exact Zi ⟨kp,res,rfl,o⟩
   ·dsimp only at *;subst u;dsimp only;refine ZZ (iM ?_);refine ZZ (Y5 (Yc
     (I:=λy c n=>ir J n/\c.1=none/\HI r a b c.2.2.2.1 c.2.1 c.2.2.1/\0<c.2.1/\c.2.1<=a.size/\1<c.2.2.1/\c.2.2.1<=b.size/\x+1<c.2.2.2.1.size)
     (Q:=λc n=>ir J n/\((∃res,c.1=some res/\MR r a b res)\/(c.1=none/\HI r a b c.2.2.2.1 c.2.1 c.2.2.1/\0<c.2.1/\c.2.1<=a.size/\1<c.2.2.1/\c.2.2.1<=b.size/\x+1<c.2.2.2.1.size))) ?step3 ?fin3 ?init3) ?post3)
    case init3=>exact⟨kp,rfl,m,o,H,v,D,O⟩
    case fin3 =>
     refine tF λU na nb out ac bc n d=>?_;have kp:=d.1;have u:=d.2.1;have m:=d.2.2.1;have o:=d.2.2.2.1;have H:=d.2.2.2.2.1;have v:=d.2.2.2.2.2.1;have D:=d.2.2.2.2.2.2.1;have O:=d.2.2.2.2.2.2.2;clear d;exact⟨kp,.inr ⟨u,m,o,H,v,D,O⟩⟩
    case post3 =>
     refine Aq λU na nb out mg ac bc=>?_;rintro n ⟨kp,⟨res,u,o⟩ | ⟨u,m,o,H,v,D,O⟩⟩
     ·dsimp only at *;subst u;exact Zi ⟨kp,res,rfl,o⟩
     ·dsimp only at *;subst u;dsimp only;exact ZZ (iN kp λHH l=>Zi ⟨l,rfl,m,o,H,v,D,O⟩)
    case step3 =>
     intro y;refine Aq λU na nb out mg ac bc n _ hy d=>?_;have kp:=d.1;have u:=d.2.1;have m:=d.2.2.1;have o:=d.2.2.2.1;have H:=d.2.2.2.2.1;have v:=d.2.2.2.2.2.1;have D:=d.2.2.2.2.2.2.1;have O:=d.2.2.2.2.2.2.2;clear d;dsimp only at *;have both:∀{mg:Nat}{F:Unit->StateT SortSt Sem (ForInStep (Option (Array Keyed)×Nat×Nat×Array Keyed×Nat×Nat×Nat))}{P},(∀HH,ir J HH->wpS (model prog w) A E s (F ()) P HH)->wpS (model prog w) A E s (fH mg>>=F) P n:=λhF=>ZZ (iN kp λHH l=>hF HH l);revert mg;refine u6 (λ_=>rfl) λXD=>?_;refine both λHH l=>?_;have Ut:0<nb:=by exact Ws v
     have t:nb-1<b.size:=by lia
     have Z:=M.gb _ (Zh t);refine jD t (h9 C (l.1.trans hk) Z M.ga (by lia) (by lia) (jQ M.sa _ _) λk LR KY N6=>?_);dsimp only;refine aD (λe5=>?_) λe5=>?_
     ·have N:=m.Kq (k:=k) M.sa (by omega) (λi R h1 h2 j g h3=>C.tr (M.gb _ (Zh g)) Z (M.ga _ (Zh R)) (M.sb j _ g t (ZR _) (by lia) t) (N6 i R (by lia) (by lia)));refine aD (λp=>?_) λp=>?_
      ·exact Zi ⟨l,.inl ⟨_,rfl,N.fin M.sa M.sb (.inl (by simpa using p))⟩⟩
      have O3:0<k:=by simp at p;exact Z2 p
      have f:k-1<a.size:=by lia
      have hle:∀j (g:j<a.size),j<k->le r a[j] b[nb-1]:=λj g h=>KY j g (ZR _) (by lia);clear p;have Y:=N.ID M.sb Ut t hle;refine bF t (λe4=>?_) λe4=>?_
      ·exact Zi ⟨l,.inl ⟨_,rfl,Y.first M.sa (by simpa using e4) M.nb (M.IA C)⟩⟩
      have NN:1<nb-1:=by simp at e4;lia
      refine jD f (h9 C (l.1.trans hk) (M.ga _ (Zh f)) M.gb (by lia) (by lia) (jQ M.sb _ _) λk2 LQ Ik Ji=>?_);dsimp only;have X:=Y.LK (k:=k2) M.sb (by omega) (λi R h1 h2 j g h3=>C.tr (M.ga _ (Zh g)) (M.ga _ (Zh f)) (M.gb _ (Zh R)) (M.sa j _ g f (ZR _) (by lia) f) (Ji i R (by lia) (by lia)));refine aD (λe5=>?_) λe5=>?_
      ·refine aD (λq=>?_) λq=>?_
       ·exact Zi ⟨l,.inl ⟨_,rfl,X.first M.sa (by simpa using q) M.nb (M.IA C)⟩⟩
       refine aD (λL=>?_) λL=>?_
       ·exact Zi ⟨l,.inl ⟨_,rfl,X.fin M.sa M.sb (.inr (by simpa using L))⟩⟩
       have z:=X.Hu M.sa O3 f (λj g h=>Ik j g (ZR _) (by lia));refine bF f (λp=>?_) λp=>?_
       ·exact Zi ⟨l,.inl ⟨_,rfl,z.fin M.sa M.sb (.inl (by simpa using p))⟩⟩
       have B:=p;simp at B;refine aD (λ_=>?_) λ_=>?_
       ·exact Zi ⟨l,.inr ⟨rfl,z,by(try dsimp only);exact Z2 B,by(try dsimp only);exact Z0 f,by(try dsimp only);(try simp at q);(try simp at L);lia,by(try dsimp only);(try simp at q);lia,by simp;lia⟩⟩
       ·exact Zi ⟨l,rfl,z,by(try dsimp only);exact Z2 B,by(try dsimp only);exact Z0 f,by(try dsimp only);(try simp at q);(try simp at L);lia,by(try dsimp only);(try simp at q);lia,by simp;lia⟩
      ·have z:=Y.Hu M.sa O3 f (λj g h=>Ik j g (ZR _) (by lia));refine bF f (λp=>?_) λp=>?_
       ·exact Zi ⟨l,.inl ⟨_,rfl,z.fin M.sa M.sb (.inl (by simpa using p))⟩⟩
       have B:=p;simp at B;refine aD (λ_=>?_) λ_=>?_
       ·exact Zi ⟨l,.inr ⟨rfl,z,by(try dsimp only);exact Z2 B,by(try dsimp only);exact Z0 f,by(try dsimp only);(try simp at q);(try simp at L);omega,by(try dsimp only);(try simp at q);exact Z0 t,by simp;lia⟩⟩
       ·exact Zi ⟨l,rfl,z,by(try dsimp only);exact Z2 B,by(try dsimp only);exact Z0 f,by(try dsimp only);(try simp at q);(try simp at L);omega,by(try dsimp only);(try simp at q);exact Z0 t,by simp;lia⟩
     ·have N:=m;have O3:0<na:=o;have f:na-1<a.size:=by lia
      have hle:∀j (g:j<a.size),j<na->le r a[j] b[nb-1]:=λj g h=>KY j g (ZR _) (by lia);have Y:=N.ID M.sb Ut t hle;refine bF t (λe4=>?_) λe4=>?_
      ·exact Zi ⟨l,.inl ⟨_,rfl,Y.first M.sa (by simpa using e4) M.nb (M.IA C)⟩⟩
      have NN:1<nb-1:=by simp at e4;lia
      refine jD f (h9 C (l.1.trans hk) (M.ga _ (Zh f)) M.gb (by lia) (by lia) (jQ M.sb _ _) λk2 LQ Ik Ji=>?_);dsimp only;have X:=Y.LK (k:=k2) M.sb (by omega) (λi R h1 h2 j g h3=>C.tr (M.ga _ (Zh g)) (M.ga _ (Zh f)) (M.gb _ (Zh R)) (M.sa j _ g f (ZR _) (by lia) f) (Ji i R (by lia) (by lia)));refine aD (λe5=>?_) λe5=>?_
      ·refine aD (λq=>?_) λq=>?_
       ·exact Zi ⟨l,.inl ⟨_,rfl,X.first M.sa (by simpa using q) M.nb (M.IA C)⟩⟩
       refine aD (λL=>?_) λL=>?_
       ·exact Zi ⟨l,.inl ⟨_,rfl,X.fin M.sa M.sb (.inr (by simpa using L))⟩⟩
       have z:=X.Hu M.sa O3 f (λj g h=>Ik j g (ZR _) (by lia));refine bF f (λp=>?_) λp=>?_
       ·exact Zi ⟨l,.inl ⟨_,rfl,z.fin M.sa M.sb (.inl (by simpa using p))⟩⟩
       have B:=p;simp at B;refine aD (λ_=>?_) λ_=>?_
       ·exact Zi ⟨l,.inr ⟨rfl,z,by(try dsimp only);exact Z2 B,by(try dsimp only);exact Z0 f,by(try dsimp only);(try simp at q);(try simp at L);lia,by(try dsimp only);(try simp at q);lia,by simp;lia⟩⟩
       ·exact Zi ⟨l,rfl,z,by(try dsimp only);exact Z2 B,by(try dsimp only);exact Z0 f,by(try dsimp only);(try simp at q);(try simp at L);lia,by(try dsimp only);(try simp at q);lia,by simp;lia⟩
      ·have z:=Y.Hu M.sa O3 f (λj g h=>Ik j g (ZR _) (by lia));refine bF f (λp=>?_) λp=>?_
       ·exact Zi ⟨l,.inl ⟨_,rfl,z.fin M.sa M.sb (.inl (by simpa using p))⟩⟩
       have B:=p;simp at B;refine aD (λ_=>?_) λ_=>?_
       ·exact Zi ⟨l,.inr ⟨rfl,z,by(try dsimp only);exact Z2 B,by(try dsimp only);exact Z0 f,by(try dsimp only);(try simp at q);(try simp at L);omega,by(try dsimp only);(try simp at q);exact Z0 t,by simp;lia⟩⟩
       ·exact Zi ⟨l,rfl,z,by(try dsimp only);exact Z2 B,by(try dsimp only);exact Z0 f,by(try dsimp only);(try simp at q);(try simp at L);omega,by(try dsimp only);(try simp at q);exact Z0 t,by simp;lia⟩
end TS
end
section
open PySem PyProof.Rows
namespace TS
variable{prog:Program}{w:World}{A:Around}{E:Z3}{s:Shared}{κ:SortKind}{G:Keyed->Prop}{r:Keyed->Keyed->Bool}
noncomputable def K(a:Array Keyed)(i:Nat):Keyed:=(a[i]?).getD (.none,.none)
theorem wY{a:Array Keyed}{i:Nat}(h:i<a.size):K a i=a[i]:=by unfold K;rw[getElem?_pos a i h];rfl
noncomputable def Sg(r:Keyed->Keyed->Bool)(a:Array Keyed)(b d:Nat):Prop:=∀i j,b<=i->i<=j->j<d->le r (K a i) (K a j)
noncomputable def Ds(r:Keyed->Keyed->Bool)(a:Array Keyed)(b d:Nat):Prop:=∀i j,b<=i->i<=j->j<d->le r (K a j) (K a i)
theorem mE{a:Array Keyed}{i j:Nat}(b:j<=a.size)(k:Nat):K (mirror a i j ((j-i)/2)) k=if i<=k/\k<j then K a (i+j-1-k) else K a k:=by
 unfold K;rw[getElem?_mirror_all b];split<;>rfl
theorem B8{b:Array Keyed}{a d:Nat}(e:a<b.size)(f:d<=a)(k:Nat):K (bubble b a d) k=if k=a-d then K b a else if a-d<k/\k<=a then K b (k-1) else K b k:=by
 unfold K;rw[getElem?_bubble e d f];split
 ·rfl
 ·split<;>rfl
structure Lc(lo:Nat)(HV st:SortSt):Prop where
 kind:kindOf st=kindOf HV
 pend:pendingOf st=pendingOf HV
 fail:failedOf st=failedOf HV
 perm:(arrOf st).Perm (arrOf HV)
 pre:∀j,j<lo->(arrOf st)[j]?=(arrOf HV)[j]?
theorem Lc.refl(b:Nat)(a:SortSt):Lc b a a:=⟨rfl,rfl,rfl,Array.Perm.refl _,λ_ _=>rfl⟩
theorem Lc.size{d:Nat}{b a:SortSt}(L:Lc d b a):(arrOf a).size=(arrOf b).size:=L.perm.size_eq
theorem Lc.good{e:Nat}{b a:SortSt}(L:Lc e b a)(g:∀x∈arrOf b,G x){i:Nat}(d:i<(arrOf b).size):G (K (arrOf a) i):=by
 rw[wY (by rw[L.size];exact d)];refine g _ ?_;have:(arrOf a)[i]'(by rw[L.size];exact d)∈(arrOf a).toList:=by simp
 have:=(Xg.mp L.perm).mem_iff.mp this;simpa using this
theorem Lc.arr{d:Nat}{f a:SortSt}(L:Lc d f a){b:Array Keyed}(h:b.Perm (arrOf a))(g:∀j,j<d->b[j]?=(arrOf a)[j]?):Lc d f (setArr a b) :=
 ⟨L.kind,L.pend,L.fail,h.trans L.perm,λj e=>(g j e).trans (L.pre j e)⟩
theorem Lc.MJ{b:Nat}{d a:SortSt}(L:Lc b d a){i j:Nat}(g:b<=i)(e:j<=(arrOf d).size):Lc b d (setArr a (mirror (arrOf a) i j ((j-i)/2))) :=
 L.arr (mirror_perm _ _ _ _) λk f=>by rw[getElem?_mirror_all (by rw[L.size];exact e),Zp (by lia)]
theorem md(C:Iv prog w A E s κ G r){o:Nat}{b a:SortSt}(p:kindOf b=κ)(g:∀x∈arrOf b,G x)(L:Lc o b a){i j:Nat}{Q:Option Bool->SortSt->Prop}(e:i<(arrOf b).size)(d:j<(arrOf b).size)(h:Q (some (r (K (arrOf a) i) (K (arrOf a) j))) a):wpS (model prog w) A E s (ltAt' i j) Q a:=by
 have l:=L.good g e;have f:=L.good g d;have n:i<(arrOf a).size:=by rw[L.size];exact e
 have m:j<(arrOf a).size:=by rw[L.size];exact d
 rw[ltAt'_eq];refine ZZ (WR ?_);refine ZZ (eU n (ZZ (eU m ?_)));rw[wY n]at l h;rw[wY m]at f h;exact C.run a _ _ _ (L.kind.trans p) l f h
theorem Ds.MJ(C:Iv prog w A E s κ G r){f:Array Keyed}{g e i:Nat}(D:Ds r f g e)(h:∀k,k<e->G (K f k))(o:g<=i)(l:e<=f.size)(n:∀k,i<=k->k<e->le r (K f k) (K f (e-1))) :
  Ds r (mirror f i e ((e-i)/2)) g e:=λp q j t m=>by
 rw[mE l,mE l];have eqv:∀u v,i<=u->u<e->i<=v->v<e->le r (K f u) (K f v):=λu v a b c d=>C.tr (h u b) (h _ (by lia)) (h v d) (n u a b) (D v (e-1) (by exact ZE o c) (by lia) (by lia));split
 ·split
  ·exact eqv _ _ (by omega) (by omega) (by lia) (by omega)
  ·exact D p _ j (by lia) (by omega)
 ·split
  ·lia
  ·exact D p q j t m
theorem Ds.rev{d:Array Keyed}{b a:Nat}(D:Ds r d b a)(g:a<=d.size):Sg r (mirror d b a ((a-b)/2)) b a:=λp q f h e=>by
 rw[mE g,mE g,Zs ⟨f,by exact XY h e⟩,Zs ⟨by exact ZE f h,e⟩];exact D _ _ (by omega) (by omega) (by omega)
theorem Sg.snoc(C:Iv prog w A E s κ G r){xs:Array Keyed}{a n:Nat}(S:Sg r xs a (a+n))(b:∀k,k<=a+n->G (K xs k))(l:1<=n)(h:le r (K xs (a+n-1)) (K xs (a+n))):Sg r xs a (a+n+1):=λi j d f g=>by
 by_cases e:j<a+n
 ·exact S i j d f e
 ·have:j=a+n:=by lia
  subst this;by_cases e2:i=a+n
  ·subst e2;exact C.refl (b _ (Zo _))
  ·exact C.tr (b i (by omega)) (b _ (by exact YN _ _)) (b _ (Zo _)) (S i (a+n-1) d (by lia) (by omega)) h
theorem Ds.snoc(C:Iv prog w A E s κ G r){xs:Array Keyed}{a n:Nat}(S:Ds r xs a (a+n))(b:∀k,k<=a+n->G (K xs k))(l:1<=n)(h:le r (K xs (a+n)) (K xs (a+n-1))):Ds r xs a (a+n+1):=λi j d f g=>by
 by_cases e:j<a+n
 ·exact S i j d f e
 ·have:j=a+n:=by lia
  subst this;by_cases e2:i=a+n
  ·subst e2;exact C.refl (b _ (Zo _))
  ·exact C.tr (b _ (Zo _)) (b _ (by exact YN _ _)) (b i (by omega)) h (S i (a+n-1) d (by lia) (by omega))
theorem nr{a:SortSt}{i j:Nat}{Q:Unit->SortSt->Prop}(h:Q () (setArr a (mirror (arrOf a) i j ((j-i)/2)))):wpS (model prog w) A E s (reverseSlice' i j) Q a:=by
 rw[reverseSlice'_eq];exact X6 h
theorem tH{α:Type}{c:Prop}[Decidable c]{x Rq:StateT SortSt Sem α}{Q:α->SortSt->Prop}{P:SortSt->Prop}{b:SortSt}(D:∀a,P a->wpS (model prog w) A E s Rq Q a)(d:¬c->P b)(e:c->(∀a,P a->wpS (model prog w) A E s Rq Q a)->wpS (model prog w) A E s x Q b):wpS (model prog w) A E s (if c then x else Rq) Q b :=
 aD (λz=>e z D) λz=>D b (d z)
theorem DX(C:Iv prog w A E s κ G r){a n:Nat}{t:SortSt}{Q:Option Nat->SortSt->Prop}(u:kindOf t=κ)(g:∀x∈arrOf t,G x)(h0:1<=n)(hn:a+n<=(arrOf t).size)(h:∀m b,Lc a t b->1<=m->m<=n->Sg r (arrOf b) a (a+m)->Q (some m) b):wpS (model prog w) A E s (countRun' a n) Q t:=by
 unfold countRun';change wpS (model prog w) A E s (_>>=_) Q t;dsimp only;have L0:=Lc.refl a t;have Rj:1<=1:=Zo _;have s0:Sg r (arrOf t) a (a+1):=λi j y B Z=>by
  have e1:i=a:=by lia
  have e2:j=a:=by lia
  subst e1 e2;exact C.refl (L0.good g (by lia))
 refine ZZ (Y5 (Yc
  (I:=λx c b=>Lc a t b/\c.1=none/\c.2=x/\1<=x/\Sg r (arrOf b) a (a+x))
  (Q:=λc b=>Lc a t b/\c.1=none/\1<=c.2/\c.2<=n/\Sg r (arrOf b) a (a+c.2)/\(c.2<n->r (K (arrOf b) (a+c.2)) (K (arrOf b) (a+c.2-1))=true)) ?stepA ?finA ?initA) ?postA)
 case initA=>exact⟨L0,rfl,rfl,Rj,s0⟩
 case finA =>
  refine all2 λJ l=>?_;rintro b ⟨L,v,q,p,f⟩;dsimp only at *;subst q;refine⟨L,v,by(try dsimp only);omega,by(try dsimp only);lia,f,λz=>?_⟩
  (try dsimp only at z)
  lia
 case stepA =>
  intro x;refine all2 λJ l=>?_;rintro b PY S ⟨L,v,q,p,f⟩;dsimp only at *;subst q;refine ZZ (md C u g L (by lia) (by omega) ?_);dsimp only;have d:∀k,k<=a+l->G (K (arrOf b) k):=λk u=>L.good g (by lia);cases e:r (K (arrOf b) (a+l)) (K (arrOf b) (a+l-1)) with
  |true=>exact Zi ⟨L,rfl,p,by(try dsimp only);exact Z0 S,f,λ_=>e⟩
  |false=>exact Zi ⟨L,rfl,rfl,by exact Xr _ _,Sg.snoc C f d p e⟩
 case postA =>
  refine all2 λJ l=>?_;rintro b ⟨L,v,q,p,f,F⟩;dsimp only at *;subst v;dsimp only;refine aD (λe=>?_) λe=>?_
  ·exact Zi (h l b L q p f)
  have e':l<n:=by simp at e;exact Nat.lt_of_le_of_ne p e
  have sm:=F e';have d:∀k,k<=a+l->G (K (arrOf b) k):=λk u=>L.good g (by lia);have R:le r (K (arrOf b) (a+l)) (K (arrOf b) (a+l-1)):=C.IW (d _ (by exact Zo _)) (d _ (by exact YN _ _)) sm;have H:=L.size;refine tH (P:=λY=>Lc a t Y/\Ds r (arrOf Y) a (a+(l+1))) ?D ?two ?one
  case one =>
   intro e3 Dk;refine ZZ (md C u g L (by lia) (by lia) ?_);dsimp only;cases e4:r (K (arrOf b) a) (K (arrOf b) (a+l-1)) with
   |true=>exact Zi (h l b L q p f)
   |false =>
    rw[Zp Zg];refine ZZ (nr ?_);have X:=L.MJ (i:=a) (j:=a+l) (by exact Zo _) (by lia);have d0:Ds r (arrOf b) a (a+l):=λi j y B Z=>C.tr (d j (by exact Z0 Z)) (d _ (by exact YN _ _)) (d i (by lia)) (f j (a+l-1) (by exact ZE y B) (by lia) (by omega))
     (C.tr (d _ (by exact YN _ _)) (d _ (by exact Z1 _ _)) (d i (by lia)) e4 (f a i (by exact Zo _) y (by exact XY B Z)))
    have N:=Ds.MJ C d0 (λk u=>d k (by exact Z0 u)) (i:=a) (by exact Zo _) (by lia) (λk y B=>f k _ y (by lia) (by omega));have O:=Ds.snoc C N (λk u=>X.good g (by lia)) q (by
     rw[mE (by lia),mE (by lia),Zp (by lia),Zs (by omega)];exact C.tr (d _ (by exact Zo _)) (d _ (by exact YN _ _)) (d _ (by omega)) R (d0 _ _ (by omega) (by omega) (by omega)))
    exact Dk _ ⟨X,O⟩
  case two =>
   intro e3;have e5:l=1:=by lia
   have d0:Ds r (arrOf b) a (a+l):=λi j y B Z=>by
    have e1:i=a:=by lia
    have e2:j=a:=by lia
    subst e1 e2;exact C.refl (d _ (by exact Z1 _ _))
   have O:=Ds.snoc C d0 d q R;exact⟨L,O⟩
  case D =>
   rintro b ⟨X,O⟩;clear d H;refine ZZ (iM ?_);refine ZZ (Y5 (Yc
    (I:=λx c b=>Lc a t b/\c.1=none/\c.2.1=x/\c.2.2+1<=x/\Ds r (arrOf b) a (a+x)/\(∀k,a+x-(c.2.2+1)<=k->k<a+x->le r (K (arrOf b) k) (K (arrOf b) (a+x-1))))
    (Q:=λc b=>Lc a t b/\c.1=none/\c.2.2+1<=c.2.1/\c.2.1<=n/\Ds r (arrOf b) a (a+c.2.1)/\(∀k,a+c.2.1-(c.2.2+1)<=k->k<a+c.2.1->le r (K (arrOf b) k) (K (arrOf b) (a+c.2.1-1)))) ?stepD ?finD ?initD) ?postD)
   case initD =>
    refine⟨X,rfl,rfl,by(try dsimp only);exact Xr _ _,O,λk y B=>?_⟩
    (try dsimp only at y B)
    have e:k=a+(l+1)-1:=by lia
    subst e;exact C.refl (X.good g (by lia))
   case finD =>
    refine jf λJ o M=>?_;rintro b ⟨L,v,q,p,f,F⟩;dsimp only at *;subst q;exact⟨L,v,p,by(try dsimp only);lia,f,F⟩
   case stepD =>
    intro x;refine jf λJ o M=>?_;rintro b PY S ⟨L,v,q,p,f,F⟩;dsimp only at *;subst q;refine ZZ (md C u g L (by lia) (by omega) ?_);dsimp only;have d:∀k,k<=a+o->G (K (arrOf b) k):=λk u=>L.good g (by lia);have H:=L.size;cases e:r (K (arrOf b) (a+o)) (K (arrOf b) (a+o-1)) with
    |true =>
     rw[Zs rfl];have R:le r (K (arrOf b) (a+o)) (K (arrOf b) (a+o-1)):=C.IW (d _ (by exact Zo _)) (d _ (by exact YN _ _)) e;refine aD (λz=>?_) λz=>?_
     ·refine ZZ (nr ?_);have U:=L.MJ (i:=a+o-(M+1)) (j:=a+o) (by lia) (by lia);have N:=Ds.MJ C f (λk u=>d k (by exact Z0 u)) (i:=a+o-(M+1)) (by lia) (by lia) F;refine Zi ⟨U,rfl,rfl,by(try dsimp only);exact Xr _ _,Ds.snoc C N (λk u=>U.good g (by lia)) (by lia) ?_,λk y B=>?_⟩
      ·show le r (K (mirror _ _ _ _) _) (K (mirror _ _ _ _) _);rw[mE (by lia),mE (by lia),Zp (by lia),Zs (by omega)];exact C.tr (d _ (by exact Zo _)) (d _ (by exact YN _ _)) (d _ (by omega)) R (f _ _ (by lia) (by omega) (by omega))
      ·(try dsimp only at y B)
       have e:k=a+(o+1)-1:=by lia
       subst e;exact C.refl (U.good g (by lia))
     ·refine Zi ⟨L,rfl,rfl,by(try dsimp only);exact Xr _ _,Ds.snoc C f d (by lia) R,λk y B=>?_⟩
      (try dsimp only at y B)
      have e:k=a+(o+1)-1:=by lia
      subst e;exact C.refl (L.good g (by lia))
    |false =>
     rw[Zp Zg];refine ZZ (md C u g L (by lia) (by lia) ?_);dsimp only;cases e2:r (K (arrOf b) (a+o-1)) (K (arrOf b) (a+o)) with
     |true=>exact Zi ⟨L,rfl,p,by(try dsimp only);exact Z0 S,f,F⟩
     |false =>
      refine Zi ⟨L,rfl,rfl,by(try dsimp only);exact Y8 p,Ds.snoc C f d (by lia) e2,λk y B=>?_⟩
      (try dsimp only at y B)
      have ee:a+(o+1)-1=a+o:=by lia
      rw[ee];by_cases ek:k=a+o
      ·subst ek;exact C.refl (d _ (by exact Zo _))
      ·exact C.tr (d _ (by lia)) (d _ (by exact YN _ _)) (d _ (by exact Zo _)) (F k (by lia) (by lia)) e
   case postD =>
    refine jf λJ o M=>?_;rintro b ⟨L,v,p,q6,f,F⟩;dsimp only at *;subst v;dsimp only;have d:∀k,k<a+o->G (K (arrOf b) k):=λk u=>L.good g (by lia);have H:=L.size;have Rj:1<=o:=by lia
    refine tH (P:=λY=>Lc a t Y/\Ds r (arrOf Y) a (a+o)) ?Rq ?two2 ?one2
    case one2 =>
     intro z Dk2;refine ZZ (nr ?_);have U:=L.MJ (i:=a+o-(M+1)) (j:=a+o) (by lia) (by lia);have N:=Ds.MJ C f d (i:=a+o-(M+1)) (by lia) (by lia) F;exact Dk2 _ ⟨U,N⟩
    case two2=>exact λ_=>⟨L,f⟩
    case Rq =>
     clear f F d H L;rintro b ⟨L,f⟩;have H:=L.size;refine ZZ (nr ?_);have L0:=L.MJ (i:=a) (j:=a+o) (by exact Zo _) (by lia);have s0:=f.rev (by lia);refine ZZ (Y5 (Yc
      (I:=λx c b=>Lc a t b/\c.1=none/\c.2=x/\1<=x/\Sg r (arrOf b) a (a+x))
      (Q:=λc b=>Lc a t b/\c.1=none/\1<=c.2/\c.2<=n/\Sg r (arrOf b) a (a+c.2)/\(c.2<n->r (K (arrOf b) (a+c.2)) (K (arrOf b) (a+c.2-1))=true)) ?stepA ?finA ?initA) ?postA)
     case initA=>exact⟨L0,rfl,rfl,Rj,s0⟩
     case finA =>
      refine all2 λJ l=>?_;rintro b ⟨L,v,q,p,f⟩;dsimp only at *;subst q;refine⟨L,v,by(try dsimp only);omega,by(try dsimp only);lia,f,λz=>?_⟩
      (try dsimp only at z)
      lia
     case stepA =>
      intro x;refine all2 λJ l=>?_;rintro b PY S ⟨L,v,q,p,f⟩;dsimp only at *;subst q;refine ZZ (md C u g L (by lia) (by lia) ?_);dsimp only;have d:∀k,k<=a+l->G (K (arrOf b) k):=λk u=>L.good g (by lia);cases e:r (K (arrOf b) (a+l)) (K (arrOf b) (a+l-1)) with
      |true=>exact Zi ⟨L,rfl,p,by(try dsimp only);exact Z0 S,f,λ_=>e⟩
      |false=>exact Zi ⟨L,rfl,rfl,by exact Xr _ _,Sg.snoc C f d p e⟩
     case postA =>
      refine all2 λJ c3=>?_;rintro b ⟨L,v,q,p,f,F⟩;dsimp only at *;subst v;exact Zi (h c3 b L q p f)
end TS
end
section
open PySem PyProof.Rows
namespace TS
variable{prog:Program}{w:World}{A:Around}{E:Z3}{s:Shared}{κ:SortKind}{G:Keyed->Prop}{r:Keyed->Keyed->Bool}
theorem xQ{a:SortSt}{i j:Nat}{Q:Unit->SortSt->Prop}(h:Q () (setArr a (bubble (arrOf a) i (i-j)))):wpS (model prog w) A E s (moveDown' i j) Q a:=by
 rw[moveDown'_eq];exact X6 h
theorem Lc.bub{b:Nat}{e a:SortSt}(L:Lc b e a){i d:Nat}(h:b+d<=i)(f:i<(arrOf e).size):Lc b e (setArr a (bubble (arrOf a) i d)) :=
 L.arr (bubble_perm _ _ _) λk g=>by rw[getElem?_bubble (by rw[L.size];exact f) d (by lia),Zp (by lia),Zp (by lia)]
theorem CL(C:Iv prog w A E s κ G r){a n t:Nat}{m:SortSt}{Q:Bool->SortSt->Prop}(Y:kindOf m=κ)(g:∀x∈arrOf m,G x)(h0:1<=t)(xh:t<=n)(hn:a+n<=(arrOf m).size)(S:Sg r (arrOf m) a (a+t))(h:∀b,Lc a m b->Sg r (arrOf b) a (a+n)->Q true b):wpS (model prog w) A E s (binarySort' a n t) Q m:=by
 unfold binarySort';change wpS (model prog w) A E s (_>>=_) Q m;dsimp only;have em:max t 1=t:=by lia
 rw[em];refine ZZ (Y5 (Yc
  (I:=λx c b=>Lc a m b/\c.1=none/\Sg r (arrOf b) a (a+x))
  (Q:=λc b=>Lc a m b/\c.1=none/\Sg r (arrOf b) a (a+n)) ?step ?fin ?init) ?post)
 case init=>exact⟨Lc.refl _ _,rfl,S⟩
 case fin =>
  refine all2 λB q=>?_;rintro b ⟨L,J,d⟩;have e:max t n=n:=by lia
  rw[e]at d;exact⟨L,J,d⟩
 case post =>
  refine all2 λB q=>?_;rintro b ⟨L,J,d⟩;dsimp only at *;subst J;exact Zi (h b L d)
 case step =>
  intro k;refine all2 λB q=>?_;rintro b LR KY ⟨L,J,d⟩;dsimp only at *;have X:=L.size;have p:∀j,j<=a+k->G (K (arrOf b) j):=λj hj=>L.good g (by lia);refine ZZ (Y5 (Yc
   (I:=λx c y=>b=y/\c.1=none/\c.2.1<=c.2.2/\c.2.2<=k/\c.2.2-c.2.1+x<=k/\(∀i,a<=i->i<a+c.2.1->le r (K (arrOf b) i) (K (arrOf b) (a+k)))/\(∀i,a+c.2.2<=i->i<a+k->le r (K (arrOf b) (a+k)) (K (arrOf b) i)))
   (Q:=λc y=>b=y/\c.1=none/\c.2.1=c.2.2/\c.2.2<=k/\(∀i,a<=i->i<a+c.2.1->le r (K (arrOf b) i) (K (arrOf b) (a+k)))/\(∀i,a+c.2.2<=i->i<a+k->le r (K (arrOf b) (a+k)) (K (arrOf b) i))) ?step2 ?fin2 ?init2) ?post2)
  case init2=>exact⟨rfl,rfl,by(try dsimp only);exact ZR _,by(try dsimp only);exact Zo _,by(try dsimp only);lia,λi f o=>by(try dsimp only at o);lia,λi f o=>by(try dsimp only at f);lia⟩
  case fin2 =>
   refine jf λN l D=>?_;rintro y ⟨e,H,M,F,R,v,u⟩;dsimp only at *;exact⟨e,H,by(try dsimp only);lia,F,v,u⟩
  case step2 =>
   intro x;refine jf λN l D=>?_;rintro y _ hx ⟨e,H,M,F,R,v,u⟩;subst e;dsimp only at *;refine aD (λz=>?_) λz=>?_
   ·exact Zi ⟨rfl,rfl,by(try dsimp only);exact Nat.le_antisymm M z,F,v,u⟩
   ·refine ZZ (md C Y g L (by lia) (by lia) ?_);dsimp only;cases e2:r (K (arrOf b) (a+k)) (K (arrOf b) (a+(l+D)/2)) with
    |true =>
     have U:=C.IW (p _ (by exact Zo _)) (p _ (by lia)) e2;exact Zi ⟨rfl,rfl,by(try dsimp only);lia,by(try dsimp only);lia,by(try dsimp only);lia,v,λi f o=>C.tr (p _ (by exact Zo _)) (p _ (by lia)) (p _ (by exact Z0 o)) U (d _ i (by exact Z1 _ _) f o)⟩
    |false =>
     refine Zi ⟨rfl,rfl,by(try dsimp only);lia,by(try dsimp only);omega,by(try dsimp only);lia,λi f o=>?_,u⟩
     (try dsimp only at o)
     exact C.tr (p _ (by lia)) (p _ (by lia)) (p _ (by exact Zo _)) (d i (a+(l+D)/2) f (by lia) (by lia)) e2
  case post2 =>
   refine jf λN l D=>?_;rintro y ⟨e,H,M,F,v,u⟩;subst e;dsimp only at *;subst H;dsimp only;refine ZZ (xQ ?_);have Z:a+k-(a+l)=k-l:=by lia
   rw[Z];refine Zi ⟨L.bub (by lia) (by lia),rfl,λi j f o h3=>?_⟩;show le r (K (bubble _ _ _) i) (K (bubble _ _ _) j);rw[B8 (by lia) (by lia),B8 (by lia) (by lia)];by_cases B:i=a+k-(k-l)
   ·rw[Zs B];by_cases q:j=a+k-(k-l)
    ·rw[Zs q];exact C.refl (p _ (by exact Zo _))
    ·rw[Zp q,Zs (by omega)];exact u _ (by omega) (by lia)
   ·rw[Zp B];by_cases P:a+k-(k-l)<i/\i<=a+k
    ·rw[Zs P];rw[Zp (by lia),Zs (by omega)];exact d _ _ (by omega) (by lia) (by lia)
    ·rw[Zp P];by_cases q:j=a+k-(k-l)
     ·rw[Zs q];exact v i f (by lia)
     ·rw[Zp q];by_cases O:a+k-(k-l)<j/\j<=a+k
      ·rw[Zs O];exact d _ _ f (by omega) (by lia)
      ·rw[Zp O];exact d _ _ f o (by omega)
theorem uP(b:Nat):∀(l:List Keyed)(off:Nat)(arr:Array Keyed),b+off+l.length<=arr.size →
  ((l.zipIdx off).foldl (λa x=>a.setIfInBounds (b+x.snd) x.fst) arr).toList=arr.toList.take (b+off)++l++arr.toList.drop (b+off+l.length)
 |[],off,arr,h=>by simp
 |x :: l,off,arr,h=>by
  rw[W9,X5];rw[Zk]at h;rw[uP b l (off+1) _ (by rw[Array.size_setIfInBounds];lia)];dsimp only;have d:b+off<arr.toList.length:=by simp;lia
  rw[Array.toList_setIfInBounds,List.set_eq_take_append_cons_drop,Zs d];have e1:(arr.toList.take (b+off)++x :: arr.toList.drop (b+off+1)).take (b+(off+1))=arr.toList.take (b+off)++[x]:=by
   have:(arr.toList.take (b+off)).length=b+off:=by rw[ZC];lia
   rw[List.take_append,this,Yr (by rw[this];lia)];have:b+(off+1)-(b+off)=1:=by lia
   rw[this];rfl
  have e2:(arr.toList.take (b+off)++x :: arr.toList.drop (b+off+1)).drop (b+(off+1)+l.length)=arr.toList.drop (b+off+(l.length+1)):=by
   have:(arr.toList.take (b+off)).length=b+off:=by rw[ZC];lia
   rw[XB,this,YV (by rw[this];lia),Yg];have:b+(off+1)+l.length-(b+off)=l.length+1:=by lia
   rw[this,List.drop_succ_cons,List.drop_drop];congr 1;lia
  rw[e1,e2];simp
end TS
end
section
open PySem PyProof.Rows
namespace TS
variable{prog:Program}{w:World}{A:Around}{E:Z3}{s:Shared}{κ:SortKind}{G:Keyed->Prop}{r:Keyed->Keyed->Bool}
theorem i4{a:Array Keyed}{P X S:List Keyed}(e:a.toList=P++X++S)(j:Nat)(b:j<X.length):∃h:P.length+j<a.size,a[P.length+j]=X[j]:=by
 have f:a.size=P.length+X.length+S.length:=by
  have:=congrArg List.length e;simp at this;lia
 have h:P.length+j<a.size:=by lia
 refine⟨h,?_⟩;have d:a[P.length+j]?=X[j]?:=by
  rw[← Yw,e,Zd,Yq (by exact Z1 _ _),YE,Ys b]
 rw[getElem?_pos a _ h,getElem?_pos X _ b]at d;exact Zl d
theorem u5(C:Iv prog w A E s κ G r){a:Array Keyed}{P X S:List Keyed}(e:a.toList=P++X++S)(g:∀x∈a,G x)(f:X.Pairwise (le r)):Seg r a P.length (P.length+X.length):=by
 intro i j h n q p o;obtain⟨d,rfl⟩:∃d,i=P.length+d:=⟨i-P.length,by lia⟩
 obtain⟨b,rfl⟩:∃b,j=P.length+b:=⟨j-P.length,by lia⟩
 obtain⟨_,e1⟩:=i4 e d (by lia);obtain⟨_,e2⟩:=i4 e b (by lia);rcases Wb d b with m | l
 ·rw[e1,e2];exact YL.mp f d b (by lia) (by lia) m
 ·have:d=b:=by lia
  subst this;exact C.refl (g _ (Zh h))
theorem DD(C:Iv prog w A E s κ G r){i L QN:Nat}{b:SortSt}{Q:Bool->SortSt->Prop}{P X Y S:List Keyed}(N:kindOf b=κ)(g:∀x∈arrOf b,G x)(hf:failedOf b=none)(u:(arrOf b).toList=P++X++(Y++S))(p1:(pendingOf b)[i]?=some (P.length,X.length,L))(p2:(pendingOf b)[i+1]?=some (P.length+X.length,Y.length,QN))(D:X.Pairwise (le r))(F:Y.Pairwise (le r))(nX:0<X.length)(nY:0<Y.length)(h:∀J M,M.Perm (X++Y)->M.Pairwise (le r)->(arrOf J).toList=P++M++S->kindOf J=kindOf b->failedOf J=none →
   pendingOf J=((pendingOf b).setIfInBounds i (P.length,X.length+Y.length,L)).eraseIdxIfInBounds (i+1)->Q true J):wpS (model prog w) A E s (mergeAt' i) Q b:=by
 have e2:(arrOf b).toList=(P++X)++Y++S:=by rw[u];simp
 have hs:(arrOf b).size=P.length+X.length+Y.length+S.length:=by
  have:=congrArg List.length u;simp at this;lia
 have gm:∀x,x∈(arrOf b).toList->G x:=λx d=>g x (by simpa using d);have gX:∀x∈X,G x:=λx d=>gm x (by rw[u];simp[d]);have H:∀x∈Y,G x:=λx d=>gm x (by rw[u];simp[d]);have QK:=u5 C u g D;have Nb:=u5 C e2 g F;rw[Zy]at Nb;obtain⟨hb,eb⟩:=i4 e2 0 nY;simp only[Zy,Nat.add_zero]at hb eb;obtain⟨hl,el⟩:=i4 u (X.length-1) (by lia);have gb:G (arrOf b)[P.length+X.length]:=g _ (Zh hb);unfold mergeAt';change wpS (model prog w) A E s (_>>=_) Q b;dsimp only;refine ZZ (WR ?_);rw[show (sortPriv% PySem.Builtin.SortState.pending) b=pendingOf b from rfl,p1,p2];dsimp only;refine ZZ (show wpS _ _ _ _ (set _) _ _ from ?_);refine(show wpS (model prog w) A E s (modify (λ_=>SortSt.mk' (kindOf b) (arrOf b) (((pendingOf b).setIfInBounds i (P.length,X.length+Y.length,L)).eraseIdxIfInBounds (i+1)) (gallopOf b) (failedOf b))) _ b from X6 ?_);refine ZZ (eU hb ?_);refine ZZ (h9 C (hint:=0) (by exact N) gb g (by show P.length+X.length<=(arrOf b).size;exact Z0 hb) nX QK λk LR KY N6=>?_);dsimp only;have R:∀x∈X.take k,le r x (arrOf b)[P.length+X.length]:=λx d=>by
  obtain⟨j,o,rfl⟩:=Ym d;rw[ZC]at o;obtain⟨t,f⟩:=i4 u j (by lia);rw[Xm,← f];exact KY _ t (by exact Z1 _ _) (by lia)
 have z2:∀x∈X.drop k,le r (arrOf b)[P.length+X.length] x:=λx d=>by
  obtain⟨j,o,rfl⟩:=Ym d;rw[Z7]at o;obtain⟨t,f⟩:=i4 u (k+j) (by lia);rw[Xl,← f];exact N6 _ t (by lia) (by lia)
 have S6:∀y∈Y,le r (arrOf b)[P.length+X.length] y:=λy e=>by
  obtain⟨j,o,rfl⟩:=Ym e;obtain⟨t,f⟩:=i4 e2 j o;simp only[Zy]at t f;rw[← f];exact Nb _ _ hb t (by exact Zo _) (by exact Z1 _ _) (by lia)
 refine aD (λf=>?_) λf=>?_
 ·have JD:X.length<=k:=by simp at f;lia
  refine Zi (h _ (X++Y) (Ww _) ?_ (by show (arrOf b).toList=_;rw[u];simp) rfl hf rfl);rw[Z5];refine⟨D,F,λx d y e=>C.tr (gX x d) gb (H y e) (R x (by rw[Yr JD];exact d)) (S6 y e)⟩
 have Ub:k<X.length:=by simp at f;lia
 have ei:P.length+k+(X.length-k)-1=P.length+(X.length-1):=by lia
 refine ZZ (eU (show P.length+k+(X.length-k)-1<(arrOf b).size by omega) ?_);have SU:∀(q:P.length+k+(X.length-k)-1<(arrOf b).size),(arrOf b)[P.length+k+(X.length-k)-1]=X[X.length-1]:=λq=>by
  simp only[ei];exact el
 rw[SU];have gl:G X[X.length-1]:=gX _ (Yt _);refine ZZ (h9 C (hint:=Y.length-1) (by exact N) gl g (by show P.length+X.length+Y.length<=(arrOf b).size;lia) (by lia) Nb λm N5 OZ Z=>?_);dsimp only;have y1:∀x∈Y.take m,le r x X[X.length-1]:=λx d=>by
  obtain⟨j,o,rfl⟩:=Ym d;rw[ZC]at o;obtain⟨t,f⟩:=i4 e2 j (by lia);simp only[Zy]at t f;rw[Xm,← f];exact OZ _ t (by exact Z1 _ _) (by lia)
 have y2:∀x∈Y.drop m,le r X[X.length-1] x:=λx d=>by
  obtain⟨j,o,rfl⟩:=Ym d;rw[Z7]at o;obtain⟨t,f⟩:=i4 e2 (m+j) (by lia);simp only[Zy]at t f;rw[Xl,← f];exact Z _ t (by lia) (by lia)
 have xl:∀x∈X,le r x X[X.length-1]:=λx d=>by
  obtain⟨j,o,rfl⟩:=Ym d;rcases Wb j (X.length-1) with Ir | hge
  ·exact YL.mp D j _ o (by omega) Ir
  ·have:j=X.length-1:=by omega
   subst this;exact C.refl gl
 refine aD (λO=>?_) λO=>?_
 ·have NN:m=0:=by simpa using O
  subst NN;refine Zi (h _ (X++Y) (Ww _) ?_ (by show (arrOf b).toList=_;rw[u];simp) rfl hf rfl);rw[Z5];exact⟨D,F,λx d y e=>C.tr (gX x d) gl (H y e) (xl x d) (y2 y e)⟩
 have IF:0<m:=by simp at O;exact Z2 O
 have ex:((arrOf b).extract (P.length+k) (P.length+X.length)).toList=X.drop k:=by
  rw[X2,List.extract_eq_drop_take,u,Zd,XB,YV (by exact Z1 _ _),Yg];have:P.length+k-P.length=k:=by exact YE _ _
  rw[this,XB,Nat.sub_eq_zero_of_le (by omega:k<=X.length),XJ];rw[X1 (by rw[Z7];lia),Yr (by rw[Z7];lia)]
 have B:((arrOf b).extract (P.length+X.length) (P.length+X.length+m)).toList=Y.take m:=by
  rw[X2,List.extract_eq_drop_take,e2,Zd,XB,YV (by simp),Yg];have:P.length+X.length-(P++X).length=0:=by simp
  rw[this,XJ];have:P.length+X.length+m-(P.length+X.length)=m:=by exact YE _ _
  rw[this,X1 (by omega)]
 obtain⟨n,R6⟩:∃n,n=(arrOf b).extract (P.length+k) (P.length+X.length):=⟨_,rfl⟩
 obtain⟨v,R5⟩:∃v,v=(arrOf b).extract (P.length+X.length) (P.length+X.length+m):=⟨_,rfl⟩
 rw[← R6]at ex;rw[← R5]at B;have mx:∀x,x∈n->x∈X.drop k:=λx d=>by rw[← ex];simpa using d
 have my:∀x,x∈v->x∈Y.take m:=λx d=>by rw[← B];simpa using d
 have szx:n.size=X.length-k:=by have:=congrArg List.length ex;simpa using this
 have szy:v.size=m:=by have:=congrArg List.length B;simp at this;lia
 have Ux:∀x∈n,G x:=λx d=>gX x (YQ (mx x d));have Uw:∀x∈v,G x:=λx d=>H x (YX (my x d));have y0:∀(q:0<v.size),v[0]=(arrOf b)[P.length+X.length]:=λq=>by
  rw[eb];have:v[0]?=Y[0]?:=by rw[← Yw,B,List.getElem?_take_of_lt IF]
  rw[getElem?_pos v 0 q,getElem?_pos Y 0 nY]at this;exact Zl this
 have Vh:∀(q:n.size-1<n.size),n[n.size-1]=X[X.length-1]:=λq=>by
  have:n[n.size-1]?=X[X.length-1]?:=by
   rw[← Yw,ex,List.getElem?_drop];congr 1;lia
  rw[getElem?_pos n _ q,getElem?_pos X _ (by omega)]at this;exact Zl this
 have M:MC G r n v:=by
  refine⟨Ux,Uw,xI C Ux (by rw[ex];exact D.drop),xI C Uw (by rw[B];exact F.take),by lia,by lia,?_,λj o=>?_⟩
  ·rw[y0];exact z2 _ (mx _ (Zh _))
  ·rw[Vh];exact y1 _ (my _ (Zh o))
 have fin:∀(l:SortSt)(res:Array Keyed),ir (SortSt.mk' (kindOf b) (arrOf b) (((pendingOf b).setIfInBounds i (P.length,X.length+Y.length,L)).eraseIdxIfInBounds (i+1)) (gallopOf b) (failedOf b)) l->MR r n v res →
   Q (failedOf l).isNone (SortSt.mk' (kindOf l) (res.toList.zipIdx.foldl (λa x=>a.setIfInBounds (P.length+k+x.snd) x.fst) (arrOf l)) (pendingOf l) (gallopOf l) (failedOf l)):=λl res kp z=>by
  obtain⟨k1,k2,k3,k4⟩:=kp;have U:failedOf l=none:=k4.trans hf;have Ru:arrOf l=arrOf b:=k2;rw[U];have hl:res.toList.length=X.length-k+m:=by
   rw[z.1.length_eq,ex,B];simp;exact YW N5
  have mem:∀x,x∈res.toList->x∈X.drop k\/x∈Y.take m:=λx d=>by
   have:=z.1.mem_iff.mp d;rw[ex,B]at this;exact Ze.mp this
  have bk:=uP (P.length+k) res.toList 0 (arrOf l) (by rw[Ru];omega);rw[Ru,Nat.add_zero]at bk;have t1:(arrOf b).toList.take (P.length+k)=P++X.take k:=by
   rw[u,Zd,List.take_append,Yr (by exact Z1 _ _),YE,X1 (by omega)]
  have t2:(arrOf b).toList.drop (P.length+k+res.toList.length)=Y.drop m++S:=by
   rw[e2,Zd,XB,YV (by rw[Zy];omega),Yg];have:P.length+k+res.toList.length-(P++X).length=m:=by rw[Zy];omega
   rw[this,List.drop_append_of_le_length (by omega)]
  refine h _ (X.take k++res.toList++Y.drop m) ?_ ?_ ?_ k1 rfl k3
  ·have p:(X.take k++(X.drop k++Y.take m)++Y.drop m)=X++Y:=by
    rw[← Zd,YS,Zd,YS]
   rw[← p];have:=z.1;rw[ex,B]at this;exact(this.append_left _).append_right _
  ·rw[Z5,Z5];refine⟨⟨D.take,z.2,λx d y e=>?_⟩,F.drop,λx d y e=>?_⟩
   ·rcases mem y e with e | e
    ·have:=D;rw[← YS k X,Z5]at this;exact this.2.2 x d y e
    ·exact C.tr (gX _ (YX d)) gb (H _ (YX e)) (R x d) (S6 y (YX e))
   ·rcases Ze.mp d with d | d
    ·exact C.tr (gX _ (YX d)) gb (H _ (YQ e)) (R x d) (S6 y (YQ e))
    ·rcases mem x d with d | d
     ·exact C.tr (gX _ (YQ d)) gl (H _ (YQ e)) (xl x (YQ d)) (y2 y e)
     ·have:=F;rw[← YS m Y,Z5]at this;exact this.2.2 x d y e
  ·show (List.foldl _ (arrOf l) _).toList=_;rw[Ru,bk,t1,t2];simp
 refine aD (λ_=>?_) λ_=>?_
 ·refine ZZ (?_:wpS (model prog w) A E s (nG ((arrOf b).extract (P.length+k) (P.length+X.length)) ((arrOf b).extract (P.length+X.length) (P.length+X.length+m))) _ _);rw[← R6,← R5];refine ER C (by exact N) M λres l kp z=>?_;exact ZZ (X6 (ZZ (WR (Zi (fin l res kp z)))))
 ·refine ZZ (?_:wpS (model prog w) A E s (oR ((arrOf b).extract (P.length+k) (P.length+X.length)) ((arrOf b).extract (P.length+X.length) (P.length+X.length+m))) _ _);rw[← R6,← R5];refine E7 C (by exact N) M λres l kp z=>?_;exact ZZ (X6 (ZZ (WR (Zi (fin l res kp z)))))
end TS
end
section
open PySem PyProof.Rows
namespace TS
variable{prog:Program}{w:World}{A:Around}{E:Z3}{s:Shared}{κ:SortKind}{G:Keyed->Prop}{r:Keyed->Keyed->Bool}
noncomputable def jW:Nat->List (List Keyed)->List (Nat×Nat)
 |_,[]=>[]
 |o,Rq :: Rs=>(o,Rq.length) :: jW (o+Rq.length) Rs
theorem jE:∀(a b:List (List Keyed))(o:Nat),jW o (a++b)=jW o a++jW (o+a.flatten.length) b
 |[],b,o=>by simp[jW]
 |Rq :: a,b,o=>by
  show (o,Rq.length) :: jW (o+Rq.length) (a++b)=(o,Rq.length) :: (jW (o+Rq.length) a++_);rw[jE a b];simp[Nat.add_assoc]
theorem jm:∀(a:List (List Keyed))(o:Nat),(jW o a).length=a.length
 |[],o=>rfl
 |Rq :: a,o=>by show (jW _ a).length+1=_;rw[jm a];rfl
theorem pG{α β:Type}(f:α->β):∀(l:List α)(i:Nat),(l.eraseIdx i).map f=(l.map f).eraseIdx i
 |[],i=>rfl
 |x :: l,0=>rfl
 |x :: l,i+1=>by show f x :: (l.eraseIdx i).map f=f x :: (l.map f).eraseIdx i;rw[pG f l i]
structure RI(κ:SortKind)(r:Keyed->Keyed->Bool)(a₀:Array Keyed)(st:SortSt)(runs:List (List Keyed))(rest:List Keyed):Prop where
 kind:kindOf st=κ
 fail:failedOf st=none
 arr:(arrOf st).toList=runs.flatten++rest
 pend:(pendingOf st).toList.map (λp=>(p.1,p.2.1))=jW 0 runs
 ok:∀Rq∈runs,0<Rq.length/\Rq.Pairwise (le r)
 perm:(arrOf st).Perm a₀
theorem RI.good{d:Array Keyed}{b:SortSt}{a:List (List Keyed)}{rest:List Keyed}(h:RI κ r d b a rest)(g:∀x∈d,G x):∀x∈arrOf b,G x:=λx e=>by
 have:x∈(arrOf b).toList:=by simpa using e
 exact g x (by simpa using(Xg.mp h.perm).mem_iff.mp this)
theorem RI.MF{d:Array Keyed}{b:SortSt}{a:List (List Keyed)}{rest:List Keyed}(h:RI κ r d b a rest):(pendingOf b).size=a.length:=by
 have:=congrArg List.length h.pend;rw[Zx,jm]at this;simpa using this
theorem RI.at{g:Array Keyed}{f:SortSt}{d post:List (List Keyed)}{X:List Keyed}{rest:List Keyed}(h:RI κ r g f (d++X :: post) rest):∃pw,(pendingOf f)[d.length]?=some (d.flatten.length,X.length,pw):=by
 have e:((pendingOf f).toList.map (λp=>(p.1,p.2.1)))[d.length]?=some (d.flatten.length,X.length):=by
  rw[h.pend,jE,Yq (by rw[jm];exact Zo _),jm,WD,YB];rfl
 rw[ZM,Yw]at e;obtain⟨⟨a,b,c⟩,e1,e2⟩:=Zu.mp e;injection e2 with e3 e4
 dsimp only at e3 e4;exact⟨c,by rw[e1,e3,e4]⟩
theorem rR{α:Type}:∀{l:List α}{i:Nat},i+1<l.length->∃pre X Y post,l=pre++X :: Y :: post/\pre.length=i
 |[],i,h=>by simp at h
 |[x],i,h=>by simp at h
 |x :: y :: l,0,h=>⟨[],x,y,l,rfl,rfl⟩
 |x :: y :: l,i+1,h=>by
  obtain⟨pre,X,Y,post,e,a⟩:=rR (l:=y :: l) (i:=i) (by simp at h ⊢;omega);exact⟨x :: pre,X,Y,post,by rw[e];rfl,by rw[Zk,a]⟩
theorem RI.merge(C:Iv prog w A E s κ G r){j:Array Keyed}{d:SortSt}{a:List (List Keyed)}{rest:List Keyed}{i:Nat}{Q:Bool->SortSt->Prop}(h:RI κ r j d a rest)(g:∀x∈j,G x)(R:i+1<a.length)(O:∀f m,RI κ r j f m rest->m.length+1=a.length->m.flatten.length=a.flatten.length->Q true f):wpS (model prog w) A E s (mergeAt' i) Q d:=by
 obtain⟨pre,X,Y,post,rfl,rfl⟩:=rR R;obtain⟨pw,F⟩:=h.at;have U:RI κ r j d ((pre++[X])++Y :: post) rest:=by
  have e:(pre++[X])++Y :: post=pre++X :: Y :: post:=by simp
  rw[e];exact h
 obtain⟨QN,D⟩:=U.at;have o:=h.ok X (by simp);have n:=h.ok Y (by simp);have V2:(pendingOf d)[pre.length+1]?=some (pre.flatten.length+X.length,Y.length,QN):=by
  simpa using D
 refine DD C (P:=pre.flatten) (X:=X) (Y:=Y) (S:=post.flatten++rest) h.kind (h.good g) h.fail (by rw[h.arr];simp) F V2 o.2 n.2 o.1 n.1 λf M q N p L J H=>?_;have B:=q.length_eq;rw[Zy]at B;refine O f (pre++M :: post) ⟨L.trans h.kind,J,by rw[p];simp,?_,λRq b=>?_,?_⟩ (by simp;exact Nat.add_assoc _ _ _) (by simp;lia)
 ·rw[H];have Z:(((pendingOf d).setIfInBounds pre.length (pre.flatten.length,X.length+Y.length,pw)).eraseIdxIfInBounds (pre.length+1)).toList=((pendingOf d).toList.set pre.length (pre.flatten.length,X.length+Y.length,pw)).eraseIdx (pre.length+1):=by
   simp
  rw[Z,pG,Wa,h.pend];show ((jW 0 (pre++X :: Y :: post)).set pre.length (pre.flatten.length,X.length+Y.length)).eraseIdx (pre.length+1)=jW 0 (pre++M :: post);rw[jE,jE];have ol:=jm pre 0;have e1:∀(u v t:List (Nat×Nat))(x y z:Nat×Nat),u.length=pre.length->((u++x :: y :: t).set pre.length z).eraseIdx (pre.length+1)=u++z :: t:=λu v t x y z l=>by
   rw[List.set_append_right _ _ (by exact XO l),l,WD,List.eraseIdx_append_of_length_le (by lia),l];have:pre.length+1-pre.length=1:=by exact YE _ _
   rw[this];rfl
  show ((jW 0 pre++(0+pre.flatten.length,X.length) :: (0+pre.flatten.length+X.length,Y.length) :: jW (0+pre.flatten.length+X.length+Y.length) post).set _ _).eraseIdx _=jW 0 pre++(0+pre.flatten.length,M.length) :: jW (0+pre.flatten.length+M.length) post;rw[e1 _ [] _ _ _ _ ol,B,YB,Nat.add_assoc]
 ·rcases Ze.mp b with b | b
  ·exact h.ok Rq (by simp[b])
  ·rcases Zj.mp b with rfl | b
   ·exact⟨by lia,N⟩
   ·exact h.ok Rq (by simp[b])
 ·refine Array.Perm.trans ?_ h.perm;rw[Xg,p,h.arr];have e:(pre++X :: Y :: post).flatten++rest=pre.flatten++(X++Y)++(post.flatten++rest):=by simp
  rw[e];exact(q.append_left _).append_right _
end TS
end
section
open PySem PyProof.Rows
namespace TS
variable{prog:Program}{w:World}{A:Around}{E:Z3}{s:Shared}{κ:SortKind}{G:Keyed->Prop}{r:Keyed->Keyed->Bool}
theorem RI.loc{f:Array Keyed}{d b:SortSt}{a:List (List Keyed)}{rest:List Keyed}(h:RI κ r f d a rest)(L:Lc a.flatten.length d b):RI κ r f b a ((arrOf b).toList.drop a.flatten.length):=by
 refine⟨L.kind.trans h.kind,L.fail.trans h.fail,?_,by rw[L.pend];exact h.pend,h.ok,L.perm.trans h.perm⟩;have e:(arrOf b).toList.take a.flatten.length=a.flatten:=by
  have e2:(arrOf d).toList.take a.flatten.length=a.flatten:=by rw[h.arr,List.take_left]
  refine Eq.trans ?_ e2;apply Wp;intro i;rw[List.getElem?_take,List.getElem?_take];split
  ·rename_i g;rw[Yw,Yw];exact L.pre i g
  ·rfl
 conv=>lhs;rw[← YS a.flatten.length (arrOf b).toList,e]
theorem RI.push{f:Array Keyed}{b:SortSt}{a:List (List Keyed)}{rest:List Keyed}{n d:Nat}(h:RI κ r f b a rest)(j:a.flatten.length=d)(l:0<n)(i:n<=rest.length)(g:(rest.take n).Pairwise (le r)) :
  RI κ r f (setPending b ((pendingOf b).push (d,n,0))) (a++[rest.take n]) (rest.drop n):=by
 refine⟨h.kind,h.fail,?_,?_,λRq e=>?_,h.perm⟩
 ·show (arrOf b).toList=_;rw[h.arr];simp
 ·show ((pendingOf b).push (d,n,0)).toList.map _=_;rw[W6,Z8,h.pend,jE,YB,j];show _++[(d,n)]=_++[(d,(rest.take n).length)];rw[ZC,YW i]
 ·rcases Ze.mp e with e | e
  ·exact h.ok Rq e
  ·rw[Za.mp e];exact⟨by rw[ZC];lia,g⟩
theorem uX{α β:Type}(f:α->β)(g:α->α)(a:∀x,f (g x)=f x):∀(l:List α)(i:Nat),(l.modify i g).map f=l.map f
 |[],i=>by simp
 |x :: l,0=>by simp[a]
 |x :: l,i+1=>by simp[uX f g a l i]
theorem RI.mod{e:Array Keyed}{b:SortSt}{a:List (List Keyed)}{rest:List Keyed}(h:RI κ r e b a rest)(i d:Nat):RI κ r e (setPending b ((pendingOf b).modify i λx=>(x.1,x.2.1,d))) a rest :=
 ⟨h.kind,h.fail,h.arr,by
  show ((pendingOf b).modify i λx=>(x.1,x.2.1,d)).toList.map _=_;rw[Array.toList_modify,uX (λp:Nat×Nat×Nat=>(p.1,p.2.1)) (λx=>(x.1,x.2.1,d)) (λx=>rfl),h.pend],h.ok,h.perm⟩
theorem Sg.pw{b:Array Keyed}{a n:Nat}(h:Sg r b a (a+n))(f:a+n<=b.size):((b.toList.drop a).take n).Pairwise (le r):=by
 rw[YL];intro i j e d g;rw[ZC,Z7]at e d;rw[Xm,Xm,Xl,Xl];have:=h (a+i) (a+j) (by exact Z1 _ _) (by lia) (by lia);rw[wY (by lia),wY (by lia)]at this;simpa using this
theorem RI.size{b:Array Keyed}{d:SortSt}{a:List (List Keyed)}{rest:List Keyed}(h:RI κ r b d a rest):a.flatten.length+rest.length=b.size:=by
 have e:=congrArg List.length h.arr;rw[Zy,YY,h.perm.size_eq]at e;exact e.symm
theorem Ag{a:List (List Keyed)}(h:∀Rq∈a,0<Rq.length/\Rq.Pairwise (le r)):a.length<=a.flatten.length:=by
 induction a with
 |nil=>exact Zo _
 |cons Rq Rs b =>
  have f:=(h Rq (Zw ..)).1;have e:=b λx d=>h x (Zv _ d);simp only[Zk,ZI,Zy];lia
theorem CD{c:Prop}[Decidable c]{a b n:Nat}(e:a+1<n)(d:b+1<n):(if c then a else b)+1<n:=by
 split
 ·exact e
 ·exact d
theorem wL{α:Type}{a b d:Nat->Prop}{c:Nat->Prop}[∀n,Decidable (c n)]{x Rq:Nat->StateT SortSt Sem α}{Q:α->SortSt->Prop}{P:Nat->SortSt->Prop}{f:SortSt}(D:∀n e,P n e->wpS (model prog w) A E s (Rq n) Q e)(g:∀m,a m->b m->d m->¬c m->P m f)(h:∀m,a m->b m->d m->c m->(∀n e,P n e->wpS (model prog w) A E s (Rq n) Q e)->wpS (model prog w) A E s (x m) Q f):∀m,a m->b m->d m->wpS (model prog w) A E s (if c m then x m else Rq m) Q f :=
 λm p q z=>aD (λy=>h m p q z y D) λy=>D m f (g m p q z y)
theorem BD(C:Iv prog w A E s κ G r){a₀:Array Keyed}{st:SortSt}{Q:Unit->SortSt->Prop}(hk:kindOf st=κ)(g:∀x∈a₀,G x)(ha:arrOf st=a₀)(hp:pendingOf st=#[])(hf:failedOf st=none)(h:∀d,(arrOf d).Perm a₀->failedOf d=none->(arrOf d).toList.Pairwise (le r)->Q () d):wpS (model prog w) A E s sortRuns' Q st:=by
 have Rq0:RI κ r a₀ st [] a₀.toList:=⟨hk,hf,by rw[ha];rfl,by rw[hp];rfl,λRq q=>by simp at q,by rw[ha]⟩
 unfold sortRuns';change wpS (model prog w) A E s (_>>=_) Q st;dsimp only;refine ZZ (WR ?_);have esz:((sortPriv% PySem.Builtin.SortState.a) st).size=a₀.size:=by rw[← ha]
 rw[esz];refine ZZ (Y5 (Yc
  (I:=λx c d=>c.1=none/\∃runs rest,RI κ r a₀ d runs rest/\runs.flatten.length=c.2/\x<=c.2)
  (Q:=λc d=>c.1=none/\∃runs,RI κ r a₀ d runs []) ?step ?fin ?init) ?post)
 case init=>exact⟨rfl,_,_,Rq0,rfl,Zo _⟩
 case fin =>
  refine all2 λu lo=>?_;rintro d ⟨i,runs,rest,Rq,j,hx⟩;dsimp only at *;have:=Rq.size;have e:rest=[]:=List.eq_nil_of_length_eq_zero (by lia);subst e;exact⟨i,runs,Rq⟩
 case step =>
  intro x;refine all2 λu lo=>?_;rintro d _ hx ⟨i,runs,rest,Rq,j,hxl⟩;dsimp only at *;have L:=Rq.size;refine aD (λe=>?_) λe=>?_
  ·have e:rest=[]:=List.eq_nil_of_length_eq_zero (by lia);subst e;exact Zi ⟨rfl,runs,Rq⟩
  have asz:(arrOf d).size=a₀.size:=Rq.perm.size_eq;refine ZZ (DX C Rq.kind (Rq.good g) (by lia) (by rw[asz];lia) λm O L2 S m2 Z=>?_);dsimp only;have N:RI κ r a₀ O runs ((arrOf O).toList.drop runs.flatten.length):=Rq.loc (by rw[j];exact L2);have S8:(arrOf O).size=a₀.size:=N.perm.size_eq;revert m;refine wL (P:=λnn o=>∃f,RI κ r a₀ o runs f/\f.length=a₀.size-lo/\0<nn/\nn<=f.length/\(f.take nn).Pairwise (le r)) ?D ?two ?one
  case one =>
   intro m S m2 Z e2 Dk;refine ZZ (iM ?_);refine ZZ (CL C N.kind (N.good g) S (by omega) (by lia) Z λo L3 S3=>?_);refine aD (λe=>absurd e (by decide)) λ_=>?_;have U9:RI κ r a₀ o runs ((arrOf o).toList.drop runs.flatten.length):=N.loc (by rw[j];exact L3);have S7:(arrOf o).size=a₀.size:=U9.perm.size_eq;obtain⟨f,y⟩:∃l,l=(arrOf o).toList.drop runs.flatten.length:=⟨_,rfl⟩
   have J:RI κ r a₀ o runs f:=by rw[y];exact U9
   have Ji:=j;have Qp:f.length=a₀.size-lo:=by rw[y,Z7,YY,S7,j]
   obtain⟨R,en3⟩:∃n,n=min (a₀.size-lo) ((sortPriv% PySem.Builtin.minRun) a₀.size a₀.size 0):=⟨_,rfl⟩
   rw[← en3]at S3 ⊢;have B:0<R:=by lia
   have F:R<=f.length:=by omega
   have H:(f.take R).Pairwise (le r):=by rw[y,j];exact S3.pw (by lia)
   exact Dk R o ⟨f,J,Qp,B,F,H⟩
  case two =>
   intro m S m2 Z e2;obtain⟨f,y⟩:∃l,l=(arrOf O).toList.drop runs.flatten.length:=⟨_,rfl⟩
   have J:RI κ r a₀ O runs f:=by rw[y];exact N
   have Ji:=j;have Qp:f.length=a₀.size-lo:=by rw[y,Z7,YY,S8,j]
   have B:0<m:=by exact Nat.lt_of_succ_le S
   have F:m<=f.length:=by lia
   have H:(f.take m).Pairwise (le r):=by rw[y,j];exact Z.pw (by lia)
   exact⟨f,J,Qp,B,F,H⟩
  case D =>
   rintro nn o ⟨f,J,Qp,B,F,H⟩;have Ji:=j;refine ZZ (WR ?_);cases hb:(pendingOf o).back? with
   |none =>
    dsimp only;refine ZZ (X6 ?_);refine Zi ⟨rfl,_,_,J.push Ji B F H,?_,by(try dsimp only);lia⟩;rw[Z4,Zy,WY,ZC]
    (try dsimp only)
    lia
   |some v =>
    obtain⟨s1,n1,pw1⟩:=v;dsimp only;refine ZZ (Y5 (Yc
     (I:=λx c d=>c.1=none/\∃p,RI κ r a₀ d p f/\p.flatten.length=lo)
     (Q:=λc d=>c.1=none/\∃p,RI κ r a₀ d p f/\p.flatten.length=lo) ?stepM ?finM ?initM) ?postM)
    case initM=>exact⟨rfl,_,J,Ji⟩
    case finM=>exact λc d h=>h
    case stepM =>
     intro x;refine all2 λu U=>?_;rintro d _ hx ⟨i,p,Rq,q⟩;refine ZZ (WR ?_);split
     ·rename_i a b c hh;refine aD (λ_=>?_) λ_=>?_
      ·exact Zi ⟨rfl,p,Rq,q⟩
      ·have P0:(pendingOf d).size > 1:=by
        by_cases z:(pendingOf d).size > 1
        ·exact z
        ·rw[Zp z]at hh;cases hh
       have Ny:=Rq.MF;refine ZZ (Rq.merge C g (show (pendingOf d).size-2+1<p.length by omega) λVF Lr Ta l4 f4=>?_);refine aD (λe=>absurd e (by decide)) λ_=>?_;exact Zi ⟨rfl,Lr,Ta,by rw[f4,q]⟩
     ·exact Zi ⟨rfl,p,Rq,q⟩
    case postM =>
     refine all2 λu U=>?_;rintro d ⟨i,p,Rq,q⟩;dsimp only at *;subst i;dsimp only;refine ZZ (X6 ?_);refine ZZ (X6 ?_);refine Zi ⟨rfl,_,_,(Rq.mod _ _).push q B F H,?_,by(try dsimp only);lia⟩;rw[Z4,Zy,WY,ZC]
     (try dsimp only)
     lia
 case post =>
  refine all2 λu lo=>?_;rintro d ⟨i,runs,Rq⟩;dsimp only at *;subst i;dsimp only;have rl:=Ag Rq.ok;have L:=Rq.size;simp only[YM,Nat.add_zero]at L;refine ZZ (Y5 (Yc
   (I:=λx c d=>c.1=none/\∃runs,RI κ r a₀ d runs []/\(runs.length<=1\/runs.length+x<=a₀.size))
   (Q:=λc d=>c.1=none/\∃runs,RI κ r a₀ d runs []/\runs.length<=1) ?step2 ?fin2 ?init2) ?post2)
  case init2=>exact⟨rfl,runs,Rq,.inr (by lia)⟩
  case fin2 =>
   refine all2 λu U=>?_;rintro d ⟨i,runs,Rq,M⟩;exact⟨i,runs,Rq,by lia⟩
  case step2 =>
   intro x;refine all2 λu U=>?_;rintro d _ hx ⟨i,runs,Rq,M⟩;have Ny:=Rq.MF;refine ZZ (WR ?_);refine aD (λe=>?_) λe=>?_
   ·exact Zi ⟨rfl,runs,Rq,by rw[← Ny];exact e⟩
   ·have e':1<runs.length:=by rw[← Ny];exact Wh e
    refine ZZ (Rq.merge C g ?_ λVF Lr Ta l4 f4=>?_)
    ·exact CD (show (pendingOf d).size-2-1+1<_ by omega) (show (pendingOf d).size-2+1<_ by lia)
    ·refine aD (λe=>absurd e (by decide)) λ_=>?_;exact Zi ⟨rfl,Lr,Ta,by lia⟩
  case post2 =>
   refine all2 λu U=>?_;rintro d ⟨i,runs,Rq,M⟩;dsimp only at *;subst i;refine Zi (h d Rq.perm Rq.fail ?_);rw[Rq.arr,ZQ]
   match runs,M,Rq.ok with
   |[],_,_=>exact List.Pairwise.nil
   |[X],_,ok =>
    rw[WY];exact(ok X (Zw ..)).2
   |X :: Y :: t,M,_=>simp at M
end TS
end
section
open PySem PyProof.Rows
namespace TS
variable{prog:Program}{w:World}{A:Around}{E:Z3}{s:Shared}{G:Keyed->Prop}{r:Keyed->Keyed->Bool}
noncomputable def iW(h:Heap)(a:Addr)(b:Wu):Heap:=((h.update a (Obj.mapSeq λ_=>#[])).push (seqObj "tuple" b.toArray 0)).push (seqObj "list" #[] 0)
theorem ma{e:Wu}{a:Array Keyed}(f:a.Perm (pairsOf e)):(a.map (·.2)).toList.Perm e/\(a.map (·.2)).toList.map (λv=>(v,v))=a.toList:=by
 have d:=Xg.mp f;rw[pairsOf_toList]at d;constructor
 ·rw[Array.toList_map];refine(d.map _).trans ?_;rw[show (λx:Keyed=>x.2)=Prod.snd from rfl,List.map_snd_zip (Zo _)]
 ·rw[Array.toList_map,Yv]
  conv=>rhs;rw[← WQ a.toList]
  apply X7;intro p b;have:=mem_zip_self (d.mem_iff.mp b);exact Prod.ext this.1.symm rfl
theorem C0{h:Heap}{a:Addr}{vs:Wu}{o:Obj}(b:a<h.objs.size)(g:(h.update a (Obj.mapSeq λ_=>#[])).get? a=some o):(iW h a vs).get? a=some o:=by
 have e:a≠(h.update a (Obj.mapSeq λ_=>#[])).objs.size:=by rw[WN];exact Zb b
 have d:a≠((h.update a (Obj.mapSeq λ_=>#[])).push (seqObj "tuple" vs.toArray 0)).objs.size:=by rw[size_push',WN];exact Zb (XQ b)
 exact(Xy _ _ _ d).trans ((Xy _ _ _ e).trans g)
theorem zd{a:Addr}{vs:Wu}{n:Nat}{P:PySem.Fin->Shared->Prop}{l:SortKind}(i:s.heap.get? a=some (seqObj "list" vs.toArray n))(C:Iv prog w A E { s with heap:=iW s.heap a vs } l G r)(B:∀v∈vs,G (v,v))(f:vs.length<=sizeLine)(J:2<=vs.length->∀Q:SortKind->Shared->Prop,Q l { s with heap:=iW s.heap a vs }->wpAny (model prog w) A (keyKind' vs.toArray) Q E { s with heap:=iW s.heap a vs })(h:∀out:Wu,out.Perm vs->(out.map λv=>(v,v)).Pairwise (le r)->P (.done (.ret .none)) { s with heap:=sortedHeap s.heap a vs out.toArray }) :
  wpAny (model prog w) A (Builtin.«list.sort» ⟨[.ref a],[]⟩) P E s:=by
 have Qs:vs.toArray.size=vs.length:=rfl;obtain⟨M,o⟩:∃k,(s.heap.update a (Obj.mapSeq λ_=>#[])).get? a=some (seqObj "list" #[] k):=⟨_,get?_update_seq i _⟩
 have at2:=C0 (vs:=vs) (ZU i) o;have done:∀b:Array Keyed,b.Perm (pairsOf vs)->b.toList.Pairwise (le r)->P (.done (.ret .none)) { s with heap:=sortedHeap s.heap a vs (b.map (·.2)) }:=λb d j=>by
  obtain⟨u,t⟩:=ma d;have:=h _ u (by rw[t];exact j)
  rwa [Array.toArray_toList]at this
 have room:∀b:Array Keyed,b.Perm (pairsOf vs)->(b.map (·.2)).size<=sizeLine+1:=λb d=>by
  rw[Array.size_map,d.size_eq,pairsOf_size];exact Nat.le_succ_of_le f
 rw[list_sort_plain];refine Zn (listItems_at i rfl (Zn (listUpdate_at i rfl (Zn (seqEpoch_at o rfl (Zn (wpAny_newTuple (Zn (wpAny_newList (Xw ?_))))))))));refine(show wpAny (model prog w) A _ P E { s with heap:=iW s.heap a vs } from ?_);dsimp only;by_cases two:2<=vs.length
 ·have no:¬(vs.toArray.size<2):=by lia
  rw[Zp no,Zp no];have good:∀x∈pairsOf vs,G x:=λx z=>by
   have m:x∈(pairsOf vs).toList:=by simpa using z
   rw[pairsOf_toList]at m;obtain⟨e1,e2⟩:=mem_zip_self m;have:=B x.1 e2;obtain⟨p,q⟩:=x;dsimp only at e1 this;rw[← e1];exact this
  refine Zn (J two _ (Zn (YA (BD C (a₀:=pairsOf vs) (st:=SortSt.mk' l (vs.toArray.zip vs.toArray) #[] 7 none)
   (Q:=λ_ g=>(arrOf g).Perm (pairsOf vs)/\failedOf g=none/\(arrOf g).toList.Pairwise (le r)) rfl good rfl rfl rfl λg H F D=>⟨H,F,D⟩) ?_ λ_ _ e=>e)))
  rintro⟨⟨⟩,g⟩ L ⟨rfl,d,j,y⟩;refine Zn (seqEpoch_at at2 rfl (Zn (listUpdate_at at2 rfl ?_ (hsz2:=room _ d))));rw[j];simp only[bne_self_eq_false,XW,↓reduceIte];exact ZW (done _ d y)
 ·have no:vs.toArray.size<2:=by lia
  rw[Zs no,Zs no];refine Zn (ZW (Zn ?_));rw[StateT.run_pure];refine ZW (Zn (seqEpoch_at at2 rfl (Zn (listUpdate_at at2 rfl ?_ (hsz2:=room _ (Array.Perm.refl _))))));simp only[bne_self_eq_false,XW,↓reduceIte];refine ZW (done (vs.toArray.zip vs.toArray) (Array.Perm.refl _) ?_)
  match vs,two with
  |[],_=>simp
  |[_],_=>simp
  |_ :: _ :: _,q=>simp at q
theorem nl{b n:Nat}(h:b<n)(k:Nat):b≠n+k:=Zb (ZF h (Z1 _ _))
structure KH(prog:Program)(w:World)(Q:Z3)(vs:Wu)(s1:Shared) where
 G:Keyed->Prop
 r:Keyed->Keyed->Bool
 kd:SortKind
 hC:∀(A:Around)(E:Z3)(h:Heap),(∀b o,s1.heap.get? b=some o->h.get? b=some o)->Iv prog w A E { s1 with heap:=h } kd G r
 hG:∀v∈vs,G (v,v)
 hlen:vs.length<=sizeLine
 P4:2<=vs.length->∀(A:Around)(E:Z3)(h:Heap),(∀b o,s1.heap.get? b=some o->h.get? b=some o)->∀Q:SortKind->Shared->Prop,Q kd { s1 with heap:=h }->wpAny (model prog w) A (keyKind' vs.toArray) Q E { s1 with heap:=h }
 h:∀(out:Wu)(h':Heap)(e:Nat),out.Perm vs->(out.map λv=>(v,v)).Pairwise (le r)->(∀b o,s1.heap.get? b=some o->h'.get? b=some o)->h'.get? s1.heap.objs.size=some (seqObj "list" out.toArray e)->Q (.ref s1.heap.objs.size) { s1 with heap:=h' }
theorem oH{x:Value}{Q:Z3}(n:∀(g:Around)(p:Z3),g.handled=A.handled->wpAny (model prog w) g (collect x) (λa s1=>Nonempty (KH prog w Q a s1)) p s) :
  wpAny (model prog w) A (call (.builtin "sorted") [x]) Q E s:=by
 refine Calls.call_function_entry kind_sorted plain_sorted entry_sorted (args_sorted1 _) (show wpAny _ _ (Builtin.«sorted» _) _ _ _ from ?_);unfold Builtin.«sorted»;refine Zn (m:=checkCount "sorted" 1 1 _) (ZW (Zn (YA (n A.in1 (λ_ _=>False) rfl) ?_ λ_ _ e=>e.elim)));rintro a s1 ⟨⟨G,r,kd,hC,hG,hlen,P4,h⟩⟩;refine Zn (wpAny_newList ?_ (by exact hlen));have d:(s1.heap.push (seqObj "list" a.toArray 0)).get? s1.heap.objs.size=some (seqObj "list" a.toArray 0):=ZL _ rfl;have old:∀b o,s1.heap.get? b=some o->(iW (s1.heap.push (seqObj "list" a.toArray 0)) s1.heap.objs.size a).get? b=some o:=λb o e=>by
  have hb:=ZU e;unfold iW;rw[Xy _ _ _ (by rw[size_push',WN,size_push'];exact nl hb 2),Xy _ _ _ (by rw[WN,size_push'];exact nl hb 1),Heap.get?_update_ne _ _ _ _ (Zb hb),Xy _ _ _ (Zb hb)];exact e
 show wpAny _ _ _ _ _ { s1 with heap:=s1.heap.push (seqObj "list" a.toArray 0) };refine Zn (Xw (X8 slot_list_sort ⟨_,d,rfl⟩ entry_list_sort (zd d (hC _ _ _ old) hG hlen (λl=>P4 l _ _ _ old) λout j i=>⟨_,rfl,?_⟩) (args_list_sort _)));obtain⟨e,he⟩:=sortedHeap_at (out:=out.toArray) d;exact ZW ⟨_,rfl,h out _ e j i (λb o f=>by
  have hb:=ZU f;show (sortedHeap (s1.heap.push (seqObj "list" a.toArray 0)) s1.heap.objs.size a out.toArray).get? b=some o;rw[sortedHeap_old (Zb hb) (by rw[size_push'];exact XQ hb),Xy _ _ _ (Zb hb)];exact f) he⟩
theorem CA{κ:KeyKind}(j:κ.OneLt):Iv prog w A E s oneType' (λp=>∃a,κ.keyOf p.1=some a) (λp q=>match κ.keyOf p.1,κ.keyOf q.1 with | some a,some b=>κ.blt a b | _,_=>false):=by
 refine⟨?_,?_,?_⟩
 ·rintro st x y Q i ⟨a,d⟩ ⟨b,hb⟩ h;rw[lt'_eq];refine ZZ (WR ?_);rw[i,keyLt'_oneType];refine ZZ (wpS_lift (wpAny_attempt (j prog w A _ s x.1 y.1 a b d hb ⟨rfl,?_⟩)));rw[d,hb]at h;exact Zi h
 ·rintro x y ⟨a,d⟩ ⟨b,hb⟩ h;rw[d,hb]at h ⊢;exact KeyOrd.klt_asymm (O:=κ.toKeyOrd) h
 ·rintro x y z ⟨a,d⟩ ⟨b,hb⟩ ⟨c,e⟩ g f;rw[d,hb]at g;rw[hb,e]at f;rw[d,e];exact KeyOrd.kle_trans (O:=κ.toKeyOrd) g f
end TS
end
section
namespace L2
open PySem PySem.Spec PyProof.Rows TS
section
variable{X:Cx}
theorem q9:∀{b:List Str}{a:Wu},aV (b.map V.str) a->(∀v∈a,∃x t,v=Value.str x t)/\a.map strOf=b
 |[],[],_=>⟨λv h=>by simp at h,rfl⟩
 |s :: b,u :: a,h=>by
  cases h with
  |cons r q =>
   obtain⟨f,e⟩:=q9 q;obtain⟨t,rfl⟩:=r;refine⟨λv d=>?_,?_⟩
   ·rcases Zj.mp d with rfl | d
    ·exact⟨s,t,rfl⟩
    ·exact f v d
   ·rw[Zm,e];rfl
theorem oq:∀{a:Wu},(∀v∈a,∃x t,v=Value.str x t)->aV ((a.map strOf).map V.str) a
 |[],_=>.nil
 |u :: a,h=>by
  obtain⟨x,t,rfl⟩:=h u (Zw ..);exact .cons ⟨t,rfl⟩ (oq λv b=>h v (Zv _ b))
theorem uI{d:Yz}{J:St}{H:Hp}{s j:Shared}{Q:VK}{r:List Str}{g:Wu}(I:Inv X d J H j)(i:∀v∈g,∃x t,v=Value.str x t)(L:g.map strOf=r)(f:g.length<=sizeLine)(q:∀(l:Addr)(p:List Str),H l=none->p.Perm r->p.Pairwise (λa b=>¬b.cps.toList<a.cps.toList)->Q (.ref l) (upd H l (.lst (p.map V.str)))) :
  Nonempty (KH X.prog X.w (EP X d J Q) g j):=by
 refine⟨⟨_,_,oneType',λA E h _=>CA strKind_oneLt,λv n=>?_,f,λF A E h _ Q C=>?_,λout G e m z kp he=>?_⟩⟩
 ·obtain⟨x,t,rfl⟩:=i v n;exact⟨_,rfl⟩
 ·match g,F,i with
  |O :: N :: P,_,i =>
   rw[keyKind_strs (strsAre_map _ i)];exact ZW C
 ·have o:∀v∈out,∃x t,v=Value.str x t:=λv n=>i v (m.mem_iff.mp n);have B:((out.map strOf).map V.str).length<=sizeLine:=by rw[Zx,Zx,m.length_eq];exact f
  refine⟨.ref j.heap.objs.size,_,I.laid (t':=j.toks) kp (Zo _) (show bS X.prog X.w _ G _ (.lst ((out.map strOf).map V.str)) from⟨B,out,e,oq o,he⟩),rfl,q _ _ (I.xh.fresh (Zo _)) (by rw[← L];exact m.map _) ?_⟩;rw[Wr]at z ⊢;refine List.Pairwise.imp_of_mem (λ{a b} D hb M=>?_) z;obtain⟨x,t,rfl⟩:=o a D;obtain⟨y,u,rfl⟩:=o b hb;have:decide (y.cps.toList<x.cps.toList)=false:=M;exact of_decide_eq_false this
theorem mQ:dN X (.builtin "sorted") (λi H Q=>∃p,∃f:List Str,i=[.ref p]/\Hc X.K H p (f.map V.str) ∧
  ∀(l:Addr)(g:List Str),H l=none->g.Perm f->g.Pairwise (λa b=>¬b.cps.toList<a.cps.toList)->Q (.ref l) (upd H l (.lst (g.map V.str)))):=by
 intro d s J H i z Q I n h;obtain⟨p,f,rfl,w,q⟩:=h;obtain⟨u,rfl,r⟩:=n.one;cases r;obtain⟨m,j,t,A⟩:=I.list w;obtain⟨v,x⟩:=q9 j;have hlen:m.length<=sizeLine:=by have:=j.length;lia
 refine oH λC B _=>collect_list t.isList ?_ hlen;have y:Inv X d J H { s with heap:=(s.heap.push (seqObj "list" #[] 0)).update s.heap.objs.size (Obj.mapSeq (·++m.toArray)) }:=I.kept (t':=s.toks) λb o e=>by
  rw[Heap.get?_update_ne _ _ _ _ (Zb (ZU e))];exact Zf _ e
 exact uI (s:=s) y v x hlen q
theorem lQ(O:X.calm=true):dN X (.builtin "sorted") (λw H Q=>∃p,∃(d:List Str)(j:List V),w=[.ref p]/\d.length=j.length/\H p=some (.dK ((d.map Sum.inr).zip j)) ∧
  ∀(l:Addr)(r:List Str),H l=none->r.Perm d->r.Pairwise (λa b=>¬b.cps.toList<a.cps.toList)->Q (.ref l) (upd H l (.lst (r.map V.str)))):=by
 intro f s J H w us Q I E h;obtain⟨p,d,j,rfl,M,G,q⟩:=h;obtain⟨u,rfl,F⟩:=E.one;cases F;obtain⟨z,P,o,rel,n⟩:=oo I.xh G;obtain⟨ep,n⟩:=n.dictAt;have Y:o.length=d.length:=by
  have:=rel.length;rw[Yn,Zx]at this;lia
 have Z:∀i:Nat,(o[i]?).map (λx=>x.1)=(d[i]?).map (Sum.inr:Str->Key):=λi=>by
  have B:((o.map (·.1)))[i]?=(d.map (Sum.inr:Str->Key))[i]?:=by
   rw[← rel.keys];rw[XC (by rw[Zx];exact XO M)]
  rw[ZM,ZM]at B;exact B
 refine oH λA' E' R=>PySem.W.kdu_collect (PySem.W.kdl_dict P) (R.trans (I.ok.hd O)) n (by rw[Yn,Zx]at z;lia) λS D acc kp C=>?_;have I1:Inv X f J H { s with heap:=S,toks:=D }:=I.kept kp;have R7:acc.toList.length=d.length:=by rw[YY,C.1,Y]
 have each:∀i v,acc.toList[i]?=some v->∃x t,v=Value.str x t/\d[i]?=some x:=λi v A=>by
  rw[Yw]at A;obtain⟨k,x,e1,e2⟩:=C.2 i v A;have g:=Z i;rw[e1]at g;cases m:d[i]? with
  |none=>rw[m]at g;cases g
  |some y =>
   rw[m]at g;have U:k=Sum.inr y:=Zl g;subst U;obtain⟨t,rfl⟩:=W8 (show Value.isStrOf y v=true from e2);exact⟨y,t,rfl,m⟩
 refine uI (s:=s) I1 (λv L=>?_) ?_ (by rw[R7];rw[Yn,Zx]at z;lia) q
 ·obtain⟨i,N,e⟩:=Ym L;obtain⟨x,t,e1,_⟩:=each i v (by rw[Zq N,e]);exact⟨x,t,e1⟩
 ·apply Wp;intro i;rw[ZM];cases e:acc.toList[i]? with
  |none =>
   have:acc.toList.length<=i:=Yi.mp e;rw[Yi.mpr (by lia)];rfl
  |some v =>
   obtain⟨x,t,rfl,e1⟩:=each i v e;rw[e1];rfl
end
end L2
end
section
namespace VS
mutual
theorem jw:∀(n:Nat)(t:T),HS n t=true->eqT t t=true
 |n,.non,_=>by simp
 |n,.bl _,_=>by simp
 |n,.int _,_=>by simp
 |n,.str _,_=>by simp
 |n+1,.tup l,h=>by
  simp only[HS,Yk]at h;simp only[eqT];exact lT n l h
 |n+1,.lst l,h=>by
  simp only[HS,Yk]at h;simp only[eqT];exact lT n l h
 |0,.tup _,h=>by simp at h
 |0,.lst _,h=>by simp at h
 |_,.scr _,h=>by simp at h
 |_,.dct _ _,h=>by simp at h
 |_,.obj _ _,h=>by simp at h
theorem lT:∀(n:Nat)(l:Vp),(∀t∈l,HS n t=true)->um l l=true
 |_,[],_=>rfl
 |n,t :: r,h=>by
  simp only[um,ZS];exact⟨jw n t (h t Zw),lT n r λu a=>h u (Zv _ a)⟩
end
theorem eX{tg:Tg}{it:JL}{body:Sx}{U:Env}{m:Md}{l:Vp}(e:it U=some (m,l))(h:TB m=true):eW tg it body U=forL tg body l U:=by
 unfold eW;rw[e];exact Zs h
theorem aX{g:Fn}{a:Hr}{U:Env}{xs:Vr}{t:T}(h:a U=some xs)(b:g (trees xs)=some (.fr,t)):aZ g a U=some (.fr,t):=by
 simp only[aZ,h,Zt,b]
theorem av{i:Nat}{e:Ex}{U:Env}{m:Md}{t:T}(h:e U=some (m,t))(a:m ≠ .bo)(b:i<U.length):aH i e U=some (.nx (U.set i (some (.pu t)))):=by
 simp only[aH,h,Zt];cases m with
 |bo=>exact absurd rfl a
 |_=>simp[b]
theorem gy{a b:Sx}{U U':Env}(h:a U=some (.nx U')):ak a b U=b U':=by simp only[ak,h,Zt]
theorem yy{d e:Nat}{a:Sx}{b:Vp}{v:Val}(U:Env){U':Env}(f:b.length=d)(he:b.map (λt=>some (Cell.pu t))++List.replicate (e-d) none=U)(h:a U=some (.rt v U')):fn d e a b=some v:=by
 unfold fn;rw[Zs f,he,h];rfl
end VS
end
section
namespace VS
open PySem PySem.Spec PyProof.Rows L2
theorem FZ{a b c:Tx}(h:a<b)(d:¬c<b):a<c:=by
 by_cases e:a<c
 ·exact e
 ·exact absurd (List.lt_of_le_of_lt (List.not_lt.mp e) h) d
theorem ku(x:Tx):∀l:List Tx,(nO x l).Perm (x :: l)
 |[]=>Ww _
 |y :: r=>by
  unfold nO;split
  ·exact((ku x r).cons y).trans (List.Perm.swap _ _ _)
  ·exact Ww _
theorem hV:∀l:List Tx,(cP l).Perm l
 |[]=>Ww _
 |x :: l=>(ku x _).trans ((hV l).cons x)
theorem rZ(x:Tx):∀{l:List Tx},l.Pairwise (λa b=>¬b<a)->(nO x l).Pairwise (λa b=>¬b<a)
 |[],_=>by simp[nO]
 |y :: r,h=>by
  unfold nO;rw[nS];obtain⟨f,g⟩:=WE.mp h;split
  ·rename_i c;have e:y<x:=by simpa using c
   refine WE.mpr ⟨λz d=>?_,rZ x g⟩;rcases Zj.mp ((ku x r).mem_iff.mp d) with rfl | d
   ·exact λz=>List.lt_irrefl _ (List.lt_trans e z)
   ·exact f z d
  ·rename_i c;have e:¬y<x:=by simpa using c
   refine WE.mpr ⟨λz d=>?_,h⟩;rcases Zj.mp d with rfl | d
   ·exact e
   ·exact λw=>f z d (FZ w e)
theorem mf:∀l:List Tx,(cP l).Pairwise (λa b=>¬b<a)
 |[]=>List.Pairwise.nil
 |x :: l=>rZ x (mf l)
theorem lS{l d:List Tx}(h:d.Perm l)(e:d.Pairwise (λa b=>¬b<a)):d=cP l :=
 List.Perm.eq_of_pairwise (le:=λa b=>¬b<a) (λa b _ _ g f=>List.le_antisymm (List.not_lt.mp g) (List.not_lt.mp f)) e (mf l) (h.trans (hV l).symm)
theorem zG(s:Tx):(sx s).cps.toList=s:=rfl
theorem xD{f:List Tx}{d:List Str}(h:d.Perm (f.map sx))(i:d.Pairwise (λa b=>¬b.cps.toList<a.cps.toList)):d=(cP f).map sx:=by
 have e:d=(d.map λx=>x.cps.toList).map sx:=by
  rw[Yv]
  conv=>lhs;rw[← WQ d]
  apply X7;intro x g;obtain⟨s,_,rfl⟩:=Yo.mp (h.mem_iff.mp g);show sx s=sx (sx s).cps.toList;rw[zG]
 have e2:(d.map λx=>x.cps.toList)=cP f:=by
  refine lS ?_ ?_
  ·have:=h.map λx:Str=>x.cps.toList;rw[Yv]at this;have j:((λx:Str=>x.cps.toList) ∘ sx)=id:=by
    funext s;exact zG s
   rw[j,WQ]at this;exact this
  ·rw[Wr];exact i
 rw[e,e2]
noncomputable def Ov(s:Tx):Bool:=decide (s.length<=fL)&&s.all (λc=>decide (c<1114112))
theorem yc{s:Tx}(h:Ov s=true):nI s:=by
 unfold Ov at h;simp at h;exact h
noncomputable def kj:Vr->Vq
 |[(_,.lst l)]=>(strs? l).map λa=>(.fr,.lst ((cP a).map .str))
 |[(_,.dct 0 l)]=>(strs? (l.map (·.1))).bind λa=>if a.all Ov then some (.fr,.lst ((cP a).map .str)) else none
 |_=>none
section
variable{G:Gx}{X:Cx}{e:Expr}{cs:Hr}{p pos:Pos}
theorem uD{H:Hp}:∀{ss:List Tx},(∀s∈ss,nI s)->RpL G H (ss.map λs=>V.str (sx s)) (ss.map T.str) (ss.map λ_=>[])
 |[],_=>.nil
 |s :: ss,h=>.cons (.str s (h s (Zw ..))) (uD λx a=>h x (Zv _ a))
theorem sT{α β:Type}:∀(l:List α),(l.map λ_=>([]:List β)).flatten=[]
 |[]=>rfl
 |_ :: l=>by simp
theorem vz{H:Hp}:∀{d:List V}{l:Vp}{f:Yp}{b:List Tx},RpL G H d l f->strs? l=some b->∀s∈b,nI s
 |_,_,_,_,.nil,e,s,a=>by cases e;simp at a
 |_,_,_,_,.cons (t:=t) r q,e,s,a=>by
  cases t with
  |str x =>
   simp only[strs?]at e;obtain⟨g,e1,e2⟩:=Zu.mp e;subst e2;rcases Zj.mp a with rfl | a
   ·exact r.str_inv.2
   ·exact vz q e1 s a
  |_=>cases e
noncomputable def D1(K:Xf):List V->Hp->VK->Prop:=λg H Q=>∃p,∃f:List Str,g=[.ref p]/\Hc K H p (f.map V.str) ∧
  ∀(l:Addr)(d:List Str),H l=none->d.Perm f->d.Pairwise (λa b=>¬b.cps.toList<a.cps.toList)->Q (.ref l) (upd H l (.lst (d.map V.str)))
noncomputable def CP:List V->Hp->VK->Prop:=λh H Q=>∃p,∃(d:List Str)(g:List V),h=[.ref p]/\d.length=g.length/\H p=some (.dK ((d.map Sum.inr).zip g)) ∧
  ∀(l:Addr)(f:List Str),H l=none->f.Perm d->f.Pairwise (λa b=>¬b.cps.toList<a.cps.toList)->Q (.ref l) (upd H l (.lst (f.map V.str)))
theorem oF{R:G6}{U:VS.Env}{i H:Hp}{d:List Tx}{Q:VK}(k:∀v g F,aO H g->Rp G g v (.lst ((cP d).map T.str)) F->Fp R U i .fr F->Q v g)(n:aO i H)(j:∀s∈d,nI s) :
  ∀(l:Addr)(f:List Str),H l=none->f.Perm (d.map sx)->f.Pairwise (λa b=>¬b.cps.toList<a.cps.toList)->Q (.ref l) (upd H l (.lst (f.map V.str))):=λq f h u hw=>by
 rw[xD u hw];have m:aO H (upd H q (.lst (((cP d).map sx).map V.str))):=dw h;have o:=uD (G:=G) (H:=upd H q (.lst (((cP d).map sx).map V.str))) λs t=>j s ((hV d).mem_iff.mp t);have r:Rp G (upd H q (.lst (((cP d).map sx).map V.str))) (.ref q) (.lst ((cP d).map T.str)) (q :: ((cP d).map λ_=>[]).flatten):=.lst (by rw[aC,Yv];rfl) o;rw[sT]at r;exact k _ _ _ m r (Fp.new (n.free h) (by simp) Fp.nil)
theorem keys_str:∀{a:List Key}{b:List Tx},strs? (a.map aJ)=some b->a=(b.map sx).map Sum.inr
 |[],_,e=>by cases e;rfl
 |.inl i :: a,_,e=>by cases e
 |.inr x :: a,b,e=>by
  simp only[Zm,aJ,strs?]at e;obtain⟨d,e1,e2⟩:=Zu.mp e;subst e2;rw[keys_str e1];simp[sx]
theorem we:fq G (λj H Q=>D1 G.K j H Q\/CP j H Q) kj:=by
 intro R U D H l n u m t Q A e k;unfold kj at e;split at e
 ·rename_i w x;obtain⟨d,e1,e2⟩:=Zu.mp e;cases e2;obtain⟨v,F,rfl,rfl,f⟩:=(show RpL G H n [.lst x] u from A.rp).one;obtain⟨a,i,C,rfl,rfl,h,b⟩:=f.lst_inv;refine .inl ⟨a,d.map sx,rfl,?_,oF k A.same (vz b e1)⟩;rw[Yv];have:=vd b e1;rw[show (V.str ∘ sx)=λs=>V.str (sx s) from rfl,← this];exact Hc.of h
 ·rename_i w x;obtain⟨d,e1,e2⟩:=Zz.mp e;split at e2
  ·rename_i hb;cases e2;obtain⟨v,F,rfl,rfl,f⟩:=(show RpL G H n [.dct 0 x] u from A.rp).one;obtain⟨a,g,i,o,C,rfl,rfl,h,q,rfl,b⟩:=dM f;have B:g.length=o.length:=by rw[q,b.len.1]
   have z:((g.map aJ).zip o).map (·.1)=g.map aJ:=XC (by rw[Zx];exact XO B);rw[z]at e1;have r:=keys_str e1;refine .inr ⟨a,d.map sx,i,rfl,?_,by rw[← r];exact h,oF k A.same λs y=>yc (Yk.mp hb s y)⟩;rw[← q,r,Zx,Zx,Zx]
  ·cases e2
 ·cases e
theorem pO:bootBuiltins ("sorted" : Str)=some (.builtin "sorted"):=by decide +kernel
theorem tK(a:X.mg "sorted" = none)(f:Ib G X [e] cs)(b:Gl X "sorted" := by rfl)(g:X.K=G.K:=by rfl)(d:X.calm=true:=by rfl)(he:K1 e [] X:=by rfl):PV G X (.Call (.Name "sorted" p) [e] [] pos) (eN kj cs) :=
 ji (mQ.or (lQ d)) (g ▸ we) b a pO f (he:=he) (hpl:=rfl)
end
end VS
end
section
namespace ST
open PySem PySem.Spec PyProof.Rows
variable{prog:Program}{w:World}{A:Around}{E:Z3}{s:Shared}
theorem E1{Q:PySem.Fin->Shared->Prop}{f:Z3}(g:A.handled=none)(h:∀(d:Heap)(x:Addr),(∀b o,s.heap.get? b=some o->d.get? b=some o)->(∃o,d.get? x=some o/\o.cls=.type "StopIteration")->f (.ref x) { s with heap:=d }) :
  wpAny (model prog w) A (newExc (.type "StopIteration") [] >>= λe=>raiseNew e) Q f s:=by
 simp only[newExc,newTuple];refine Zn (Zn (WW (Zn (m:=firstArgMember _ _) (wpAny_of_eq (a:=Value.none) (by first | rfl | (simp only[firstArgMember];rfl)) (WW ?_ (by size_fits)))) (by size_fits)));simp only[raiseNew];refine Zn (wpAny_handled ?_);rw[g];exact Zn (ZW (wpAny_throw (h _ _ (λb o e=>Zf _ (Zf _ e)) ⟨_,ZL _ rfl,rfl⟩)))
end ST
end
section
namespace VS
open PySem PySem.Spec PyProof.Rows L2
inductive IP(G:Gx)(H:Hp):List Ky->V->V->Prop
 |nil (v:V):IP G H [] v v
 |fld {c k:Nat} {a dx:Addr} {fs:List (Str×V)} {u w:V} {ks:List Ky}:H a=some (.ins (G.ct (c+1)).1 dx fs)->fs.lookup ((G.ct (c+1)).2 k)=some u->IP G H ks u w->IP G H (.fld k :: ks) (.ref a) w
 |ix {a:Addr} {vs:List V} {i:Int} {j:Nat} {u w:V} {ks:List Ky}:H a=some (.lst vs)->Iq vs.length i=some j->vs[j]?=some u->IP G H ks u w->IP G H (.at (.int i) :: ks) (.ref a) w
 |key {a:Addr} {cg:List (Key×V)} {k:Key} {u w:V} {ks:List Ky}:H a=some (.dK cg)->cR cg k=some u->IP G H ks u w->IP G H (.at (aJ k) :: ks) (.ref a) w
 |un {v w:V} {ks:List Ky}:IP G H ks v w->IP G H (.un :: ks) v w
section
variable{G:Gx}
theorem uR{f:Yp}{i j:Nat}{F h:Wy}(d:f.flatten.Nodup)(b:f[i]?=some F)(e:f[j]?=some h)(n:i≠j){a:Addr}(g:a∈F):a∉h:=by
 intro hb
 induction f generalizing i j with
 |nil=>simp at b
 |cons G m l =>
  rw[ZI,ZK]at d;cases i with
  |zero =>
   simp at b;subst b;cases j with
   |zero=>exact n rfl
   |succ j=>exact d.2.2 a g a (dC (by simpa using e) hb) rfl
  |succ i =>
   cases j with
   |zero =>
    simp at e;subst e;exact d.2.2 a hb a (dC (by simpa using b) g) rfl
   |succ j=>exact l d.2.1 (by simpa using b) (by simpa using e) (by lia)
theorem cN{d:Yp}{j:Nat}{g:Wy}{a:Addr}(h:a∈(d.set j g).flatten):a∈g\/∃i F,i≠j/\d[i]?=some F/\a∈F:=by
 obtain⟨i,F,b,f⟩:=gz h;by_cases e:i=j
 ·subst e;rw[List.getElem?_set_self' ]at b;cases q:d[i]? with
  |none=>rw[q]at b;cases b
  |some _=>rw[q]at b;cases b;exact .inl f
 ·rw[Y4 (YF e)]at b;exact .inr ⟨i,F,e,b,f⟩
theorem eI:∀{p:Yp}{j:Nat}{f:Wy},p.flatten.Nodup->f.Nodup->(∀i F,i≠j->p[i]?=some F->∀a∈F,a∉f)->(p.set j f).flatten.Nodup
 |[],_,_,h,_,_=>by simpa using h
 |G :: r,0,f,h,o,d=>by
  rw[ZI,ZK]at h;rw[List.set_cons_zero,ZI,ZK];refine⟨o,h.2.1,λa g b hb e=>?_⟩;subst e;obtain⟨i,F,m,l⟩:=gz hb;exact d (i+1) F (by lia) (by simpa using m) a l g
 |G :: r,j+1,f,h,o,d=>by
  rw[ZI,ZK]at h;rw[List.set_cons_succ,ZI,ZK];refine⟨h.1,eI h.2.1 o λi F n q=>d (i+1) F (by lia) (by simpa using q),λa g b hb e=>?_⟩;subst e;rcases cN hb with z | ⟨i,F,n,m,l⟩
  ·exact d 0 G (by lia) rfl a g z
  ·exact h.2.2 a g a (dC m l) rfl
theorem RpL.each{H h:Hp}:∀{e:List V}{f:Vp}{g:Yp},RpL G H e f g->(∀(i:Nat) v t F,e[i]?=some v->f[i]?=some t->g[i]?=some F->Rp G H v t F->Rp G h v t F)->RpL G h e f g
 |_,_,_,.nil,_=>.nil
 |_,_,_,.cons r q,k=>.cons (k 0 _ _ _ rfl rfl rfl r) (RpL.each q λi v t F a b c d=>k (i+1) v t F (by simpa using a) (by simpa using b) (by simpa using c) d)
theorem RpL.setAt{H l:Hp}:∀{e:List V}{f:Vp}{m:Yp}{j:Nat}{u:V}{o:T}{p:Wy},RpL G H e f m->e[j]?=some u->Rp G l u o p->(∀(i:Nat) v t F,i≠j->e[i]?=some v->f[i]?=some t->m[i]?=some F->Rp G H v t F->Rp G l v t F)->RpL G l e (f.set j o) (m.set j p)
 |_,_,_,_,_,_,_,.nil,h,_,_=>by simp at h
 |_,_,_,0,_,_,_,.cons r q,h,g,k=>by
  simp at h;subst h;exact .cons g (RpL.each q λi v t F a b c d=>k (i+1) v t F (by lia) (by simpa using a) (by simpa using b) (by simpa using c) d)
 |_,_,_,j+1,_,_,_,.cons r q,h,g,k=>.cons (k 0 _ _ _ (by lia) rfl rfl rfl r) (RpL.setAt q (by simpa using h) g λi v t F n a b c d=>k (i+1) v t F (by lia) (by simpa using a) (by simpa using b) (by simpa using c) d)
theorem nh{H q:Hp}{a:Addr}{o:HO}{s:List V}{D:Vp}{d:Yp}{j:Nat}{u:V}{C:T}{B f:Wy}(L:H a=some o)(E:RpL G H s D d)(e:(a :: d.flatten).Nodup)(M:s[j]?=some u)(y:d[j]?=some B)(g:Chg G H u B C q f):q a=some o/\RpL G q s (D.set j C) (d.set j f)/\(a :: (d.set j f).flatten).Nodup/\(∀b∈a :: (d.set j f).flatten,b∈a :: d.flatten\/H b=none)/\∀b o,b∉a :: d.flatten->H b=some o->q b=some o:=by
 rw[ZY]at e;have p:∀b∈B,b∈d.flatten:=λb hb=>dC y hb;have A:∀i F,i≠j->d[i]?=some F->∀b∈F,b∉f:=λi F n J b hb O=>by
  rcases g.sub b O with z | z
  ·exact uR e.2 J y n hb z
  ·exact G4.p0 (E.Hk b (dC J hb)) z
 refine⟨g.keep a o (λz=>e.1 (p a z)) L,E.setAt M g.rp (λi v t F n m l N r=>r.keep g.kept λb hb w x=>g.keep b w (uR e.2 N y n hb) x),?_,λb hb=>?_,λb w hb x=>g.keep b w (λz=>hb (Zv _ (p b z))) x⟩
 ·rw[ZY];refine⟨λh=>?_,eI e.2 g.nd A⟩;rcases cN h with z | ⟨i,F,n,m,l⟩
  ·rcases g.sub a z with z | z
   ·exact e.1 (p a z)
   ·rw[L]at z;cases z
  ·exact e.1 (dC m l)
 ·rcases Zj.mp hb with rfl | hb
  ·exact .inl Zw
  ·rcases cN hb with z | ⟨i,F,n,m,l⟩
   ·rcases g.sub b z with z | z
    ·exact .inl (Zv _ (p b z))
    ·exact .inr z
   ·exact .inl (Zv _ (dC m l))
theorem nu{α β:Type}:∀(d:List α)(bs:List β)(i:Nat)(a:α)(y:β),d[i]?=some a->(d.zip bs).set i (a,y)=d.zip (bs.set i y)
 |[],_,_,_,_,h=>by simp at h
 |a :: d,[],i,_,_,_=>by cases i<;>simp
 |a :: d,b :: bs,0,_,y,h=>by simp at h;subst h;rfl
 |a :: d,b :: bs,i+1,_,y,h=>by
  have:=nu d bs i _ y (by simpa using h);simp[this]
theorem jz{α β:Type}(p:α->Bool):∀{e:List α}{bs:List β}{i:Nat},e.length=bs.length->(e.zip bs).findIdx? (λq=>p q.1)=some i->∃a b,e[i]?=some a/\bs[i]?=some b/\p a=true/\(e.zip bs).find? (λq=>p q.1)=some (a,b)
 |[],[],_,_,h=>by simp at h
 |a :: e,b :: bs,i,f,h=>by
  rw[ZV,XX]at h;by_cases d:p a=true
  ·rw[Zs d]at h;cases h;exact⟨a,b,rfl,rfl,d,by simp[d]⟩
  ·rw[Zp d]at h;obtain⟨j,g,rfl⟩:=Zu.mp h;obtain⟨s,r,o,n,m,l⟩:=jz p (by simpa using f) g;exact⟨s,r,by simpa using o,by simpa using n,m,by simp[d,l]⟩
theorem kE(k a:Key):eqT (aJ a) (aJ k)=true↔a=k:=by
 cases k with
 |inl i=>cases a<;>simp[aJ]
 |inr x =>
  obtain⟨⟨x⟩⟩:=x;cases a with
  |inl j=>simp[aJ]
  |inr y=>obtain⟨⟨y⟩⟩:=y;simp[aJ]
theorem qR{k:Key}{u:V}:∀{ns:List Key}{d:Vp}{a:List V}{i:Nat},ns.length=d.length->ns.length=a.length->((ns.map aJ).zip d).findIdx? (λq=>eqT q.1 (aJ k))=some i->a[i]?=some u->cR (ns.zip a) k=some u
 |[],_,_,_,_,_,h,_=>by simp at h
 |n :: ns,t :: d,v :: a,i,m,l,h,e=>by
  rw[Zm,ZV,XX]at h;by_cases b:eqT (aJ n) (aJ k)=true
  ·rw[Zs b]at h;cases h;simp at e;subst e;exact cL ((kE k n).mp b)
  ·rw[Zp b]at h;obtain⟨j,g,rfl⟩:=Zu.mp h;have f:n≠k:=λz=>b ((kE k n).mpr z);have:cR ((n :: ns).zip (v :: a)) k=cR (ns.zip a) k:=by simp[cR,f]
   rw[this];exact qR (by simpa using m) (by simpa using l) g (by simpa using e)
 |_ :: _,[],_,_,h,_,_,_=>by simp at h
 |_ :: _,_ :: _,[],_,_,h,_,_=>by simp at h
theorem eR{H:Hp}{v:V}{c:Nat}{e:Nat×T}{g:List (Nat×T)}{F:Wy}(r:Rp G H v (.obj (c+1) (e :: g)) F):∃(i:Nat)(a p:Addr)(b:Bool)(f:Vv)(d:List V)(j:Vp)(o:Yp),c+1=i+1/\v=.ref a/\e=(0,.bl b)/\g=f.zip j/\F=a :: o.flatten ∧
  H a=some (.ins (G.ct (i+1)).1 p ((f.map (G.ct (i+1)).2).zip d))/\f.length=d.length/\(b=true->G.me 0=some (.ref a))/\RpL G H d j o:=by
 generalize n:T.obj (c+1) (e :: g)=z at r;cases r with
 |ins h l m q =>
  cases n;exact⟨_,_,_,_,_,_,_,_,rfl,rfl,rfl,rfl,rfl,h,l,m,q⟩
 |_=>cases n
theorem CM{H:Hp}{v:V}{m:Nat}{t:T}{F:Wy}(r:Rp G H v (.obj 0 [(0,.bl true),(m,t)]) F):∃a,v=.ref a/\G.me m=some (.ref a)/\Rp G H (.ref a) t F:=by
 generalize b:T.obj 0 [(0,.bl true),(m,t)]=z at r;cases r with
 |mk h q =>
  cases b;exact⟨_,rfl,h,q⟩
 |_=>cases b
theorem rY{c a:Nat}(h:∀c k m:Nat,(G.ct c).2 k=(G.ct c).2 m->k=m){e:Vv}{d:List V}{f:Vp}{u:V}{i:Nat}(n:e.length=d.length)(b:(e.zip f).findIdx? (λq=>q.1==a)=some i)(o:e[i]?=some a)(g:d[i]?=some u):((e.map (G.ct c).2).zip d).lookup ((G.ct c).2 a)=some u:=by
 induction e generalizing d f i with
 |nil=>simp at o
 |cons l v p =>
  cases d with
  |nil=>simp at n
  |cons t bs =>
   cases f with
   |nil=>simp at b
   |cons s f =>
    rw[Zm,ZV,Ya];rw[ZV,XX]at b;by_cases q:(l==a)=true
    ·rw[Zs q]at b;cases b;have:l=a:=by simpa using q
     subst this;simp at g;simp[g]
    ·rw[Zp q]at b;obtain⟨j,r,rfl⟩:=Zu.mp b;have:((G.ct c).2 a==(G.ct c).2 l)=false:=by
      rw[beq_eq_false_iff_ne];intro z;exact q (by simpa using(h c _ _ z).symm)
     rw[this];exact p (by simpa using n) r (by simpa using o) (by simpa using g)
theorem FT{α:Type}{f:T->Option (T×α)}{d:List Ky}{t b:T}{y:α}(e:pm f (.un :: d) t=some (b,y)):∃m x z,t=.obj 0 [(0,.bl true),(m,x)]/\pm f d x=some (z,y)/\b=.obj 0 [(0,.bl true),(m,z)]:=by
 unfold pm at e;split at e
 case h_6=>cases e
 all_goals first | (rename_i a;cases a;done) | skip
 all_goals
  rename_i a;cases a;obtain⟨⟨z,g⟩,e1,e2⟩:=Zu.mp e;cases e2;exact⟨_,_,_,rfl,e1,rfl⟩
theorem iQ{H:Hp}{α:Type}{f:T->Option (T×α)}:∀(C:List Ky){v:V}{t L:T}{F:Wy}{y:α},(∀c k k':Nat,(G.ct c).2 k=(G.ct c).2 k'->k=k')->Rp G H v t F->F.Nodup->pm f C t=some (L,y) →
  ∃w x A B,IP G H C v w/\Rp G H w x A/\A.Nodup/\f x=some (B,y)/\∀q o,Chg G H w A B q o->∃F',Chg G H v F L q F'
 |[],v,t,L,F,y,_,r,nd,e=>⟨v,t,F,L,.nil v,r,nd,e,λq o g=>⟨o,g⟩⟩
 |.fld k :: C,v,t,L,F,y,inj,r,nd,e=>by
  cases t with
  |obj c Si =>
   cases c with
   |zero=>cases e
   |succ c =>
   cases Si with
   |nil=>cases e
   |cons q0 fs =>
   obtain⟨i,Z,e⟩:=Zz.mp e;obtain⟨p,Y,e⟩:=Zz.mp e;obtain⟨⟨z,y'⟩,e1,e2⟩:=Zu.mp e;cases e2;obtain⟨c',a,dx,b,ns,vs,U,Fs,ec,rfl,rfl,rfl,rfl,N,X,hb,d⟩:=eR r;cases ec;have Kd:ns.length=U.length:=X.trans d.len.1;obtain⟨M,D,g1,g2,g3,g4⟩:=jz (λn=>n==k) Kd Z;have ek:M=k:=by simpa using g3
   subst ek;have ep:p=(M,D):=by
    have:(ns.zip U)[i]?=some (M,D):=by rw[YK];exact⟨g1,g2⟩
    rw[this]at Y;exact(Zl Y).symm
   subst ep;obtain⟨u,Fi,J,E,u3⟩:=d.get i g2;obtain⟨w,x,A,B,S,R,Q,P,O⟩:=iQ C inj u3 (((ZY.mp nd).2).sublist (dv E)) e1;refine⟨w,x,A,B,.fld (c:=c) N (rY inj X Z g1 J) S,R,Q,P,λq o g=>?_⟩;obtain⟨Vb,h⟩:=O q o g;obtain⟨s1,s2,s3,s4,s5⟩:=nh N d nd J E h;refine⟨_,h.kept,s5,h.Hk,?_,s3,s4⟩;rw[nu ns U i M z g1];exact .ins s1 X hb s2
  |_=>cases e
 |.un :: C,v,t,L,F,y,inj,r,nd,e=>by
  obtain⟨m,x,z,rfl,e1,rfl⟩:=FT e;obtain⟨a,rfl,hm,rx⟩:=CM r;obtain⟨w,D,A,B,S,R,Q,P,O⟩:=iQ C inj rx nd e1;refine⟨w,D,A,B,.un S,R,Q,P,λq o g=>?_⟩;obtain⟨F',g'⟩:=O q o g;exact⟨F',g'.kept,g'.keep,g'.Hk,.mk hm g'.rp,g'.nd,g'.sub⟩
 |.at k :: C,v,t,L,F,y,inj,r,nd,e=>by
  cases t with
  |lst l =>
   cases k with
   |int i =>
    obtain⟨j,Z,e⟩:=Zz.mp e;obtain⟨D,Y,e⟩:=Zz.mp e;obtain⟨⟨z,y'⟩,e1,e2⟩:=Zu.mp e;cases e2;obtain⟨a,vs,Fs,rfl,rfl,N,d⟩:=r.lst_inv;obtain⟨u,Fi,J,E,u3⟩:=d.get j Y;obtain⟨w,x,A,B,S,R,Q,P,O⟩:=iQ C inj u3 (((ZY.mp nd).2).sublist (dv E)) e1;refine⟨w,x,A,B,.ix N (by rw[d.len.1];exact Z) J S,R,Q,P,λq o g=>?_⟩;obtain⟨Vb,h⟩:=O q o g;obtain⟨s1,s2,s3,s4,s5⟩:=nh N d nd J E h;exact⟨_,h.kept,s5,h.Hk,.lst s1 s2,s3,s4⟩
   |_=>cases e
  |dct kd l =>
   cases kd with
   |zero =>
    have hk:g7 k=true/\((l.findIdx? λp=>eqT p.1 k).bind λi=>(l[i]?).bind λp=>(pm f C p.2).map λz=>(T.dct 0 (l.set i (p.1,z.1)),z.2))=some (L,y):=by
     cases k with
     |int i=>exact⟨rfl,e⟩
     |str s=>exact⟨rfl,e⟩
     |_=>cases e
    obtain⟨hk,e⟩:=hk;obtain⟨i,Z,e⟩:=Zz.mp e;obtain⟨p,Y,e⟩:=Zz.mp e;obtain⟨⟨z,y'⟩,e1,e2⟩:=Zu.mp e;cases e2;obtain⟨a,ns,vs,U,Fs,rfl,rfl,N,X,rfl,d⟩:=dM r;have Kd:(ns.map aJ).length=U.length:=by rw[Zx];exact X.trans d.len.1
    obtain⟨M,D,g1,g2,g3,g4⟩:=jz (λn=>eqT n k) Kd Z;have ep:p=(M,D):=by
     have:((ns.map aJ).zip U)[i]?=some (M,D):=by rw[YK];exact⟨g1,g2⟩
     rw[this]at Y;exact(Zl Y).symm
    subst ep;obtain⟨kk,Li⟩:∃kk:Key,k=aJ kk:=by
     cases k with
     |int i=>exact⟨.inl i,rfl⟩
     |str s=>exact⟨.inr (sx s),by simp[aJ,sx]⟩
     |_=>cases hk
    subst Li;obtain⟨u,Fi,J,E,u3⟩:=d.get i g2;obtain⟨w,x,A,B,S,R,Q,P,O⟩:=iQ C inj u3 (((ZY.mp nd).2).sublist (dv E)) e1;refine⟨w,x,A,B,.key N ?_ S,R,Q,P,λq o g=>?_⟩
    ·exact qR (by simpa using Kd) X Z J
    ·obtain⟨Vb,h⟩:=O q o g;obtain⟨s1,s2,s3,s4,s5⟩:=nh N d nd J E h;refine⟨_,h.kept,s5,h.Hk,?_,s3,s4⟩;rw[nu (ns.map aJ) U i M z g1];exact .dct s1 X s2
   |succ kd=>cases k<;>cases e
  |_=>cases k<;>cases e
end
section
variable{G:Gx}
theorem IP.same{H d:Hp}(e:aO H d){b:List Ky}{v w:V}(p:IP G H b v w):IP G d b v w:=by
 induction p with
 |nil v=>exact .nil v
 |fld h l _ a=>exact .fld (e _ _ h) l a
 |ix h l m _ a=>exact .ix (e _ _ h) l m a
 |key h l _ a=>exact .key (e _ _ h) l a
 |un _ a=>exact .un a
theorem IP.split{H:Hp}{k:Ky}{w:V}:∀{ks:List Ky}{v:V},IP G H (ks++[k]) v w->∃u,IP G H ks v u/\IP G H [k] u w
 |[],v,p=>⟨v,.nil v,p⟩
 |_ :: ks,_,.fld h l p=>let ⟨u,a,b⟩:=IP.split (ks:=ks) p;⟨u,.fld h l a,b⟩
 |_ :: ks,_,.ix h l m p=>let ⟨u,a,b⟩:=IP.split (ks:=ks) p;⟨u,.ix h l m a,b⟩
 |_ :: ks,_,.key h l p=>let ⟨u,a,b⟩:=IP.split (ks:=ks) p;⟨u,.key h l a,b⟩
 |_ :: ks,_,.un p=>let ⟨u,a,b⟩:=IP.split (ks:=ks) p;⟨u,.un a,b⟩
theorem iA{U:VS.Env}{s:Ka}:∀{way:List Ka}{f:List Ky},keys (way++[s]) U=some f->∃g k,keys way U=some g/\keys [s] U=some [k]/\f=g++[k]
 |[],f,e=>by
  cases s with
  |fld k=>cases e;exact⟨[],.fld k,rfl,rfl,rfl⟩
  |un=>cases e;exact⟨[],.un,rfl,rfl,rfl⟩
  |ix c =>
   obtain⟨x,j,i⟩:=Zz.mp (show (c U).bind (λx=>(keys [] U).map (Ky.at x.2 :: ·))=some f from e);cases i;exact⟨[],.at x.2,rfl,by simp[keys,j],rfl⟩
 |.fld k :: way,f,e=>by
  obtain⟨m,j,i⟩:=Zu.mp (show (keys (way++[s]) U).map (Ky.fld k :: ·)=some f from e);obtain⟨g,l,a,b,c⟩:=iA j;exact⟨.fld k :: g,l,by simp[keys,a],b,by rw[← i,c];rfl⟩
 |.un :: way,f,e=>by
  obtain⟨m,j,i⟩:=Zu.mp (show (keys (way++[s]) U).map (Ky.un :: ·)=some f from e);obtain⟨g,l,a,b,c⟩:=iA j;exact⟨.un :: g,l,by simp[keys,a],b,by rw[← i,c];rfl⟩
 |.ix c :: way,f,e=>by
  obtain⟨x,n,h⟩:=Zz.mp (show (c U).bind (λx=>(keys (way++[s]) U).map (Ky.at x.2 :: ·))=some f from e);obtain⟨m,j,i⟩:=Zu.mp h;obtain⟨g,l,a,b,d⟩:=iA j;exact⟨.at x.2 :: g,l,by simp[keys,n,a],b,by rw[← i,d];rfl⟩
noncomputable def Py(G:Gx)(i:Nat)(a:List Ka):TE:=λJ H Q=>∃R U t b v w,SR G R U J H/\U[i]?=some (some (.ow t))/\J[i]?=some (some v)/\keys a U=some b/\IP G H b v w/\∀d,aO H d->Q w d
noncomputable def Kr(G:Gx)(X:Cx)(e:Expr)(i:Nat)(a:List Ka):Prop:=PE X e (Py G i a)
theorem PE.Lo{X:Cx}{e:Expr}{t:TE}{i:Nat}{a:List Ka}(h:PE X e t)(w:∀J H Q,Py G i a J H Q->t J H Q):Kr G X e i a:=λb s J H Q I q=>h b s J H Q I (w J H Q q)
variable{X:Cx}{e:Expr}{es:List Expr}{i:Nat}{way:List Ka}{pos pos' p1 apos pe:Pos}{c:Ex}{cs:Hr}{b:Expr}{k:Nat}
theorem bR(i:Nat){x:Str}(j:X.N[i]?=some x:=by exact rfl)(f:JG X.env.scope x:=by exact .inl rfl)(h:K3 x:=by exact rfl)(a:K4 x:=by exact rfl):Kr G X (.Name x pos) i [] :=
 PE.Lo (iu j f h a) λJ H Q g=>by
  obtain⟨R,U,t,d,v,w,s,p,o,n,m,l⟩:=g;cases (show some ([]:List Ky)=some d from n);cases m;exact⟨v,o,l H (aO.refl _)⟩
structure HY(G:Gx)(K:Xf)(k:Nat)(f:Str):Prop where
 nm:∀c,(G.ct (c+1)).2 k=f
 cl:∀c,IB K (G.ct (c+1)).1
 no:∀c,bh K (G.ct (c+1)).1 f
theorem fW(k:Nat){f:Str}(F:HY G X.K k f)(h:Kr G X e i way)(n:attributeBase e f X.env (eval e X.env)=eval e X.env:=by exact rfl):Kr G X (.Attribute e f pos) i (way++[.fld k]) :=
 PE.Lo (yJ h n) λJ H Q m=>by
  obtain⟨R,U,t,E,v,w,s,z,y,x,r,p⟩:=m;obtain⟨B,l,a,b,rfl⟩:=iA x;cases (show some [Ky.fld k]=some [l] from b);obtain⟨u,p1,j⟩:=r.split;refine⟨R,U,t,B,v,u,s,z,y,a,p1,λC d=>?_⟩;cases j with
  |@fld c _ a A fs D _ _ o g q =>
   cases q;rw[F.nm c]at g;exact⟨a,_,A,fs,w,rfl,d a _ o,F.cl c,F.no c,g,p C d⟩
theorem BZ{E:Nat}(P:xa E X.A)(h:Kr G X e i way)(Y:PV G X b c)(O:lB b)(hK:X.K=G.K):Kr G X (.Subscript e b pos) i (way++[.ix c]) :=
 PE.Lo (uT (K5.or qD (qd (kZ P))) h Y O) λJ H Q S=>by
  obtain⟨R,U,t,ks,v,w,s,h1,h2,h3,h4,Z⟩:=S;obtain⟨Le,F,a,b',rfl⟩:=iA h3;obtain⟨⟨D,x⟩,ec,e2⟩:=Zz.mp (show (c U).bind (λx=>(keys [] U).map (Ky.at x.2 :: ·))=some [F] from b');cases e2;obtain⟨u,p1,C⟩:=h4.split;refine⟨R,U,t,Le,v,u,s,h1,h2,a,p1,λH1 d=>⟨R,U,D,x,s.same d,ec,λy H2 F2 o r2 f2=>?_⟩⟩;have B:=(C.same d).same o;have q:=Z H2 (d.trans o);cases B with
  |@ix a p L j r _ _ l g N f =>
   cases f;refine .inl (.inl ⟨a,p,L,w,rfl,r2.int_inv,Hc.of l,nW g N,q⟩)
  |@key a cg m r _ _ l g f =>
   cases f;refine .inr ⟨a,w,rfl,?_,q⟩;have M:y=kV m:=by
    cases m with
    |inl n=>exact r2.int_inv
    |inr z =>
     have:=r2.str_inv.1;rw[this];simp[kV,sx]
   rw[M,← g];exact iJ.k l
@[simp] noncomputable def jb(i:Nat)(a:List Ka)(f:T->Vr->Option (T×Val))(h:Hr)(U:VS.Env):Option (Val×VS.Env):=match U[i]? with
 |some (some (.ow t))=>(keys a U).bind λg=>(h U).bind λd=>(pm (λx=>f x d) g t).map λz=>(z.2,U.set i (some (.ow z.1)))
 |_=>none
noncomputable def jV(G:Gx):Prop:=∀c k a:Nat,(G.ct c).2 k=(G.ct c).2 a->k=a
theorem yC{p m:String}{a:Str}{o:Expr}{r:V->List V->Hp->VK->Prop}{f:T->Vr->Option (T×Val)}(Jq:jV G)(pa:PlainAttrs p)(d:Slot p a m)(OW:typeOf (.builtin m)=pure (.type "method_descriptor"))(hm:Qy X m r)(ok:yj G r f)(hT:∀H v t F l z,Rp G H v t F->f t l=some z->tyV G.K p v H)(ho:Kr G X o i way)(ha:Ib G X (e :: es) cs)(hK:X.K=G.K)(HN:attributeBase o a X.env (eval o X.env)=eval o X.env)(Iy:((backTo pe (starEach (e :: es) X.env)).all (λx=>!x.1)&&(backToKw pe (keywordEach [] X.env)).all (λx=>x.1.isSome)
   && decide ((e :: es).length+([]:List Keyword).length+(if ([]:List Keyword).isEmpty then 0 else 1)<30))=true)(HC:(apos.endLine==pe.line)=true)(hs:K1 e es X)(HE:K2 pe es X)(JY:swapsWith (.Call (.Attribute o a apos) (e :: es) [] pe) none pos.line X.env=pure false) :
  PSV G X (.Expr (.Call (.Attribute o a apos) (e :: es) [] pe) pos) (sX (jb i way f cs)) :=
 PS.weak (jO (rN pa d OW hm ho ha HN Iy HC hs HE) JY) λD J H hq=>by
  obtain⟨R,U,out,s,e,k⟩:=hq;refine L2.iB λP_ k_=>?_;unfold sX jb at e;obtain⟨⟨x',U'⟩,e1,e2⟩:=Zu.mp e;split at e1
  ·rename_i t h;obtain⟨C,ek,e3⟩:=Zz.mp e1;obtain⟨l,el,e4⟩:=Zz.mp e3;obtain⟨⟨t',x2⟩,e5,e6⟩:=Zu.mp e4;cases e6;cases e2;obtain⟨v,E,h2⟩:=s.rp _ _ h;obtain⟨w,x,F1,O,S,A,Q,y,P⟩:=iQ C Jq h2 (s.nd i t h) e5;refine k_ ?_;refine⟨R,U,t,C,v,w,s,h,E,ek,S,λH0 j=>⟨by rw[hK];exact hT H0 w x _ l _ (A.same j) y,R,U,l,s.same j,el,λY H' Fs q1 q2 B=>?_⟩⟩;refine ok R U H H' w x O F1 l Y Fs x2 _ A Q ⟨j.trans q1,q2,⟨λn Z q a1 a2=>(B.each n Z q a1 a2).back j,B.nd⟩⟩ y λu L q g=>?_;obtain⟨F2,g2⟩:=P L q g;obtain⟨N,M⟩:=s.mut h E g2;exact k _ J L N M
  ·cases e1
end
section
variable{G:Gx}{X:Cx}{e o:Expr}{es:List Expr}{i:Nat}{way:List Ka}{pos pos' p1 apos pe:Pos}{c:Ex}{cs:Hr}{b:Expr}{k:Nat}{ce ck:Ex}
noncomputable def kf(k v:Val):T->Option (T×Unit)
 |.lst l=>match k.2 with
  |.int n=>(fit v).bind λt=>(Iq l.length n).map λj=>(.lst (l.set j t),())
  |_=>none
 |.dct 0 l=>if g7 k.2/\G5 v.2/\l.length<fL then some (.dct 0 (dput l k.2 v.2),()) else none
 |_=>none
noncomputable def fJ(i:Nat)(a:List Ka)(k e:Ex)(U:VS.Env):Option Out:=(e U).bind λv=>match U[i]? with
 |some (some (.ow t))=>(keys a U).bind λf=>(k U).bind λd=>(pm (kf d v) f t).map λz=>.nx (U.set i (some (.ow z.1)))
 |_=>none
theorem RpL.putAt{H:Hp}:∀{d:List V}{f:Vp}{g:Yp}(j:Nat){u:V}{x:T}{F:Wy},RpL G H d f g->Rp G H u x F->RpL G H (d.set j u) (f.set j x) (g.set j F)
 |_,_,_,_,_,_,_,.nil,_=>.nil
 |_,_,_,0,_,_,_,.cons r q,a=>.cons a q
 |_,_,_,j+1,_,_,_,.cons r q,a=>.cons r (RpL.putAt j q a)
theorem vo{H:Hp}{kk:Key}{l:V}{t:T}(n:Rp G H l t []):∀{a:List Key}{h:List V}{ts:Vp}{Fs:Yp},a.length=h.length->RpL G H h ts Fs →
  ∃d f g,(a.zip h).map (λm=>if m.1=kk then (m.1,l) else m)=a.zip d/\a.length=d.length/\((a.map aJ).zip ts).map (λp=>if eqT p.1 (aJ kk) then (p.1,t) else p)=(a.map aJ).zip f/\RpL G H d f g/\g.flatten.Sublist Fs.flatten
 |[],[],_,_,_,.nil=>⟨[],[],[],rfl,rfl,rfl,.nil,XI _⟩
 |k :: a,v :: h,_,_,B,.cons (t:=A) (F:=F) (ts:=ts) (Fs:=Fs) r q=>by
  obtain⟨d,f,g,y,x,w,u,s⟩:=vo n (by simpa using B) q;by_cases j:k=kk
  ·have e:eqT (aJ k) (aJ kk)=true:=(kE kk k).mpr j;refine⟨l :: d,t :: f,[] :: g,?_,by simp[x],?_,.cons n u,?_⟩
   ·rw[ZV,Zm,y,ZV];simp[j]
   ·rw[Zm,ZV,Zm,w,ZV];simp[e]
   ·rw[ZI,ZI];exact s.trans (Y1 _ _)
  ·have e:¬eqT (aJ k) (aJ kk)=true:=λz=>j ((kE kk k).mp z);refine⟨v :: d,A :: f,F :: g,?_,by simp[x],?_,.cons r u,?_⟩
   ·rw[ZV,Zm,y,ZV];simp[j]
   ·rw[Zm,ZV,Zm,w,ZV];simp[e]
   ·rw[ZI,ZI];exact List.Sublist.append (XI _) s
theorem qZ{kk:Key}:∀{a:List Key}{d:List V}{f:Vp},a.length=d.length->a.length=f.length->((a.zip d).any λg=>decide (g.1=kk))=(((a.map aJ).zip f).any λp=>eqT p.1 (aJ kk))
 |[],_,_,_,_=>by simp
 |k :: a,v :: d,t :: f,l,j=>by
  rw[Zm,ZV,ZV,YH,YH,qZ (by simpa using l) (by simpa using j)];have:decide (k=kk)=eqT (aJ k) (aJ kk):=by rw[Xa,decide_eq_true_eq];exact(kE kk k).symm
  rw[this]
 |_ :: _,[],_,h,_=>by simp at h
 |_ :: _,_ :: _,[],_,h=>by simp at h
theorem mq{H:Hp}{kk:Key}{q:V}{t:T}(u:Rp G H q t []){a:List Key}{g:List V}{j:Vp}{s:Yp}(d:a.length=g.length)(l:RpL G H g j s) :
  ∃(r:List Key)(f:List V)(m:Vp)(n:Yp),putK (a.zip g) kk q=r.zip f/\r.length=f.length/\dput ((a.map aJ).zip j) (aJ kk) t=(r.map aJ).zip m/\RpL G H f m n/\n.flatten.Sublist s.flatten:=by
 have an:=qZ (kk:=kk) d (d.trans l.len.1);unfold putK dput;rw[an];by_cases h:(((a.map aJ).zip j).any λp=>eqT p.1 (aJ kk))=true
 ·rw[Zs h,Zs h];obtain⟨f,m,n,z,y,x,w,v⟩:=vo (kk:=kk) u d l;exact⟨a,f,m,n,z,y,x,w,v⟩
 ·rw[Zp h,Zp h];refine⟨a++[kk],g++[q],j++[t],s++[[]],?_,by simp[d],?_,l.append (.cons u .nil),by simp⟩
  ·rw[X3 d];rfl
  ·rw[Z8,X3 (by rw[Zx];exact d.trans l.len.1)];rfl
noncomputable def B6:Bh:=λo i v H Q=>Ck o i v H Q\/∃a d,o=.ref a/\uu H a i v d/\Q d
theorem zj(n:X.A.units+1<cLine):Du X B6:=by
 intro d s J H o i v m iv u Q I j l f h;rcases h with h | ⟨a,r,rfl,g,q⟩
 ·exact set_list d s J H o i v m iv u Q I j l f h
 ·cases j;exact v7 n I g l f λt p=>⟨r,p,q⟩
theorem ly{kr:Nat}(Jq:jV G)(hr:xa kr X.A)(ho:Kr G X o i way)(hk:PV G X b ck)(he:PV G X e ce)(ha:∀v,assign (.Subscript o b pos') X.env v=(do
   let Y ← holding [v] (eval o X.env)
   let iv ← holding [v,Y] (eval b X.env)
   standAt pos'
   holding [v,Y,iv] (setItem Y iv v)
   release [v,Y,iv] []):=by exact λ_=>rfl)(hs:swapsWithSole [.Subscript o b pos'] e pos.line X.env=pure false:=by exact rfl)(hw:swappedStores [.Subscript o b pos'] e X.env=pure none:=by exact rfl)(M:(assignEach [.Subscript o b pos'] X.env).map (·.2)=[assign (.Subscript o b pos') X.env]:=by exact rfl):PSV G X (.Assign [.Subscript o b pos'] e pos) (fJ i way ck ce) :=
 PS.weak (uw he (uq ho hk (zj (kZ hr)) ha) hs hw M) λD J H hq=>by
  obtain⟨R,U,out,s,e,k⟩:=hq;refine L2.iB λP_ Z=>?_;unfold fJ at e;obtain⟨⟨mv,m⟩,ev,e⟩:=Zz.mp e;split at e
  ·rename_i t ht;obtain⟨ks,ek,e⟩:=Zz.mp e;obtain⟨⟨mk,q⟩,Li,e⟩:=Zz.mp e;obtain⟨⟨t',y'⟩,e5,e6⟩:=Zu.mp e;cases e6;obtain⟨v,g1,g2⟩:=s.rp _ _ ht;obtain⟨w,x,F1,Q,w1,w2,w3,L,w5⟩:=iQ ks Jq g2 (s.nd i t ht) e5;refine Z ?_;refine⟨R,U,mv,m,s,ev,λxv H1 Fv Ip rv fv=>?_⟩;refine⟨R,U,t,ks,v,w,s.same Ip,ht,g1,ek,w1.same Ip,λH2 HK=>⟨R,U,mk,q,(s.same Ip).same HK,Li,λkv f Fk JT rk fk=>?_⟩⟩;have y:aO H f:=(Ip.trans HK).trans JT;have LM:Rp G f xv m Fv:=(rv.same HK).same JT;have fin:∀P E,Chg G H w F1 Q P E->D.nx J P:=λP E g=>by
    obtain⟨F2,MY⟩:=w5 P E g;obtain⟨z1,z2⟩:=s.mut ht g1 MY;exact k _ J P z1 z2
   refine L2.iB λP_ Z=>?_;cases x with
   |lst l =>
    cases q with
    |int n =>
     obtain⟨tt,et,e7⟩:=Zz.mp (show ((fit (mv,m)).bind λt=>(Iq l.length n).map λj=>(T.lst (l.set j t),()))=some (Q,y') from L);obtain⟨j,ej,e8⟩:=Zu.mp e7;cases e8;have em:=nc et;cases em;obtain⟨a,p,Fs,rfl,rfl,O,B⟩:=w2.lst_inv;have N:f a=some (.lst p):=y a _ O;have nd:=ZY.mp w3;have na:a∉Fv:=λz=>by rw[fv.2 a z]at O;cases O
     have C:G4 (f a):=by rw[N];exact True.intro
     have off:∀d∈Fs.flatten,d∉Fv:=λd hb hv=>G4.p0 (B.Hk d hb) (fv.2 d hv);refine Z ?_;refine .inl ⟨a,p,n,j,rfl,rk.int_inv,N,by rw[← uk,B.len.1];exact ej,fin _ (a :: (Fs.set j Fv).flatten) ?_⟩;have keep:∀{u:V}{x:T}{F:Wy},Rp G f u x F->a∉F->Rp G (upd f a (.lst (p.set j xv))) u x F:=λr hn=>r.keep (Kept.upd (.inl C)) λd hb o' Ki=>by rw[aE (λz=>hn (by rw[← z];exact hb))];exact Ki
     refine Chg.upd y Zw C (.lst aC ((((B.same y).off C nd.1)).putAt j (keep LM na))) ?_ ?_
     ·rw[ZY];refine⟨λh=>?_,eI nd.2 fv.1 λi' E _ hi d hb=>off d (dC hi hb)⟩;rcases cN h with z | ⟨i',E,_,M,h2⟩
      ·exact na z
      ·exact nd.1 (dC M h2)
     ·intro d hb;rcases Zj.mp hb with rfl | hb
      ·exact .inl Zw
      ·rcases cN hb with z | ⟨i',E,_,M,h2⟩
       ·exact .inr (fv.2 d z)
       ·exact .inl (Zv _ (dC M h2))
    |_=>cases L
   |dct kd l =>
    cases kd with
    |zero =>
     have hc:(g7 q=true/\G5 m=true/\l.length<fL)/\Q=.dct 0 (dput l q m):=by
      have M8:(if g7 q/\G5 m/\l.length<fL then some (T.dct 0 (dput l q m),()) else none)=some (Q,y'):=L;split at M8
      ·rename_i hc;cases M8;exact⟨hc,rfl⟩
      ·cases M8
     obtain⟨⟨c1,c2,c3⟩,rfl⟩:=hc;have eF:=LM.G5 c2;subst eF;obtain⟨a,ns,p,ts,Fs,rfl,rfl,O,hl,rfl,B⟩:=dM w2;obtain⟨kk,rfl,LI⟩:=dP rk c1;subst LI;have N:f a=some (.dK (ns.zip p)):=y a _ O;have C:G4 (f a):=by rw[N];exact True.intro
     have nd:=ZY.mp w3;obtain⟨Nl,Jf,Jg,IQ,q1,q2,q3,q4,S⟩:=mq (kk:=kk) LM hl (B.same y);have ln:(ns.zip p).length<sizeLine:=by
      have:((ns.map aJ).zip ts).length<16777216:=c3;rw[Yn,Zx]at this;rw[Yn];have:=B.len.1;have:(sizeLine:Nat)=16777216:=rfl;lia
     refine Z ?_;refine .inr ⟨a,_,rfl,uu.k N ln,fin _ (a :: IQ.flatten) ?_⟩;rw[q1,q3];refine Chg.upd y Zw C (.dct aC q2 (q4.off C λz=>nd.1 (S.subset z))) ?_ ?_
     ·exact ZY.mpr ⟨λz=>nd.1 (S.subset z),nd.2.sublist S⟩
     ·intro d hb;rcases Zj.mp hb with rfl | hb
      ·exact .inl Zw
      ·exact .inl (Zv _ (S.subset hb))
    |succ n=>cases L
   |_=>cases L
  ·cases e
end
theorem Ej{K:Xf}{H:Hp}{a:Addr}{b:Vu}(e:yz H)(d:Hc K H a (b.map V.int)):mM K H a b:=by
 rcases d with h | h
 ·rcases h with h | h
  ·rcases e a with z | ⟨o,f,z⟩
   ·rw[z]at h;cases h
   ·rw[z]at h;cases h
  ·exact .inl h
 ·exact .inr h
theorem CZ{G:Gx}{g:Fn}{H:Hp}{a:Addr}{b:Vu}{E:XK}(d:g [.scr b]=some (.fr,.bl true))(f:yz H)(e:Hc G.K H a (b.map V.int)):Kb G g [.ref a] H (λv _=>v=.bl true) E :=
 ⟨[.scr b],[[]],.fr,.bl true,.cons (.scr (Ej f e)) .nil,d,λv h F _ r _=>r.HZ⟩
noncomputable def O4(K:Xf):Gx:=⟨K,λ_=>(0,λk=>⟨#[k]⟩),λ_=>none⟩
theorem zR{l:PySem.W.OpenLaw}{q:Program}{b:List Str}{t:(X9)->Heap->Prop}{d:DefRec}{K:Params->Xf}{g:Fn}{x:Str}{k:Nat}(m:l.most=some 63)(v:d.params.defaults=[])(j:xa k callerA)(o:∀ns:Vu,g [.scr ns]=some (.fr,.bl true))(F:∀(w:World)(mg:X9)(e:Addr)(h:Heap),(K w.params).In h->h.Ns mainGlobals mg->mg d.name=some (.ref e) →
   ∃fd:FuncData,(∀(s:Shared)(u:Value),BindsTo s fd ⟨[u],[]⟩ [(x,u)])/\∀base:Heap,(K w.params).In base->base.Ns mainGlobals mg->FnOk l.prog w (K w.params) mg base HJ k e fd [x] (Kb (O4 (K w.params)) g)) :
  PySem.W.WalkO q b t (λw h=>(K w.params).In h) l.row.toRowW d [] (λf i=>PySem.call f i) :=
 L2.Ak (n:=63) (k:=k) (x:=x) (CX:=λ_=>HJ) (sp:=λw=>Kb (O4 (K w.params)) g) m (by decide) v j (λ_ _ h=>h) F (λw H a ns _ r p=>CZ (G:=O4 (K w.params)) (o ns) r p) λ_ _ _ _ _ z=>z
end VS
end
section
namespace L2
open PySem PySem.Spec PyProof.Rows
section
variable{X:Cx}
theorem uB(z:X.calm=true):dN X (.type "list") (λf H Q=>∃x:Str,f=[.str x]/\x.cps.size<=sizeLine/\∀l,H l=none->Q (.ref l) (upd H l (.lst (x.cps.toList.map λc=>V.str ⟨#[c]⟩)))):=by
 intro j s J H f B Q I p h;obtain⟨x,rfl,m,q⟩:=h;obtain⟨u,rfl,t,rfl⟩:=vals1 p;refine call_list_str (I.ok.hd z) x t (λA C acc c kp g o=>?_) m;have y:aV (x.cps.toList.map λc=>V.str ⟨#[c]⟩) acc.toList:=by
  have key:∀(b:Vv)(a:Wu),b.length=a.length->(∀(i:Nat)(v:Value),a[i]?=some v->∃c u,b[i]?=some c/\v=.str ⟨#[c]⟩ u)->aV (b.map λc=>V.str ⟨#[c]⟩) a:=by
   intro b
   induction b with
   |nil =>
    intro a e _;cases a with
    |nil=>exact .nil
    |cons v a=>simp at e
   |cons c b r =>
    intro a e hg;cases a with
    |nil=>simp at e
    |cons v a =>
     obtain⟨d,u,e1,e2⟩:=hg 0 v rfl;cases e1;exact .cons ⟨u,e2⟩ (r a (by simpa using e) λi w hw=>by simpa using hg (i+1) w (by simpa using hw))
  refine key _ _ (by rw[YY,YY,o.1]) λi v n=>?_;rw[Yw]at n;obtain⟨d,u,e1,e2⟩:=o.2 i v n;exact⟨d,u,by rw[Yw];exact e1,e2⟩
 refine⟨.ref s.heap.objs.size,_,I.laid kp (Zo _) (show bS X.prog X.w _ A _ (.lst (x.cps.toList.map λc=>V.str ⟨#[c]⟩)) from⟨by rw[Zx,YY];exact m,acc.toList,c,y,g⟩),rfl,q _ (I.xh.fresh (Zo _))⟩
end
end L2
namespace VS
open PySem PySem.Spec PyProof.Rows L2
section
variable{G:Gx}{X:Cx}{a b c e tg:Expr}{es:List Expr}{ca cb cc ce ck:Ex}{cs:Hr}{pos p p1 p2 apos pe pos':Pos}{k k' kr:Nat}
@[simp] noncomputable def qg:Vr->Vq
 |[(m,.lst l)]=>JA m l
 |[(m,.tup l)]=>JA m l
 |[(_,.str s)]=>JA .fr (s.map λc=>.str [c])
 |_=>none
theorem xJ:fq G (λg H Q=>B5 G.K g H Q\/∃x:Str,g=[.str x]/\x.cps.size<=sizeLine/\∀l,H l=none->Q (.ref l) (upd H l (.lst (x.cps.toList.map λc=>V.str ⟨#[c]⟩)))) qg:=by
 intro R U j H l d f m t Q A e k;unfold qg at e;split at e
 ·exact .inl (vy R U j H _ d f m t Q A e k)
 ·exact .inl (vy R U j H _ d f m t Q A e k)
 ·rename_i C x;obtain⟨v,F,rfl,rfl,i⟩:=(show RpL G H d [.str x] f from A.rp).one;have h:=i.str_inv.2;refine .inr ⟨sx x,by rw[i.str_inv.1],?_,λq u=>?_⟩
  ·have:=h.1;simp only[sx,ZJ];exact this
  ·have B:(sx x).cps.toList.map (λc=>V.str ⟨#[c]⟩)=(x.map λc=>[c]).map λs=>V.str (sx s):=by
    simp[sx]
   have z:(x.map λc=>T.str [c])=(x.map λc=>[c]).map T.str:=by simp
   rw[B];rw[z]at e;have n:=uD (G:=G) (H:=H) (ss:=x.map λc=>[c]) λs r=>by
    obtain⟨c,w,rfl⟩:=Yo.mp r;exact⟨by show 1<=fL;decide,λy o=>by rw[Za.mp o];exact h.2 c w⟩
   refine jM A.same e n ?_ k q u;rw[sT];exact Fp.nil
 ·cases e
theorem Aj(d:X.mg "list" = none)(h:Ib G X [e] cs)(f:Gl X "list" := by rfl)(i:X.K=G.K:=by rfl)(g:X.calm=true:=by rfl)(he:K1 e [] X:=by rfl):PV G X (.Call (.Name "list" p) [e] [] pos) (eN qg cs) :=
 jL (qV.or (uB g)) (i ▸ xJ) f d BO h (he:=he) (hpl:=rfl)
end
end VS
end
section
namespace ST
open PySem PySem.Spec PyProof.Rows
variable{prog:Program}{w:World}{A:Around}{E:Z3}{s:Shared}
noncomputable abbrev dO(a:Array DictEntry)(b:Nat):Obj:={ cls:=.type "dict",data:=.dict a b }
noncomputable abbrev kO(d:Addr)(i n a:Nat):Obj:={ cls:=.type "dict_keyiterator",data:=.fields #[.ref d,.int i 0,.int n 0,.int a 0] }
theorem wZ{d:Addr}{b:Array DictEntry}{e:Nat}{Q:Z3}(f:(d==sysModules)=false)(a:s.heap.get? d=some (dO b e))(q:Q (.ref s.heap.objs.size) { s with heap:=s.heap.push (kO d 0 b.size e) }) :
  wpAny (model prog w) A (pyIter (.ref d)) Q E s:=by
 have ty:s.TypeIs (.ref d) "dict" := ⟨_,a,rfl⟩
 refine wpAny_pyIter_slot ty F.slot_dict_iter (X8 F.slot_dict_iter ty F.entry_dict_iter (show wpAny _ _ (Builtin.«dict.__iter__» _) _ _ _ from ?_) (F.args_dict_iter_1 _));unfold Builtin.«dict.__iter__» Builtin.Dict.dictSlotNone Builtin.Dict.showsAll;refine Zn (Zn (wpAny_notOrdered_dict ty (show wpAny _ _ (pure (Value.ref d)) _ _ s from ZW (Zn (m:=Builtin.Dict.addrOf (.ref d)) (ZW ?_)))));rw[Zp (by rw[f];exact Zg)];exact Zn (ZW (Zn (wpAny_dictEntries a rfl (Zn (wpAny_dictEpoch a rfl (Zn (WW (ZW ⟨_,rfl, "dict_keyiterator",_,⟨_,ZL _ rfl,rfl⟩,Xi.lookup,q⟩))))))))
theorem rS{I d:Addr}{i m:Nat}{h:Array DictEntry}{Q:Wt->Shared->Prop}(t:A.handled=none)(l:s.heap.get? I=some (kO d i h.size m))(n:s.heap.get? d=some (dO h m))(y:∀e,h[i]?=some e->∀a,Heap.SameBut I s.heap a->a.get? I=some (kO d (i+1) h.size m)->Q (some e.key) { s with heap:=a })(u:h[i]?=none->∀a,(∀b o,b≠I->s.heap.get? b=some o->a.get? b=some o)->Q none { s with heap:=a }):wpAny (model prog w) A (pyNext (.ref I)) Q E s:=by
 have ty:s.TypeIs (.ref I) "dict_keyiterator" := ⟨_,l,rfl⟩
 unfold pyNext;refine Zn (wpAny_attempt (wpAny_callSpecial?_slot (name:=Str.ofString "__next__") ty Xi (X8 Xi ty F.entry_dict_keyiterator_next (YA
  (Q:=λf j=>∃v,f=.done (.ret v)/\Q (some v) j) (E:=λe j=>∃x,e=.ref x/\(∃o,j.heap.get? x=some o/\o.cls=.type "StopIteration")/\Q none j) ?_ (λf j ⟨v,e,q⟩=>⟨v,e,ZW q⟩) λe j ⟨x,e1,⟨o,g,c⟩,q⟩=>?_) (F.args_dict_keyiterator_next_1 _))))
 ·refine Zn (ZW (Zn (Zn (Zn (Wz ty (ZW (Zn (wpAny_fieldsOf l rfl ?_))))))));have own:Builtin.Dict_items.ownsTuple "dict_keyiterator" = false:=rfl;simp only[own,XW,↓reduceIte];refine(show wpAny _ _ (if (Value.ref d==Value.none)=true then _ else _) _ _ s from ?_);rw[Zp (λe:(Value.ref d==Value.none)=true=>Zg e)];refine Zn (ZW (Zn (wpAny_dictEntries n rfl ?_)));rw[Zp (by simp)];refine Zn (ZW (Zn (wpAny_dictEpoch n rfl ?_)));rw[Zp (by simp)];refine ZW ?_;simp only[show ¬((i:Int)<0) from by lia,↓reduceIte,Wm];cases he:h[i]? with
  |some e =>
   dsimp only;have p:(s.heap.update I (Obj.mapFields (·.setIfInBounds 1 (rawInt ((i:Int)+1))))).get? I=some (kO d (i+1) h.size m):=Heap.get?_update_self _ l rfl;refine Zn (Zn (Wz ty (ZW (Zn (wpAny_isOneOf_keyiter ty ?_)))));refine(show wpAny _ _ (setField (.ref I) 1 (rawInt ((i:Int)+1))>>=_) _ _ s from Zn (wpAny_setField l rfl (by show 1<4;decide) (Zn (Xw ?_))));refine Zn (wpAny_isOneOf_keyiter (s:={ s with heap:=s.heap.update I (Obj.mapFields (·.setIfInBounds 1 (rawInt ((i:Int)+1)))) }) ⟨_,p,rfl⟩ ?_);refine(show wpAny _ _ (pure e.key) _ _ _ from ZW (ZW ⟨_,rfl,y e he _ (Heap.SameBut.update ..) p⟩))
  |none =>
   dsimp only;refine Zn (Zn (Wz ty (ZW ?_)));refine(show wpAny _ _ (setField (.ref I) 0 .none>>=_) _ _ s from Zn (wpAny_setField l rfl (by show 0<4;decide) (E1 t λa x kp r=>⟨x,rfl,r,u he a λb o hb e=>kp b o ?_⟩)));rw[WI _ _ (YF hb)];exact e
 ·subst e1;exact Zn (wpAny_isInstance (T := "StopIteration") (b:=true) ⟨o,g,c⟩ isSubtype_stop (ZW q))
end ST
end
section
namespace VS
open PySem PySem.Spec PyProof.Rows L2
theorem Ci{G:Gx}{X:Cx}{i:Int}{j:Nat}{a p:Pos}:PV G X (.UnaryOp .USub (.Constant (.int i) j p) a) (Q2 (-i)) :=
 PE.weak (FF Dj qC) λJ H Q b=>by
  obtain⟨R,U,m,t,s,e,k⟩:=b;cases (show some (Md.fr,T.int (-i))=some (m,t) from e);exact⟨i,rfl,k _ H [] (aO.refl _) (.int _) Fp.nil⟩
end VS
end
section
namespace L2
open PySem PySem.Spec PyProof.Rows
section
variable{X:Cx}
noncomputable def Ba:V->List V->Hp->VK->Prop:=λx d H Q=>∃(a:Addr)(b:List (Key×V))(k:Key)(y:V),x=.ref a/\d=[kV k,y]/\H a=some (.dK b)/\b.length<sizeLine ∧
 (∀v,cR b k=some v->Q v H)/\(cR b k=none->Q y (upd H a (.dK (putK b k y))))
theorem wG:Qy X "dict.setdefault" Ba:=by
 intro g s J H x M v N Q I n o h;obtain⟨a,f,k,y,rfl,rfl,e,O,t,r⟩:=h;cases n;obtain⟨u,m,rfl,p,j⟩:=o.two;obtain⟨z,hd,ws,rel,i⟩:=oo I.xh e;have A:ws.length<=sizeLine:=by rw[← rel.length];exact z
 have b:=rel.val k;refine call_meetsIn PySem.F.slot_dict_setdefault i.typeIs PySem.F.entry_dict_setdefault (PySem.F.args_dict_setdefault_3 _ _ _) (kt_meets_setdefault (aU X.prog X.w) a (kD p) hd m) ⟨ws,i,A,λv B=>?_,λE G l C=>?_⟩
 ·rw[B]at b;cases d:cR f k with
  |none=>rw[d]at b;cases b
  |some w =>
   rw[d]at b;exact⟨w,H,I.tok _,b,t w d⟩
 ·rw[E]at b;have d:cR f k=none:=by
   cases d:cR f k with
   |none=>rfl
   |some w=>rw[d]at b;cases b
  have L:(putK f k y).length<=sizeLine:=by have:=fP f k y;lia
  have he:∃q,G.get? a=some q:=let ⟨q,_,_,D,_⟩:=l;⟨q,D⟩
  exact⟨y,_,kI I (by rw[e];exact True.intro) C he (nF L hd (rel.put k j) l),j,r d⟩
end
end L2
namespace VS
open PySem PySem.Spec PyProof.Rows L2
section
variable{G:Gx}{X:Cx}{a b c e o tg:Expr}{es:List Expr}{ca cb cc ce ck cv:Ex}{cs:Hr}{pos p p1 p2 apos pe pos' NW LZ lp:Pos}{k k' kr i:Nat}
noncomputable def dj(l:List (T×T))(k:T):List (T×T):=if (df l k).isSome then l else l++[(k,.lst [])]
noncomputable def lj(i:Nat)(k:Ex)(v:Hr)(U:VS.Env):Option Out:=match U[i]? with
 |some (some (.ow (.dct 0 l)))=>(k U).bind λd=>if g7 d.2/\l.length<fL then
   (v (U.set i (some (.ow (.dct 0 (dj l d.2)))))).bind λf=>(pm (λx=>aI x f) [.at d.2] (.dct 0 (dj l d.2))).map λz=>.nx (U.set i (some (.ow z.1))) else none
 |_=>none
theorem Chg.none{H f:Hp}{v:V}{F:Wy}{t:T}(d:aO H f)(r:Rp G H v t F)(g:F.Nodup):Chg G H v F t f F :=
 ⟨Kept.of d,λb o _ h=>d b o h,λb h z=>h (d.free z),r.same d,g,λa j=>.inl j⟩
theorem DB{H:Hp}{f:T->Option (T×Val)}{d:Key}{a:Addr}{L:List (T×T)}{l:T}{F:Wy}{y:Val}{R:List (Key×V)}{w:V}(r:Rp G H (.ref a) (.dct 0 L) F)(D:F.Nodup)(e:pm f [.at (aJ d)] (.dct 0 L)=some (l,y))(J:H a=some (.dK R))(hw:cR R d=some w) :
  ∃x v A,Rp G H w x v/\v.Nodup/\f x=some (A,y)/\∀t U,Chg G H w v A t U->∃F',Chg G H (.ref a) F l t F':=by
 have e:((L.findIdx? λp=>eqT p.1 (aJ d)).bind λi=>(L[i]?).bind λp=>(pm f [] p.2).map λz=>(T.dct 0 (L.set i (p.1,z.1)),z.2))=some (l,y):=by
  cases d<;>exact e
 obtain⟨i,N,e⟩:=Zz.mp e;obtain⟨p,M,e⟩:=Zz.mp e;obtain⟨⟨z,y'⟩,e1,e2⟩:=Zu.mp e;cases e2;obtain⟨a',ns,Y,j,Fs,ea,rfl,E,s,rfl,m⟩:=dM r;cases ea;rw[J]at E;cases E;have S:(ns.map aJ).length=j.length:=by rw[Zx];exact s.trans m.len.1
 obtain⟨q,h,P,O,g3,g4⟩:=jz (λn=>eqT n (aJ d)) S N;have ep:p=(q,h):=by
  have:((ns.map aJ).zip j)[i]?=some (q,h):=by rw[YK];exact⟨P,O⟩
  rw[this]at M;exact(Zl M).symm
 subst ep;obtain⟨u,Fi,C,B,Z⟩:=m.get i O;have Q:cR (ns.zip Y) d=some u:=qR (by simpa using S) s N C;rw[hw]at Q;cases Q;refine⟨h,Fi,z,Z,((ZY.mp D).2).sublist (dv B),e1,λt U g=>?_⟩;obtain⟨s1,s2,s3,s4,s5⟩:=nh J m D C B g;refine⟨_,g.kept,s5,g.Hk,?_,s3,s4⟩;rw[nu (ns.map aJ) j i q z P];exact .dct s1 s s2
theorem zK(Jq:jV G)(i:Nat){x:Str}(hk:PV G X b ck)(hv:Ib G X [e] cs)(hK:X.K=G.K)(hN:X.N[i]?=some x)(Rx:JG X.env.scope x)(hd:K3 x)(hcd:K4 x)(JK:attributeBase (.Name x p1) "setdefault" X.env (eval (.Name x p1) X.env)=eval (.Name x p1) X.env)(hf1:((backTo LZ (starEach [b,.List [] lp] X.env)).all (λx=>!x.1)&&(backToKw LZ (keywordEach [] X.env)).all (λx=>x.1.isSome)
   && decide ([b,Expr.List [] lp].length+([]:List Keyword).length+(if ([]:List Keyword).isEmpty then 0 else 1)<30))=true)(LQ:(NW.endLine==LZ.line)=true)(Nw:starEach [b,.List [] lp] X.env=(false,eval b X.env) :: starEach [.List [] lp] X.env)(RE:starEach [.List [] lp] X.env=(false,eval (.List [] lp) X.env) :: starEach [] X.env)(P0:(backTo LZ (starEach [.List [] lp] X.env)).any (·.1)=false)(Lh:attributeBase (.Call (.Attribute (.Name x p1) "setdefault" NW) [b,.List [] lp] [] LZ) "append" X.env (eval (.Call (.Attribute (.Name x p1) "setdefault" NW) [b,.List [] lp] [] LZ) X.env)=eval (.Call (.Attribute (.Name x p1) "setdefault" NW) [b,.List [] lp] [] LZ) X.env)(Z:((backTo pe (starEach [e] X.env)).all (λx=>!x.1)&&(backToKw pe (keywordEach [] X.env)).all (λx=>x.1.isSome)
   && decide ([e].length+([]:List Keyword).length+(if ([]:List Keyword).isEmpty then 0 else 1)<30))=true)(Ik:(apos.endLine==pe.line)=true)(Jm:K1 e [] X)(Ny:(backTo pe (starEach [] X.env)).any (·.1)=false)(JY:swapsWith (.Call (.Attribute (.Call (.Attribute (.Name x p1) "setdefault" NW) [b,.List [] lp] [] LZ) "append" apos) [e] [] pe) none pos.line X.env=pure false) :
  PSV G X (.Expr (.Call (.Attribute (.Call (.Attribute (.Name x p1) "setdefault" NW) [b,.List [] lp] [] LZ) "append" apos) [e] [] pe) pos) (lj i ck cs) :=
 PS.weak (jO (rN XU Xb Xc iE
  (rN PySem.F.plainAttrs_dict PySem.F.slot_dict_setdefault PySem.F.type_dict_setdefault wG (iu hN Rx hd hcd) (eT hk (eT (ua iX) iX RE) Nw) JK hf1 LQ Nw P0) hv Lh Z Ik Jm Ny) JY) λD J H B=>by
  obtain⟨R,U,out,s,e,k⟩:=B;refine L2.iB λP_ A=>?_;unfold lj at e;split at e
  ·rename_i l O;obtain⟨⟨mk,tk⟩,Li,e⟩:=Zz.mp e;split at e
   ·rename_i hc;obtain⟨c1,c2⟩:=hc;obtain⟨lv,ev,e⟩:=Zz.mp e;obtain⟨⟨t',y'⟩,e5,e6⟩:=Zu.mp e;cases e6;obtain⟨v,g1,g2⟩:=s.rp _ _ O;have Ng:=s.nd i _ O;obtain⟨a,ns,f,m,Fs,rfl,Q,ha,S,el,t⟩:=dM g2;subst el;rw[Q]at Ng;refine A ?_;refine⟨.ref a,g1,by rw[hK];exact .inr (.inr (.inl ⟨rfl,.inl ⟨_,ha⟩⟩)),?_⟩;refine⟨R,U,mk,tk,s,Li,λkv n Fk Ip rk fk=>⟨ZR _,λq B=>?_⟩⟩;refine L2.iB λP_ A=>?_;obtain⟨d,rfl,UY⟩:=dP rk c1;dsimp only at UY Li e5 ev c1;subst UY;refine A ?_;have fin:∀(r:Hp)(L:Wy)(Nk:List (Key×V))(w:V),Chg G H (.ref a) (R i) (.dct 0 (dj ((ns.map aJ).zip m) (aJ d))) r L->r a=some (.dK Nk)->cR Nk d=some w →
      tyV X.K "list" w r/\M9 G cs J r (λNX H4=>qN w NX H4 (λ_ E=>D.nx J E)):=λr L Nk w g h3 hw=>by
     refine L2.iB λP_ A=>?_;obtain⟨z1,z2⟩:=s.mut O g1 g;have RD:(U.set i (some (.ow (.dct 0 (dj ((ns.map aJ).zip m) (aJ d))))))[i]?=some (some (.ow (.dct 0 (dj ((ns.map aJ).zip m) (aJ d))))):=by
      have hi:i<U.length:=(ZX.mp O).1;rw[XM hi]
     obtain⟨x',F1,x3,w2,w3,w4,w5⟩:=DB g.rp g.nd e5 h3 hw;refine A ?_;refine⟨by rw[hK];exact jo w2 w4,kc R i L,_,lv,z1,ev,λNX H4 Qz q1 q2 q3=>?_⟩;refine lY (kc R i L) _ r H4 w x' x3 F1 lv NX Qz y' _ w2 w3 ⟨q1,q2,q3⟩ w4 λu E F' g5=>?_;obtain⟨F2,g6⟩:=w5 E F' g5;have g6':Chg G r (.ref a) (kc R i L i) t' E F2:=by rw[i6];exact g6
     obtain⟨y1,y2⟩:=z1.mut RD g1 g6';rw[List.set_set]at y1 y2;exact k _ J E y1 (z2.trans y2)
    have HK:aO n (upd n q (.lst [])):=dw B;have M:aO H (upd n q (.lst [])):=Ip.trans HK;have Km:upd n q (.lst []) a=some (.dK (ns.zip f)):=M a _ ha;have ln:(ns.zip f).length<sizeLine:=by
     have:((ns.map aJ).zip m).length<16777216:=c2;rw[Yn,Zx]at this;rw[Yn];have:=t.len.1;have:(sizeLine:Nat)=16777216:=rfl;lia
    have dg:=jP (G:=G) (k:=d) S t;refine⟨a,ns.zip f,d,.ref q,rfl,rfl,Km,ln,λw hw=>?_,λY=>?_⟩
    ·refine fin _ (a :: Fs.flatten) (ns.zip f) w ?_ Km hw;have es:dj ((ns.map aJ).zip m) (aJ d)=(ns.map aJ).zip m:=by
      unfold dj;rcases dg with⟨C,P⟩ | ⟨_,_,t2,_,C,_⟩
      ·rw[P]at hw;cases hw
      ·rw[C];rfl
     rw[es,Q];exact Chg.none M (by rw[Q]at g2;exact g2) Ng
    ·have es:dj ((ns.map aJ).zip m) (aJ d)=((ns++[d]).map aJ).zip (m++[.lst []]):=by
      unfold dj;rcases dg with⟨C,P⟩ | ⟨_,_,t2,_,C,P,_⟩
      ·rw[C,Zp (by simp),Z8,X3 (by rw[Zx];exact S.trans t.len.1)];rfl
      ·rw[P]at Y;cases Y
     have ep:putK (ns.zip f) d (.ref q)=(ns++[d]).zip (f++[.ref q]):=by
      unfold putK;rw[jx,Y,Zp (by simp),X3 S];rfl
     have qa:q≠a:=λz=>by
      have:n a=some (.dK (ns.zip f)):=Ip a _ ha;rw[← z,B]at this;cases this
     have qH:H q=none:=Ip.free B;have m2:G4 (upd n q (.lst []) a):=by rw[Km];exact True.intro
     have nd:=ZY.mp Ng;have qF:q∉Fs.flatten:=λz=>G4.p0 (t.Hk q z) qH;have h3q:upd (upd n q (.lst [])) a (.dK (putK (ns.zip f) d (.ref q))) q=some (.lst []):=by rw[aE qa,aC]
     have rq:Rp G (upd (upd n q (.lst [])) a (.dK (putK (ns.zip f) d (.ref q)))) (.ref q) (.lst []) (q :: ([]:Yp).flatten):=.lst h3q .nil;refine fin _ (a :: (Fs++[[q]]).flatten) (putK (ns.zip f) d (.ref q)) (.ref q) ?_ aC (by rw[zv,Zs rfl]);rw[es,Q];refine Chg.upd M Zw m2 (.dct (by rw[aC,ep]) (by simp[S]) (((t.same M).off m2 nd.1).append (.cons rq .nil))) ?_ ?_
     ·rw[Z4];refine ZY.mpr ⟨λz=>?_,ZK.mpr ⟨nd.2,by simp,λx hx y j z=>?_⟩⟩
      ·rcases Ze.mp z with z | z
       ·exact nd.1 z
       ·have h:a=q:=by simpa using z
        exact qa h.symm
      ·subst z;exact qF (by simpa[show x=q by simpa using j] using hx)
     ·intro y j;rcases Zj.mp j with rfl | j
      ·exact .inl Zw
      ·rw[Z4]at j;rcases Ze.mp j with j | j
       ·exact .inl (Zv _ j)
       ·rw[show y=q by simpa using j];exact .inr qH
   ·cases e
  ·cases e
end
end VS
end
section
namespace VS
open PySem PySem.Spec PyProof.Rows L2
section
variable{G:Gx}{X:Cx}{a b c e o tg:Expr}{es:List Expr}{ca cb cc ce ck cv:Ex}{cs:Hr}{pos p p1 p2 apos pe pos' NW LZ lp:Pos}{k k' kr i:Nat}
theorem Rp.JP{H:Hp}{v:V}{ts:Vp}{F:Wy}(r:Rp G H v (.tup ts) F):∃b vs Fs,v=.ref b/\H b=some (.tup vs)/\RpL G H vs ts Fs:=by
 cases r with
 |tup h q=>exact⟨_,_,_,rfl,h,q⟩
end
end VS
end
section
namespace L2
open PySem PySem.Spec PyProof.Rows
section
variable{X:Cx}{tg:Expr}{pos:Pos}
theorem xy{o:Obj}{g:Array DictEntry}{i:Nat}(h:o.ExactDict)(e:o.data=.dict g i):o=ST.dO g i:=by
 obtain⟨c,d,l,j⟩:=o;obtain⟨f,b,a⟩:=h;simp only at f b a e;subst f b a e;rfl
end
end L2
namespace VS
open PySem PySem.Spec PyProof.Rows L2
section
variable{G:Gx}{X:Cx}{pos:Pos}
theorem AZ{x:Str}{t:Tx}{j:Nat}{q l:Pos}(h:x=sx t)(v:nI t):PV G X (.Dict [some (.Constant (.str x) j q)] [.List [] l] pos) (mZ 0 [(eC (.str t),il ai)]) :=
 PE.weak (vq (rM xX (ua iX) uY) rfl rfl (by simp) (by show 1<=15;decide)) λJ H Q n=>by
  obtain⟨R,U,m,r,s,e,k⟩:=n;subst h;cases (show some (Md.fr,T.dct 0 [(.str t,.lst [])])=some (m,r) from e);intro p f;refine⟨ZR _,λb hb=>?_⟩;have d:b≠p:=λz=>by rw[z,aC]at hb;cases hb
  have g:H b=none:=by rw[aE d]at hb;exact hb
  refine⟨by rw[aE (YF d),aC],[(Sum.inr (sx t),.ref b)],rfl,(by show 1<=15;decide),?_⟩;have u:aJ (Sum.inr (sx t))=.str t:=rfl;have i:aO H (upd (upd (upd H p (.dK [])) b (.lst [])) p (.dK (lV [] [(Sum.inr (sx t),.ref b)]))):=λc o a=>by
   rw[aE (bV a f),aE (bV a g),aE (bV a f)];exact a
  have:Rp G (upd (upd (upd H p (.dK [])) b (.lst [])) p (.dK [(Sum.inr (sx t),.ref b)])) (.ref p) (.dct 0 ((([Sum.inr (sx t)]:List Key).map aJ).zip [.lst []])) (p :: ([[b]]:Yp).flatten) :=
   .dct (ks:=[Sum.inr (sx t)]) (vs:=[V.ref b]) aC rfl (.cons (F:=b :: ([]:Yp).flatten) (.lst (by rw[aE d,aC]) .nil) .nil)
  simp only[Zm,WZ,u,ZV,List.zip_nil_right]at this;exact k _ _ _ i this ⟨by simp[YF d],λc a=>by
   rcases Zj.mp a with rfl | a
   ·exact f
   ·simp at a;rw[a];exact g⟩
end
end VS
end
section
namespace VS
open PySem PySem.Spec PyProof.Rows L2
section
variable{G:Gx}{X:Cx}{e b:Expr}{cs:Hr}{cb:Ex}{pos p p1 p2 kp apos pe:Pos}{k k' kr:Nat}{x:Str}{ps:List Str}{g:Fn}
theorem ju{a b c:Expr}{i f d:Ex}(s:PV G X a i)(o:PV G X b f)(n:PV G X c d)(l:lastMarks [.LtE,.Lt] [b,c]=false):Js G X (.Compare a [.LtE,.Lt] [b,c] pos) (ke oLe oLt i f d) :=
 PT.weak (zO DI ug s o n l) λJ H Q h=>tQ h (λU m r e=>by
  unfold ke at e;obtain⟨x,A,e⟩:=Zz.mp e;obtain⟨y,w,e⟩:=Zz.mp e;obtain⟨⟨t,z⟩,u,e⟩:=Zz.mp e;cases z with
  |bl q =>
   cases q with
   |false=>cases e;exact⟨_,rfl⟩
   |true =>
    obtain⟨j,v,e⟩:=Zz.mp (show (d U).bind (λz=>oLt y z)=some (m,r) from e);exact kP y j m r e
  |_=>cases e) λQ h=>yG Fb zP h
theorem zS{a:Ex}(h:PV G X e a)(j:swapsWith e none pos.line X.env=pure false):PSV G X (.Expr e pos) (sX (xP a)) :=
 PS.weak (jO h j) λD J H d=>by
  obtain⟨R,U,out,s,e,k⟩:=d;unfold sX xP at e;obtain⟨⟨v,n⟩,e1,e2⟩:=Zu.mp e;obtain⟨⟨m,t⟩,i,f⟩:=Zu.mp e1;cases f;cases e2;exact⟨R,U,m,t,s,i,λv l F e1 r1 f1=>k R J l (s.same e1) (HG.same e1)⟩
end
section
variable{G:Gx}{X:Cx}{a b e:Expr}{ca ck ce:Ex}{pos pos' p1:Pos}{kr:Nat}
theorem Dw{j pos'}(g:PV G X a ca):Js G X (.Compare a [.Is] [.Constant .none j pos'] pos) (Ao ca) :=
 PT.weak (xU (CF g)) λJ H Q h=>Cq h (λU m r e=>by
  unfold Ao at e;obtain⟨x,_,e⟩:=Zz.mp e;cases e;exact⟨_,rfl⟩) λQ f=>by
   obtain⟨R,U,m,r,s,e,q⟩:=f;unfold Ao at e;obtain⟨⟨n,x⟩,i,e⟩:=Zz.mp e;cases e;refine⟨R,U,n,x,s,i,λv d F e1 r1 f1=>?_⟩;show Q (.bl (decide (v=.non))) d;rw[vg r1];exact q _ d _ e1 (.bl _) Fp.nil
theorem nA{j pos'}(g:PV G X a ca):Js G X (.Compare a [.IsNot] [.Constant .none j pos'] pos) (gK ca) :=
 PT.weak (xU (AB g)) λJ H Q h=>Cq h (λU m r e=>by
  unfold gK at e;obtain⟨x,_,e⟩:=Zz.mp e;cases e;exact⟨_,rfl⟩) λQ f=>by
   obtain⟨R,U,m,r,s,e,q⟩:=f;unfold gK at e;obtain⟨⟨n,x⟩,i,e⟩:=Zz.mp e;cases e;refine⟨R,U,n,x,s,i,λv d F e1 r1 f1=>?_⟩;show Q (.bl (!decide (v=.non))) d;rw[vg r1];exact q _ d _ e1 (.bl _) Fp.nil
noncomputable def mL(i:Nat)(k e:Ex)(U:VS.Env):Option Out:=(e U).bind λv=>match U[i]? with
 |some (some (.ow (.dct 0 l)))=>(k U).bind λd=>if g7 d.2/\G5 v.2/\l.length<fL then some (.nx (U.set i (some (.ow (.dct 0 (dput l d.2 v.2)))))) else none
 |_=>none
theorem xo(i:Nat){x:Str}(hr:xa kr X.A)(hk:PV G X b ck)(he:PV G X e ce)(hN:X.N[i]?=some x)(hv:JG X.env.scope x)(hd:K3 x)(p:K4 x)(ha:∀v,assign (.Subscript (.Name x p1) b pos') X.env v=(do
   let h ← holding [v] (eval (.Name x p1) X.env)
   let iv ← holding [v,h] (eval b X.env)
   standAt pos'
   holding [v,h,iv] (setItem h iv v)
   release [v,h,iv] []))(hs:swapsWithSole [.Subscript (.Name x p1) b pos'] e pos.line X.env=pure false)(hw:swappedStores [.Subscript (.Name x p1) b pos'] e X.env=pure none)(h1:(assignEach [.Subscript (.Name x p1) b pos'] X.env).map (·.2)=[assign (.Subscript (.Name x p1) b pos') X.env]):PSV G X (.Assign [.Subscript (.Name x p1) b pos'] e pos) (mL i ck ce) :=
 PS.weak (uw he (uq (iu hN hv hd p) hk (zj (kZ hr)) ha) hs hw h1) λD J H hq=>by
  obtain⟨R,U,out,s,e,k⟩:=hq;unfold mL at e;obtain⟨⟨mv,m⟩,ev,e⟩:=Zz.mp e;split at e
  ·rename_i l o;obtain⟨⟨mk,Q⟩,Li,e⟩:=Zz.mp e;split at e
   ·rename_i hc;obtain⟨c1,c2,c3⟩:=hc;cases e;obtain⟨w,y,P⟩:=s.rp _ _ o;have q:=s.nd i _ o;refine⟨R,U,mv,m,s,ev,λxv H1 Fv L S fv=>⟨w,y,R,U,mk,Q,s.same L,Li,λkv d Fk E Y fk=>?_⟩⟩;have n:aO H d:=L.trans E;have C:Rp G d xv m Fv:=S.same E;have eF:=C.G5 c2;subst eF;obtain⟨a,ns,j,r,Fs,rfl,B,Hn,hl,rfl,t⟩:=dM P;rw[B]at q;obtain⟨kk,rfl,LI⟩:=dP Y c1;subst LI;have F:d a=some (.dK (ns.zip j)):=n a _ Hn;have u:G4 (d a):=by rw[F];exact True.intro
    have nd:=ZY.mp q;obtain⟨Nl,Jf,Jg,IQ,q1,q2,q3,Z,f⟩:=mq (kk:=kk) C hl (t.same n);have ln:(ns.zip j).length<sizeLine:=by
     have:((ns.map aJ).zip r).length<16777216:=c3;rw[Yn,Zx]at this;rw[Yn];have:=t.len.1;have:(sizeLine:Nat)=16777216:=rfl;lia
    refine .inr ⟨a,_,rfl,uu.k F ln,?_⟩;have g:Chg G H (.ref a) (R i) (.dct 0 (dput ((ns.map aJ).zip r) (aJ kk) m)) (upd d a (.dK (putK (ns.zip j) kk xv))) (a :: IQ.flatten):=by
     rw[B,q1,q3];refine Chg.upd n Zw u (.dct aC q2 (Z.off u λz=>nd.1 (f.subset z))) ?_ ?_
     ·exact ZY.mpr ⟨λz=>nd.1 (f.subset z),nd.2.sublist f⟩
     ·intro bb hb;rcases Zj.mp hb with rfl | hb
      ·exact .inl Zw
      ·exact .inl (Zv _ (f.subset hb))
    obtain⟨O,M⟩:=s.mut o y g;exact k _ J _ O M
   ·cases e
  ·cases e
end
end VS
end
section
namespace DP
open PySem PySem.Spec PyProof.Rows
variable{prog:Program}{w:World}{A:Around}{E:Z3}
theorem BI:typeLookup (.type "tuple") "keys" = pure none:=by rw[typeLookup_type,builtinLookup_eq_fast];kernel_rfl
theorem Aa{h:Heap}{g:Array GenState}{d:Drawn}{o:Nat}{os}{a:Addr}{i:Array Value}{k:Nat}{j:Array (Wt)}{u:Tok}{Q:Z3}(l:h.get? a=some { cls:=.type "tuple",dict:=none,data:=.seq i k,slots:=j })(q:A.handled=none)(p:∀f b e,Heap.NewExcOf h f e "AttributeError" → E (.ref e) ⟨f,g,d,b,os⟩):wpAny (model prog w) A (getAttrBy (.ref a) (.str "keys" u) false) Q E ⟨h,g,d,o,os⟩:=by
 have m:∀b,(⟨h,g,d,b,os⟩:Shared).TypeIs (.ref a) "tuple" := λ_=>⟨_,l,rfl⟩
 have f1:=sub_AttributeError;have x:=WX.lookup;have v:=WX.bind (.ref a);have t:=am_tuple_getattr_none;unfold getAttrBy
 repeat (any_goals (first | assumption | exact m _ | ((with_reducible show wpAny _ _ (call (Value.builtin "tuple.__getattribute__") _ _) _ _ _);refine call_meets WX (m _) am_entry_tuple_getattribute (F.args_tuple_getattribute_2 _ _) (meets_getattribute_miss_tuple a i k j "keys" _ BI (by decide +kernel)) ⟨l,q,λf b e n=>?_⟩) | wp_step))
 obtain⟨s,r,he⟩:=n.there;show wpAny _ _ (getattributeRaised _ _ _ _ _ _ _) _ _ _;unfold getattributeRaised
 repeat (any_goals (first | assumption | wp_step))
 exact p _ _ _ n.of
end DP
end
section
namespace DP
open PySem PySem.Spec PyProof.Rows L2
variable{prog:Program}{w:World}{A:Around}{E:Z3}
theorem vS{h:Heap}{g:Array GenState}{d:Drawn}{l:Nat}{os}{a:Addr}{j:Array Value}{k:Nat}{m:Array (Wt)}{Q:Wt->Shared->Prop}(n:h.get? a=some { cls:=.type "tuple",dict:=none,data:=.seq j k,slots:=m })(r:A.handled=none)(o:∀b i e,Heap.NewExcOf h b e "AttributeError" → Q none ⟨b,g,d,i,os⟩):wpAny (model prog w) A (getAttr? (.ref a) "keys") Q E ⟨h,g,d,l,os⟩:=by
 have f1:=sub_AttributeError;unfold getAttr? getAttrBy?
 repeat (any_goals (first | assumption | (with_reducible refine Aa n (by assumption) λb i e f=>?_) | wp_step))
 obtain⟨⟨oc,q,s,t⟩,p,ge,ce,_,_⟩:=f.there;dsimp only at ce;subst ce
 repeat (any_goals (first | assumption | wp_step))
 exact o _ _ _ f
theorem om:entryFor table "dict.update.loop" = some Builtin.«dict.update.loop» := entryFor_of_tree (by kernel_rfl)
theorem iZ:plainId "dict.update.loop" = true:=by decide +kernel
section
variable{Rq:Result->Shared->Prop}{I:Addr}{fp wr:Wy}{G:Array GenState->Array GenState->Prop}{n:Nat}{P:Nat->Value->Prop}{St:Nat->Shared->Prop}
theorem loop(W:WalksS prog w A.in1 I fp wr G n P St)(d:Addr)(S:d∉fp)(N:Heap)(a:Nat->Key×Value)(hP:∀i v,P i v->∃p m t l,v=.ref p/\N.get? p=some { cls:=.type "tuple",dict:=none,data:=.seq #[l,(a i).2] m,slots:=t }/\(aU prog w).is (a i).1 l=true/\p∉d :: wr)(g:n<=sizeLine) :
  ∀(k i:Nat)(s:Shared),n-i=k->i<=n->St i s->(∀b o,b∉d :: wr->N.get? b=some o->s.heap.get? b=some o)->s.heap.DictOf (aU prog w) d (merged [] ((List.range i).map a)) →
   (∀f,Moved (d :: wr) G s f->f.heap.DictOf (aU prog w) d (merged [] ((List.range n).map a))->Rq (.ok (.ret .none)) f) →
   codeAny (model prog w) A (.builtin "dict.update.loop" ⟨[.ref d,.ref I,rawInt i,.none],[]⟩) Rq s:=by
 have O:d∉wr:=λh=>S (W.sub _ h);have q:∀b∈wr,b∈d :: wr:=λb g=>Zv _ g;intro k
 induction k with
 |zero =>
  intro i s hk hi M B D F;have Jp:i=n:=by lia
  subst Jp;refine codeAny_builtin om ?_;rw[W7 iZ _];show wpAny _ A.in1 (pyNext (.ref I)>>=_) _ _ s;refine Zn (W.done s _ _ M λf j=>?_);show wpAny _ A.in1 (Builtin.Dict.addKeywords d [] >>= λ_=>ret Value.none) _ _ f;refine Zn (ZW ?_);exact ZW (F f (j.mono q) (by
   obtain⟨o,J,L,x,rest⟩:=D;exact⟨o,J,L,j.heap d _ O x,rest⟩))
 |succ k X =>
  intro i s hk hi M B D F;have U:i<n:=by omega
  refine codeAny_builtin om ?_;rw[W7 iZ _];show wpAny _ A.in1 (pyNext (.ref I)>>=_) _ _ s;refine Zn (W.item i s _ _ U M λv f H RA j=>?_);obtain⟨p,m,t,l,rfl,Z,y,R⟩:=hP i v H;have Nz:f.heap.get? p=some { cls:=.type "tuple",dict:=none,data:=.seq #[l,(a i).2] m,slots:=t }:=j.heap p _ (λz=>R (q p z)) (B p _ R Z);have C:f.heap.DictOf (aU prog w) d (merged [] ((List.range i).map a)):=by
   obtain⟨o,J,L,x,rest⟩:=D;exact⟨o,J,L,j.heap d _ O x,rest⟩
  show wpAny _ A.in1 (holding [Value.ref p] _>>=_) _ _ f;refine Zn (Xw ?_);have ty:f.TypeIs (.ref p) "tuple" := ⟨_,Nz,rfl⟩
  refine Zn (thn (Q:=λr u=>r=[l,(a i).2]/\u=f) ?pair λr u Y=>?rest)
  case pair =>
   refine wpAny_tryCatch ?_;unfold Builtin.Dict.pairItems
   repeat (any_goals (first | assumption | wp_step))
   exact⟨rfl,rfl⟩
  case rest =>
   obtain⟨rfl,rfl⟩:=Y;dsimp only;refine Xw ?_;refine wpAny_dictSet_pairs y C (λh' dd sb=>?_) (by have:=merged_length_le (K:=Key) [] ((List.range i).map a);simp at this;lia);have e1:((i:Int)+1)=((i+1:Nat):Int):=by lia
   rw[e1];have KC:h'.DictOf (aU prog w) d (merged [] ((List.range (i+1)).map a)):=by
    rw[List.range_succ,Z8,show merged ([]:List (Key×Value)) ((List.range i).map a++[i].map a)=stored (merged [] ((List.range i).map a)) (a i).1 (a i).2 by unfold merged;rw[List.foldl_append];rfl];exact dd
   refine ZW ⟨plainId_quiet iZ _,X (i+1) _ (by omega) U (W.frame _ u _ _ RA (XS _) λb g o e=>?_) (λb o g e=>?_) KC λOD RL Sa=>?_⟩
   ·rw[sb.2 b (λh:b=d=>S (by rw[← h];exact g))];exact e
   ·rw[sb.2 b (λh:b=d=>g (by rw[h];exact Zw))];exact j.heap b _ (λz=>g (q b z)) (B b o g e)
   ·refine F OD (Moved.trans W.gtrans ((j.mono q).then_heap (XS _) λb o g e=>?_) RL) Sa;rw[sb.2 b (λh:b=d=>g (by rw[h];exact Zw))];exact e
end
end DP
end
section
namespace DP
open PySem PySem.Spec PyProof.Rows L2
variable{prog:Program}{w:World}{A:Around}{E:Z3}{s:Shared}
theorem nU:mroOf (.type "dict")=pure [.type "dict",.type "object"]:=by rw[mroOf_type];kernel_rfl
theorem mR:typeLookup (.type "dict") "__new__" = pure (some (.builtin "dict.__new__")):=by rw[typeLookup_type,builtinLookup_eq_fast];kernel_rfl
theorem sN:TypeCalled "dict" "dict.__new__" "dict.__init__" :=
 ⟨by decide +kernel,by decide +kernel,⟨_,_,nU⟩,madeBy_type nU mR (by decide +kernel),by decide +kernel,by rw[isSubtype_type];kernel_rfl,F.slot_dict_init⟩
theorem mV(a:Value):checkTypeCall "dict" ⟨[a],[]⟩=pure ():=by kernel_rfl
theorem nK(a:Value):checkBuiltinCall "dict.__new__" ⟨[.type "dict",a],[]⟩=pure ():=by kernel_rfl
theorem nH:entryFor table "dict.__new__" = some Builtin.«dict.__new__» := entryFor_of_tree (by kernel_rfl)
theorem jq:plainId "dict.__new__" = true:=by decide +kernel
theorem o8:isSubtype (.type "dict") (.type "dict")=pure true:=by rw[isSubtype_type];kernel_rfl
theorem o7(a:Value){b:Z3}(h:b (.ref s.heap.objs.size) { s with heap:=s.heap.push { cls:=.type "dict",data:=.dict #[] } }) :
  codeAny (model prog w) A (.call (.builtin "dict.__new__") ⟨[.type "dict",a],[]⟩) (wants b E) s:=by
 refine codeAny_of_tree (Zn (m:=checkBuiltinCall "dict.__new__" ⟨[.type "dict",a],[]⟩) (wpAny_of_eq (nK a) (ZW ⟨plainId_quiet jq _,codeAny_builtin nH ?_⟩)));rw[W7 jq];have own:=o8;have mro:=nU;cases s;unfold Builtin.«dict.__new__»
 wp_walk
 exact h
theorem wg{a:Addr}{j:Array Value}{C:Nat}{VJ:Array (Wt)}{kv:Nat->Key×Value}{Q:Z3}(G:A.handled=none)(D:s.heap.get? a=some { cls:=.type "tuple",dict:=none,data:=.seq j C,slots:=VJ })(P:j.size<=sizeLine)(U:∀(i:Nat)(v:Value),j[i]?=some v->∃p m x r,v=.ref p/\s.heap.get? p=some { cls:=.type "tuple",dict:=none,data:=.seq #[r,(kv i).2] m,slots:=x }/\(aU prog w).is (kv i).1 r=true)(h:∀(l:Heap)(z:Nat),l.DictOf (aU prog w) s.heap.objs.size (merged [] ((List.range j.size).map kv))->(∀b o,s.heap.get? b=some o->l.get? b=some o)->Q (.ref s.heap.objs.size) { s with heap:=l,toks:=z }) :
  wpAny (model prog w) A (call (.type "dict") [.ref a]) Q E s:=by
 refine callType_codes (Q₁:=λobj B=>obj=.ref s.heap.objs.size/\B={ s with heap:=s.heap.push { cls:=.type "dict",data:=.dict #[] } }) sN (mV _) F.entry_dict_init (o7 _ ⟨rfl,rfl⟩) λobj B S=>?_;obtain⟨rfl,rfl⟩:=S;have ty:Shared.TypeIs { s with heap:=s.heap.push { cls:=.type "dict",data:=.dict #[] } } (.ref s.heap.objs.size) "dict" := ⟨_,ZL _ rfl,rfl⟩
 refine⟨ty,F.args_dict_init_2 _ _,?_⟩;obtain⟨f,g,d,z,os⟩:=s;have L:=Zf { cls:=.type "dict",data:=.dict #[] } D;unfold Builtin.«dict.__init__» Builtin.Dict.updateCommon Builtin.Dict.updateFrom;generalize eP:pyIter=itr;generalize eG:getAttr?=ga
 repeat (any_goals (first | assumption | wp_step))
 subst eG;dsimp only at *;refine vS L (by simp[G]) λt N e ne=>?_;simp only[Option.isNone_none,if_true];refine Zn (wpAny_rule ?_);subst eP;have at2:=ne.keeps _ _ L;have dat:=ne.keeps f.objs.size { cls:=.type "dict",data:=.dict #[] } (ZL _ rfl);have u:=ZU dat;have y:∀{b:Addr}{o:Obj},f.get? b=some o->b<f.objs.size:=λe=>ZU e;have J:∀b o,f.get? b=some o->t.get? b=some o:=λb o e=>ne.keeps _ _ (Zf _ e);have tup:t.IsTuple a j:=⟨_,at2,rfl,C,rfl⟩
 refine Zn (wpAny_pyIter_tuple tup (ZW ⟨plainId_quiet iZ _,?_⟩));have alt:=y D;have D0:(t.push { cls:=.type "tuple_iterator",data:=.fields #[.ref a,.int 0 0] }).DictOf (aU prog w) f.objs.size (merged [] ((List.range 0).map kv)):=by
  obtain⟨o,es,ep,X,rest⟩:=(Heap.DictOf.new (knd:=aU prog w) f)
  exact⟨o,es,ep,Zf _ (ne.keeps _ _ X),rest⟩
 refine loop (A:=A.in1) ((Walks.tuple (by simp[G]) t.objs.size a (Zb (Wc alt u)) j).toS) f.objs.size (by simp only[Zj,Vz,or_false,not_or];exact⟨Zb u,WB alt⟩) f kv (λi v R=>?_) P j.size 0 _ (by lia) (ZR _) ?_ (λb o hb e=>Zf _ (J b o e)) D0 λO n dd=>?_
 ·obtain⟨p,m,x,r,rfl,H,Y⟩:=U i v R;have:=y H;exact⟨p,m,x,r,rfl,H,Y,by simp only[Zj,Vz,or_false,not_or];exact⟨Zb this,Zb (Wc this u)⟩⟩
 ·exact⟨⟨_,ZL _ rfl,rfl,rfl⟩,tup.push _⟩
 ·obtain⟨l,Z,d',Mf,QR⟩:=O;have e1:Z=g:=n.gens;have e2:d'=d:=n.drawn;have e3:QR=os:=n.os;subst e1 e2 e3;refine⟨rfl,h l Mf dd λb o e=>n.heap b o (λM=>?_) (Zf _ (J b o e))⟩;have:=y e;simp only[Zj,Vz,or_false]at M;rcases M with q | q
  ·exact Zb this q
  ·exact Zb (Wc this u) q
end DP
end
section
namespace L2
open PySem PySem.Spec PyProof.Rows
section
variable{X:Cx}
noncomputable abbrev Lk:=Addr×Key×V
theorem BX{a:Yz}{J:St}{H:Hp}{s:Shared}(I:Inv X a J H s){q:Lk}(h:H q.1=some (.tup [kV q.2.1,q.2.2])):∃b m i d,RelV q.2.2 b/\s.heap.get? q.1=some { cls:=.type "tuple",dict:=none,data:=.seq #[d,b] m,slots:=i }/\(aU X.prog X.w).is q.2.1 d=true:=by
 obtain⟨_,o,j,nd,⟨oc,p,r,l⟩,g,f,n,e⟩:=(show bS X.prog X.w H s.heap q.1 (.tup [kV q.2.1,q.2.2]) from I.xh _ _ h)
 have hd:=nd _ g;dsimp only at f e hd;subst f e hd;obtain⟨d,b,rfl,r1,r2⟩:=vals2 j;exact⟨b,n,l,d,r2,g,kD r1⟩
theorem rA{a:Yz}{J:St}{H:Hp}{s:Shared}(I:Inv X a J H s):∀(b:List Lk),(∀q∈b,H q.1=some (.tup [kV q.2.1,q.2.2])) →
  ∃i:List (Key×Value),Paired (λ(q:Lk) (e:Key×Value)=>q.2.1=e.1/\RelV q.2.2 e.2/\∃m f d,s.heap.get? q.1=some { cls:=.type "tuple",dict:=none,data:=.seq #[d,e.2] m,slots:=f }/\(aU X.prog X.w).is e.1 d=true) b i
 |[],_=>⟨[],.nil⟩
 |q :: b,h=>by
  obtain⟨j,m,f,d,r,g,k⟩:=BX I (h q Zw);obtain⟨i,p⟩:=rA I b λx l=>h x (Zv _ l);exact⟨(q.2.1,j) :: i,.cons ⟨rfl,r,m,f,d,g,k⟩ p⟩
theorem pC{Rq:Lk->Key×Value->Prop}(f:∀q d,Rq q d->q.2.1=d.1/\RelV q.2.2 d.2):∀{e:List Lk}{g:List (Key×Value)},Paired Rq e g->∀{a:List (Key×V)}{b:List (Key×Value)},KV a b->KV (e.foldl (λacc q=>putK acc q.2.1 q.2.2) a) (merged b g)
 |_,_,.nil,_,_,r=>r
 |_,_,.cons (a:=q) (b:=d) h t,a,b,r=>by
  obtain⟨e1,e2⟩:=f _ _ h;have:=pC f t (r.put d.1 e2);simp only[X5,merged];rw[e1];exact this
theorem se:∀(b:List Lk)(a:List (Key×V)),(b.foldl (λacc q=>putK acc q.2.1 q.2.2) a).length<=a.length+b.length
 |[],a=>Zo _
 |q :: b,a=>by
  have e:=se b (putK a q.2.1 q.2.2);have d:=fP a q.2.1 q.2.2;simp only[X5,Zk];lia
theorem Paired.at_{α β:Type}{Rq:α->β->Prop}:∀{l:List α}{m:List β},Paired Rq l m->∀(i:Nat){a:α},l[i]?=some a->∃b,m[i]?=some b/\Rq a b
 |_,_,.nil,i,a,h=>by simp at h
 |_,_,.cons r t,0,a,h=>by simp at h;subst h;exact⟨_,rfl,r⟩
 |_,_,.cons r t,i+1,a,h=>by simpa using Paired.at_ t i (by simpa using h)
theorem ux(N:X.calm=true):dN X (.type "dict") (λo H Q=>∃(p:Addr)(b:List Lk),o=[.ref p]/\H p=some (.tup (b.map λq=>V.ref q.1))/\(∀q∈b,H q.1=some (.tup [kV q.2.1,q.2.2])) ∧
  ∀l,H l=none->Q (.ref l) (upd H l (.dK (b.foldl (λacc q=>putK acc q.2.1 q.2.2) [])))):=by
 intro t s J H o S Q I E h;obtain⟨p,b,rfl,M,L,q⟩:=h;obtain⟨u,rfl,F⟩:=E.one;cases F;obtain⟨y,x,r,nd,⟨oc,U,TC,Kc⟩,g,A,n,z⟩:=(show bS X.prog X.w H s.heap p (.tup (b.map λq=>V.ref q.1)) from I.xh _ _ M)
 have hd:=nd _ g;dsimp only at A z hd;subst A z hd;obtain⟨e,pr⟩:=rA I b L;have Z:x.length=b.length:=by have:=r.length;simpa using this.symm
 have Y:e.length=b.length:=pr.length.symm;rw[Zx]at y;have j:(List.range x.toArray.size).map (λi=>(e[i]?).getD (.inl 0,.none))=e:=by
  apply Wp;intro i;rw[ZM];by_cases d:i<e.length
  ·rw[List.getElem?_range (by simp;lia),Zq d];simp[d]
  ·rw[Yj (by simp;lia),Yj (by exact Yu d)];rfl
 refine DP.wg (kv:=λi=>(e[i]?).getD (.inl 0,.none)) (I.ok.hd N) g (by simp;lia) (λi v f=>?_) λh' C B kp=>?_
 ·rw[List.getElem?_toArray]at f;have d:i<b.length:=by have:=(ZX.mp f).1;lia
  obtain⟨w,e1,e2⟩:=Paired.at_ r i (a:=V.ref b[i].1) (by rw[ZM,Zq d];rfl);rw[f]at e1;cases e1;obtain⟨kv,R,e4,_,m,D,G,P,O⟩:=Paired.at_ pr i (Zq d);rw[R];exact⟨b[i].1,m,D,G,e2,P,O⟩
 ·rw[j]at B;have rel:=pC (λ_ _ h=>⟨h.1,h.2.1⟩) pr (.nil:KV [] []);have ln:=se b [];exact⟨.ref s.heap.objs.size,_,I.laid (t':=C) kp (Zo _) (nF (by simp at ln;exact ZE ln y) (beq_eq_false_iff_ne.mpr (YF (Zb I.big))) rel B),rfl,q _ (I.xh.fresh (Zo _))⟩
end
end L2
end
section
namespace VS
open PySem PySem.Spec PyProof.Rows L2
noncomputable def qS:Vp->Option (List (T×T))
 |[]=>some []
 |.tup [k,v] :: r=>if g7 k/\G5 v then (qS r).map ((k,v) :: ·) else none
 |_=>none
noncomputable def l5:Vr->Vq
 |[(_,.tup l)]=>(qS l).map λa=>(.fr,.dct 0 (a.foldl (λd q=>dput d q.1 q.2) []))
 |_=>none
section
variable{G:Gx}{X:Cx}{e:Expr}{cs:Hr}{p pos:Pos}
theorem Am{t:T}{l:Vp}{d:List (T×T)}(h:qS (t :: l)=some d):∃k v a,t=.tup [k,v]/\g7 k=true/\G5 v=true/\qS l=some a/\d=(k,v) :: a:=by
 unfold qS at h;split at h
 ·rename_i b;cases b
 ·rename_i k v r b;cases b;split at h
  ·rename_i c;obtain⟨a,e1,e2⟩:=Zu.mp h;exact⟨k,v,a,rfl,c.1,c.2,e1,e2.symm⟩
  ·cases h
 ·cases h
theorem tf{H:Hp}:∀{ts:Vp}{ws:List V}{z:Yp}{a:List (T×T)},RpL G H ws ts z->qS ts=some a →
  ∃d:List Lk,ws=d.map (λq=>V.ref q.1)/\(∀q∈d,H q.1=some (.tup [kV q.2.1,q.2.2]))/\Paired (λ(q:Lk) (x:T×T)=>x.1=aJ q.2.1/\Rp G H q.2.2 x.2 []) d a
 |[],_,_,a,r,h=>by
  cases r;cases (show some ([]:List (T×T))=some a from h);exact⟨[],rfl,λq n=>by simp at n,.nil⟩
 |t :: ts,_,_,a,r,h=>by
  obtain⟨k,v,j,rfl,o,m,s,rfl⟩:=Am h;cases r with
  |cons r1 r2 =>
   obtain⟨d,e1,e2,y⟩:=tf r2 s;obtain⟨b,vs,Fs,rfl,hb,q⟩:=Rp.JP r1;cases q with
   |cons i q =>
    cases q with
    |cons g q =>
     cases q;obtain⟨l,rfl,u⟩:=dP i o;have w:=g.G5 m;subst w;refine⟨(b,l,_) :: d,by rw[e1];rfl,λx f=>?_,.cons ⟨u,g⟩ y⟩;rcases Zj.mp f with rfl | f
     ·exact hb
     ·exact e2 x f
theorem rO{H:Hp}:∀{u:List Lk}{o:List (T×T)},Paired (λ(q:Lk) (x:T×T)=>x.1=aJ q.2.1/\Rp G H q.2.2 x.2 []) u o->∀{ns:List Key}{vs:List V}{ts:Vp}{Fs:Yp},ns.length=vs.length->RpL G H vs ts Fs->Fs.flatten=[] →
  ∃(m:List Key)(f:List V)(n:Vp)(g:Yp),u.foldl (λacc q=>putK acc q.2.1 q.2.2) (ns.zip vs)=m.zip f/\o.foldl (λd q=>dput d q.1 q.2) ((ns.map aJ).zip ts)=(m.map aJ).zip n/\m.length=f.length/\RpL G H f n g/\g.flatten=[]
 |_,_,.nil,ns,vs,ts,Fs,i,r,l=>⟨ns,vs,ts,Fs,rfl,rfl,i,r,l⟩
 |_,_,.cons (a:=q) (b:=x) h t,ns,vs,ts,Fs,i,r,l=>by
  obtain⟨N,f,n,g,B,A,z,y,s⟩:=mq (kk:=q.2.1) h.2 i r;rw[l]at s;have j:g.flatten=[]:=List.sublist_nil.mp s;obtain⟨C,v,w,M,L,J,F,E,D⟩:=rO t A y j;refine⟨C,v,w,M,?_,?_,F,E,D⟩
  ·rw[X5,B];exact L
  ·rw[X5,h.1,z];exact J
theorem yu:fq G (λo H Q=>∃(p:Addr)(a:List Lk),o=[.ref p]/\H p=some (.tup (a.map λq=>V.ref q.1))/\(∀q∈a,H q.1=some (.tup [kV q.2.1,q.2.2])) ∧
  ∀l,H l=none->Q (.ref l) (upd H l (.dK (a.foldl (λacc q=>putK acc q.2.1 q.2.2) [])))) l5:=by
 intro R U E H l vs Fs m t Q A e k;unfold l5 at e;split at e
 ·rename_i D ts;obtain⟨s,e1,e2⟩:=Zu.mp e;cases e2;obtain⟨v,F,rfl,rfl,r⟩:=(show RpL G H vs [.tup ts] Fs from A.rp).one;obtain⟨b,ws,J,rfl,hb,q⟩:=Rp.JP r;obtain⟨a,rfl,f,pr⟩:=tf q e1;refine⟨b,a,rfl,hb,f,λl n=>?_⟩;obtain⟨ns,i,B,C,z,y,x,w,u⟩:=rO pr (ns:=[]) (vs:=[]) (ts:=[]) (Fs:=[]) rfl .nil rfl;have h:a.foldl (λacc q=>putK acc q.2.1 q.2.2) []=ns.zip i:=z;have g:s.foldl (λd q=>dput d q.1 q.2) []=(ns.map aJ).zip B:=y;rw[h];have j:aO H (upd H l (.dK (ns.zip i))):=dw n;refine k _ _ (l :: C.flatten) j (by rw[g];exact .dct aC x (w.same j)) ?_;rw[u];exact Fp.new (A.same.free n) (by simp) Fp.nil
 ·cases e
theorem vc:bootBuiltins ("dict" : Str)=some (.type "dict"):=by decide +kernel
theorem Ad(a:X.mg "dict" = none)(f:Ib G X [e] cs)(b:Gl X "dict" := by rfl)(d:X.calm=true:=by rfl)(he:K1 e [] X:=by rfl):PV G X (.Call (.Name "dict" p) [e] [] pos) (eN l5 cs) :=
 jL (ux d) yu b a vc f (he:=he) (hpl:=rfl)
end
end VS
end
section
namespace L2
open PySem PySem.Spec PyProof.Rows
section
variable{X:Cx}{pins:Yz}{J:St}{H:Hp}{s:Shared}
theorem qG{d:Addr}{a:List (Key×V)}{o:Obj}(I:Inv X pins J H s)(e:H d=some (.dK a))(g:s.heap.get? d=some o):Inv X pins J (upd H d (.frz o (.dK a))) s :=
 kI (t':=s.toks) I (by rw[e];exact True.intro) ⟨rfl,λ_ _=>rfl⟩ ⟨o,g⟩ ⟨g,I.xh d _ e⟩
end
noncomputable def Te(d:Addr)(o:Obj)(a:List (Key×V)):It :=
 ⟨λi H=>H d=some (.frz o (.dK a))/\i<a.length,λi H x b=>b=H/\∃p,a[i]?=some p/\x=kV p.1,λi H=>H d=some (.frz o (.dK a))/\a.length<=i⟩
theorem Bi{k:Key}{v:Value}(h:mH k v=true):RelV (kV k) v:=by
 rcases bU h with⟨i,t,rfl,rfl⟩ | ⟨x,t,rfl,rfl⟩
 ·exact⟨t,rfl⟩
 ·exact⟨t,rfl⟩
theorem pN{P:Program}{w:World}{a:List DictEntry}{m:List (Key×Value)}(r:Pairs (aU P w) a m){i:Nat}{e:DictEntry}(h:a[i]?=some e):∃q,m[i]?=some q/\mH q.1 e.key=true:=by
 induction r generalizing i with
 |nil=>simp at h
 |@cons j b a l f g _ d =>
  cases i with
  |zero =>
   simp at h;subst h;exact⟨b,rfl,f⟩
  |succ i=>simpa using d (by simpa using h)
theorem Ek{l:List (Key×V)}{m:List (Key×Value)}(r:KV l m){i:Nat}{q:Key×Value}(h:m[i]?=some q):∃p,l[i]?=some p/\p.1=q.1:=by
 induction r generalizing i with
 |nil=>simp at h
 |@cons a f g e d t b =>
  cases i with
  |zero=>simp at h;subst h;exact⟨a,rfl,d.1⟩
  |succ i=>simpa using b (by simpa using h)
section
variable{X:Cx}{tg:Expr}{pos:Pos}
theorem DU{P:Program}{w:World}{K:Xf}(d j:Addr){O:List (Key×V)}{n:Array DictEntry}{t:Nat}{L:List (Key×Value)}(f:KV O L)(he:Pairs (aU P w) n.toList L) :
  Turn P w K tg (Te d (ST.dO n t) O) [j] j (λi h=>h.get? j=some (ST.kO d i n.size t)) where
 mem:=by simp
 obj:=λi h st b hb=>by
  rw[Za.mp hb];exact⟨_,st,λv z=>by cases z⟩
 keep:=λi h m st k=>k j (by simp) _ st
 item:=by
  intro X y hw A x i a s J H E I r st hg;subst y hw A;obtain⟨G,f1,f2,D,C,B⟩:=r j (by simp);refine ST.rS (I.ok.hd x) st (show s.heap.get? d=some (ST.dO n t) from(I.xh d _ hg.1).1) (λe l m sb g=>?_) λM=>?_
  ·have U:Inv X a J H { s with heap:=m }:=I.turned (t':=s.toks) (λb o hb e=>(sb.2 b hb).trans e) G f1 D C B;rw[← Yw]at l;obtain⟨q,u,N⟩:=pN he l;obtain⟨p,Q,hb⟩:=Ek f u;exact⟨_,rfl,rg (s:={ s with heap:=m }) g rfl rfl rfl ⟨kV p.1,H,U,by rw[hb];exact Bi N,⟨rfl,p,Q,rfl⟩,g,λb hb=>(r b hb).1⟩⟩
  ·exfalso;rw[← Yw,Yi,he.length,← XR f]at M;exact absurd hg.2 (by lia)
 done:=by
  intro X y hw A x i a s J H E I r st hg;subst y hw A;obtain⟨G,f1,f2,D,C,B⟩:=r j (by simp);refine ST.rS (I.ok.hd x) st (show s.heap.get? d=some (ST.dO n t) from(I.xh d _ hg.1).1) (λe l m sb g=>?_) λM m kp=>⟨rfl,I.turned (t':=s.toks) (λb o hb e=>kp b o hb e) G f1 D C B⟩
  exfalso;rw[← Yw]at l;obtain⟨q,u,N⟩:=pN he l;have:=(ZX.mp u).1;have S:=hg.2;rw[XR f]at S;lia
 self:=λ_ _ _ _ _ st R=>wpAny_pyIter_slot ⟨_,st,rfl⟩ F.slot_dict_keyiterator_iter (X8 F.slot_dict_keyiterator_iter ⟨_,st,rfl⟩ F.entry_dict_keyiterator_iter (show wpAny _ _ (ret (.ref j)) _ _ _ from ZW ⟨_,rfl, "dict_keyiterator",_,⟨_,st,rfl⟩,Xi.lookup,R⟩) (F.args_dict_keyiterator_iter_1 _))
noncomputable def iDk(e:TE):TI:=λJ H Rq=>e J H λx b=>∃d a,x=.ref d/\b d=some (.dK a)/\∀o,Rq (Te d o a) (upd b d (.frz o (.dK a)))
theorem EK{l:Expr}{i:TE}(m:PE X l i):PI X tg l (iDk i):=by
 intro a s J H Rq I h;refine thn (m a s J H _ I h) λv s1 ⟨x,A,f,r1,j⟩=>?_;obtain⟨d,w,ex,e,q⟩:=j;subst ex;cases r1;obtain⟨z,y,p,rel,o,t,u,g,ex,hd,_,he,r⟩:=oo f.xh e;have eo:=xy ex hd;subst eo;refine ST.wZ y g ?_;refine⟨s1.heap.objs.size,[s1.heap.objs.size],_,_,_,rfl,(qG f e g).kept (t':=s1.toks) λb o e=>Zf _ e,DU d _ rel he,ZL _ rfl,λb hb=>?_,q _⟩;have n:b=s1.heap.objs.size:=by simpa using hb
 subst n;exact(qG f e g).LH (Zo _) ((qG f e g).xh.fresh (Zo _))
end
end L2
end
section
namespace L2
theorem CO{α:Type}{n:Nat}{b:List α}(d:b.length=n+1):∃a t,b=a :: t/\t.length=n:=by
 obtain⟨a,t,e⟩:=List.exists_cons_of_length_eq_add_one d;subst e;exact⟨a,t,rfl,Nat.succ.inj d⟩
theorem mY{α:Type}{b:List α}(d:b.length=1):∃a,b=[a]:=List.length_eq_one_iff.mp d
theorem d7{α:Type}{d:List α}(f:d.length=2):∃a b,d=[a,b]:=by
 obtain⟨a,t,rfl,e⟩:=CO f;obtain⟨b,rfl⟩:=mY e;exact⟨a,b,rfl⟩
theorem wt{α:Type}{d:List α}(f:d.length=3):∃a b c,d=[a,b,c]:=by
 obtain⟨a,t,rfl,e⟩:=CO f;obtain⟨b,c,rfl⟩:=d7 e;exact⟨a,b,c,rfl⟩
theorem DM{α:Type}{e:List α}(g:e.length=4):∃a b c d,e=[a,b,c,d]:=by
 obtain⟨a,t,rfl,f⟩:=CO g;obtain⟨b,c,d,rfl⟩:=wt f;exact⟨a,b,c,d,rfl⟩
end L2
end
section
namespace VS
open PySem PySem.Spec PyProof.Rows L2
inductive Res where | ok (v:Val) | ex (x:Str)
inductive Tb where | ok (o:Out) | ex (x:Str) (U:VS.Env)
noncomputable abbrev ExX:=VS.Env->Option Res
noncomputable abbrev SxX:=VS.Env->Option Tb
end VS
end
section
namespace VS
open PySem PySem.Spec PyProof.Rows L2 PySem.F
section
variable{P:Program}{w:World}{K:Xf}{mg:X9}{base:Heap}
noncomputable def AE:Fn:=λa=>match a with
 |[.scr _]=>some (.fr,.bl true)
 |_=>none
end
end VS
end
section
namespace TS
open PySem PySem.Spec PyProof.Rows
variable{prog:Program}{w:World}{A:Around}{E:Z3}{s:Shared}
theorem vY{f:Wu}(o:∀v∈f,∃x t,v=Value.str x t){d:Array Keyed}(g:d.Perm (pairsOf f))(p:SortedToK strKind d (pairsOf f).size):((d.map (·.2)).toList.map strOf).Pairwise (λa b=>¬b.cps.toList<a.cps.toList):=by
 obtain⟨n,m⟩:=ma g;rw[Wr,YL];intro i j r l u;have key:∀i (h:i<(d.map (·.2)).toList.length),KK strKind d i=(strOf (d.map (·.2)).toList[i]).cps.toList:=λi h=>by
  have e:d[i]?=some ((d.map (·.2)).toList[i],(d.map (·.2)).toList[i]):=by
   rw[← Yw,← m,ZM,Zq h];rfl
  obtain⟨x,t,ex⟩:=o _ (n.mem_iff.mp (Yt h));unfold KK;rw[e];rw[ex];rfl
 have q:=p i j (Z0 u) (by rw[← g.size_eq];simpa using l);rw[key i r,key j l]at q;exact of_decide_eq_false q
theorem qO{x:Value}{Q:Z3}(y:∀(q:Around)(z:Z3),q.handled=A.handled->wpAny (model prog w) q (collect x) (λf s1=>(∀v∈f,∃x t,v=Value.str x t)/\f.length<64/\∀(out:Wu)(i:Heap)(e:Nat),out.Perm f->(out.map strOf).Pairwise (λa b=>¬b.cps.toList<a.cps.toList)->(∀b o,s1.heap.get? b=some o->i.get? b=some o)->i.get? s1.heap.objs.size=some (seqObj "list" out.toArray e)->Q (.ref s1.heap.objs.size) { s1 with heap:=i }) z s) :
  wpAny (model prog w) A (call (.builtin "sorted") [x]) Q E s:=by
 refine Calls.call_function_entry kind_sorted plain_sorted entry_sorted (args_sorted1 _) (show wpAny _ _ (Builtin.«sorted» _) _ _ _ from ?_);unfold Builtin.«sorted»;refine Zn (m:=checkCount "sorted" 1 1 _) (ZW (Zn (YA (y A.in1 (λ_ _=>False) rfl) ?_ λ_ _ e=>e.elim)));rintro d s1 ⟨g,u,h⟩;refine Zn (wpAny_newList ?_ (by show d.length<=sizeLine;rw[XF];omega));have l:(s1.heap.push (seqObj "list" d.toArray 0)).get? s1.heap.objs.size=some (seqObj "list" d.toArray 0):=ZL _ rfl;show wpAny _ _ _ _ _ { s1 with heap:=s1.heap.push (seqObj "list" d.toArray 0) };refine Zn (Xw (X8 slot_list_sort ⟨_,l,rfl⟩ entry_list_sort (list_sort_treeK strKind_oneLt l (strsAre_map _ g).keysOf (λC B rest e=>keyKind_strs (by rw[← e];exact strsAre_map _ g)) u λj p r=>⟨_,rfl,?_⟩) (args_list_sort _)));obtain⟨e,he⟩:=sortedHeap_at (out:=(arrOf j).map (·.2)) l;exact ZW ⟨_,rfl,h ((arrOf j).map (·.2)).toList _ e (ma p).1 (vY g p r) (λb o n=>by
  have hb:=ZU n;show (sortedHeap (s1.heap.push (seqObj "list" d.toArray 0)) s1.heap.objs.size d ((arrOf j).map (·.2))).get? b=some o;rw[sortedHeap_old (Zb hb) (by rw[size_push'];exact XQ hb),Xy _ _ _ (Zb hb)];exact n) he⟩
end TS
namespace L2
open PySem PySem.Spec PyProof.Rows TS
section
variable{X:Cx}
theorem kh(Z:X.calm=true):dN X (.builtin "sorted") (λD H Q=>∃p,∃(d:List Str)(m:List V),D=[.ref p]/\d.length<64/\d.length=m.length/\H p=some (.dK ((d.map Sum.inr).zip m)) ∧
  ∀(l:Addr)(C:List Str),H l=none->C.Perm d->C.Pairwise (λa b=>¬b.cps.toList<a.cps.toList)->Q (.ref l) (upd H l (.lst (C.map V.str)))):=by
 intro f s J H D us Q I N h;obtain⟨p,d,m,rfl,Uu,U,S,q⟩:=h;obtain⟨u,rfl,O⟩:=N.one;cases O;obtain⟨R,hS,B,rel,A⟩:=oo I.xh S;obtain⟨ep,A⟩:=A.dictAt;have RP:B.length=d.length:=by
  have:=rel.length;rw[Yn,Zx]at this;lia
 have RO:∀i:Nat,(B[i]?).map (λx=>x.1)=(d[i]?).map (Sum.inr:Str->Key):=λi=>by
  have F:((B.map (·.1)))[i]?=(d.map (Sum.inr:Str->Key))[i]?:=by
   rw[← rel.keys];rw[XC (by rw[Zx];exact XO U)]
  rw[ZM,ZM]at F;exact F
 refine TS.qO λA' E' hA=>PySem.W.kdu_collect (PySem.W.kdl_dict hS) (hA.trans (I.ok.hd Z)) A (by rw[Yn,Zx]at R;lia) λG E acc kp L=>?_;have M:Inv X f J H { s with heap:=G,toks:=E }:=I.kept kp;have R7:acc.toList.length=d.length:=by rw[YY,L.1,RP]
 have each:∀i v,acc.toList[i]?=some v->∃x t,v=Value.str x t/\d[i]?=some x:=λi v g=>by
  rw[Yw]at g;obtain⟨k,x,e1,e2⟩:=L.2 i v g;have j:=RO i;rw[e1]at j;cases z:d[i]? with
  |none=>rw[z]at j;cases j
  |some y =>
   rw[z]at j;have e5:k=Sum.inr y:=Zl j;subst e5;obtain⟨t,rfl⟩:=W8 (show Value.isStrOf y v=true from e2);exact⟨y,t,rfl,z⟩
 have g:∀v∈acc.toList,∃x t,v=Value.str x t:=λv r=>by
  obtain⟨i,Y,e⟩:=Ym r;obtain⟨x,t,e1,_⟩:=each i v (by rw[Zq Y,e]);exact⟨x,t,e1⟩
 have es:acc.toList.map strOf=d:=by
  apply Wp;intro i;rw[ZM];cases e:acc.toList[i]? with
  |none =>
   have:acc.toList.length<=i:=Yi.mp e;rw[Yi.mpr (by lia)];rfl
  |some v =>
   obtain⟨x,t,rfl,e1⟩:=each i v e;rw[e1];rfl
 refine⟨g,by omega,λout h2 e n P G9 he=>?_⟩;have Nu:∀v∈out,∃x t,v=Value.str x t:=λv r=>g v (n.mem_iff.mp r);have o:((out.map strOf).map V.str).length<=sizeLine:=by rw[Zx,Zx,n.length_eq,R7,XF];omega
 exact⟨.ref G.objs.size,_,M.laid (t':=E) G9 (Zo _) (show bS X.prog X.w _ h2 _ (.lst ((out.map strOf).map V.str)) from⟨o,out,e,oq Nu,he⟩),rfl,q _ _ (M.xh.fresh (Zo _)) (by rw[← es];exact n.map _) P⟩
end
end L2
namespace VS
open PySem PySem.Spec PyProof.Rows L2
section
variable{G:Gx}{X:Cx}{e:Expr}{cs:Hr}{p pos:Pos}
noncomputable def iq:Vr->Vq
 |[(_,.dct 0 l)]=>(strs? (l.map (·.1))).bind λa=>if a.length<64/\a.all Ov=true then some (.fr,.lst ((cP a).map .str)) else none
 |_=>none
theorem zt:fq G (λq H Q=>∃p,∃(d:List Str)(f:List V),q=[.ref p]/\d.length<64/\d.length=f.length/\H p=some (.dK ((d.map Sum.inr).zip f)) ∧
  ∀(l:Addr)(h:List Str),H l=none->h.Perm d->h.Pairwise (λa b=>¬b.cps.toList<a.cps.toList)->Q (.ref l) (upd H l (.lst (h.map V.str)))) iq:=by
 intro R U E H l f C m t Q A e k;unfold iq at e;split at e
 ·rename_i D x;obtain⟨d,e1,e2⟩:=Zz.mp e;split at e2
  ·rename_i hb;cases e2;obtain⟨v,F,rfl,rfl,r⟩:=(show RpL G H f [.dct 0 x] C from A.rp).one;obtain⟨a,g,o,i,J,rfl,rfl,y,j,rfl,u⟩:=dM r;have B:g.length=i.length:=by rw[j,u.len.1]
   have z:((g.map aJ).zip i).map (·.1)=g.map aJ:=XC (by rw[Zx];exact XO B);rw[z]at e1;have n:=keys_str e1;refine⟨a,d.map sx,o,rfl,by rw[Zx];exact hb.1,?_,by rw[← n];exact y,oF k A.same λs w=>yc (Yk.mp hb.2 s w)⟩;rw[← j,n,Zx,Zx,Zx]
  ·cases e2
 ·cases e
theorem uG(a:X.mg "sorted" = none)(f:Ib G X [e] cs)(b:Gl X "sorted" := by rfl)(g:X.K=G.K:=by rfl)(d:X.calm=true:=by rfl)(he:K1 e [] X:=by rfl):PV G X (.Call (.Name "sorted" p) [e] [] pos) (eN iq cs) :=
 ji (kh d) zt b a pO f (he:=he) (hpl:=rfl)
end
@[simp] noncomputable def MM:T->Bool
 |.bl true=>true
 |_=>false
mutual
@[simp] noncomputable def gh:T->Bool
 |.tup l=>de l
 |.lst l=>de l
 |.dct _ l=>pS l
 |.obj _ l=>eB l
 |_=>true
@[simp] noncomputable def de:Vp->Bool
 |[]=>true
 |t :: r=>gh t&&de r
@[simp] noncomputable def pS:List (T×T)->Bool
 |[]=>true
 | (_,v) :: r=>gh v&&pS r
@[simp] noncomputable def eB:List (Nat×T)->Bool
 |[]=>true
 | (n,v) :: r=>(gh v && !(n==0&&MM v))&&eB r
end
theorem iK:∀{b:Vp}{a:Vp},b.length=a.length->pS (b.zip a)=true->de a=true
 |[],[],_,_=>rfl
 |_ :: _,[],h,_=>by simp at h
 |[],_ :: _,h,_=>by simp at h
 |k :: b,t :: a,h,e=>by
  rw[ZV,pS,ZS]at e;rw[de,ZS];exact⟨e.1,iK (by simpa using h) e.2⟩
theorem fj:∀{b:Vv}{a:Vp},b.length=a.length->eB (b.zip a)=true->de a=true
 |[],[],_,_=>rfl
 |_ :: _,[],h,_=>by simp at h
 |[],_ :: _,h,_=>by simp at h
 |k :: b,t :: a,h,e=>by
  rw[ZV,eB,ZS,ZS]at e;rw[de,ZS];exact⟨e.1.1,fj (by simpa using h) e.2⟩
section
variable{G:Gx}{H:Hp}
theorem Rp.at{v:V}{t:T}{F:Wy}(m:Me)(r:Rp G H v t F):gh t=true->Rp (G.at m) H v t F :=
 Rp.rec (G:=G) (H:=H) (motive_1:=λv t F _=>gh t=true->Rp (G.at m) H v t F) (motive_2:=λg e Fs _=>de e=true->RpL (G.at m) H g e Fs)
  (λ_=>.non) (λb _=>.bl b) (λi _=>.int i) (λs h _=>.str s h) (λh _=>.scr h) (λh _ d f=>.tup h (d (by simpa using f))) (λh _ d f=>.lst h (d (by simpa using f)))
  (λh l q d f=>.dct h l (d (iK (by rw[Zx,l];exact q.len.1) (by simpa using f)))) (λh l q d f=>.dctT h l (d (iK (by rw[Zx,l];exact q.len.1) (by simpa using f))))
  (λh l n q d f=>.dctN h l n (d (iK (by rw[Zx,l];exact q.len.1) (by simpa using f)))) (λh l q d f=>.dctZ h l (d (iK (by rw[Zx,l];exact q.len.1) (by simpa using f)))) (λh p _=>.exc h p)
  (λ{c a x b w g e Fs} h l u q d f=>by
   rw[gh,eB,ZS]at f;have hb:b=false:=by
    cases b with
    |false=>rfl
    |true=>simp at f
   refine .ins h l (λz=>?_) (d (fj (by rw[l];exact q.len.1) f.2));rw[hb]at z;cases z)
  (λ_ _ _ f=>by simp[gh,eB,MM]at f)
  (λ_=>.nil) (λ_ _ o j f=>by
   rw[de,ZS]at f;exact .cons (o f.1) (j f.2)) r
theorem RpL.at(m:Me):∀{b:List V}{a:Vp}{Fs:Yp},RpL G H b a Fs->de a=true->RpL (G.at m) H b a Fs
 |_,_,_,.nil,_=>.nil
 |_,_,_,.cons r q,f=>by
  rw[de,ZS]at f;exact .cons (r.at m f.1) (RpL.at m q f.2)
mutual
theorem nR:∀t:T,G5 t=true->gh t=true
 |.non,_=>rfl
 |.bl _,_=>rfl
 |.int _,_=>rfl
 |.str _,_=>rfl
 |.scr _,_=>rfl
 |.tup l,h=>by
  rw[gh];exact u7 l (by simpa using h)
 |.lst _,h=>by simp at h
 |.dct _ _,h=>by simp at h
 |.obj _ _,h=>by simp at h
theorem u7:∀l:Vp,fK l=true->de l=true
 |[],_=>rfl
 |t :: l,h=>by
  rw[fK,ZS]at h;rw[de,ZS];exact⟨nR t h.1,u7 l h.2⟩
end
end
noncomputable def qu(k:Nat):T->Option T
 |.obj (_+1) (_ :: fs)=>(fs.findIdx? λp=>p.1==k).bind λi=>(fs[i]?).map (·.2)
 |_=>none
noncomputable def bj(k:Nat)(a:Ex):Ex:=λU=>(a U).bind λx=>(qu k x.2).map λt=>sub x.1 t
section
variable{G:Gx}{X:Cx}{a e o:Expr}{ca ce:Ex}{k i:Nat}{f x:Str}{pos pos' p1:Pos}
theorem w_fld(Jq:jV G)(F:HY G X.K k f)(ha:PV G X a ca)(B:attributeBase a f X.env (eval a X.env)=eval a X.env:=by exact rfl):PV G X (.Attribute a f pos) (bj k ca) :=
 PE.weak (yJ ha B) λJ H Q Z=>by
  obtain⟨R,U,m,t,s,e,Y⟩:=Z;unfold bj at e;obtain⟨⟨S,y⟩,ea,e1⟩:=Zz.mp e;obtain⟨z,d,e2⟩:=Zu.mp e1;refine⟨R,U,S,y,s,ea,λv H' F' P r1 f1=>?_⟩;unfold qu at d;split at d
  ·rename_i c q0 fs w;dsimp only at w;subst w;obtain⟨j,D,e3⟩:=Zz.mp d;obtain⟨p,C,e4⟩:=Zu.mp e3;subst e4;obtain⟨c',a,dx,b,ns,vs,q,Fs,ec,rfl,rfl,rfl,rfl,hA,A,B,r⟩:=eR r1;cases ec;have Kd:ns.length=q.length:=A.trans r.len.1;obtain⟨l,g,L,E,g3,g4⟩:=jz (λn=>n==k) Kd D;have ek:l=k:=by simpa using g3
   subst ek;have ep:p=(l,g):=by
    have:(ns.zip q)[j]?=some (l,g):=by rw[YK];exact⟨L,E⟩
    rw[this]at C;exact(Zl C).symm
   subst ep;obtain⟨u,Fi,O,N,h⟩:=r.get j E;have M:=rY (G:=G) (c:=c+1) Jq A D L O;rw[F.nm c]at M;refine⟨a,_,dx,_,u,rfl,hA,F.cl c,F.no c,M,?_⟩;have fp:=((f1.sub (Yd _ _)).sub (dv N)).up h;unfold VS.sub at e2;rw[e2]at fp;have et:g=t:=congrArg Prod.snd e2;rw[et]at h;exact Y u H' Fi P h fp
  ·cases d
noncomputable def jk(i k:Nat)(e:Ex)(U:VS.Env):Option Out:=(e U).bind λv=>match U[i]? with
 |some (some (.ow (.obj (c+1) (q :: fs))))=>(fit v).bind λt=>if fs.length<900/\(fs.all λp=>!(p.1==k))=true then some (.nx (U.set i (some (.ow (.obj (c+1) (q :: (fs++[(k,t)]))))))) else none
 |_=>none
theorem sZ{g:Nat->Str}{k:Nat}{v:V}(n:∀k m:Nat,g k=g m->k=m):∀{b:Vv}{d:List V}{j:Vp},b.length=d.length->b.length=j.length->((b.zip j).all λp=>!(p.1==k))=true->jd (g k) v ((b.map g).zip d)=((b++[k]).map g).zip (d++[v])
 |[],[],_,_,_,_=>rfl
 |[],_ :: _,_,h,_,_=>by simp at h
 |_ :: _,[],_,h,_,_=>by simp at h
 |_ :: _,_ :: _,[],_,h,_=>by simp at h
 |q :: b,t :: d,u :: j,s,r,l=>by
  rw[ZV,Wj,ZS]at l;have ne:g q≠g k:=λz=>by
   have:=n _ _ z;subst this;simp at l
  rw[Zm,ZV,jd,Zp ne,sZ n (by simpa using s) (by simpa using r) l.2];rfl
theorem lI(i k:Nat)(Jq:jV G)(F:HY G X.K k f)(he:PV G X e ce)(hN:X.N[i]?=some x:=by exact rfl)(hv:JG X.env.scope x:=by exact .inl rfl)(hd:K3 x:=by exact rfl)(B:K4 x:=by exact rfl)(hs:swapsWith e (some (.Attribute (.Name x p1) f pos')) pos.line X.env=pure false:=by exact rfl):PSV G X (.Assign [.Attribute (.Name x p1) f pos'] e pos) (jk i k ce) :=
 PS.weak (Dz (iu hN hv hd B) he hs) λD J H hq=>by
  obtain⟨R,U,out,s,e,kq⟩:=hq;unfold jk at e;obtain⟨⟨mv,h⟩,ev,e⟩:=Zz.mp e;split at e
  ·rename_i c q0 fs w;obtain⟨t,et,e⟩:=Zz.mp e;have em:=nc et;cases em;split at e
   ·rename_i l;cases e;obtain⟨v,P,g2⟩:=s.rp _ _ w;refine⟨R,U,.fr,h,s,ev,λy M O q ry n=>⟨v,P,?_⟩⟩;obtain⟨c',a,E,b,ns,p,j,Fs,ec,rfl,rfl,rfl,S,C,A,hb,r⟩:=eR g2;cases ec;have nd:=s.nd i _ w;rw[S]at nd;have L:=ZY.mp nd;have Z:M a=some (.ins (G.ct (c+1)).1 E ((ns.map (G.ct (c+1)).2).zip p)):=q a _ C;have u:G4 (M a):=by rw[Z];exact True.intro
    have Y:ns.length=j.length:=A.trans r.len.1;have na:a∉O:=λz=>by rw[n.2 a z]at C;cases C
    have ln:((ns.map (G.ct (c+1)).2).zip p).length<1000:=by
     have:=l.1;rw[Yn]at this ⊢;rw[Zx];lia
    refine⟨a,_,E,_,rfl,Z,F.cl c,F.no c,ln,?_⟩;have Q:=sZ (g:=(G.ct (c+1)).2) (k:=k) (v:=y) (Jq (c+1)) A Y l.2;rw[F.nm c]at Q;rw[Q];have off:∀d∈Fs.flatten,d∉O:=λd hb hw=>G4.p0 (r.Hk d hb) (n.2 d hw);have g:Chg G H (.ref a) (R i) (.obj (c+1) ((0,.bl b) :: (ns.zip j++[(k,h)]))) (upd M a (.ins (G.ct (c+1)).1 E (((ns++[k]).map (G.ct (c+1)).2).zip (p++[y])))) (a :: (Fs++[O]).flatten):=by
     rw[S,show ns.zip j++[(k,h)]=(ns++[k]).zip (j++[h]) from by rw[X3 Y];rfl];refine Chg.upd q Zw u (.ins aC (by simp[A]) hb (((r.same q).off u L.1).append (.cons (ry.keep (Kept.upd (.inl u)) λd hb o ho=>by rw[aE (λz=>na (by rw[← z];exact hb))];exact ho) .nil))) ?_ ?_
     ·rw[Z4];refine ZY.mpr ⟨λm=>?_,ZK.mpr ⟨L.2,by simpa using n.1,λb hb c l z=>?_⟩⟩
      ·rcases Ze.mp m with m | m
       ·exact L.1 m
       ·exact na (by simpa using m)
      ·subst z;exact off b hb (by simpa using l)
     ·intro d hb;rcases Zj.mp hb with rfl | hb
      ·exact .inl Zw
      ·rw[Z4]at hb;rcases Ze.mp hb with hb | hb
       ·exact .inl (Zv _ hb)
       ·exact .inr (n.2 d (by simpa using hb))
    obtain⟨z1,z2⟩:=s.mut w P g;exact kq _ J _ z1 z2
   ·cases e
  ·cases e
end
noncomputable abbrev sV:=List (Nat×T)
noncomputable def JH(a:Addr):Me:=λk=>if k=0 then some (.ref a) else none
noncomputable abbrev Mt:=sV->Vp->Option (sV×T)
noncomputable def Ij:List Bool->Yp->Wy
 |b :: bs,F :: a=>(if b then F else [])++Ij bs a
 |_,_=>[]
noncomputable def KS:List Bool->Yp->Wy
 |b :: bs,F :: a=>(if b then [] else F)++KS bs a
 |_,_=>[]
theorem g9:∀{f:List Bool}{e:Yp}{j:Nat}{F:Wy},f[j]?=some true->e[j]?=some F->F.Sublist (Ij f e)
 |[],_,_,_,h,_=>by simp at h
 |_ :: _,[],_,_,_,h=>by simp at h
 |b :: bs,g :: e,0,F,d,a=>by
  simp at d a;subst d a;rw[Ij,Zs rfl];exact List.sublist_append_left _ _
 |b :: bs,g :: e,j+1,F,d,a=>by
  rw[Ij];exact(g9 (by simpa using d) (by simpa using a)).trans (Y1 _ _)
theorem qP:∀{f:List Bool}{e:Yp}{j:Nat}{F:Wy},f[j]?=some false->e[j]?=some F->F.Sublist (KS f e)
 |[],_,_,_,h,_=>by simp at h
 |_ :: _,[],_,_,_,h=>by simp at h
 |b :: bs,g :: e,0,F,d,a=>by
  simp at d a;subst d a;rw[KS];exact List.sublist_append_left _ _
 |b :: bs,g :: e,j+1,F,d,a=>by
  rw[KS];exact(qP (by simpa using d) (by simpa using a)).trans (Y1 _ _)
theorem vw:∀{o:List Bool}{d:Yp}{i j:Nat}{F m:Wy},(Ij o d).Nodup->o[i]?=some true->o[j]?=some true->d[i]?=some F->d[j]?=some m->i≠j->∀a∈F,a∉m
 |[],_,_,_,_,_,_,h,_,_,_,_=>by simp at h
 |_ :: _,[],_,_,_,_,_,_,_,h,_,_=>by simp at h
 |b :: bs,r :: d,0,0,F,m,_,_,_,_,_,n=>absurd rfl n
 |b :: bs,r :: d,0,j+1,F,m,nd,l,g,f,e,n=>λa p q=>by
  simp at l f;subst l f;rw[Ij,Zs rfl,ZK]at nd;exact nd.2.2 a p a ((g9 (by simpa using g) (by simpa using e)).subset q) rfl
 |b :: bs,r :: d,i+1,0,F,m,nd,l,g,f,e,n=>λa p q=>by
  simp at g e;subst g e;rw[Ij,Zs rfl,ZK]at nd;exact nd.2.2 a q a ((g9 (by simpa using l) (by simpa using f)).subset p) rfl
 |b :: bs,r :: d,i+1,j+1,F,m,nd,l,g,f,e,n=>by
  rw[Ij,ZK]at nd;exact vw nd.2.1 (by simpa using l) (by simpa using g) (by simpa using f) (by simpa using e) (by lia)
theorem uU:∀{e:List Bool}{d:Yp}{a:Addr},a∈Ij e d->∃(j:Nat)(F:Wy),e[j]?=some true/\d[j]?=some F/\a∈F
 |[],_,_,h=>by simp[Ij]at h
 |_ :: _,[],_,h=>by simp[Ij]at h
 |b :: bs,l :: d,a,h=>by
  rw[Ij]at h;rcases Ze.mp h with h | h
  ·cases b with
   |true=>exact⟨0,l,rfl,rfl,h⟩
   |false=>simp at h
  ·obtain⟨j,F,i,g,f⟩:=uU h;exact⟨j+1,F,by simpa using i,by simpa using g,f⟩
noncomputable def nJ(b:Bool)(t:T):Vs:=some (if b then .ow t else .pu t)
noncomputable def zk(c:Nat)(U:VS.Env):Option sV:=match (U[(0:Nat)]?:Option (Vs)) with
 |some (some (.ow (.obj a ((0,.bl true) :: fs))))=>if a=c+1 then some fs else none
 |_=>none
noncomputable def Ja(c d f:Nat)(e:List Bool)(body:Sx):Mt:=λfs a=>if a.length+1=d/\e.length=a.length then
 (body ((some (.ow (.obj (c+1) ((0,.bl true) :: fs))) :: List.zipWith nJ e a)++List.replicate (f-d) none)).bind λo=>match o with
  |.rt v U=>(zk c U).bind λb=>if G5 v.2 then some (b,v.2) else none
  |.nx U=>(zk c U).map λb=>(b,.non)
  |_=>none else none
noncomputable def KQ(G:Gx)(c:Nat)(d:List Bool)(g:Mt):Sp:=λl H Q _=>∃(a:Addr)(i:List V)(fs:sV)(f:Vp)(F:Wy)(e:Yp)(j:sV)(x:T),l=.ref a :: i/\Rp (G.at (JH a)) H (.ref a) (.obj (c+1) ((0,.bl true) :: fs)) F ∧
 RpL (G.at (JH a)) H i f e/\d.length=f.length/\(F++Ij d e).Nodup/\(∀b∈F++Ij d e,b∉KS d e)/\g fs f=some (j,x) ∧
 ∀u h m,Chg (G.at (JH a)) H (.ref a) (F++Ij d e) (.obj (c+1) ((0,.bl true) :: j)) h m->Rp (G.at (JH a)) h u x []->Q u h
section
variable{G:Gx}{H:Hp}
theorem zA{v:V}{D:List V}{t:T}{d:Vp}{F:Wy}{f:Yp}{g:List Bool}(Y:Rp G H v t F)(r:RpL G H D d f)(U:g.length=d.length)(x:(F++Ij g f).Nodup)(Q:∀b∈F++Ij g f,b∉KS g f)(n R:Nat)(Z:R=D.length+1) :
  SR G (λi=>(F :: f).getD i []) ((some (.ow t) :: List.zipWith nJ g d)++List.replicate (n-(d.length+1)) none) ((v :: D).map some++List.replicate (n-R) none) H ∧
  ∀a,cy (λi=>(F :: f).getD i []) ((some (.ow t) :: List.zipWith nJ g d)++List.replicate (n-(d.length+1)) none) a->a∈F++Ij g f:=by
 subst Z;have hl:=r.len;have J:(List.zipWith nJ g d).length=d.length:=by rw[List.length_zipWith,U,Nat.min_self]
 have back:∀{i:Nat}{c:Cell},((some (Cell.ow t) :: List.zipWith nJ g d)++List.replicate (n-(d.length+1)) none)[i]?=some (some c)->(i=0/\c=.ow t)\/∃(j:Nat)(b:Bool)(u:T),i=j+1/\g[j]?=some b/\d[j]?=some u/\c=(if b then .ow u else .pu u):=λ{i c} h=>by
  cases i with
  |zero=>exact .inl ⟨rfl,(Zl (Zl h)).symm⟩
  |succ j =>
   rw[XA,Wg]at h;by_cases E:j<d.length
   ·rw[Ys (by rw[J];exact E),List.getElem?_zipWith]at h;have e1:g[j]?=some g[j]:=Zq (by rw[U];exact E);have e2:d[j]?=some d[j]:=Zq E;rw[e1,e2]at h;exact .inr ⟨j,_,_,rfl,e1,e2,(Zl (Zl h)).symm⟩
   ·rw[Yq (by rw[J];exact Yu E),YD]at h;split at h<;>cases h
 have fp:∀{j:Nat}{u:T},d[j]?=some u->∃w s,D[j]?=some w/\f[j]?=some s/\Rp G H w u s:=λ{j u} h=>r.get j h;have ow:∀{i:Nat}{u:T},((some (Cell.ow t) :: List.zipWith nJ g d)++List.replicate (n-(d.length+1)) none)[i]?=some (some (.ow u))->i=0\/∃j:Nat,i=j+1/\g[j]?=some true/\d[j]?=some u:=λ{i u} h=>by
  rcases back h with⟨p,l⟩ | ⟨j,b,P,p,l,o,y⟩
  ·exact .inl p
  ·cases b with
   |true=>cases y;exact .inr ⟨j,p,l,o⟩
   |false=>cases y
 rw[ZK]at x;refine⟨⟨?_,λi c h=>?_,λi u h=>?_,λi j u c p l n=>?_⟩,λa ⟨i,u,p,l⟩=>?_⟩
 ·simp[J];lia
 ·rcases back h with⟨rfl,rfl⟩ | ⟨j,b,u,rfl,l,o,y⟩
  ·exact⟨v,rfl,Y⟩
  ·obtain⟨w,s,A,e,B⟩:=fp o;refine⟨w,?_,?_⟩
   ·rw[Zm,XA,Wg,Ys (by rw[Zx];exact(ZX.mp A).1),ZM,A];rfl
   ·show Rp G H w (kW c) ((F :: f).getD (j+1) []);rw[YU,Zr,e,y];cases b<;>exact B
 ·rcases ow h with rfl | ⟨j,rfl,l,o⟩
  ·exact x.1
  ·obtain⟨w,s,A,e,B⟩:=fp o;show ((F :: f).getD (j+1) []).Nodup;rw[YU,Zr,e];exact x.2.1.sublist (g9 l e)
 ·rcases ow p with rfl | ⟨S,rfl,O,a3⟩
  ·rcases back l with⟨rfl,_⟩ | ⟨M,b,P,rfl,C,N,_⟩
   ·exact absurd rfl n
   ·obtain⟨w,s,A,e,B⟩:=fp N;intro a m;show a∉(F :: f).getD (M+1) [];rw[YU,Zr,e];intro q;cases b with
    |true=>exact x.2.2 a m a ((g9 C e).subset q) rfl
    |false=>exact Q a (Yf _ m) ((qP C e).subset q)
  ·obtain⟨w,Fi,A,e,B⟩:=fp a3;have ei:(F :: f).getD (S+1) []=Fi:=by rw[YU,Zr,e];rfl
   show ∀a∈(F :: f).getD (S+1) [],_;rw[ei];rcases back l with⟨rfl,_⟩ | ⟨M,b,P,rfl,C,N,_⟩
   ·exact λa m q=>x.2.2 a q a ((g9 O e).subset m) rfl
   ·obtain⟨w',s,k1,L,k3⟩:=fp N;intro a m;show a∉(F :: f).getD (M+1) [];rw[YU,Zr,L];intro q;cases b with
    |true=>exact vw x.2.1 O C e L (λz=>n (by rw[z])) a m q
    |false=>exact Q a (ZP _ ((g9 O e).subset m)) ((qP C L).subset q)
 ·rcases ow p with rfl | ⟨j,rfl,o,y⟩
  ·exact Yf _ l
  ·obtain⟨w,s,A,e,B⟩:=fp y;have X:a∈(F :: f).getD (j+1) []:=l;rw[YU,Zr,e]at X;exact ZP _ ((g9 o e).subset X)
theorem zZ{c:Nat}{U:VS.Env}{a:sV}(h:zk c U=some a):U[0]?=some (some (.ow (.obj (c+1) ((0,.bl true) :: a)))):=by
 unfold zk at h;split at h
 ·rename_i d f e;split at h
  ·rename_i b;cases h;rw[e,b]
  ·cases h
 ·cases h
end
section
variable{G:Gx}{P:Program}{w:World}{K:Xf}{mg:X9}{base:Heap}
theorem Gh{d:Str}{x:Stmt}{f:Addr}{fd:FuncData}{N O:List Str}{k X D c:Nat}{R:List Bool}{l:Sx}(ok:∀{sp:Sp},(∀j H Q E,sp j H Q E->j.length=O.length)->(∀(p:Value)(A:Around)(outer:List PySem.Env)(s:Shared)(H:Hp)(j:List V)(Q:VK)(E:XK),xa k (A.deeper (envOfC d (aj x) s.heap.objs.size f p))->sp j H Q E →
   ∃t,Jd (jS HJ P w K mg base N d (aj x) f p A outer s H E).Kg (bu x) t/\t { nx:=λ_ g=>Q .non g,rt:=Q } (L2.start N j) H)->FnOk P w K mg base HJ (k+1) f fd O sp)(hp:O.length=X)(hn:N.length=D)(hb:∀(a:Addr)(p:Value)(A:Around)(outer:List PySem.Env)(s:Shared)(H:Hp)(E:XK),xa k (A.deeper (envOfC d (aj x) s.heap.objs.size f p))->jy (G.at (JH a)) (jS HJ P w K mg base N d (aj x) f p A outer s H E).Kg (bu x) l) :
  FnOk P w K mg base HJ (k+1) f fd O (KQ G c R (Ja c X D R l)):=by
 refine ok (λj H Q E h=>?_) λp A outer s H j Q E hr h=>?_
 ·obtain⟨a,C,fs,ts,F,Fs,U,y,rfl,r0,r,hm,nd,sp,e,q⟩:=h;unfold Ja at e;split at e
  ·rename_i Z;rw[Zk,r.len.1,Z.1,hp]
  ·cases e
 ·obtain⟨a,C,fs,ts,F,Fs,U,y,rfl,r0,r,hm,nd,sp,e,q⟩:=h;refine⟨_,hb a p A outer s H E hr,?_⟩;unfold Ja at e;split at e
  ·rename_i Z;obtain⟨o,e1,e2⟩:=Zz.mp e;obtain⟨s0,LN⟩:=zA r0 r hm nd sp D (C.length+1) rfl;rw[Z.1]at s0 LN;have e3:L2.start N (V.ref a :: C)=(V.ref a :: C).map some++List.replicate (D-(C.length+1)) none:=by
    unfold L2.start;rw[hn];rfl
   rw[e3];have fin:∀{m:VS.Env}{n:G6}{S:L2.St}{g:Hp},zk c m=some U->SR (G.at (JH a)) n m S g->HG (λi=>(F :: Fs).getD i []) ((some (.ow (.obj (c+1) ((0,.bl true) :: fs))) :: List.zipWith nJ R ts)++List.replicate (D-X) none) H n m g →
     Chg (G.at (JH a)) H (.ref a) (F++Ij R Fs) (.obj (c+1) ((0,.bl true) :: U)) g (n 0):=λ{m n S g} Y B fr=>by
    have h0:=zZ Y;obtain⟨v',g1,g2⟩:=B.rp 0 _ h0;have MY:Rp (G.at (JH a)) g v' (.obj (c+1) ((0,.bl true) :: U)) (n 0):=g2;obtain⟨c',a',dx,b,ns,j,Jg,IQ,ec,rfl,eb,_,eF,hA,MS,M,ra⟩:=eR MY;have JK:b=true:=by cases eb;rfl
    have ea:some (V.ref a)=some (V.ref a'):=M JK;cases ea;refine⟨fr.kept,λL o' M ho=>(fr.keep L o' ho λz=>M (LN L z)).1,fr.Hk,MY,B.nd 0 _ h0,λL M=>?_⟩;rcases fr.ow L ⟨0,_,h0,M⟩ with z | z
    ·exact .inl (LN L z)
    ·exact .inr z
   refine⟨_,_,o,s0,e1,?_⟩;cases o with
   |nx m =>
    obtain⟨fs2,e4,J⟩:=Zu.mp e2;cases J;intro n S g B fr;exact q .non g _ (fin e4 B fr) .non
   |rt v m =>
    obtain⟨fs2,e4,J⟩:=Zz.mp e2;split at J
    ·rename_i hi;cases J;intro u g F' n S B fr r' rf;have:=r'.G5 hi;subst this;exact q u g _ (fin e4 B fr) r'
    ·cases J
   |bk m=>cases e2
   |ct m=>cases e2
  ·cases e
theorem UA{x d:Str}{g:Stmt}{f:Addr}{n:FuncData}{N h:List Str}{k i j c:Nat}{m:List Bool}{e:Sx}(F:G2 K x d g f n)(S:jj N h (aj g))(p:h.length=i)(q:N.length=j)(r:∀(a:Addr)(o:Value)(A:Around)(outer:List PySem.Env)(s:Shared)(H:Hp)(E:XK),xa k (A.deeper (envOfC d (aj g) s.heap.objs.size f o))->jy (G.at (JH a)) (jS HJ P w K mg base N d (aj g) f o A outer s H E).Kg (bu g) e) :
  FnOk P w K mg base HJ (k+1) f n h (KQ G c m (Ja c i j m e)):=Gh (λl b=>F.ok S l b) p q r
structure K7(K:Xf)(x qual:Str)(st:Stmt)(f:Addr)(fd:FuncData):Prop where
 ex:∃(T:Addr)(oc:Value)(od:Option Addr)(kV doc pm:Value)(an:Option Addr)(G0 ct:Value)(Kc:Array (Wt))(o:Obj)(n:Nat),
  fd=PySem.W.fnOf x qual (dk st) (bu st) (aj st) (.ref T) kV doc pm an G0 ct/\K.lookup f=some ⟨oc,od,.func fd,Kc⟩/\PySem.W.codeIn K G0 qual=true/\K.lookup T=some o/\o.data=.seq #[.none] n
 kp:PySem.W.keepIn K (.ref f)=true
theorem K7.ok{x a:Str}{d:Stmt}{f:Addr}{m:FuncData}{N i:List Str}{k:Nat}{g:Sp}(F:K7 K x a d f m)(S:jj N i (aj d))(j:∀b H Q E,g b H Q E->b.length=i.length)(u:∀(e:Value)(A:Around)(outer:List PySem.Env)(s:Shared)(H:Hp)(b:List V)(Q:VK)(E:XK),xa k (A.deeper (envOfC a (aj d) s.heap.objs.size f e))->g b H Q E →
   ∃t,Jd (jS HJ P w K mg base N a (aj d) f e A outer s H E).Kg (bu d) t/\t { nx:=λ_ v=>Q .non v,rt:=Q } (L2.start N b) H):FnOk P w K mg base HJ (k+1) f m i g:=by
 obtain⟨T,oc,y,kV,doc,pm,an,e,ct,z,o,n,rfl,lk,l,_⟩:=F.ex;refine B4 lk l S j λA outer s H b Q E p r=>?_;obtain⟨t,h,q⟩:=u e A outer s H b Q E p r;exact⟨t,h.Kg,q⟩
theorem K7.binds{x a:Str}{d:Stmt}{f:Addr}{j:FuncData}{e:List Str}(F:K7 K x a d f j)(h:∀(s:Shared)(T:Addr)(kV doc pm:Value)(an:Option Addr)(g ct:Value)(o:Obj)(n:Nat)(b:Wu),K.In s.heap->K.lookup T=some o->o.data=.seq #[.none] n->b.length=e.length->BindsTo s (PySem.W.fnOf x a (dk d) (bu d) (aj d) (.ref T) kV doc pm an g ct) ⟨b,[]⟩ (e.zip b)):Binds K j e []:=by
 obtain⟨T,oc,q,kV,doc,pm,an,g,ct,r,o,n,rfl,lk,p,m,l⟩:=F.ex;intro s b X i;rw[ZQ]at i ⊢;exact h s T kV doc pm an g ct o n b X m l i
end
noncomputable def argsOk:List Bool->Vr->Bool
 |[],[]=>true
 |b :: bs,v :: a=>(if b then v.1 == .fr else G5 v.2)&&argsOk bs a
 |_,_=>false
noncomputable def mI(c:Nat)(e:List Bool)(g:Mt)(a:Vr):T->Option (T×Val)
 |.obj d ((0,.bl b) :: fs)=>if d=c+1/\eB fs=true/\argsOk e a=true/\de (trees a)=true then (g fs (trees a)).bind λz=>if eB z.1=true/\G5 z.2=true then some (.obj d ((0,.bl b) :: z.1),(.fr,z.2)) else none else none
 |_=>none
noncomputable def bH(i:Nat)(a:List Ka)(c:Nat)(d:List Bool)(g:Mt)(f:Hr)(U:VS.Env):Option (Val×VS.Env):=match (U[i]?:Option (Vs)) with
 |some (some (.ow t))=>(keys a U).bind λe=>(f U).bind λb=>(pm (mI c d g b) e t).map λz=>(z.2,U.set i (some (.ow z.1)))
 |_=>none
noncomputable def tX(G:Gx)(x:Xx):TE:=λJ H Q=>∃R U v b,SR G R U J H/\x U=some (v,b)/\G5 v.2=true/\∀u a d,SR G d b J a->HG R U H d b a->Rp G a u v.2 []->Q u a
noncomputable def PX(G:Gx)(X:Cx)(e:Expr)(x:Xx):Prop:=PE X e (tX G x)
theorem j3:∀{d:List Bool}{a:Vr},argsOk d a=true->d.length=a.length
 |[],[],_=>rfl
 |[],_ :: _,h=>by simp[argsOk]at h
 |_ :: _,[],h=>by simp[argsOk]at h
 |b :: bs,v :: e,h=>by
  rw[argsOk,ZS]at h;rw[Zk,Zk,j3 h.2]
theorem n8:∀{e:List Bool}{d:Vr}{Fs:Yp},argsOk e d=true->(Ij e Fs).Sublist (Ig d Fs)
 |[],[],_,_=>by simp[Ij]
 |[],_ :: _,_,h=>by simp[argsOk]at h
 |_ :: _,[],_,h=>by simp[argsOk]at h
 |b :: bs,v :: f,[],h=>by simp[Ij]
 |b :: bs,(m,t) :: f,F :: Fs,h=>by
  rw[argsOk,ZS]at h;have a:=n8 (Fs:=Fs) h.2;rw[Ij];cases b with
  |true =>
   have:m=.fr:=by simpa using h.1
   subst this;exact List.Sublist.append (XI _) a
  |false =>
   rw[Zp Zg,Yg];cases m with
   |fr=>exact a.trans (Y1 _ _)
   |pu=>exact a
   |bo=>exact a
theorem qQ{G:Gx}{H:Hp}:∀{d:List Bool}{a:Vr}{f:List V}{e:Yp},argsOk d a=true->RpL G H f (trees a) e->KS d e=[]
 |[],[],_,_,_,_=>by simp[KS]
 |[],_ :: _,_,_,h,_=>by simp[argsOk]at h
 |_ :: _,[],_,_,h,_=>by simp[argsOk]at h
 |b :: bs,(m,t) :: i,_,_,h,r=>by
  rw[argsOk,ZS]at h;cases r with
  |cons g q =>
   rw[KS,qQ h.2 q,ZQ];cases b with
   |true=>rfl
   |false=>exact g.G5 (by simpa using h.1)
theorem vD{R:G6}{U:VS.Env}{H:Hp}{e:List Bool}{d:Vr}{m:Yp}(h:argsOk e d=true)(f:L5 R U H d m):∀a∈Ij e m,H a=none:=λa o=>by
 obtain⟨j,F,g,q,p⟩:=uU o;have key:∀{e:List Bool}{d:Vr}{j:Nat},argsOk e d=true->e[j]?=some true->∃v,d[j]?=some v/\v.1=.fr:=by
  intro e
  induction e with
  |nil=>intro d j _ h;simp at h
  |cons b bs n =>
   intro d j h g;cases d with
   |nil=>simp[argsOk]at h
   |cons v r =>
    rw[argsOk,ZS]at h;cases j with
    |zero =>
     simp at g;subst g;exact⟨v,rfl,by simpa using h.1⟩
    |succ j =>
     obtain⟨w,l,i⟩:=n h.2 (by simpa using g);exact⟨w,by simpa using l,i⟩
 obtain⟨v,l,i⟩:=key h g;have:=f.each j v F l q;rw[i]at this;exact this.2 a p
section
variable{G:Gx}{X:Cx}{CX:Ll}{i c k k':Nat}{way:List Ka}{o e:Expr}{es:List Expr}{cs:Hr}{m:Str}{f:Addr}{fd:FuncData}{ps:List Str}{mv:List Bool}{g:Mt}{apos pos:Pos}
theorem rG{J:L2.St}{H:Hp}{Q:VK}{E:XK}{t:TA}(Jq:jV G)(hn:∀k,(G.ct (c+1)).2 k≠m)(ht:∀R U p J H (Rq:List V->Hp->Prop),SR G R U J H->cs U=some p->(∀d l M,aO H l->RpL G l d (trees p) M->L5 R U H p M->Rq d l)->t J H Rq)(h:tX G (bH i way c mv g cs) J H Q):vk (G.ct (c+1)).1 m (KQ G c mv g) [] E (Py G i way) t J H Q:=by
 obtain⟨R,U,v,U',s,e,him,kq⟩:=h;unfold bH at e;split at e
 ·rename_i t0 F;obtain⟨ks,ek,e3⟩:=Zz.mp e;obtain⟨p,el,e4⟩:=Zz.mp e3;obtain⟨⟨t',x2⟩,e5,e6⟩:=Zu.mp e4;cases e6;obtain⟨v0,h1,h2⟩:=s.rp _ _ F;obtain⟨w,x,F1,x3,w1,w2,w3,q,w5⟩:=iQ ks Jq h2 (s.nd i t0 F) e5;unfold mI at q;split at q
  ·rename_i c1 b fs;split at q
   ·rename_i hc;obtain⟨rfl,LC,L,O2⟩:=hc;obtain⟨⟨IM,y⟩,eg,S⟩:=Zz.mp q;split at S
    ·rename_i LB;cases S;obtain⟨c',a,dx,b',ns,d,N,M,ec,rfl,eb,rfl,eF,hA,hl,hb,ra⟩:=eR w2;cases ec;cases eb;have Kd:ns.length=N.length:=hl.trans ra.len.1;refine⟨R,U,t0,ks,v0,.ref a,s,F,h1,ek,w1,λH1 D=>⟨a,dx,_,rfl,D a _ hA,?_,?_⟩⟩
     ·have key:∀(ns:Vv)(d:List V),((ns.map (G.ct (c+1)).2).zip d).lookup m=none:=by
       intro ns
       induction ns with
       |nil=>intro d;simp
       |cons n ns ih =>
        intro d;cases d with
        |nil=>simp
        |cons v d =>
         rw[Zm,ZV,Ya];have:(m==(G.ct (c+1)).2 n)=false:=by
          rw[beq_eq_false_iff_ne];exact λz=>hn n z.symm
         rw[this];exact ih d
      exact key ns d
     ·refine ht R U p J H1 _ (s.same D) el λus H2 Gs HK NZ Z=>?_;have A:aO H H2:=D.trans HK;have P:L5 R U H p Gs:=⟨λn v' C a1 a2=>(Z.each n v' C a1 a2).back D,Z.nd⟩
      have Y:=vD L P;have PD:RpL (G.at (JH a)) H2 d N M:=(ra.same A).at (JH a) (fj Kd LC);refine⟨a,us,ns.zip N,trees p,F1,Gs,IM,y,by rw[ZQ],?_,NZ.at (JH a) O2,?_,?_,?_,eg,λu l C r ru=>?_⟩
      ·rw[eF];exact .ins (A a _ hA) hl (λ_=>rfl) PD
      ·rw[j3 L];simp[trees]
      ·refine ZK.mpr ⟨w3,Z.nd.sublist (n8 L),λj B b2 Lh z=>?_⟩;subst z;exact G4.p0 (w2.Hk j B) (Y j Lh)
      ·rw[qQ L NZ];exact λj _ z=>nomatch z
      ·have back:Rp G l (.ref a) (.obj (c+1) ((0,.bl b) :: IM)) C:=by
        obtain⟨c2,a2,U6,b2,PM,NX,Pw,Qz,NM,O7,SW,SV,O9,Oa,Ik,Lh,Ls⟩:=eR r.rp;cases NM;cases O7;subst SV;rw[O9];exact .ins Oa Ik hb (Ls.at G.me (fj (Ik.trans Ls.len.1) LB.1))
       have gG:Chg G H (.ref a) F1 (.obj (c+1) ((0,.bl b) :: IM)) l C:=⟨(Kept.of A).trans r.kept,λj o1 B O=>r.keep j o1 (λz=>(Ze.mp z).elim B λz=>by rw[Y j z]at O;cases O) (A j o1 O),λj h=>r.Hk j λz=>h (A.free z),back,r.nd,λj B=>by
        rcases r.sub j B with z | z
        ·rcases Ze.mp z with z | z
         ·exact .inl z
         ·exact .inr (Y j z)
        ·exact .inr (A.free z)⟩
       obtain⟨F2,g2⟩:=w5 l C gG;obtain⟨z1,z2⟩:=s.mut F h1 g2;exact kq u l _ z1 z2 (ru.at G.me (nR y LB.2))
    ·cases S
   ·cases q
  ·cases q
 ·cases e
theorem AY{j:Sem Bool}(z:jV G)(q:∀k,(G.ct (c+1)).2 k≠m)(p:Kr G X o i way)(v:IB X.K (G.ct (c+1)).1)(r:Meth X.K (G.ct (c+1)).1 m f)(F:FnOk X.prog X.w X.K X.mg X.base HJ k f fd ps (KQ G c mv g))(n:xa k' X.A)(u:k<=k')(x:Binds X.K fd ps [])(y:Ib G X (e :: es) cs)(B:K1 e es X)(a:K2 pos es X)(l:eval (.Call (.Attribute o m apos) (e :: es) [] pos) X.env=(do
   let b ← eval o X.env
   standAt apos.atName
   let (f,first) ← holding [b] (getMethod b m j)
   callWith pos f first (backTo pos (starEach (e :: es) X.env)) (backToKw pos (keywordEach [] X.env)))):PX G X (.Call (.Attribute o m apos) (e :: es) [] pos) (bH i way c mv g cs) :=
 PE.weak (qj (E:=E0) p v r F (n.mono u) x .nil mF y B a l) λJ H Q h=>rG (t:=M9 G cs) z q (λR U d J H Rq s e k=>⟨R,U,d,s,e,k⟩) h
theorem yN{d:Sem Bool}(y:jV G)(p:∀k,(G.ct (c+1)).2 k≠m)(n:Kr G X o i way)(u:IB X.K (G.ct (c+1)).1)(q:Meth X.K (G.ct (c+1)).1 m f)(F:FnOk X.prog X.w X.K X.mg X.base HJ k f fd ps (KQ G c mv g))(l:xa k' X.A)(r:k<=k')(x:Binds X.K fd ps [])(j:eval (.Call (.Attribute o m apos) [] [] pos) X.env=(do
   let a ← eval o X.env
   standAt apos.atName
   let (f,first) ← holding [a] (getMethod a m d)
   callWith pos f first (backTo pos (starEach [] X.env)) (backToKw pos (keywordEach [] X.env)))):PX G X (.Call (.Attribute o m apos) [] [] pos) (bH i way c mv g ai) :=
 PE.weak (sG (E:=E0) n u q F (l.mono r) x .nil mF j) λJ H Q h=>rG (t:=wB) y p (λR U b J H Rq s e k=>by
  cases (show some ([]:Vr)=some b from e);exact k [] H [] (aO.refl _) .nil ⟨λi v F h=>by simp at h,by simp[Ig]⟩) h
noncomputable def OB(x:Xx):Sx:=λU=>(x U).bind λz=>if G5 z.1.2 then some (.nx z.2) else none
noncomputable def jl(j:Nat)(x:Xx):Sx:=λU=>(x U).bind λz=>if G5 z.1.2=true/\j<z.2.length then some (.nx (z.2.set j (some (.pu z.1.2)))) else none
noncomputable def pX(x:Xx):Sx:=λU=>(x U).bind λz=>if G5 z.1.2 then some (.rt (.fr,z.1.2) z.2) else none
variable{x:Xx}
theorem sM(h:PX G X e x)(n:swapsWith e none pos.line X.env=pure false):PSV G X (.Expr e pos) (OB x) :=
 PS.weak (jO h n) λD J H b=>by
  obtain⟨R,U,out,s,e,k⟩:=b;unfold OB at e;obtain⟨⟨v,j⟩,e1,e2⟩:=Zz.mp e;split at e2
  ·rename_i d;cases e2;exact⟨R,U,v,j,s,e1,d,λu p l a f r=>k l J p a f⟩
  ·cases e2
theorem BK(h:PX G X e x):PSV G X (.Return (some e) pos) (pX x) :=
 PS.weak (qL h) λD J H d=>by
  obtain⟨R,U,out,s,e,k⟩:=d;unfold pX at e;obtain⟨⟨v,l⟩,e1,e2⟩:=Zz.mp e;split at e2
  ·rename_i j;cases e2;exact⟨R,U,v,l,s,e1,j,λu p n b f r=>k u p [] n J b f r ⟨YG,λa h=>nomatch h⟩⟩
  ·cases e2
theorem p6{j:Nat}{d:Str}{b:Pos}(h:PX G X e x)(B:X.N.Nodup)(l:X.N[j]?=some d)(w:Loc X.env.scope d)(y:swapsWith e (some (.Name d b)) pos.line X.env=pure false)(A:X.fn d=true\/X.env.scope.names.lookup d=some .local) :
  PSV G X (.Assign [.Name d b] e pos) (jl j x) :=
 PS.weak (t6 B l w h y A) λD J H z=>by
  obtain⟨R,U,out,s,e,k⟩:=z;unfold jl at e;obtain⟨⟨v,C⟩,e1,e2⟩:=Zz.mp e;split at e2
  ·rename_i l;cases e2;refine⟨R,U,v,C,s,e1,l.1,λu n E p f r=>?_⟩;obtain⟨t,q⟩:=p.val (c:=.pu v.2) (m:=.fr) l.2 (aO.refl n) r ⟨YG,λa h=>nomatch h⟩ (.inl ⟨rfl,by decide⟩);exact k _ _ n t (f.trans q)
  ·cases e2
noncomputable def jY(i:Nat)(a:List Ka)(k:Ex)(x:Xx):Sx:=λU=>(x U).bind λz=>if G5 z.1.2 then fJ i a k (λ_=>some (.fr,z.1.2)) z.2 else none
theorem zB{R:G6}{U:VS.Env}{J:L2.St}{H H1:Hp}{t t':T}{Z:List Ky}{mk mv:Md}{p d:T}{y':Unit}{Q:V}{E:Wy}{ck:Ex}{D:L2.St->Hp->Prop}(Jq:jV G)(s:SR G R U J H)(ht:U[i]?=some (some (.ow t)))(ek:keys way U=some Z)(Li:ck U=some (mk,p))(e5:pm (kf (mk,p) (mv,d)) Z t=some (t',y'))(Ip:aO H H1)(rv:Rp G H1 Q d E)(fv:Fp R U H mv E)(k:∀R' H',SR G R' (U.set i (some (.ow t'))) J H'->HG R U H R' (U.set i (some (.ow t'))) H'->D J H'):E3 (Py G i way) (tE G ck) B6 Q J H1 D:=by
   obtain⟨v,g1,g2⟩:=s.rp _ _ ht;obtain⟨w,x,F1,S,w1,w2,w3,M,w5⟩:=iQ Z Jq g2 (s.nd i t ht) e5;refine⟨R,U,t,Z,v,w,s.same Ip,ht,g1,ek,w1.same Ip,λH2 HK=>⟨R,U,mk,p,(s.same Ip).same HK,Li,λkv q Fk JT rk fk=>?_⟩⟩;have A:aO H q:=(Ip.trans HK).trans JT;have LM:Rp G q Q d E:=(rv.same HK).same JT;have fin:∀P L,Chg G H w F1 S P L->D J P:=λP L g=>by
    obtain⟨F2,MY⟩:=w5 P L g;obtain⟨z1,z2⟩:=s.mut ht g1 MY;exact k _ P z1 z2
   refine L2.iB λP_ k_=>?_;cases x with
   |lst l =>
    cases p with
    |int n =>
     obtain⟨tt,et,e7⟩:=Zz.mp (show ((fit (mv,d)).bind λt=>(Iq l.length n).map λj=>(T.lst (l.set j t),()))=some (S,y') from M);obtain⟨j,ej,e8⟩:=Zu.mp e7;cases e8;have em:=nc et;cases em;obtain⟨a,y,Fs,rfl,rfl,O,B⟩:=w2.lst_inv;have N:q a=some (.lst y):=A a _ O;have nd:=ZY.mp w3;have na:a∉E:=λz=>by rw[fv.2 a z]at O;cases O
     have C:G4 (q a):=by rw[N];exact True.intro
     have off:∀b∈Fs.flatten,b∉E:=λb hb hv=>G4.p0 (B.Hk b hb) (fv.2 b hv);refine k_ ?_;refine .inl ⟨a,y,n,j,rfl,rk.int_inv,N,by rw[← uk,B.len.1];exact ej,fin _ (a :: (Fs.set j E).flatten) ?_⟩;have keep:∀{u:V}{x:T}{F:Wy},Rp G q u x F->a∉F->Rp G (upd q a (.lst (y.set j Q))) u x F:=λr hn=>r.keep (Kept.upd (.inl C)) λb hb o' Ki=>by rw[aE (λz=>hn (by rw[← z];exact hb))];exact Ki
     refine Chg.upd A Zw C (.lst aC ((((B.same A).off C nd.1)).putAt j (keep LM na))) ?_ ?_
     ·rw[ZY];refine⟨λh=>?_,eI nd.2 fv.1 λi' L _ hi b hb=>off b (dC hi hb)⟩;rcases cN h with z | ⟨i',L,_,h1,h2⟩
      ·exact na z
      ·exact nd.1 (dC h1 h2)
     ·intro b hb;rcases Zj.mp hb with rfl | hb
      ·exact .inl Zw
      ·rcases cN hb with z | ⟨i',L,_,h1,h2⟩
       ·exact .inr (fv.2 b z)
       ·exact .inl (Zv _ (dC h1 h2))
    |_=>cases M
   |dct kd l =>
    cases kd with
    |zero =>
     have hc:(g7 p=true/\G5 d=true/\l.length<fL)/\S=.dct 0 (dput l p d):=by
      have M8:(if g7 p/\G5 d/\l.length<fL then some (T.dct 0 (dput l p d),()) else none)=some (S,y'):=M;split at M8
      ·rename_i hc;cases M8;exact⟨hc,rfl⟩
      ·cases M8
     obtain⟨⟨c1,c2,c3⟩,rfl⟩:=hc;have eF:=LM.G5 c2;subst eF;obtain⟨a,ns,y,ts,Fs,rfl,rfl,O,hl,rfl,B⟩:=dM w2;obtain⟨kk,rfl,LI⟩:=dP rk c1;subst LI;have N:q a=some (.dK (ns.zip y)):=A a _ O;have C:G4 (q a):=by rw[N];exact True.intro
     have nd:=ZY.mp w3;obtain⟨Nl,Jf,Jg,IQ,q1,q2,q3,q4,Y⟩:=mq (kk:=kk) LM hl (B.same A);have ln:(ns.zip y).length<sizeLine:=by
      have:((ns.map aJ).zip ts).length<16777216:=c3;rw[Yn,Zx]at this;rw[Yn];have:=B.len.1;have:(sizeLine:Nat)=16777216:=rfl;lia
     refine k_ ?_;refine .inr ⟨a,_,rfl,uu.k N ln,fin _ (a :: IQ.flatten) ?_⟩;rw[q1,q3];refine Chg.upd A Zw C (.dct aC q2 (q4.off C λz=>nd.1 (Y.subset z))) ?_ ?_
     ·exact ZY.mpr ⟨λz=>nd.1 (Y.subset z),nd.2.sublist Y⟩
     ·intro b hb;rcases Zj.mp hb with rfl | hb
      ·exact .inl Zw
      ·exact .inl (Zv _ (Y.subset hb))
    |succ n=>cases M
   |_=>cases M
theorem uW{w:Nat}{b:Expr}{l:Ex}{d:Pos}(Z:jV G)(B:xa w X.A)(E:Kr G X o i way)(F:PV G X b l)(he:PX G X e x)(M:∀v,assign (.Subscript o b d) X.env v=(do
   let j ← holding [v] (eval o X.env)
   let iv ← holding [v,j] (eval b X.env)
   standAt d
   holding [v,j,iv] (setItem j iv v)
   release [v,j,iv] []))(z:swapsWithSole [.Subscript o b d] e pos.line X.env=pure false)(hw:swappedStores [.Subscript o b d] e X.env=pure none)(N:(assignEach [.Subscript o b d] X.env).map (·.2)=[assign (.Subscript o b d) X.env]):PSV G X (.Assign [.Subscript o b d] e pos) (jY i way l x) :=
 PS.weak (uw he (uq E F (zj (kZ B)) M) z hw N) λD J H C=>by
  obtain⟨R,U,out,s,e,k⟩:=C;unfold jY at e;obtain⟨⟨v,S⟩,e1,e2⟩:=Zz.mp e;split at e2
  ·rename_i L;refine⟨R,U,v,S,s,e1,L,λu H' R' q f r=>?_⟩;unfold fJ at e2;obtain⟨⟨mv,tv⟩,ev,e2⟩:=Zz.mp e2;cases ev;split at e2
   ·rename_i t y;obtain⟨ks,O,e2⟩:=Zz.mp e2;obtain⟨⟨mk,tk⟩,Y,e2⟩:=Zz.mp e2;obtain⟨⟨t',y'⟩,Q,P⟩:=Zu.mp e2;cases P;exact zB Z q y O Y Q (aO.refl H') r (mv:=.fr) ⟨YG,λa h=>nomatch h⟩ λR2 H2 p n=>k _ J H2 p (f.trans n)
   ·cases e2
  ·cases e2
end
end VS
end
section
namespace L2
open PySem PySem.Spec PyProof.Rows
theorem ub{X:Cx}:dN X (.type "dict") (λf H Q=>∃(d:Addr)(a:List (Key×V)),f=[.ref d]/\H d=some (.dK a)/\∀l,H l=none->Q (.ref l) (upd H l (.dK a))):=by
 intro g s J H f v Q I j h;obtain⟨d,a,rfl,hd,q⟩:=h;obtain⟨u,rfl,m⟩:=j.one;cases m;obtain⟨i,r,t,rel,n⟩:=oo I.xh hd;refine PySem.kt_call_dict r n (by rw[← XR rel];exact i) λw p sb=>?_;exact⟨.ref s.heap.objs.size,_,I.laid (t':=s.toks) (λb o e=>(sb.2 b (Zb (ZU e))).trans (Zf _ e)) (Zo _) (nF i (beq_eq_false_iff_ne.mpr (YF (Zb I.big))) rel p),rfl,q _ (I.xh.fresh (Zo _))⟩
end L2
namespace VS
open PySem PySem.Spec PyProof.Rows L2
noncomputable def mw:Vr->Vq
 |[(_,.dct 0 l)]=>if fK (l.map (·.2))=true then some (.fr,.dct 0 l) else none
 |_=>none
section
variable{G:Gx}{X:Cx}{a b e o:Expr}{ca cb ce:Ex}{cs:Hr}{p pos pe apos:Pos}{k kr:Nat}
theorem zr:fq G (λs H Q=>∃(d:Addr)(n:List (Key×V)),s=[.ref d]/\H d=some (.dK n)/\∀l,H l=none->Q (.ref l) (upd H l (.dK n))) mw:=by
 intro R U J H l u C m t Q A e k;unfold mw at e;split at e
 ·rename_i E x;split at e
  ·rename_i j;cases e;obtain⟨v,F,rfl,rfl,r⟩:=(show RpL G H u [.dct 0 x] C from A.rp).one;obtain⟨a,ns,w,D,B,rfl,rfl,y,i,rfl,f⟩:=dM r;refine⟨a,_,rfl,y,λq h=>?_⟩;have g:aO H (upd H q (.dK (ns.zip w))):=dw h;rw[List.map_snd_zip (by rw[Zx,i,f.len.1];exact Zo _)]at j;have z:=f.G5 j;refine k _ _ (q :: B.flatten) g (.dct aC i (f.same g)) ?_;rw[z];exact Fp.new (A.same.free h) (by simp) Fp.nil
  ·cases e
 ·cases e
theorem AS(d:X.mg "dict" = none)(g:Ib G X [e] cs)(f:Gl X "dict")(he:K1 e [] X):PV G X (.Call (.Name "dict" p) [e] [] pos) (eN mw cs) :=
 jL ub zr f d vc g (he:=he) (hpl:=rfl)
theorem Dd{i d:Int}{j h:Nat}{q g:Pos}:PV G X (.Dict [some (.Constant (.int i) j q)] [.Constant (.int d) h g] pos) (mZ 0 [(Q2 i,Q2 d)]) :=
 PE.weak (vq (rM qC qC uY) rfl rfl (by simp) (by show 1<=15;decide)) λJ H Q l=>by
  obtain⟨R,U,m,r,s,e,k⟩:=l;cases (show some (Md.fr,T.dct 0 [(.int i,.int d)])=some (m,r) from e);intro p f;refine⟨aC,[(Sum.inl i,.int d)],rfl,(by show 1<=15;decide),?_⟩;rw[Bl];have:Rp G (upd H p (.dK [(Sum.inl i,V.int d)])) (.ref p) (.dct 0 ((([Sum.inl i]:List Key).map aJ).zip [.int d])) (p :: ([[]]:Yp).flatten) :=
   .dct (ks:=[Sum.inl i]) (vs:=[V.int d]) aC rfl (.cons (.int d) .nil)
  exact k _ _ _ (dw f) this ⟨by simp,λb hb=>by simp at hb;rw[hb];exact f⟩
noncomputable def wR(x y:Val):Vq:=match x.2 with
 |.dct 0 l=>if g7 y.2 then some (match df l y.2 with | some t=>sub x.1 t | none=>(.fr,.non)) else none
 |_=>none
theorem w_get(L:xa kr X.A)(N:PV G X o ca)(he:PV G X e cb)(HN:attributeBase o "get" X.env (eval o X.env)=eval o X.env)(Iy:((backTo pe (starEach [e] X.env)).all (λx=>!x.1)&&(backToKw pe (keywordEach [] X.env)).all (λx=>x.1.isSome)
   && decide (([e]:List Expr).length+([]:List Keyword).length+(if ([]:List Keyword).isEmpty then 0 else 1)<30))=true)(HC:(apos.endLine==pe.line)=true)(h:backTo pe (starEach [e] X.env)=[(false,eval e X.env)]):PV G X (.Call (.Attribute o "get" apos) [e] [] pe) (e2 wR ca cb) :=
 PE.weak (yU (kZ L) N he ⟨HN,Iy,HC,h⟩) λJ H Q M=>by
  obtain⟨R,U,m,r,s,e,u⟩:=M;unfold e2 at e;obtain⟨⟨D,x⟩,ea,e⟩:=Zz.mp e;obtain⟨⟨C,y⟩,eb,e⟩:=Zz.mp e;unfold wR at e;split at e
  ·rename_i l w;dsimp only at w;subst w;split at e
   ·rename_i P;have d:=Zl e;refine⟨R,U,D,_,s,ea,λv H1 F1 t r1 f1=>?_⟩;obtain⟨a,ks,vs,ts,Fs,rfl,rfl,j,O,rfl,q⟩:=dM r1;refine⟨a,rfl,.inl ⟨_,.inl j⟩,R,U,C,y,s.same t,eb,λv2 z F2 g r2 f2=>?_⟩;obtain⟨E,rfl,Z⟩:=dP r2 P;dsimp only at d;rw[Z]at d;rcases jP (k:=E) O (q.same g) with⟨Y,S⟩ | ⟨i,v,B,F,a1,a2,a3,a4,n⟩
    ·rw[Y]at d;cases d;refine⟨_,iJ.k (g a _ j),?_⟩;rw[S];exact u .non z [] (t.trans g) .non Fp.nil
    ·rw[a1]at d;refine⟨_,iJ.k (g a _ j),?_⟩;rw[a2];have f:=((f1.sub (Yd _ _)).sub (dv a4)).up n;unfold VS.sub at d;dsimp only at d;rw[d]at f;have et:B=r:=congrArg Prod.snd d;rw[et]at n;exact u v z F (t.trans g) n f
   ·cases e
  ·cases e
noncomputable def qq(x y:Val):Vq:=match x.2 with
 |.dct 3 l=>if g7 y.2 then (df l y.2).map (sub x.1) else none
 |_=>none
theorem sD{H:Hp}{v:V}{l:List (T×T)}{F:Wy}(r:Rp G H v (.dct 3 l) F):∃(a:Addr)(o:Obj)(f:List Key)(d:List V)(g:Vp)(j:Yp),v=.ref a/\F=j.flatten/\H a=some (.frz o (.dK (f.zip d)))/\f.length=d.length/\l=(f.map aJ).zip g/\RpL G H d g j:=by
 generalize i:T.dct 3 l=z at r;cases r with
 |dctZ h m q=>cases i;exact⟨_,_,_,_,_,_,rfl,rfl,h,m,rfl,q⟩
 |_=>cases i
theorem Cz:g0 G (FP G.K) qq:=by
 intro R U S H x y u w F1 Z m t Q d e k;obtain⟨N,x⟩:=x;unfold qq at e;split at e
 ·rename_i l h;dsimp only at h;subst h;split at e
  ·rename_i r;obtain⟨M,e1,e2⟩:=Zu.mp e;obtain⟨a,o,O,E,J,Y,rfl,rfl,s,n,rfl,q⟩:=sD d.r1;obtain⟨g,rfl,A⟩:=dP d.r2 r;rw[A]at e1;rcases jP (k:=g) n q with⟨z,_⟩ | ⟨i,v,L,F,D,C,P,B,j⟩
   ·rw[z]at e1;cases e1
   ·rw[D]at e1;cases e1;cases e2;refine .inr ⟨a,v,rfl,.inl ⟨_,g,.inr ⟨o,s⟩,rfl,C.symm⟩,?_⟩;have f:=(d.f1.sub (dv B)).up j;exact k v H F (aO.refl _) j f
  ·cases e
 ·cases e
theorem Cc(f:xa kr X.A)(i:PV G X a ca)(g:PV G X b cb)(d:lB b)(j:X.K=G.K):PV G X (.Subscript a b pos) (e2 qq ca cb) :=
 PE.weak (uT (K5.or qD (qd (kZ f))) i g d) λJ H Q h=>by rw[j];exact lU Cz h
end
noncomputable def eNew(c:Nat)(g:Mt)(b:Hr):Ex:=λU=>(b U).bind λa=>if de (trees a)=true then (g [] (trees a)).bind λz=>if eB z.1=true/\N2 z.2=true then some (.fr,.obj (c+1) ((0,.bl false) :: z.1)) else none else none
noncomputable def fS(c:Nat)(g:Fn)(d:Ex)(b:Hr):Ex:=λU=>(d U).bind λx=>match x.2 with
 |.obj e (_ :: _)=>if e=c+1 then (b U).bind λa=>(g (x.2 :: trees a)).bind λr=>match r.1 with
  |.fr=>some r
  |_=>none else none
 |_=>none
theorem xA{α:Type}:∀(l:List α)(a:Yp),Ij (l.map λ_=>false) a=[]
 |[],_=>by simp[Ij]
 |_ :: _,[]=>by simp[Ij]
 |_ :: l,F :: a=>by
  rw[Zm,Ij,Zp Zg,Yg];exact xA l a
theorem xV:∀(e:List Bool)(d:Yp),∀a∈KS e d,a∈d.flatten
 |[],_,a,h=>by simp[KS]at h
 |_ :: _,[],a,h=>by simp[KS]at h
 |b :: bs,F :: d,a,h=>by
  rw[KS]at h;rw[ZI];rcases Ze.mp h with h | h
  ·cases b with
   |true=>simp at h
   |false=>exact Yf _ (by simpa using h)
  ·exact ZP _ (xV bs d a h)
section
variable{G:Gx}{X:Cx}{i c k k':Nat}{o e:Expr}{es:List Expr}{cs:Hr}{ca:Ex}{m x:Str}{f:Addr}{fd:FuncData}{ps:List Str}{g:Mt}{h:Fn}{apos pos p:Pos}
theorem Ae{G:Gx}{H:Hp}{u:V}{t:T}{F:Wy}(r:Rp G H u t F)(h:N2 t=true):u=.non:=by
 cases r with
 |non=>rfl
 |_=>cases h
theorem yx{J:L2.St}{H:Hp}{Q:VK}{E:XK}{t:TA}(F:∀n,FnOk X.prog X.w X.K X.mg X.base HJ k f fd ps (KQ G c (List.replicate n false) g)->True)(ht:∀R U d J H (Rq:List V->Hp->Prop),SR G R U J H->cs U=some d->(∀vs j Fs,aO H j->RpL G j vs (trees d) Fs->L5 R U H d Fs->Rq vs j)->t J H Rq)(n:Nat)(hn:∀U d,cs U=some d->d.length=n)(hq:tE G (eNew c g cs) J H Q):yd (G.ct (c+1)).1 (KQ G c (List.replicate n false) g) [] E t J H Q:=by
 obtain⟨R,U,mo,r,s,e,kq⟩:=hq;unfold eNew at e;obtain⟨d,P,e1⟩:=Zz.mp e;split at e1
 ·rename_i O2;obtain⟨⟨IM,y⟩,eg,e2⟩:=Zz.mp e1;split at e2
  ·rename_i O;cases e2;have lx:=hn U d P;refine ht R U d J H _ s P λvs N Gs L Y Qr a A C B ne=>?_;have S:H a=none:=L.free C;have M:aO N (upd (upd N A (.own a)) a (.ins (G.ct (c+1)).1 A [])):=λb v q=>by
    rw[aE (λz=>by rw[z,C]at q;cases q),aE (λz=>by rw[z,B]at q;cases q)];exact q
   have em:List.replicate n false=(List.range n).map λ_=>false:=by rw[List.map_const',ZO]
   have D:Ij (List.replicate n false) Gs=[]:=by rw[em];exact xA _ _
   have fresh:∀b,(upd (upd N A (.own a)) a (.ins (G.ct (c+1)).1 A [])) b=none->H b=none:=λb z=>L.free (M.free z);refine⟨a,vs,[],trees d,[a],Gs,IM,y,by rw[ZQ],.ins (ks:=[]) (vs:=[]) (ts:=[]) (Fs:=[]) aC rfl (λ_=>rfl) .nil,(Y.same M).at (JH a) O2,?_,?_,?_,eg,λu j F' l ru=>⟨Ae ru O.2,?_⟩⟩
   ·simp[trees,lx]
   ·rw[D];simp
   ·rw[D];intro b hb Iu;have:b=a:=by simpa using hb
    subst this;exact G4.p0 (Y.Hk b (xV _ _ b Iu)) C
   ·rw[D,ZQ]at l;have back:Rp G j (.ref a) (.obj (c+1) ((0,.bl false) :: IM)) F':=by
     obtain⟨c2,a2,U6,b2,PM,NX,Pw,Qz,NM,O7,SW,SV,O9,Oa,Ik,Lh,Z⟩:=eR l.rp;cases NM;cases O7;subst SV;rw[O9];exact .ins Oa Ik (λz=>nomatch z) (Z.at G.me (fj (Ik.trans Z.len.1) O.1))
    refine kq (.ref a) j F' (λb v q=>l.keep b v (λz=>?_) (M b v (L b v q))) back ⟨l.nd,λb hb=>?_⟩
    ·have:b=a:=by simpa using z
     rw[this,S]at q;cases q
    ·rcases l.sub b hb with z | z
     ·have:b=a:=by simpa using z
      rw[this];exact S
     ·exact fresh b z
  ·cases e2
 ·cases e1
theorem EX(n:Nat)(M:Mk X.K (G.ct (c+1)).1 f)(F:FnOk X.prog X.w X.K X.mg X.base HJ k f fd ps (KQ G c (List.replicate n false) g))(d:xa k' X.A)(q:k+1<=k')(r:Gl X x)(l:X.mg x=some (.ref (G.ct (c+1)).1))(u:Binds X.K fd ps [])(v:Ib G X (e :: es) cs)(j:∀U a,cs U=some a->a.length=n)(y:K3 x)(he:K1 e es X)(b:K2 pos es X):PV G X (.Call (.Name x p) (e :: es) [] pos) (eNew c g cs) :=
 PE.weak (Ay (E:=E0) M F (d.mono q) r l u .nil mF v y he b) λJ H Q h=>yx (X:=X) (k:=k) (f:=f) (fd:=fd) (ps:=ps) (t:=M9 G cs) (λ_ _=>True.intro) (λR U a J H Rq s e k=>⟨R,U,a,s,e,k⟩) n j h
theorem CK(M:Mk X.K (G.ct (c+1)).1 f)(F:FnOk X.prog X.w X.K X.mg X.base HJ k f fd ps (KQ G c [] g))(b:xa k' X.A)(j:k+1<=k')(l:Gl X x)(d:X.mg x=some (.ref (G.ct (c+1)).1))(n:Binds X.K fd ps [])(q:K3 x):PV G X (.Call (.Name x p) [] [] pos) (eNew c g ai) :=
 PE.weak (xO (E:=E0) M F (b.mono j) l d n .nil mF q) λJ H Q h=>yx (X:=X) (k:=k) (f:=f) (fd:=fd) (ps:=ps) (t:=wB) (λ_ _=>True.intro) (λR U a J H Rq s e k=>by
  cases (show some ([]:Vr)=some a from e);exact k [] H [] (aO.refl _) .nil ⟨λi v F h=>by simp at h,by simp[Ig]⟩) 0 (λU a e=>by
  cases (show some ([]:Vr)=some a from e);rfl) h
theorem uJ{g:Nat->Str}(b:∀k,g k≠m):∀(ns:Vv)(a:List V),((ns.map g).zip a).lookup m=none
 |[],a=>by simp
 |_ :: _,[]=>by simp
 |n :: ns,v :: a=>by
  rw[Zm,ZV,Ya];have:(m==g n)=false:=by
   rw[beq_eq_false_iff_ne];exact λz=>b n z.symm
  rw[this];exact uJ b ns a
theorem uF{J:L2.St}{H:Hp}{Q:VK}{E:XK}{t:TA}(P:∀k,(G.ct (c+1)).2 k≠m)(N:∀R U d J H (Rq:List V->Hp->Prop),SR G R U J H->cs U=some d->(∀l j A,aO H j->RpL G j l (trees d) A->L5 R U H d A->Rq l j)->t J H Rq)(O:tE G (fS c h ca cs) J H Q):vk (G.ct (c+1)).1 m (Kb G h) [] E (tE G ca) t J H Q:=by
 obtain⟨R,U,mo,r,s,e,M⟩:=O;unfold fS at e;obtain⟨⟨L,y⟩,ea,e1⟩:=Zz.mp e;split at e1
 ·rename_i c' q0 fs B;dsimp only at B;subst B;split at e1
  ·rename_i S;subst S;obtain⟨d,Z,e2⟩:=Zz.mp e1;obtain⟨⟨n,F⟩,eg,q⟩:=Zz.mp e2;refine⟨R,U,L,_,s,ea,λv H1 F1 w r1 f1=>?_⟩;obtain⟨c2,a,dx,b,ns,l,ts,A,ec,rfl,eb,ef,eF,Y,hl,hb,ra⟩:=eR r1;cases ec;refine⟨a,dx,_,rfl,Y,uJ P _ _,N R U d J H1 _ (s.same w) Z λus H2 Gs z NZ NK=>?_⟩;rw[ZQ];refine⟨_ :: trees d,F1 :: Gs,n,F,.cons (r1.same z) NZ,eg,λu j F' JT D C=>?_⟩;cases n with
   |fr =>
    cases q;exact M u j F' ((w.trans z).trans JT) D ⟨C.1,λb hb=>w.free (z.free (C.2 b hb))⟩
   |pu=>cases q
   |bo=>cases q
  ·cases e1
 ·cases e1
theorem D6{j:Sem Bool}(u:∀k,(G.ct (c+1)).2 k≠m)(r:PV G X o ca)(z:IB X.K (G.ct (c+1)).1)(v:Meth X.K (G.ct (c+1)).1 m f)(F:FnOk X.prog X.w X.K X.mg X.base HJ k f fd ps (Kb G h))(n:xa k' X.A)(y:k<=k')(B:Binds X.K fd ps [])(C:Ib G X (e :: es) cs)(D:K1 e es X)(a:K2 pos es X)(l:eval (.Call (.Attribute o m apos) (e :: es) [] pos) X.env=(do
   let b ← eval o X.env
   standAt apos.atName
   let (f,first) ← holding [b] (getMethod b m j)
   callWith pos f first (backTo pos (starEach (e :: es) X.env)) (backToKw pos (keywordEach [] X.env)))):PV G X (.Call (.Attribute o m apos) (e :: es) [] pos) (fS c h ca cs) :=
 PE.weak (qj (E:=E0) r z v F (n.mono y) B .nil mF C D a l) λJ H Q q=>uF (t:=M9 G cs) u (λR U d J H Rq s e k=>⟨R,U,d,s,e,k⟩) q
theorem Bf{d:Sem Bool}(r:∀k,(G.ct (c+1)).2 k≠m)(n:PV G X o ca)(z:IB X.K (G.ct (c+1)).1)(u:Meth X.K (G.ct (c+1)).1 m f)(F:FnOk X.prog X.w X.K X.mg X.base HJ k f fd ps (Kb G h))(l:xa k' X.A)(y:k<=k')(B:Binds X.K fd ps [])(j:eval (.Call (.Attribute o m apos) [] [] pos) X.env=(do
   let a ← eval o X.env
   standAt apos.atName
   let (f,first) ← holding [a] (getMethod a m d)
   callWith pos f first (backTo pos (starEach [] X.env)) (backToKw pos (keywordEach [] X.env)))):PV G X (.Call (.Attribute o m apos) [] [] pos) (fS c h ca ai) :=
 PE.weak (sG (E:=E0) n z u F (l.mono y) B .nil mF j) λJ H Q q=>uF (t:=wB) r (λR U b J H Rq s e k=>by
  cases (show some ([]:Vr)=some b from e);exact k [] H [] (aO.refl _) .nil ⟨λi v F h=>by simp at h,by simp[Ig]⟩) q
end
noncomputable def nQ(i:Nat)(a:List Ka)(j:Nat)(U:VS.Env):Option Out:=match (U[i]?:Option (Vs)),(U[j]?:Option (Vs)) with
 |some (some (.ow t)),some (some (.ow u))=>if i≠j then (keys a U).bind λb=>(pm (λx=>aI x [(.fr,u)]) b t).map λz=>.nx ((U.set j none).set i (some (.ow z.1))) else none
 |_,_=>none
open Classical in
noncomputable def less(H:Hp)(F:Wy):Hp:=λb=>if b∈F then none else H b
section
variable{G:Gx}{X:Cx}{i j:Nat}{way:List Ka}{o:Expr}{y:Str}{apos pe pos p1:Pos}
theorem qW{H:Hp}{F:Wy}{b:Addr}(h:b∈F):less H F b=none:=Zs h
theorem iD{H:Hp}{F:Wy}{b:Addr}(h:b∉F):less H F b=H b:=Zp h
theorem iH{H:Hp}{F:Wy}{b:Addr}{o:HO}(h:less H F b=some o):H b=some o/\b∉F:=by
 by_cases q:b∈F
 ·rw[qW q]at h;cases h
 ·rw[iD q]at h;exact⟨h,q⟩
theorem wV{H:Hp}{F:Wy}(h:∀b∈F,G4 (H b)):Kept H (less H F) :=
 ⟨λb a e=>by
  rw[iD (λz=>by have:=h b z;rw[e]at this;exact this)];exact e,λb o u e=>by
  rw[iD (λz=>by have:=h b z;rw[e]at this;exact this)];exact e⟩
theorem BW(Jq:jV G)(ho:Kr G X o i way)(hK:X.K=G.K)(hN:X.N[j]?=some y)(hv:JG X.env.scope y)(hd:K3 y)(hcd:K4 y)(HN:attributeBase o "append" X.env (eval o X.env)=eval o X.env)(Iy:((backTo pe (starEach [.Name y p1] X.env)).all (λx=>!x.1)&&(backToKw pe (keywordEach [] X.env)).all (λx=>x.1.isSome)
   && decide ([Expr.Name y p1].length+([]:List Keyword).length+(if ([]:List Keyword).isEmpty then 0 else 1)<30))=true)(HC:(apos.endLine==pe.line)=true)(hs:starEach [.Name y p1] X.env=(false,eval (.Name y p1) X.env) :: starEach [] X.env)(HE:(backTo pe (starEach [] X.env)).any (·.1)=false)(JY:swapsWith (.Call (.Attribute o "append" apos) [.Name y p1] [] pe) none pos.line X.env=pure false) :
  PSV G X (.Expr (.Call (.Attribute o "append" apos) [.Name y p1] [] pe) pos) (nQ i way j) :=
 PS.weak (jO (rN XU Xb Xc iE ho (eT (iu hN hv hd hcd) iX hs) HN Iy HC hs HE) JY) λD J H hq=>by
  obtain⟨R,U,out,s,e,k⟩:=hq;unfold nQ at e;split at e
  ·rename_i t u ht E;split at e
   ·rename_i Kl;obtain⟨r,ek,e3⟩:=Zz.mp e;obtain⟨⟨O,x2⟩,e5,e6⟩:=Zu.mp e3;cases e6;obtain⟨M,j1,j2⟩:=s.rp _ _ E;have TU:Rp G H M u (R j):=j2;have V9:=s.nd j u E;have mj:∀b∈R j,G4 (H b):=TU.Hk;have kp:=wV mj;have QJ:∀f C,f≠j->U[f]?=some (some C)->∀b∈R f,b∉R j:=λf C n h b hb Iu=>s.sep j f u C E h (YF n) b Iu hb;have s0:SR G R (U.set j none) J (less H (R j)):=⟨(s.drop j).len,λf C h=>by
     obtain⟨n,h'⟩:=cZ h;obtain⟨v,Q,h2⟩:=s.rp f C h';exact⟨v,Q,h2.keep kp λb hb d N3=>by rw[iD (QJ f C n h' b hb)];exact N3⟩,(s.drop j).nd,(s.drop j).sep⟩
    have Ry:(U.set j none)[i]?=some (some (.ow t)):=by
     rw[Y4 (YF Kl)];exact ht
    obtain⟨v,Q,h2⟩:=s0.rp _ _ Ry;obtain⟨w,x,F1,x3,w1,w2,w3,L,w5⟩:=iQ r Jq h2 (s0.nd i t Ry) e5;unfold aI at L;split at L
    ·rename_i l yv heq;cases heq;obtain⟨z,ez,e7⟩:=Zz.mp L;cases (show some u=some z from ez);split at e7
     ·rename_i hl;cases e7;obtain⟨a,Z,Gs,rfl,rfl,ha,ra⟩:=w2.lst_inv;obtain⟨R8,Uk⟩:=iH ha;have Vj:IP G H r v (.ref a):=by
       have:∀{r:List Ky}{v w:V},IP G (less H (R j)) r v w->IP G H r v w:=by
        intro r v w p
        induction p with
        |nil v=>exact .nil v
        |fld h l _ A=>exact .fld (iH h).1 l A
        |ix h l m _ A=>exact .ix (iH h).1 l m A
        |key h l _ A=>exact .key (iH h).1 l A
        |un _ A=>exact .un A
       exact this w1
      refine⟨R,U,t,r,v,.ref a,s,ht,Q,ek,Vj,λS B=>⟨.inl ⟨rfl,Z,by rw[hK];exact Hc.of (B a _ R8)⟩,M,j1,a,Z,M,rfl,rfl,B a _ R8,by rw[ra.len.1];exact hl,?_⟩⟩;have P:G4 (S a):=by rw[B a _ R8];exact True.intro
      have OL:=ZY.mp w3;have QW:∀b∈Gs.flatten,b∉R j:=λb hb Iu=>by
       have:=ra.Hk b hb;rw[qW Iu]at this;exact this
      have F:∀b d,less H (R j) b=some d->S b=some d:=λb d h=>B b d (iH h).1;have kl:Kept (less H (R j)) S:=⟨λb xs h=>F b _ h,λb d u h=>F b _ h⟩
      have g:Chg G (less H (R j)) (.ref a) (a :: Gs.flatten) (.lst (l++[u])) (upd S a (.lst (Z++[M]))) (a :: (Gs++[R j]).flatten):=by
       refine⟨kl.trans (Kept.upd (.inl P)),λb d hb h=>by rw[aE (λz=>hb (by rw[z];exact Zw))];exact F b d h,λb h z=>?_,.lst aC ((RpL.off (ra.keep kl λb hb d h=>F b d h) P OL.1).append (.cons (((TU.same B)).keep (Kept.upd (.inl P)) λb hb d ho=>by rw[aE (λz=>Uk (by rw[← z];exact hb))];exact ho) .nil)),?_,λb hb=>?_⟩
       ·by_cases q:b=a
        ·rw[q,aC]at z;cases z
        ·rw[aE q]at z;cases e:less H (R j) b with
         |none=>exact h e
         |some d=>rw[F b d e]at z;cases z
       ·rw[Z4];refine ZY.mpr ⟨λm=>?_,ZK.mpr ⟨OL.2,by simpa using V9,λb hb c hc z=>?_⟩⟩
        ·rcases Ze.mp m with m | m
         ·exact OL.1 m
         ·exact Uk (by simpa using m)
        ·subst z;exact QW b hb (by simpa using hc)
       ·rcases Zj.mp hb with rfl | hb
        ·exact .inl Zw
        ·rw[Z4]at hb;rcases Ze.mp hb with hb | hb
         ·exact .inl (Zv _ hb)
         ·exact .inr (qW (by simpa using hb))
      obtain⟨F2,g2⟩:=w5 _ _ g;obtain⟨z1,Y⟩:=s0.mut Ry Q g2;have back:∀b,less H (R j) b=none->cy R U b\/H b=none:=λb h=>by
       by_cases q:b∈R j
       ·exact .inl ⟨j,u,E,q⟩
       ·rw[iD q]at h;exact .inr h
      have LN:∀b,cy R (U.set j none) b->cy R U b:=λb ⟨j',O,q1,q2⟩=>⟨j',O,(cZ q1).2,q2⟩
      have VX:∀b,eE R (U.set j none) b->eE R U b:=λb ⟨j',O,q1,q2⟩=>⟨j',O,(cZ q1).2,q2⟩
      refine k _ J _ z1 ⟨λb d h n=>?_,λb h z=>?_,λb h=>?_,λb h=>?_,(Kept.of B).trans (Kept.upd (.inl P))⟩
      ·have nj:b∉R j:=λz=>n ⟨j,u,E,z⟩;exact Y.keep b d (by rw[iD nj];exact h) λz=>n (LN b z)
      ·by_cases q:b=a
       ·rw[q,aC]at z;cases z
       ·rw[aE q]at z;exact h (B.free z)
      ·rcases Y.ow b h with h | h
       ·exact .inl (LN b h)
       ·exact back b h
      ·rcases Y.pu b h with h | h | h
       ·exact .inl (VX b h)
       ·exact .inr (.inl (LN b h))
       ·exact(back b h).elim (λz=>.inr (.inl z)) λz=>.inr (.inr z)
     ·cases e7
    ·cases L
   ·cases e
  ·cases e
end
end VS
end
section
namespace VS
open PySem PySem.Spec PyProof.Rows L2
noncomputable def isInt:T->Bool
 |.int _=>true
 |_=>false
noncomputable def rB(i:Nat):JL:=λU=>match (U[i]?:Option (Vs)) with
 |some (some (.pu (.dct 3 l)))=>if (l.all λp=>isInt p.1)=true then some (.fr,l.map (·.1)) else none
 |_=>none
noncomputable def yV(i:Nat)(a:Tg)(b:Ex):Sx:=λU=>match (U[i]?:Option (Vs)) with
 |some (some (.ow (.dct 0 l)))=>(du 1 a (rB i) none b (U.set i (some (.pu (.dct 3 l))))).bind λv=>match v.1 with
  |.fr=>some (.rt v (U.set i none))
  |_=>none
 |_=>none
theorem zip_inj{α β:Type}:∀{a c:List α}{b d:List β},a.length=b.length->c.length=d.length->a.zip b=c.zip d->a=c
 |[],[],_,_,_,_,_=>rfl
 |[],_ :: _,_,[],_,h,_=>by simp at h
 |[],_ :: _,[],_ :: _,_,_,h=>by simp at h
 |[],_ :: _,_ :: _,_ :: _,h,_,_=>by simp at h
 |_ :: _,_,[],_,h,_,_=>by simp at h
 |_ :: _,[],_ :: _,[],_,_,h=>by simp at h
 |_ :: _,[],_ :: _,_ :: _,_,h,_=>by simp at h
 |_ :: _,_ :: _,_ :: _,[],_,h,_=>by simp at h
 |x :: a,y :: c,z :: b,w :: d,f,e,h=>by
  rw[ZV,ZV]at h;obtain⟨e1,e2⟩:=List.cons.inj h;rw[zip_inj (by simpa using f) (by simpa using e) e2,(XT e1).1]
section
variable{G:Gx}{X:Cx}{i:Nat}{elt tg:Expr}{sc:Scope}{pos pos' p1:Pos}{N:List Str}{x:Str}{g:Tg}{ce:Ex}
theorem DS(i:Nat)(N:List Str)(Hv:X.calm=true)(hN:X.N[i]?=some x)(hv:JG X.env.scope x)(hd:K3 x)(Y:K4 x)(Jp:pb 1 g)(hg:∀cl C s H fp,M4 G (cF X N sc cl C s H fp) tg g)(he:∀cl C s H fp,PV G (cF X N sc cl C s H fp) elt ce)(JJ:o9 X.env sc=true)(Kk:lX sc (N.drop 1) X.N=true)(Kn:1<=N.length)(hs:∀y,foldedSetIterable (.Name x p1) X.env y=pure y) :
  PSV G X (.Return (some (.ListComp elt [⟨tg,.Name x p1,[],0⟩] sc pos)) pos') (yV i g ce) :=
 PS.weak (qL (qx Hv (EK (iu hN hv hd Y)) JJ Kk Kn (λcl C s H fp=>⟨hg cl C s H fp,nM,he cl C s H fp⟩) hs)) λD J H hq=>by
  obtain⟨R,U,out,s,e,k⟩:=hq;unfold yV at e;split at e
  ·rename_i l B;obtain⟨⟨mv,tv⟩,ev,e1⟩:=Zz.mp e;have MW:mv=.fr/\out=.rt (.fr,tv) (U.set i none):=by
    cases mv with
    |fr=>cases e1;exact⟨rfl,rfl⟩
    |pu=>cases e1
    |bo=>cases e1
   obtain⟨rfl,rfl⟩:=MW;obtain⟨v,Z,g2⟩:=s.rp _ _ B;obtain⟨a,ns,d,P,O,rfl,eF,ha,MQ,rfl,ra⟩:=dM g2;have Ir:i<U.length:=(ZX.mp B).1;have nd:=s.nd i _ B;rw[eF]at nd;have Ie:=ZY.mp nd;refine⟨.ref a,Z,a,ns.zip d,rfl,ha,λo=>?_⟩;have mu:G4 (H a):=by rw[ha];exact True.intro
   have kp:Kept H (upd H a (.frz o (.dK (ns.zip d)))):=Kept.upd (.inl mu);have es:J.set i (some (.ref a))=J:=by
    obtain⟨h,e⟩:=ZX.mp Z;rw[← e];exact WU h
   have aΦ:a∈R i:=by rw[eF];exact Zw
   have sub:∀b∈O.flatten,b∈R i:=λb hb=>by rw[eF];exact Zv _ hb
   have s1:SR G (kc R i O.flatten) (U.set i (some (.pu (.dct 3 ((ns.map aJ).zip P))))) J (upd H a (.frz o (.dK (ns.zip d)))):=by
    have:=s.put (c:=.pu (.dct 3 ((ns.map aJ).zip P))) (v:=.ref a) (F:=O.flatten) (H':=upd H a (.frz o (.dK (ns.zip d)))) Ir (.dctZ aC MQ (ra.off mu Ie.1)) (λj c' n S w q=>q.keep kp λb hb ob ho=>by
     rw[aE (λz=>s.sep i j _ c' B S (YF n) a aΦ (by rw[← z];exact hb))];exact ho) (λ_ z=>nomatch z) (λ_ z=>nomatch z) λj u n S b hb Iu=>s.sep j i u _ S B n b hb (sub b Iu)
    rw[es]at this;exact this
   have hT:tE G (du 1 g (rB i) none ce) J (upd H a (.frz o (.dK (ns.zip d)))) D.rt:=by
    refine⟨_,_,.fr,tv,s1,ev,λu H' F M r f=>?_⟩;have ee:(U.set i (some (.pu (.dct 3 ((ns.map aJ).zip P))))).set i none=U.set i none:=by rw[List.set_set]
    have sd:=(s1.drop i).same M;rw[ee]at sd;have LN:∀b,cy (kc R i O.flatten) (U.set i none) b->cy R U b:=λb ⟨j,t,A,m⟩=>by
     obtain⟨n,QM⟩:=cZ A;rw[fG n]at m;exact⟨j,t,QM,m⟩
    refine k u H' F _ J sd ⟨λb ob h n=>?_,λb h z=>?_,λb h=>.inl (LN b h),λb ⟨j,t,A,m⟩=>?_,kp.trans (Kept.of M)⟩ r ⟨f.1,λb hb=>.inl ?_⟩
    ·have nb:b≠a:=λz=>n ⟨i,_,B,by rw[z];exact aΦ⟩;exact⟨M b ob (by rw[aE nb];exact h),λz=>n (LN b z)⟩
    ·have L:=M.free z;by_cases q:b=a
     ·rw[q,aC]at L;cases L
     ·rw[aE q]at L;exact h L
    ·obtain⟨n,QM⟩:=cZ A;rw[fG n]at m;exact .inl ⟨j,t,QM,m⟩
    ·have:=f.2 b hb;by_cases q:b=a
     ·rw[q,aC]at this;cases this
     ·rw[aE q]at this;exact this
   obtain⟨R2,U2,m2,l2,s2,e2,k2⟩:=nk (cond:=none) Jp hT;refine k2 (Te a o (ns.zip d)) _ [] (aO.refl _) ?_ (λb hb=>nomatch hb);unfold rB at e2;split at e2
   ·rename_i l3 h3;split at e2
    ·rename_i hint;cases e2;obtain⟨v3,A,m⟩:=s2.rp _ _ h3;rw[Z]at A;cases A;obtain⟨a3,o3,Q,Ti,QG,Fs3,SX,_,J8,Ji,rfl,Ls⟩:=sD m;cases SX;rw[aC]at J8;have hz:ns.zip d=Q.zip Ti:=HO.dK.inj (HO.frz.inj (Zl J8)).2;have ek:=zip_inj MQ Ji hz;subst ek;have em:((ns.map aJ).zip QG).map (·.1)=ns.map aJ:=XC (by rw[Zx,Ji,Ls.len.1];exact Zo _);have zl:(ns.zip d).length=ns.length:=by rw[Yn,MQ,Nat.min_self]
     refine⟨λH2 G9 _=>⟨λn t E=>?_,λn E=>?_⟩,λb hb=>nomatch hb⟩
     ·rw[em,ZM]at E;obtain⟨kk,LR,KY⟩:=Zu.mp E;have T6:=(ZX.mp LR).1;refine⟨⟨G9.frz _ _ _ aC,by rw[zl];exact T6⟩,λy H3 hy=>?_⟩;obtain⟨rfl,p,hp,rfl⟩:=hy;refine⟨aO.refl _,[],?_,λb hb=>nomatch hb⟩;have P0:p.1=kk:=by
       have Np:(ns.zip d)[n]?=some p:=hp;rw[YK]at Np;rw[LR]at Np;exact(Zl Np.1).symm
      have hi:isInt t=true:=by
       have:=Yk.mp hint (t,QG[n]'(by rw[← Ls.len.1,← Ji];exact T6)) (by
        refine Xj (i:=n) ?_;rw[YK];exact⟨by rw[ZM,LR];exact congrArg some KY,Zq _⟩)
       exact this
      rw[P0,← KY];rw[← KY]at hi;cases kk with
      |inl n=>exact .int n
      |inr z=>cases hi
     ·refine⟨G9.frz _ _ _ aC,?_⟩;rw[em,Zx]at E;rw[zl];exact E
    ·cases e2
   ·cases e2
  ·cases e
end
noncomputable def D4(c:Nat):Option (Vs)->Bool
 |some (some (.ow (.obj a (_ :: _))))=>a==c+1
 |_=>false
noncomputable def pT(i c:Nat)(b:List Bool)(g:Mt)(x:Xx)(d:Hr)(U:VS.Env):Option (Val×VS.Env):=if D4 c (U[i]?:Option (Vs))=true then (x U).bind λz=>if G5 z.1.2=true then (match (z.2[i]?:Option (Vs)) with
 |some (some (.ow t))=>(d z.2).bind λa=>(mI c b g ((.fr,z.1.2) :: a) t).map λr=>(r.2,z.2.set i (some (.ow r.1)))
 |_=>none) else none else none
section
variable{G:Gx}{X:Cx}{i c k k':Nat}{e:Expr}{es:List Expr}{cs:Hr}{m y:Str}{f:Addr}{fd:FuncData}{ps:List Str}{mv:List Bool}{g:Mt}{x:Xx}{apos pos p1:Pos}
theorem Ai{pl:Sem Bool}(hn:∀k,(G.ct (c+1)).2 k≠m)(hN:X.N[i]?=some y)(hv:JG X.env.scope y)(hd:K3 y)(Z:K4 y)(hc:IB X.K (G.ct (c+1)).1)(hm:Meth X.K (G.ct (c+1)).1 m f)(F:FnOk X.prog X.w X.K X.mg X.base HJ k f fd ps (KQ G c mv g))(hr:xa k' X.A)(hk:k<=k')(hb:Binds X.K fd ps [])(h1:PX G X e x)(ha:Ib G X es cs)(IT:K1 e es X)(S:K2 pos es X)(ht:eval (.Call (.Attribute (.Name y p1) m apos) (e :: es) [] pos) X.env=(do
   let ov ← eval (.Name y p1) X.env
   standAt apos.atName
   let (f,first) ← holding [ov] (getMethod ov m pl)
   callWith pos f first (backTo pos (starEach (e :: es) X.env)) (backToKw pos (keywordEach [] X.env)))):PX G X (.Call (.Attribute (.Name y p1) m apos) (e :: es) [] pos) (pT i c mv g x cs) :=
 PE.weak (qj (E:=E0) (iu hN hv hd Z) hc hm F (hr.mono hk) hb .nil mF (eT h1 ha IT) IT S ht) λJ H Q h=>by
  obtain⟨R,U,v,U',s,e,him,kq⟩:=h;unfold pT at e;split at e
  ·rename_i C;obtain⟨⟨B,U1⟩,e1,e2⟩:=Zz.mp e;split at e2
   ·rename_i RS;unfold D4 at C;split at C
    ·rename_i c0 q0 Si h0;have ec0:c0=c+1:=by simpa using C
     subst ec0;obtain⟨v0,g1,g2⟩:=s.rp _ _ h0;have MY:Rp G H v0 (.obj (c+1) (q0 :: Si)) (R i):=g2;obtain⟨c',a,dx,b,ns,j,ts,Fs,ec,rfl,eb,ef,eF,hA,hl,Uj,ra⟩:=eR MY;cases ec;have key:∀(ns:Vv)(j:List V),((ns.map (G.ct (c+1)).2).zip j).lookup m=none:=by
      intro ns
      induction ns with
      |nil=>intro j;simp
      |cons n ns ih =>
       intro j;cases j with
       |nil=>simp
       |cons v j =>
        rw[Zm,ZV,Ya];have:(m==(G.ct (c+1)).2 n)=false:=by
         rw[beq_eq_false_iff_ne];exact λz=>hn n z.symm
        rw[this];exact ih j
     refine⟨.ref a,g1,a,dx,_,rfl,hA,key _ _,R,U,B,U1,s,e1,RS,λP H1 r s1 f1 r1=>?_⟩;dsimp only at e2;split at e2
     ·rename_i t1 MO;obtain⟨q,el,e3⟩:=Zz.mp e2;obtain⟨⟨x3,y3⟩,o,e4⟩:=Zu.mp e3;cases e4;obtain⟨va,q1,w2⟩:=s1.rp _ _ MO;rw[g1]at q1;cases q1;have w3:=s1.nd i t1 MO;refine⟨r,U1,q,s1,el,λO H2 L l NZ NK=>?_⟩;show KQ G c mv g (V.ref a :: ((P :: O)++[])) H2 Q E0;rw[ZQ];unfold mI at o;split at o
      ·rename_i c1 d fs;split at o
       ·rename_i P7;obtain⟨rfl,LC,D,O2⟩:=P7;obtain⟨⟨IM,z⟩,eg,e7⟩:=Zz.mp o;split at e7
        ·rename_i LB;cases e7;have QE:Rp G H1 (.ref a) (.obj (c+1) ((0,.bl d) :: fs)) (r i):=w2;obtain⟨c2,a2,U6,b2,PM,NX,Pw,Qz,NM,O7,SW,rfl,O9,Oa,Ik,Lh,PD⟩:=eR QE;cases NM;cases O7;cases SW;have Kd:PM.length=Pw.length:=Ik.trans PD.len.1;have Uz:L5 r U1 H1 ((.fr,B.2) :: q) ([] :: L):=⟨λn v' M a1 a2=>by
          cases n with
          |zero=>cases a1;cases a2;exact Fp.nil
          |succ n=>exact NK.each n v' M (by simpa using a1) (by simpa using a2),by
          show ([]++Ig q L).Nodup;exact NK.nd⟩
         have Nh:=vD D Uz;have Tq:RpL G H2 (P :: O) (trees ((.fr,B.2) :: q)) ([] :: L):=.cons (r1.same l) NZ;refine⟨a,P :: O,PM.zip Pw,trees ((.fr,B.2) :: q),r i,[] :: L,IM,z,rfl,?_,Tq.at (JH a) O2,?_,?_,?_,eg,λu H' M p ru=>?_⟩
         ·rw[O9];exact .ins (l a _ Oa) Ik (λ_=>rfl) ((PD.same l).at (JH a) (fj Kd LC))
         ·rw[j3 D];simp[trees]
         ·refine ZK.mpr ⟨w3,Uz.nd.sublist (n8 D),λd t b2 Lh z=>?_⟩;subst z;exact G4.p0 (w2.Hk d t) (Nh d Lh)
         ·rw[qQ D Tq];exact λd _ z=>nomatch z
         ·have back:Rp G H' (.ref a) (.obj (c+1) ((0,.bl d) :: IM)) M:=by
           obtain⟨c3,a3,dx3,b3,ns3,Ti,QG,Fs3,ec3,SX,eb3,ef3,eF3,hA3,Ji,hb3,Ls⟩:=eR p.rp;cases ec3;cases SX;subst ef3;rw[eF3];exact .ins hA3 Ji Lh (Ls.at G.me (fj (Ji.trans Ls.len.1) LB.1))
          have gG:Chg G H1 (.ref a) (r i) (.obj (c+1) ((0,.bl d) :: IM)) H' M:=⟨(Kept.of l).trans p.kept,λd o1 t Y=>p.keep d o1 (λz=>(Ze.mp z).elim t λz=>by rw[Nh d z]at Y;cases Y) (l d o1 Y),λd h=>p.Hk d λz=>h (l.free z),back,p.nd,λd t=>by
           rcases p.sub d t with z | z
           ·rcases Ze.mp z with z | z
            ·exact .inl z
            ·exact .inr (Nh d z)
           ·exact .inr (l.free z)⟩
          obtain⟨z1,z2⟩:=s1.mut MO g1 gG;exact kq u H' _ z1 (f1.trans z2) (ru.at G.me (nR z LB.2))
        ·cases e7
       ·cases o
      ·cases o
     ·cases e2
    ·cases C
   ·cases e2
  ·cases e
end
noncomputable def MZ(a:List Str)(k:Nat):Str:=match a[k]? with
 |some x=>x
 |none=>⟨#[k]⟩
noncomputable def LW(a:List Str)(K:Xf)(C D:Addr):Gx:=⟨K,λc=>(if c=2 then D else C,MZ a),λ_=>none⟩
theorem As{a:List Str}(i:a.Nodup)(h:∀x∈a,x.cps.size≠1)(k b:Nat)(e:MZ a k=MZ a b):k=b:=by
 unfold MZ at e;by_cases f:k<a.length
 ·by_cases d:b<a.length
  ·rw[Zq f,Zq d]at e;exact(Vx i).mp e
  ·rw[Zq f,Yj (Yu d)]at e;have g:a[k]=(⟨#[b]⟩:Str):=e;exact absurd (by rw[g];rfl) (h _ (Yt f))
 ·by_cases d:b<a.length
  ·rw[Yj (Yu f),Zq d]at e;have g:(⟨#[k]⟩:Str)=a[b]:=e;exact absurd (by rw[← g];rfl) (h _ (Yt d))
  ·rw[Yj (Yu f),Yj (Yu d)]at e;have g:(⟨#[k]⟩:Str)=⟨#[b]⟩:=e;cases g;rfl
theorem AM{a:List Str}{K:Xf}{C D:Addr}{m:Me}(b:a.Nodup)(h:∀x∈a,x.cps.size≠1):jV ((LW a K C D).at m):=λ_ k d e=>As b h k d e
theorem iw{a:List Str}{x:Str}(h:x∉a)(d:x.cps.size≠1)(k:Nat):MZ a k≠x:=λe=>by
 unfold MZ at e;split at e
 ·rename_i y b;exact h (e ▸ Xj b)
 ·exact d (by rw[← e];rfl)
theorem v9{a:List Str}{K:Xf}{C D:Addr}{m:Me}{k:Nat}{f:Str}(b:a[k]?=some f)(h:IB K C)(g:IB K D)(e:bh K C f)(d:bh K D f):HY ((LW a K C D).at m) K k f :=
 ⟨λc=>by show MZ a k=f;unfold MZ;rw[b],λc=>by show IB K (if c+1=2 then D else C);split<;>assumption,λc=>by show bh K (if c+1=2 then D else C) f;split<;>assumption⟩
structure MtAt(P:Program)(w:World)(K:Xf)(mg:X9)(base:Heap)(k:Nat)(G:Gx)(c:Nat)(x:Str)(ps:List Str)(mv:List Bool)(g:Mt):Prop where
 ex:∃f fd,FnOk P w K mg base HJ k f fd ps (KQ G c mv g)/\Meth K (G.ct (c+1)).1 x f/\Binds K fd ps []
 cl:IB K (G.ct (c+1)).1
 no:∀k,(G.ct (c+1)).2 k≠x
structure MpAt(P:Program)(w:World)(K:Xf)(mg:X9)(base:Heap)(k:Nat)(G:Gx)(c:Nat)(x:Str)(ps:List Str)(h:Fn):Prop where
 ex:∃f fd,FnOk P w K mg base HJ k f fd ps (Kb G h)/\Meth K (G.ct (c+1)).1 x f/\Binds K fd ps []
 cl:IB K (G.ct (c+1)).1
 no:∀k,(G.ct (c+1)).2 k≠x
structure InAt(P:Program)(w:World)(K:Xf)(mg:X9)(base:Heap)(k:Nat)(G:Gx)(c n:Nat)(x:Str)(ps:List Str)(g:Mt):Prop where
 ex:∃f fd,FnOk P w K mg base HJ k f fd ps (KQ G c (List.replicate n false) g)/\Mk K (G.ct (c+1)).1 f/\Binds K fd ps []
 mg:mg x=some (.ref (G.ct (c+1)).1)
section
variable{P:Program}{w:World}{K:Xf}{mg:X9}{base:Heap}{k c n:Nat}{G:Gx}{x:Str}{ps:List Str}{mv:List Bool}{g:Mt}
theorem MtAt.at{m:Me}(h:MtAt P w K mg base k G c x ps mv g):MtAt P w K mg base k (G.at m) c x ps mv g:=⟨h.ex,h.cl,h.no⟩
theorem InAt.at{m:Me}(h:InAt P w K mg base k G c n x ps g):InAt P w K mg base k (G.at m) c n x ps g:=⟨h.ex,h.mg⟩
theorem mD{b:Str}{d:Stmt}{f:Addr}{m:FuncData}{N:List Str}{j l:Nat}{e:Sx}(F:G2 K x b d f m)(q:Meth K (G.ct (c+1)).1 x f)(r:IB K (G.ct (c+1)).1)(v:∀k,(G.ct (c+1)).2 k≠x)(S:jj N ps (aj d))(o:ps.length=j)(p:N.length=l)(u:∀(kV doc pm:Value)(an:Option Addr)(h ct:Value)(i:Wu),i.length=ps.length->bindArgs (PySem.W.fnOf x b (dk d) (bu d) (aj d) .none kV doc pm an h ct) ⟨i,[]⟩=pure (ps.zip i))(t:∀(a:Addr)(h:Value)(A:Around)(outer:List PySem.Env)(s:Shared)(H:Hp)(E:XK),xa k (A.deeper (envOfC b (aj d) s.heap.objs.size f h))->jy (G.at (JH a)) (jS HJ P w K mg base N b (aj d) f h A outer s H E).Kg (bu d) e) :
  MtAt P w K mg base (k+1) G c x ps mv (Ja c j l mv e):=⟨⟨f,m,UA F S o p t,q,F.binds u⟩,r,v⟩
theorem DL{y b:Str}{d:Stmt}{f:Addr}{m:FuncData}{N:List Str}{j l:Nat}{e:Sx}(F:G2 K y b d f m)(q:Mk K (G.ct (c+1)).1 f)(r:mg x=some (.ref (G.ct (c+1)).1))(S:jj N ps (aj d))(o:ps.length=j)(p:N.length=l)(u:∀(kV doc pm:Value)(an:Option Addr)(h ct:Value)(i:Wu),i.length=ps.length->bindArgs (PySem.W.fnOf y b (dk d) (bu d) (aj d) .none kV doc pm an h ct) ⟨i,[]⟩=pure (ps.zip i))(t:∀(a:Addr)(h:Value)(A:Around)(outer:List PySem.Env)(s:Shared)(H:Hp)(E:XK),xa k (A.deeper (envOfC b (aj d) s.heap.objs.size f h))->jy (G.at (JH a)) (jS HJ P w K mg base N b (aj d) f h A outer s H E).Kg (bu d) e) :
  InAt P w K mg base (k+1) G c n x ps (Ja c j l (List.replicate n false) e):=⟨⟨f,m,UA F S o p t,q,F.binds u⟩,r⟩
theorem Bt{y d:Str}{e:Stmt}{f:Addr}{q:FuncData}{N:List Str}{m p:Nat}{h:Sx}(F:K7 K y d e f q)(u:Mk K (G.ct (c+1)).1 f)(v:mg x=some (.ref (G.ct (c+1)).1))(S:jj N ps (aj e))(r:ps.length=m)(t:N.length=p)(B:∀(s:Shared)(T:Addr)(kV doc pm:Value)(an:Option Addr)(i ct:Value)(o:Obj)(n:Nat)(j:Wu),K.In s.heap->K.lookup T=some o->o.data=.seq #[.none] n->j.length=ps.length->BindsTo s (PySem.W.fnOf y d (dk e) (bu e) (aj e) (.ref T) kV doc pm an i ct) ⟨j,[]⟩ (ps.zip j))(z:∀(a:Addr)(i:Value)(A:Around)(outer:List PySem.Env)(s:Shared)(H:Hp)(E:XK),xa k (A.deeper (envOfC d (aj e) s.heap.objs.size f i))->jy (G.at (JH a)) (jS HJ P w K mg base N d (aj e) f i A outer s H E).Kg (bu e) h) :
  InAt P w K mg base (k+1) G c n x ps (Ja c m p (List.replicate n false) h):=⟨⟨f,q,Gh (λl b=>F.ok S l b) r t z,u,F.binds B⟩,v⟩
theorem qf{a:Str}{b:Stmt}{f:Addr}{l:FuncData}{N:List Str}{i j:Nat}{d:Sx}(F:G2 K x a b f l)(p:Meth K (G.ct (c+1)).1 x f)(q:IB K (G.ct (c+1)).1)(u:∀k,(G.ct (c+1)).2 k≠x)(S:jj N ps (aj b))(m:ps.length=i)(o:N.length=j)(t:∀(kV doc pm:Value)(an:Option Addr)(e ct:Value)(h:Wu),h.length=ps.length->bindArgs (PySem.W.fnOf x a (dk b) (bu b) (aj b) .none kV doc pm an e ct) ⟨h,[]⟩=pure (ps.zip h))(r:∀(e:Value)(A:Around)(outer:List PySem.Env)(s:Shared)(H:Hp)(E:XK),xa k (A.deeper (envOfC a (aj b) s.heap.objs.size f e))->jy G (jS HJ P w K mg base N a (aj b) f e A outer s H E).Kg (bu b) d) :
  MpAt P w K mg base (k+1) G c x ps (fn i j d):=⟨⟨f,l,Sk F S m o r,p,F.binds t⟩,q,u⟩
theorem BN{k:Nat}{f:Addr}{b:FuncData}{y:Str}{g:Fn}(i:G.K=K)(F:FnOk P w K mg base HJ k f b [y] (Kb G g))(e:∀ns:Vu,g [.scr ns]=some (.fr,.bl true)) :
  FnOk P w K mg base HJ k f b [y] (Kb (O4 K) AE):=F.imp λo H Q E h=>by
 obtain⟨p,s,m,r,j,a,q⟩:=h;unfold AE at a;split at a
 ·rename_i ns;cases a;cases j with
  |cons r1 r2 =>
   cases r2;cases r1 with
   |scr d=>exact⟨[.scr ns],[[]],.fr,.bl true,.cons (.scr (by rw[i];exact d)) .nil,e ns,λv l F e1 r f1=>q v l F e1 (by cases r;exact .bl _) f1⟩
 ·cases a
end
section
variable{G:Gx}{X:Cx}{i j c k k' kr n:Nat}{way:List Ka}{o e b:Expr}{es:List Expr}{cs:Hr}{ca ck ce:Ex}{m x:Str}{ps:List Str}{mv:List Bool}{g:Mt}{h:Fn}{xc:Xx}{f:Str}{apos pe pos pos' p p1:Pos}
theorem i5{l:Sem Bool}(B:jV G)(F:MtAt X.prog X.w X.K X.mg X.base k G c m ps mv g)(r:xa k' X.A)(t:k<=k')(s:Kr G X o i way)(u:Ib G X (e :: es) cs)(C:K1 e es X:=by exact rfl)(a:K2 pos es X:=by exact rfl)(q:eval (.Call (.Attribute o m apos) (e :: es) [] pos) X.env=(do
   let d ← eval o X.env
   standAt apos.atName
   let (f,first) ← holding [d] (getMethod d m l)
   callWith pos f first (backTo pos (starEach (e :: es) X.env)) (backToKw pos (keywordEach [] X.env))):=by exact rfl):PX G X (.Call (.Attribute o m apos) (e :: es) [] pos) (bH i way c mv g cs):=by
 obtain⟨f,fd,z,y,v⟩:=F.ex;exact AY B F.no s F.cl y z r t v u C a q
theorem zp{d:Sem Bool}(y:jV G)(F:MtAt X.prog X.w X.K X.mg X.base k G c m ps mv g)(q:xa k' X.A)(s:k<=k')(r:Kr G X o i way)(l:eval (.Call (.Attribute o m apos) [] [] pos) X.env=(do
   let a ← eval o X.env
   standAt apos.atName
   let (f,first) ← holding [a] (getMethod a m d)
   callWith pos f first (backTo pos (starEach [] X.env)) (backToKw pos (keywordEach [] X.env)))):PX G X (.Call (.Attribute o m apos) [] [] pos) (bH i way c mv g ai):=by
 obtain⟨f,fd,v,u,t⟩:=F.ex;exact yN y F.no r F.cl u v q s t l
theorem Dg{q:Sem Bool}(F:MtAt X.prog X.w X.K X.mg X.base k G c m ps mv g)(t:xa k' X.A)(u:k<=k')(z:X.N[i]?=some x)(r:JG X.env.scope x)(v:K3 x)(d:K4 x)(E:PX G X e xc)(y:Ib G X es cs)(H:K1 e es X)(a:K2 pos es X)(s:eval (.Call (.Attribute (.Name x p1) m apos) (e :: es) [] pos) X.env=(do
   let l ← eval (.Name x p1) X.env
   standAt apos.atName
   let (f,first) ← holding [l] (getMethod l m q)
   callWith pos f first (backTo pos (starEach (e :: es) X.env)) (backToKw pos (keywordEach [] X.env)))):PX G X (.Call (.Attribute (.Name x p1) m apos) (e :: es) [] pos) (pT i c mv g xc cs):=by
 obtain⟨f,fd,D,C,B⟩:=F.ex;exact Ai F.no z r v d F.cl C D t u B E y H a s
theorem AF{l:Sem Bool}(F:MpAt X.prog X.w X.K X.mg X.base k G c m ps h)(r:xa k' X.A)(t:k<=k')(s:PV G X o ca)(u:Ib G X (e :: es) cs)(B:K1 e es X)(a:K2 pos es X)(q:eval (.Call (.Attribute o m apos) (e :: es) [] pos) X.env=(do
   let d ← eval o X.env
   standAt apos.atName
   let (f,first) ← holding [d] (getMethod d m l)
   callWith pos f first (backTo pos (starEach (e :: es) X.env)) (backToKw pos (keywordEach [] X.env)))):PV G X (.Call (.Attribute o m apos) (e :: es) [] pos) (fS c h ca cs):=by
 obtain⟨f,fd,z,y,v⟩:=F.ex;exact D6 F.no s F.cl y z r t v u B a q
theorem oO{d:Sem Bool}(F:MpAt X.prog X.w X.K X.mg X.base k G c m ps h)(q:xa k' X.A)(s:k<=k')(r:PV G X o ca)(l:eval (.Call (.Attribute o m apos) [] [] pos) X.env=(do
   let a ← eval o X.env
   standAt apos.atName
   let (f,first) ← holding [a] (getMethod a m d)
   callWith pos f first (backTo pos (starEach [] X.env)) (backToKw pos (keywordEach [] X.env)))):PV G X (.Call (.Attribute o m apos) [] [] pos) (fS c h ca ai):=by
 obtain⟨f,fd,v,u,t⟩:=F.ex;exact Bf F.no r F.cl u v q s t l
theorem EH{e:Ex}:∀(U:VS.Env)(d:Vr),ae e ai U=some d->d.length=1:=λU d h=>by
 obtain⟨a,_,h⟩:=Zz.mp h;cases h;rfl
theorem D3(F:InAt X.prog X.w X.K X.mg X.base k G c n x ps g)(l:xa k' X.A)(r:k+1<=k')(t:Ib G X (e :: es) cs)(q:∀U d,cs U=some d->d.length=n)(s:Gl X x)(z:K3 x)(he:K1 e es X)(a:K2 pos es X):PV G X (.Call (.Name x p) (e :: es) [] pos) (eNew c g cs):=by
 obtain⟨f,fd,y,v,u⟩:=F.ex;exact EX n v y l r s F.mg u t q z he a
theorem AO(F:InAt X.prog X.w X.K X.mg X.base k G c 0 x ps g)(a:xa k' X.A)(d:k+1<=k')(l:Gl X x)(t:K3 x):PV G X (.Call (.Name x p) [] [] pos) (eNew c g ai):=by
 obtain⟨f,fd,s,r,q⟩:=F.ex;exact CK r s a d l F.mg q t
theorem p5(u:jV G)(d:Kr G X o i way)(q:Ib G X [e] cs)(s:X.K=G.K:=by exact rfl)(A:attributeBase o "append" X.env (eval o X.env)=eval o X.env:=by exact rfl)(y:((backTo pe (starEach [e] X.env)).all (λx=>!x.1)&&(backToKw pe (keywordEach [] X.env)).all (λx=>x.1.isSome)
   && decide ([e].length+([]:List Keyword).length+(if ([]:List Keyword).isEmpty then 0 else 1)<30))=true:=by exact rfl)(C:(apos.endLine==pe.line)=true:=by exact rfl)(a:K1 e [] X:=by exact rfl)(B:(backTo pe (starEach [] X.env)).any (·.1)=false:=by exact rfl)(w:swapsWith (.Call (.Attribute o "append" apos) [e] [] pe) none pos.line X.env=pure false:=by exact rfl) :
  PSV G X (.Expr (.Call (.Attribute o "append" apos) [e] [] pe) pos) (sX (jb i way aI cs)) :=
 yC u XU Xb Xc iE lY (λH v t F l z r h=>jo r h) d q s A y C a B w
end
inductive Ia where | io (i:Nat) (un:Bool) | ex (c:Ex)
noncomputable abbrev Xt:=VS.Env->Option (Bool×VS.Env)
end VS
end
section
namespace VS
open PySem PySem.Spec PyProof.Rows L2
noncomputable def x2(f:Val->Val->Vq)(a b:Xx):Xx:=λU=>(a U).bind λz=>(b z.2).bind λw=>(f (.fr,z.1.2) (.fr,w.1.2)).bind λv=>if G5 z.1.2=true/\G5 w.1.2=true/\G5 v.2=true then some ((.fr,v.2),w.2) else none
inductive Ix where | io (i:Nat) (un:Bool) | px (x:Xx)
end VS
end
section
namespace T17
open VS
noncomputable def bE:Mt:=Ja 1 1 1 []
  (ak (HQ (e2 LO (eN bY (ae (bj 4 (aa 0)) ai)) (Q2 8)) OC eQ)
  (ak (sX (jb 0 [.fld 4] aI (ae (eC (.str [])) ai)))
  (ak (sX (jb 0 [.fld 5] aI (ae (Q2 0) ai)))
  (d8 (e2 jU (eN bY (ae (bj 4 (aa 0)) ai)) (Q2 1))))))
noncomputable def aM:Mt:=Ja 0 4 4 [false,false,true]
  (ak (sX (jb 0 [.fld 1] aI (ae (aa 1) ai)))
  (ak (sX (jb 0 [.fld 2] aI (ae (aa 2) ai)))
  (ak (nQ 0 [.fld 3] 3)
  (d8 (e2 jU (eN bY (ae (bj 1 (aa 0)) ai)) (Q2 1))))))
noncomputable def bP:Sx :=
  (ak (fJ 0 [.fld 3,.ix (aa 1)] (aa 2) (aa 5))
  (aH 1 (e2 aA (bj 2 (aa 0)) (aa 1))))
noncomputable def aw:Mt:=Ja 0 3 6 [false,false]
  (ak (aH 3 (e2 IK (e2 aA (bj 3 (aa 0)) (aa 1)) (aa 2)))
  (ak (aH 4 (e2 bK (e2 aA (bj 1 (aa 0)) (aa 1)) (Q2 1)))
  (ak (HQ (e2 oEq (e2 aA (bj 1 (aa 0)) (aa 3)) (aa 4)) (gp 3) eQ)
  (ak (jl 5 (bH 0 [] 0 [false,false,true] aM (ae (aa 4) (ae (e2 aA (bj 2 (aa 0)) (aa 3)) (ae (eN mw (ae (e2 aA (bj 3 (aa 0)) (aa 3)) ai)) ai)))))
  (ak (fJ 0 [.fld 2] (aa 3) (aa 5))
  (ak (lG (jg (gK (aa 1)) (e2 oEq (e2 wR (e2 aA (bj 3 (aa 0)) (aa 1)) (aa 2)) (aa 3))) bP)
  (gp 5)))))))
noncomputable def bQ:Sx :=
  (ak (fJ 0 [.fld 3,.ix (aa 4)] (aa 2) (aa 3))
  (aH 4 (e2 aA (bj 2 (aa 0)) (aa 4))))
noncomputable def bN:Mt:=Ja 0 3 5 [false,false]
  (ak (HQ (e2 k8 (aa 2) (e2 aA (bj 3 (aa 0)) (aa 1))) (pX (bH 0 [] 0 [false,false] aw (ae (aa 1) (ae (aa 2) ai)))) eQ)
  (ak (jl 3 (bH 0 [] 0 [false,false,true] aM (ae (e2 bK (e2 aA (bj 1 (aa 0)) (aa 1)) (Q2 1)) (ae (Q2 0) (ae (mZ 0 []) ai)))))
  (ak (aH 4 (aa 1))
  (ak (lG (jg (gK (aa 4)) (e2 cE (aa 2) (e2 aA (bj 3 (aa 0)) (aa 4)))) bQ)
  (ak (HQ (gK (aa 4)) (jY 0 [.fld 2] (aa 3) (bH 0 [] 0 [false,false] aw (ae (aa 4) (ae (aa 2) ai)))) eQ)
  (gp 3))))))
noncomputable def cf:Sx :=
  (jl 1 (bH 0 [] 0 [false,false] bN (ae (aa 1) (ae (aa 3) ai))))
noncomputable def aW:Mt:=Ja 0 3 4 [false,false]
  (ak (eW (bg 3) (gM (aa 2)) cf)
  (gp 1))
noncomputable def gI:Fn:=fn 1 1
  (d8 (jg (O8 .int (aa 0)) (mW (O8 .bool (aa 0)))))
noncomputable def bz:Fn:=fn 2 2
  (HQ (LY (mW (aZ gI (ae (aa 1) ai))) (mW (ke oLe oLt (Q2 0) (aa 1) (eN bY (ae (aa 0) ai))))) OC eQ)
noncomputable def gT:Fn:=fn 1 1
  (d8 (eN BG (ae (du 1 (bg 0) (gM (aa 0)) none (eN bY (ae (aa 0) ai))) ai)))
noncomputable def bD:Mt:=Ja 1 3 3 [false,false]
  (ak (sX (xP (aZ bz (ae (bj 4 (aa 0)) (ae (aa 1) ai)))))
  (ak (HQ (e2 La (e2 bK (aZ gT (ae (bj 4 (aa 0)) ai)) (eN bY (ae (aa 2) ai))) (Q2 120)) OC eQ)
  (ak (jY 0 [.fld 5] (aa 1) (bH 0 [.fld 6] 0 [false,false] aW (ae (e2 aA (bj 5 (aa 0)) (aa 1)) (ae (aa 2) ai))))
  (fJ 0 [.fld 4] (aa 1) (e2 bK (e2 aA (bj 4 (aa 0)) (aa 1)) (aa 2))))))
noncomputable def dG:Mt:=Ja 0 1 1 (List.replicate 0 false)
  (ak (jk 0 1 (il ai))
  (ak (jk 0 2 (il ai))
  (ak (jk 0 3 (il ai))
  (OB (bH 0 [] 0 [false,false,true] aM (ae (Q2 0) (ae (eC .non) (ae (mZ 0 []) ai))))))))
noncomputable def bG:Sx :=
  (OB (pT 0 1 [false,false] bD (bH 0 [] 1 [] bE ai) (ae (aa 2) ai)))
noncomputable def ba:Mt:=Ja 1 2 3 (List.replicate 1 false)
  (ak (jk 0 4 (il ai))
  (ak (jk 0 5 (il ai))
  (ak (jk 0 6 (eNew 0 dG ai))
  (HQ (gK (aa 1)) (eW (bg 2) (gM (aa 1)) bG) eQ))))
noncomputable def bB:Sx :=
  (HQ (e2 cE (e2 IK (aa 4) (aa 5)) (aa 1)) (ak (mL 1 (e2 IK (aa 4) (aa 5)) (eN bY (ae (aa 2) ai)))
  (sX (oU 2 [] aI (ae (e2 IK (aa 4) (aa 5)) ai)))) eQ)
noncomputable def bX:Sx :=
  (ak (aH 4 (e2 aA (bj 3 (aa 0)) (e2 aA (aa 2) (aa 3))))
  (ak (eW (bg 5) (gM (eN iq (ae (aa 4) ai))) bB)
  (aH 3 (e2 bK (aa 3) (Q2 1)))))
noncomputable def aL:Fn:=fn 1 6
  (ak (oN 1 (mZ 0 [((Q2 0),(Q2 0))]))
  (ak (oN 2 (il (ae (Q2 0) ai)))
  (ak (aH 3 (Q2 0))
  (ak (lG (e2 oLt (aa 3) (eN bY (ae (aa 2) ai))) bX)
  (ak (Ab 2)
  (gp 1))))))
noncomputable def b7:Fn:=fn 3 6
  (ak (aH 3 (e2 aA (bj 2 (aa 0)) (aa 1)))
  (ak (aH 4 (e2 aA (bj 3 (aa 0)) (aa 1)))
  (ak (aH 5 (eN kG (ae (du 1 (bg 0) (gM (eN iq (ae (aa 4) ai))) none (oT (ae (aa 0) (ae (e2 qq (aa 3) (e2 IK (aa 5) (aa 0))) ai)))) ai)))
  (ak (HQ (Ao (aa 3)) (d8 (oT (ae (Q2 0) (ae (Q2 0) (ae (eC .non) (ae (aa 5) ai)))))) eQ)
  (d8 (oT (ae (e2 bK (e2 aA (bj 1 (aa 0)) (aa 3)) (Q2 1)) (ae (e2 aA (bj 1 (aa 0)) (aa 1)) (ae (e2 qq (aa 2) (aa 3)) (ae (aa 5) ai))))))))))
noncomputable def dU:Fn:=fn 1 2
  (ak (oN 1 (fS 0 aL (aa 0) ai))
  (yV 1 (bg 0) (fS 0 b7 (aa 1) (ae (aa 0) (ae (aa 2) ai)))))
noncomputable def cp:Fn:=fn 1 1
  (d8 (fS 0 dU (bj 6 (aa 0)) ai))
noncomputable def dE:Fn:=fn 1 3
  (ak (aH 1 (e2 oMod (aa 0) (Q2 26)))
  (ak (aH 2 (e2 aA (il (ae (Q2 1) (ae (Q2 3) (ae (Q2 5) (ae (Q2 7) (ae (Q2 9) ai)))))) (e2 oMod (e2 ic (aa 0) (Q2 26)) (Q2 5))))
  (d8 (du 1 (bg 0) (cq (Q2 26)) none (e2 aA (eC (.str [97,98,99,100,101,102,103,104,105,106,107,108,109,110,111,112,113,114,115,116,117,118,119,120,121,122])) (e2 oMod (e2 bK (aa 2) (e2 fY (aa 3) (aa 0))) (Q2 26)))))))
noncomputable def d6:Sx :=
  (ak (aH 8 (e2 bK (aa 8) (e2 aA (aa 1) (e2 oMod (aa 0) (aa 2)))))
  (aH 0 (e2 ic (aa 0) (aa 2))))
noncomputable def cO:Sx :=
  (ak (aH 7 (eN sv (ae (aa 4) (ae (e2 oMod (aa 0) (Q2 25)) ai))))
  (ak (aH 0 (e2 ic (aa 0) (Q2 25)))
  (ak (aH 4 (e2 jU (aa 4) (aa 7)))
  (ak (aH 8 (eC (.str [])))
  (ak (eW (bg 9) (cq (aa 7)) d6)
  (sX (oU 5 [] aI (ae (aa 8) ai))))))))
noncomputable def cX:Fn:=fn 1 10
  (ak (aH 1 (aZ dE (ae (aa 0) ai)))
  (ak (aH 2 (e2 aA (il (ae (Q2 1) (ae (Q2 2) (ae (Q2 3) (ae (Q2 4) (ae (Q2 2) (ae (Q2 3) (ae (Q2 4) (ae (Q2 26) ai))))))))) (e2 oMod (e2 ic (aa 0) (Q2 130)) (Q2 8))))
  (ak (aH 3 (e2 oMod (e2 ic (aa 0) (Q2 1040)) (Q2 5)))
  (ak (aH 0 (e2 ic (aa 0) (Q2 5200)))
  (ak (aH 4 (Q2 24))
  (ak (oN 5 (il ai))
  (ak (eW (bg 6) (cq (aa 3)) cO)
  (gp 5))))))))
noncomputable def aQ:Fn:=fn 2 4
  (ak (aH 2 (Q2 7))
  (ak (HQ (e2 La (eN bY (ae (aa 0) ai)) (Q2 0)) (aH 2 (e2 aA (aa 0) (e2 oMod (aa 1) (eN bY (ae (aa 0) ai))))) eQ)
  (ak (aH 3 (e2 oMod (e2 fY (e2 bK (e2 bK (e2 oMod (aa 2) (Q2 2147483629)) (e2 fY (Q2 40503) (aa 1))) (Q2 1)) (Q2 48271)) (Q2 2147483647)))
  (ak (aH 3 (e2 oMod (e2 fY (aa 3) (aa 3)) (Q2 2147483629)))
  (ak (aH 3 (e2 oMod (e2 fY (e2 bK (aa 3) (aa 1)) (Q2 69621)) (Q2 2147483587)))
  (d8 (e2 ic (e2 oMod (e2 fY (aa 3) (aa 3)) (Q2 2147483563)) (Q2 3))))))))
noncomputable def cU:Sx :=
  (ak (aH 11 (aZ aQ (ae (aa 0) (ae (e2 bK (e2 bK (e2 fY (Q2 20) (aa 6)) (Q2 6)) (aa 10)) ai))))
  (HQ (jg (e2 LO (eN bY (ae (aa 9) ai)) (aa 8)) (e2 La (e2 oMod (aa 11) (Q2 4)) (Q2 0))) (aH 9 (e2 bK (aa 9) (e2 aA (aa 9) (e2 jU (eN bY (ae (aa 9) ai)) (aa 8))))) (aH 9 (e2 bK (aa 9) (e2 aA (aa 2) (e2 oMod (e2 ic (aa 11) (Q2 4)) (aa 3)))))))
noncomputable def cV:Sx :=
  (ak (aH 7 (eN sv (ae (aa 4) (ae (e2 oMod (aZ aQ (ae (aa 0) (ae (e2 bK (e2 fY (Q2 20) (aa 6)) (Q2 4)) ai))) (e2 bK (aa 1) (Q2 1))) ai))))
  (ak (aH 4 (e2 jU (aa 4) (aa 7)))
  (ak (aH 8 (e2 bK (Q2 1) (e2 oMod (aZ aQ (ae (aa 0) (ae (e2 bK (e2 fY (Q2 20) (aa 6)) (Q2 5)) ai))) (Q2 5))))
  (ak (aH 9 (eC (.str [])))
  (ak (eW (bg 10) (cq (aa 7)) cU)
  (ak (sX (oU 5 [] aI (ae (aa 9) ai)))
  (HQ (jg (e2 La (aa 7) (Q2 2)) (jg (e2 oEq (e2 oMod (aZ aQ (ae (aa 0) (ae (e2 bK (e2 fY (Q2 20) (aa 6)) (Q2 5)) ai))) (Q2 3)) (Q2 0)) (e2 LO (aa 4) (Q2 2)))) (ak (sX (oU 5 [] aI (ae (Lj (aa 9) (some (Q2 1)) (some (Q2 3))) ai)))
  (aH 4 (e2 jU (aa 4) (Q2 2)))) eQ)))))))
noncomputable def c6:Fn:=fn 2 12
  (ak (aH 2 (aZ dE (ae (aZ aQ (ae (aa 0) (ae (Q2 1) ai))) ai)))
  (ak (aH 3 (e2 aA (il (ae (Q2 1) (ae (Q2 2) (ae (Q2 3) (ae (Q2 4) (ae (Q2 2) (ae (Q2 3) (ae (Q2 9) (ae (Q2 26) ai))))))))) (e2 oMod (aZ aQ (ae (aa 0) (ae (Q2 2) ai))) (Q2 8))))
  (ak (aH 4 (aa 1))
  (ak (oN 5 (il ai))
  (ak (eW (bg 6) (cq (e2 oMod (aZ aQ (ae (aa 0) (ae (Q2 3) ai))) (Q2 6))) cV)
  (ak (Ab 5)
  (d8 (Lj (aa 5) none (some (Q2 8))))))))))
noncomputable def fA:Fn:=fn 2 2
  (ak (HQ (e2 oLt (aa 1) (eN bY (ae (aa 0) ai))) (d8 (e2 aA (aa 0) (aa 1))) eQ)
  (d8 (Q2 0)))
noncomputable def gO:Fn:=fn 2 2
  (ak (HQ (e2 oEq (e2 oMod (aZ fA (ae (aa 0) (ae (Q2 0) ai))) (Q2 2)) (Q2 0)) (d8 (aZ cX (ae (e2 ic (aZ fA (ae (aa 0) (ae (Q2 0) ai))) (Q2 2)) ai))) eQ)
  (d8 (aZ c6 (ae (aa 0) (ae (e2 aA (il (ae (Q2 24) (ae (Q2 24) (ae (Q2 24) (ae (aa 1) ai))))) (e2 oMod (aZ aQ (ae (aa 0) (ae (Q2 0) ai))) (Q2 4))) ai)))))
noncomputable def bL:Fn:=fn 2 2
  (HQ (LY (mW (aZ gI (ae (aa 1) ai))) (mW (ke oLe oLt (Q2 0) (aa 1) (eN bY (ae (aa 0) ai))))) OC eQ)
noncomputable def ff:Sx :=
  (HQ (e2 oEq (e2 aA (e2 aA (aa 0) (e2 aA (aa 4) (Q2 1))) (Q2 1)) (e2 bK (e2 aA (aa 3) (Q2 1)) (Q2 1))) (mL 1 (e2 aA (aa 4) (Q2 1)) (oT (ae (aa 2) (ae (e2 aA (aa 4) (Q2 0)) ai)))) eQ)
noncomputable def ie:Sx :=
  (eW (bg 4) (gM (e2 aA (aa 3) (Q2 3))) ff)
noncomputable def fh:Fn:=fn 1 5
  (ak (oN 1 (mZ 0 []))
  (ak (eW (j8 [(bg 2),(bg 3)]) (qY (aa 0)) ie)
  (gp 1)))
noncomputable def kN:Sx :=
  (ak (aH 4 (e2 IK (aa 2) (aa 1)))
  (ak (aH 3 (e2 bK (e2 aA (aa 4) (Q2 1)) (aa 3)))
  (aH 1 (e2 aA (aa 4) (Q2 0)))))
noncomputable def eD:Fn:=fn 2 5
  (ak (sX (xP (aZ bL (ae (aa 0) (ae (aa 1) ai)))))
  (ak (aH 2 (aZ fh (ae (aa 0) ai)))
  (ak (aH 3 (eC (.str [])))
  (ak (lG (e2 KU (aa 1) (Q2 0)) kN)
  (gp 3)))))
noncomputable def gw:Fn:=fn 2 3
  (ak (aH 2 (aZ eD (ae (aa 0) (ae (aa 1) ai))))
  (d8 (Lj (aa 2) (some (e2 jU (eN bY (ae (aa 2) ai)) (e2 aA (e2 aA (aa 0) (aa 1)) (Q2 0)))) none)))
noncomputable def pF:Sx :=
  (ak (aH 4 (eN l5 (ae (e2 aA (e2 aA (aa 0) (e2 aA (aa 2) (Q2 (-1)))) (Q2 3)) ai)))
  (ak (HQ (e2 cE (aa 3) (aa 4)) (gp 2) eQ)
  (sX (oU 2 [] aI (ae (e2 IK (aa 4) (aa 3)) ai)))))
noncomputable def qB:Fn:=fn 2 5
  (ak (oN 2 (il (ae (Q2 0) ai)))
  (ak (eW (bg 3) (gM (aa 1)) pF)
  (gp 2)))
noncomputable def iP:Fn:=fn 2 3
  (ak (aH 2 (aZ qB (ae (aa 0) (ae (aa 1) ai))))
  (d8 (Qt (e2 oEq (eN bY (ae (aa 2) ai)) (e2 bK (eN bY (ae (aa 1) ai)) (Q2 1))) (e2 aA (aa 2) (Q2 (-1))) (eC .non))))
noncomputable def hJ:Sx :=
  (HQ (LY (e2 cE (aa 5) (aa 0)) (LY (e2 KU (e2 IK (aa 0) (aa 5)) (e2 IK (aa 0) (aa 4))) (e2 KU (aZ iP (ae (aa 2) (ae (aa 5) ai))) (aa 3)))) (d8 (eC (.bl false))) eQ)
noncomputable def eJ:Fn:=fn 4 6
  (ak (aH 4 (aZ eD (ae (aa 2) (ae (aa 3) ai))))
  (ak (HQ (e2 KU (aa 1) (du 1 (bg 0) (i7 (eN bY (ae (aZ gw (ae (aa 2) (ae (aa 3) ai))) ai)) (e2 bK (eN bY (ae (aa 4) ai)) (Q2 1))) none (Lj (aa 5) (some (e2 jU (eN bY (ae (aa 5) ai)) (aa 0))) none))) (d8 (eC (.bl false))) eQ)
  (ak (eW (bg 5) (gM (aa 1)) hJ)
  (d8 (eC (.bl true))))))
noncomputable def j0:Sx :=
  (HQ (e2 cE (e2 bK (aa 6) (aa 4)) (e2 aA (aa 1) (aa 5))) (d8 (eC (.bl false))) eQ)
noncomputable def ip:Sx :=
  (eW (bg 6) (gM (e2 aA (aa 1) (aa 3))) j0)
noncomputable def ja:Fn:=fn 4 8
  (ak (eW (j8 [(bg 4),(bg 5)]) (gM (e2 aA (e2 aA (aa 2) (aa 3)) (Q2 3))) ip)
  (ak (aH 7 (du 2 (j8 [(bg 0),(bg 1)]) (gM (e2 aA (e2 aA (aa 2) (aa 3)) (Q2 3))) none (aa 0)))
  (d8 (e2 oEq (aa 7) (du 1 (bg 0) (gM (eC (.str [97,98,99,100,101,102,103,104,105,106,107,108,109,110,111,112,113,114,115,116,117,118,119,120,121,122]))) (some (e2 k8 (e2 bK (e2 aA (e2 aA (aa 2) (aa 4)) (Q2 0)) (aa 0)) (aa 1))) (aa 0))))))
noncomputable def dZ:Sx :=
  (lj 1 (Lj (aa 3) (some (aa 5)) (some (aa 4))) (ae (oT (ae (aa 2) (ae (aa 4) ai))) ai))
noncomputable def dY:Sx :=
  (eW (bg 5) (cq (e2 bK (aa 4) (Q2 1))) dZ)
noncomputable def c9:Sx :=
  (eW (bg 4) (cq (e2 bK (eN bY (ae (aa 3) ai)) (Q2 1))) dY)
noncomputable def eZ:Fn:=fn 1 6
  (ak (oN 1 (mZ 0 [((eC (.str [])),(il ai))]))
  (ak (eW (j8 [(bg 2),(bg 3)]) (qY (aa 0)) c9)
  (gp 1)))
noncomputable def kY:Fn:=fn 2 3
  (ak (aH 2 (aZ eD (ae (aa 0) (ae (aa 1) ai))))
  (d8 (du 1 (bg 0) (i7 (e2 aA (e2 aA (aa 0) (aa 1)) (Q2 0)) (e2 bK (e2 aA (e2 aA (aa 0) (aa 1)) (Q2 1)) (Q2 1))) none (Lj (aa 3) (some (e2 jU (eN bY (ae (aa 3) ai)) (aa 0))) none))))
noncomputable def rX:Sx :=
  (aH 5 (e2 bK (aa 5) (aa 6)))
noncomputable def rJ:Sx :=
  (HQ (LY (mW (aZ eJ (ae (aa 2) (ae (e2 aA (aa 4) (aa 7)) (ae (aa 3) (ae (aa 7) ai)))))) (mW (aZ ja (ae (aa 2) (ae (aa 4) (ae (aa 3) (ae (aa 7) ai))))))) (d8 (eC (.bl false))) eQ)
noncomputable def xx:Fn:=fn 1 8
  (ak (aH 1 (aZ gO (ae (aa 0) (ae (Q2 24) ai))))
  (ak (aH 2 (aZ eZ (ae (aa 1) ai)))
  (ak (aH 3 (fS 1 cp (eNew 1 ba (ae (eN qg (ae (aa 1) ai)) ai)) ai))
  (ak (aH 4 (du 1 (bg 0) (cq (eN bY (ae (aa 3) ai))) none (aZ kY (ae (aa 4) (ae (aa 0) ai)))))
  (ak (aH 5 (il ai))
  (ak (eW (bg 6) (gM (aa 4)) rX)
  (ak (HQ (e2 KU (eN kj (ae (aa 5) ai)) (eN kj (ae (aa 2) ai))) (d8 (eC (.bl false))) eQ)
  (ak (eW (bg 7) (cq (eN bY (ae (aa 3) ai))) rJ)
  (d8 (eC (.bl true)))))))))))
end T17
end
section
namespace VS
theorem e2v{f:Val->Val->Vq}{a b:Ex}{U:Env}{x y z:Val}(g:a U=some x)(e:b U=some y)(d:f x y=some z):e2 f a b U=some z:=by
 show (a U).bind _=_;rw[g,Zt,e];exact d
theorem xv{a:Ex}{r:Hr}{U:Env}{x:Val}{xs:Vr}(d:a U=some x)(b:r U=some xs):ae a r U=some (x :: xs):=by
 show (a U).bind _=_;rw[d,Zt,b];rfl
theorem zf{c:Ex}{a b:Sx}{U:Env}{m:Md}(h:c U=some (m,.bl true)):HQ c a b U=a U:=by
 show (c U).bind _=_;rw[h];rfl
theorem Ah{c:Ex}{a b:Sx}{U:Env}{m:Md}(h:c U=some (m,.bl false)):HQ c a b U=b U:=by
 show (c U).bind _=_;rw[h];rfl
theorem iC{f:Vr->Vq}{a:Hr}{U:Env}{b:Vr}{v:Val}(h:a U=some b)(d:f b=some v):eN f a U=some v:=by
 show (a U).bind f=_;rw[h,Zt,d]
theorem d5{e:Ex}{U:Env}{t:T}(h:e U=some (.fr,t)):d8 e U=some (.rt (.fr,t) U):=by
 show (e U).bind _=_;rw[h];rfl
theorem lD{a b:Sx}{U d:Env}{v:Val}(h:a U=some (.rt v d)):ak a b U=some (.rt v d):=by
 show (a U).bind _=_;rw[h];rfl
theorem aS{a b:Sx}{U U1:Env}(h:a U=some (.nx U1)):ak a b U=b U1:=by
 show (a U).bind _=_;rw[h];rfl
theorem sq{a b:Sx}{U U1:Env}{r:Option Out}(h:a U=some (.nx U1))(q:b U1=r):ak a b U=r:=(aS h).trans q
theorem MN{c:Ex}{a b:Sx}{U:Env}{m:Md}{r:Option Out}(h:c U=some (m,.bl true))(q:a U=r):HQ c a b U=r:=(zf h).trans q
theorem kb{c:Ex}{a b:Sx}{U:Env}{m:Md}{r:Option Out}(h:c U=some (m,.bl false))(q:b U=r):HQ c a b U=r:=(Ah h).trans q
theorem eA{d e:Nat}{b:Sx}{a:Vp}{v:Val}{U:Env}(f:a.length=d)(h:b (a.map (λt=>some (.pu t))++List.replicate (e-d) none)=some (.rt v U)):fn d e b a=some v:=by
 unfold fn;rw[Zs f,h];rfl
theorem Gb{d e:Nat}{b:Sx}{a:Vp}{U:Env}(f:a.length=d)(h:b (a.map (λt=>some (.pu t))++List.replicate (e-d) none)=some (.nx U)):fn d e b a=some (.fr,.non):=by
 unfold fn;rw[Zs f,h];rfl
theorem xW{a b:Ex}{U:Env}{m:Md}{x:Bool}{v:Val}(f:a U=some (m,.bl x))(e:x=true->b U=some v)(d:x=false->v=(.fr,.bl false)):jg a b U=some v:=by
 show (a U).bind _=_;rw[f,Zt];cases x with
 |true=>exact e rfl
 |false=>exact congrArg some (d rfl).symm
theorem B0{a b:Ex}{U:Env}{m:Md}{x:Bool}{v:Val}(f:a U=some (m,.bl x))(e:x=false->b U=some v)(d:x=true->v=(.fr,.bl true)):LY a b U=some v:=by
 show (a U).bind _=_;rw[f,Zt];cases x with
 |false=>exact e rfl
 |true=>exact congrArg some (d rfl).symm
theorem QS{a b:Ex}{U:Env}{m n:Md}{x y:Bool}(f:a U=some (m,.bl x))(d:b U=some (.fr,.bl y)):LY a b U=some (.fr,.bl (x||y)):=B0 f (λe=>by rw[e];exact d) (λe=>by rw[e];rfl)
theorem p8{a:Ex}{U:Env}{m:Md}{b:Bool}(h:a U=some (m,.bl b)):mW a U=some (.fr,.bl (!b)):=by
 show (a U).bind _=_;rw[h];rfl
theorem BV{f g:Val->Val->Vq}{a b c:Ex}{U:Env}{x y z v:Val}(j:a U=some x)(i:b U=some y)(h:f x y=some (.fr,.bl true))(e:c U=some z)(d:g y z=some v):ke f g a b c U=some v:=by
 show (a U).bind _=_;rw[j,Zt,i,Zt,h,Zt];show (c U).bind _=_;rw[e];exact d
theorem Cd{n:Nat}{i:Int}(b:0<=i)(a:i<n):Iq n i=some i.toNat:=by rw[Iq,Zs b,Zs a]
theorem xZ{n:Nat}{i:Nat}(a:i<n):Iq n (i:Int)=some i:=by
 rw[Iq,Zs (Int.natCast_nonneg i),Zs (Int.ofNat_lt.mpr a)];rfl
theorem vF{m n:Md}(l:Vu)(i:Int)(b:0<=i)(a:i<l.length):aA (m,.scr l) (n,.int i)=some (.fr,.int (l.getD i.toNat 0)):=by
 have d:i.toNat<l.length:=by lia
 show (Iq l.length i).bind _=_;rw[Cd b a,Zt,Zr,Zq d];rfl
theorem yK{m n:Md}(t:Tx)(i:Int)(b:0<=i)(a:i<t.length):aA (m,.str t) (n,.int i)=some (.fr,.str [t.getD i.toNat 0]):=by
 have d:i.toNat<t.length:=by lia
 show (Iq t.length i).bind _=_;rw[Cd b a,Zt,Zr,Zq d];rfl
theorem pY{m n:Md}{a b:T}{r:Bool}(e:HS 60 a=true)(d:HS 60 b=true)(h:eqT a b=r):oEq (m,a) (n,b)=some (.fr,.bl r):=by
 show (if HS 60 a/\HS 60 b then some (Md.fr,T.bl (eqT a b)) else none)=_;rw[Zs ⟨e,d⟩,h]
theorem sS{m n:Md}{a b:T}{r:Bool}(e:HS 60 a=true)(d:HS 60 b=true)(h:eqT a b=r):KU (m,a) (n,b)=some (.fr,.bl (!r)):=by
 show (if HS 60 a/\HS 60 b then some (Md.fr,T.bl (!eqT a b)) else none)=_;rw[Zs ⟨e,d⟩,h]
theorem oy{i:Nat}{e:Ex}{U:Env}{l:Vp}{v:T}(f:U[i]?=some (some (.ow (.lst l))))(d:e U=some (.fr,v))(b:l.length<16777216):sX (oU i [] aI (ae e ai)) U=some (.nx (U.set i (some (.ow (.lst (l++[v])))))):=by
 have a:ae e ai U=some [(.fr,v)]:=xv d rfl;unfold sX oU;rw[f];show ((some ([]:List Ky)).bind _ |>.map _)=_;rw[Zt,a,Zt];show ((aI (.lst l) [(.fr,v)]).map _ |>.map _)=_;rw[dn b];rfl
theorem uv{a b:Ex}{U:Env}{m n:Md}{x y:Tx}(e:a U=some (m,.str x))(d:b U=some (n,.str y))(h:x.length+y.length<=16777216):e2 bK a b U=some (.fr,.str (x++y)):=e2v e d (lz h)
end VS
end
section
namespace AU
structure St where
 lg:Vv
 lk:List (Option Nat)
 wy:List (List (Nat×Nat))
noncomputable def gW(w:List (Nat×Nat))(c:Nat):Option Nat:=(w.find? λp=>p.1==c).map (·.2)
noncomputable def pW(w:List (Nat×Nat))(c m:Nat):List (Nat×Nat):=if w.any (λp=>p.1==c) then w.map (λp=>if p.1==c then (p.1,m) else p) else w++[(c,m)]
structure WF(S:St):Prop where
 lk:S.lk.length=S.lg.length
 wy:S.wy.length=S.lg.length
 pos:0<S.lg.length
 up:∀i n,S.lk.getD i none=some n->n<S.lg.length
 on:∀i c n,gW (S.wy.getD i []) c=some n->n<S.lg.length
 nd:∀w∈S.wy,(w.map (·.1)).Nodup
 az:∀w∈S.wy,∀p∈w,97<=p.1/\p.1<=122
theorem sub_len{α:Type}[DecidableEq α]:∀(l r:List α),l.Nodup->(∀x∈l,x∈r)->l.length<=r.length
 |[],_,_,_=>ZR _
 |a :: l,r,nd,h=>by
  obtain⟨g,f⟩:=ZY.mp nd;have d:a∈r:=h a Zw;have:=sub_len l (r.erase a) f λx b=>(List.mem_erase_of_ne (show x≠a from λe=>g (by rw[← e];exact b))).mpr (h x (Zv _ b));rw[List.length_erase_of_mem d]at this;have:0<r.length:=List.length_pos_of_mem d;rw[Zk];omega
theorem WF.small{S:St}(W:WF S)(i:Nat):(S.wy.getD i []).length<16777216:=by
 by_cases h:i<S.wy.length
 ·have a:S.wy.getD i []∈S.wy:=by
   rw[Zr,Zq h];exact Yt h
  have:=sub_len ((S.wy.getD i []).map (·.1)) (List.range 123) (W.nd _ a) λx b=>by
   obtain⟨p,d,rfl⟩:=Yo.mp b;have:=(W.az _ a p d).2;exact ZD.mpr (by omega)
  rw[Zx,ZO]at this;omega
 ·rw[Zr,Yj (Yu h)];decide
theorem CB(w:List (Nat×Nat))(c:Nat):(w.any λp=>p.1==c)=(gW w c).isSome:=by
 unfold gW;rw[Y3,Xa,Xz,List.find?_isSome]
theorem Ca(w:List (Nat×Nat))(c m d:Nat):gW (pW w c m) d=if d=c then some m else gW w d:=by
 unfold pW;split
 ·rename_i h
  induction w with
  |nil=>simp at h
  |cons p w b =>
   rw[Zm];unfold gW;rw[Yy,Yy];by_cases q:p.1=c
   ·rw[Zs (by simpa using q)];by_cases r:p.1=d
    ·have:(p.1==d)=true:=by simpa using r
     simp only[this];rw[Zs (by rw[← r,q])];rfl
    ·have a:(p.1==d)=false:=by simpa using r
     have:d≠c:=λe=>r (by rw[e,q]);simp only[a,Zp this];have key:∀w:List (Nat×Nat),(w.map λp=>if p.1==c then (p.1,m) else p).find? (λp=>p.1==d)=w.find? λp=>p.1==d:=by
      intro w
      induction w with
      |nil=>rfl
      |cons x w b =>
       rw[Zm,Yy,Yy,b];by_cases y:x.1=c
       ·rw[Zs (by simpa using y)];have:(x.1==d)=false:=by simpa using λe=>this (by rw[← e,y])
        simp only[this]
       ·rw[Zp (by simpa using y)]
     rw[key w]
   ·rw[Zp (by simpa using q)];have i:(w.any λp=>p.1==c)=true:=by
     rw[YH]at h;simpa[q] using h
    have f:=b i;unfold gW at f;by_cases r:p.1=d
    ·have a:(p.1==d)=true:=by simpa using r
     simp only[a];rw[Zp (λe=>q (by rw[r,e]))]
    ·have a:(p.1==d)=false:=by simpa using r
     simp only[a];exact f
 ·rename_i h;unfold gW;rw[List.find?_append];by_cases q:d=c
  ·subst q;have:w.find? (λp=>p.1==d)=none:=by
    rw[List.find?_eq_none];intro p g e;exact h (Xz.mpr ⟨p,g,e⟩)
   rw[this,Zs rfl];simp
  ·rw[Zp q];have:((c==d)=false):=by simpa using λe=>q e.symm
   simp[this]
theorem Be(w:List (Nat×Nat))(c m:Nat)(d:(w.map (·.1)).Nodup):((pW w c m).map (·.1)).Nodup:=by
 unfold pW;split
 ·rw[Yv];have:((λp:Nat×Nat=>p.1) ∘ λp=>if (p.1==c)=true then (p.1,m) else p)=λp=>p.1:=by
   funext p;simp only[Function.comp];split<;>rfl
  rw[this];exact d
 ·rename_i h;rw[Z8,ZK];refine⟨d,by simp,λa g b hb e=>?_⟩;have i:b=c:=by simpa using hb
  subst e i;obtain⟨p,f,e⟩:=Yo.mp g;exact h (Xz.mpr ⟨p,f,by simpa using e⟩)
theorem Ee{w:List (Nat×Nat)}{c m:Nat}{p:Nat×Nat}(h:p∈pW w c m):p.1=c\/p∈w:=by
 unfold pW at h;split at h
 ·obtain⟨q,a,rfl⟩:=Yo.mp h;by_cases r:(q.1==c)=true
  ·rw[Zs r];exact .inl (by simpa using r)
  ·rw[Zp r];exact .inr a
 ·rcases Ze.mp h with h | h
  ·exact .inr h
  ·rw[Za.mp h];exact .inl rfl
theorem iL{α:Type}(l:List α)(i j:Nat)(x d:α):(l.set i x).getD j d=if i=j/\i<l.length then x else l.getD j d:=by
 rw[Zr,Zr,W3];by_cases h:i=j
 ·subst h;by_cases a:i<l.length
  ·rw[Zs rfl,Zs a,Zs ⟨rfl,a⟩];rfl
  ·rw[Zs rfl,Zp a,Zp (λz=>a z.2),Yj (Yu a)]
 ·rw[Zp h,Zp (λz=>h z.1)]
theorem b6{α:Type}(l:List α)(x d:α)(j:Nat):(l++[x]).getD j d=if j=l.length then x else l.getD j d:=by
 rw[Zr,Zr];by_cases h:j<l.length
 ·rw[Ys h,Zp (Zb h)]
 ·rw[Yq (Yu h)];by_cases a:j=l.length
  ·rw[Zs a,a,WD];rfl
  ·rw[Zp a,Yj (Yu h),Yj (by simp;omega)]
theorem WF.way{S:St}(W:WF S){n c v:Nat}(g:v<S.lg.length)(j:97<=c/\c<=122):WF ⟨S.lg,S.lk,S.wy.set n (pW (S.wy.getD n []) c v)⟩:=by
 refine⟨W.lk,by rw[Yb];exact W.wy,W.pos,W.up,λi d m h=>?_,λw hw=>?_,λw hw p f=>?_⟩
 ·show m<S.lg.length;have b:gW ((S.wy.set n (pW (S.wy.getD n []) c v)).getD i []) d=some m:=h;rw[iL]at b;split at b
  ·rw[Ca]at b;split at b
   ·cases b;exact g
   ·exact W.on n d m b
  ·exact W.on i d m b
 ·by_cases a:n<S.wy.length
  ·rcases List.mem_or_eq_of_mem_set hw with h | h
   ·exact W.nd w h
   ·rw[h];refine Be _ c v (W.nd _ ?_);rw[Zr,Zq a];exact Yt a
  ·rw[List.set_eq_of_length_le (Yu a)]at hw;exact W.nd w hw
 ·by_cases a:n<S.wy.length
  ·rcases List.mem_or_eq_of_mem_set hw with h | h
   ·exact W.az w h p f
   ·rw[h]at f;rcases Ee f with e | e
    ·rw[e];exact j
    ·refine W.az _ ?_ p e;rw[Zr,Zq a];exact Yt a
  ·rw[List.set_eq_of_length_le (Yu a)]at hw;exact W.az w hw p f
theorem WF.link{S:St}(W:WF S){n v:Nat}(b:v<S.lg.length):WF ⟨S.lg,S.lk.set n (some v),S.wy⟩:=by
 refine⟨by rw[Yb];exact W.lk,W.wy,W.pos,λi m h=>?_,W.on,W.nd,W.az⟩;have a:(S.lk.set n (some v)).getD i none=some m:=h;rw[iL]at a;split at a
 ·cases a;exact b
 ·exact W.up i m a
theorem WF.more{S:St}(W:WF S){l:Nat}{o:Option Nat}{w:List (Nat×Nat)}(f:∀n,o=some n->n<S.lg.length)(hw:∀c n,gW w c=some n->n<S.lg.length)(e:(w.map (·.1)).Nodup)(g:∀p∈w,97<=p.1/\p.1<=122):WF ⟨S.lg++[l],S.lk++[o],S.wy++[w]⟩:=by
 have b:∀{n},n<S.lg.length->n<(S.lg++[l]).length:=λh=>by rw[Zy,Zc];omega
 refine⟨by rw[Zy,Zy,W.lk];rfl,by rw[Zy,Zy,W.wy];rfl,by rw[Zy];exact ZF W.pos (Z1 _ _),λi n h=>?_,λi c n h=>?_,λx d=>?_,λx d=>?_⟩
 ·have a:(S.lk++[o]).getD i none=some n:=h;rw[b6]at a;split at a
  ·exact b (f n a)
  ·exact b (W.up i n a)
 ·have a:gW ((S.wy++[w]).getD i []) c=some n:=h;rw[b6]at a;split at a
  ·exact b (hw c n a)
  ·exact b (W.on i c n a)
 ·rcases Ze.mp d with h | h
  ·exact W.nd x h
  ·rw[Za.mp h];exact e
 ·rcases Ze.mp d with h | h
  ·exact W.az x h
  ·rw[Za.mp h];exact g
noncomputable def up1(c v:Nat):Nat->St->Option Nat->Option (St×Option Nat)
 |_,S,none=>some (S,none)
 |0,_,some _=>none
 |k+1,S,some n=>if (gW (S.wy.getD n []) c).isSome then some (S,some n) else up1 c v k ⟨S.lg,S.lk,S.wy.set n (pW (S.wy.getD n []) c v)⟩ (S.lk.getD n none)
noncomputable def Mz(c a v:Nat):Nat->St->Option Nat->Option St
 |_,S,none=>some S
 |0,_,some _=>none
 |k+1,S,some n=>if gW (S.wy.getD n []) c=some a then Mz c a v k ⟨S.lg,S.lk,S.wy.set n (pW (S.wy.getD n []) c v)⟩ (S.lk.getD n none) else some S
noncomputable def Mj(S:St)(n c:Nat):Option (St×Nat):=(gW (S.wy.getD n []) c).bind λold=>if S.lg.getD old 0=S.lg.getD n 0+1 then some (S,old) else
 (Mz c old S.lg.length 1000 ⟨S.lg++[S.lg.getD n 0+1],(S.lk++[S.lk.getD old none]).set old (some S.lg.length),S.wy++[S.wy.getD old []]⟩ (some n)).map λa=>(a,S.lg.length)
noncomputable def hb(S:St)(h c:Nat):Option (St×Nat):=if (gW (S.wy.getD h []) c).isSome then Mj S h c else
 (up1 c S.lg.length 1000 ⟨S.lg++[S.lg.getD h 0+1],S.lk++[some 0],S.wy++[[]]⟩ (some h)).bind λz=>match z.2 with
  |none=>some (z.1,S.lg.length)
  |some n=>(Mj z.1 n c).map λy=>(⟨y.1.lg,y.1.lk.set S.lg.length (some y.2),y.1.wy⟩,S.lg.length)
noncomputable def hg(S:St)(h:Nat):Vv->Option (St×Nat)
 |[]=>some (S,h)
 |c :: r=>(hb S h c).bind λz=>hg z.1 z.2 r
noncomputable def Sm(S:St):Prop:=S.lg.length<=100001
theorem WF.Ou{S:St}(W:WF S)(i:Nat):((S.wy.getD i []).map (·.1)).Nodup/\∀p∈S.wy.getD i [],97<=p.1/\p.1<=122:=by
 by_cases h:i<S.wy.length
 ·have a:S.wy.getD i []∈S.wy:=by
   rw[Zr,Zq h];exact Yt h
  exact⟨W.nd _ a,W.az _ a⟩
 ·rw[Zr,Yj (Yu h)];exact⟨YG,λp b=>nomatch b⟩
noncomputable def S0:St:=⟨[0],[none],[[]]⟩
theorem BY:WF S0:=by
 refine⟨rfl,rfl,by decide,λi n h=>?_,λi c n h=>?_,λw hw=>?_,λw hw p a=>?_⟩
 ·cases i with
  |zero=>cases h
  |succ i=>cases h
 ·cases i with
  |zero=>cases h
  |succ i=>cases h
 ·rw[Za.mp hw];exact YG
 ·rw[Za.mp hw]at a;cases a
end AU
end
section
namespace T17
open VS AU
noncomputable abbrev pc(t:T):Vs:=some (.pu t)
abbrev Q0(i:Int):Option Cell:=some (.pu (.int i))
abbrev Q1(t:Tx):Option Cell:=some (.pu (.str t))
noncomputable abbrev oc(t:T):Vs:=some (.ow t)
noncomputable def He(w:List (Nat×Nat)):T:=.dct 0 (w.map λp=>(T.str [p.1],T.int (p.2:Int)))
noncomputable def Hm:Option Nat->T
 |none=>.non
 |some n=>.int (n:Int)
noncomputable def J9(S:St):sV:=[(1,.lst (S.lg.map λ(n:Nat)=>T.int (n:Int))),(2,.lst (S.lk.map Hm)),(3,.lst (S.wy.map He))]
noncomputable def xb(S:St)(b:Bool):T:=.obj 1 ((0,.bl b) :: J9 S)
theorem lF(o:Option Nat):G5 (Hm o)=true:=by cases o<;>rfl
theorem fC{α:Type}(f:α->T)(h:∀a,gh (f a)=true):∀l:List α,de (l.map f)=true
 |[]=>rfl
 |a :: l=>by rw[Zm,de,h a,fC f h l];rfl
theorem yA(w:List (Nat×Nat)):gh (He w)=true:=by
 show pS (w.map λp=>(T.str [p.1],T.int (p.2:Int)))=true
 induction w with
 |nil=>rfl
 |cons p w a=>rw[Zm,pS,a];rfl
theorem kS(S:St):eB (J9 S)=true:=by
 have d:gh (.lst (S.lg.map λ(n:Nat)=>T.int (n:Int)))=true:=fC _ (λ_=>rfl) _;have b:gh (.lst (S.lk.map Hm))=true:=fC _ (λo=>nR _ (lF o)) _;have a:gh (.lst (S.wy.map He))=true:=fC _ yA _;show ((gh _ && !(1==0&&MM _))&&((gh _ && !(2==0&&MM _))&&((gh _ && !(3==0&&MM _))&&true)))=true;rw[d,b,a];rfl
theorem FK(S:St)(b:Bool):qu 1 (xb S b)=some (.lst (S.lg.map λ(n:Nat)=>T.int (n:Int))):=rfl
theorem GV(S:St)(b:Bool):qu 2 (xb S b)=some (.lst (S.lk.map Hm)):=rfl
theorem GL(S:St)(b:Bool):qu 3 (xb S b)=some (.lst (S.wy.map He)):=rfl
theorem ij{k:Nat}{a:Ex}{U:Env}{m:Md}{t u:T}(h:a U=some (m,t))(b:qu k t=some u):bj k a U=some (sub m u):=by
 unfold bj;rw[h,Zt,b];rfl
theorem lr{α:Type}{m n:Md}(f:α->T)(l:List α)(i:Nat)(d:α)(h:i<l.length):aA (m,.lst (l.map f)) (n,.int (i:Int))=some (sub m (f (l.getD i d))):=by
 show (Iq (l.map f).length (i:Int)).bind _=_;rw[Zx,xZ h,Zt,ZM,Zq h,Zr,Zq h];rfl
section
variable{U:Env}{m n:Md}{S:St}{b:Bool}{a e:Ex}{i:Nat}
theorem tU(h:a U=some (m,xb S b))(he:e U=some (n,.int (i:Int)))(d:i<S.lg.length):e2 aA (bj 1 a) e U=some (.fr,.int ((S.lg.getD i 0:Nat):Int)):=e2v (ij h (FK S b)) he (lr _ _ i 0 d)
theorem u9(h:a U=some (m,xb S b))(he:e U=some (n,.int (i:Int)))(d:i<S.lk.length):e2 aA (bj 2 a) e U=some (.fr,Hm (S.lk.getD i none)):=(e2v (ij h (GV S b)) he (lr _ _ i none d)).trans (by
 show some (up _ _)=_;unfold up;rw[lF];rfl)
theorem oB(h:a U=some (m,xb S b))(he:e U=some (n,.int (i:Int)))(d:i<S.wy.length):e2 aA (bj 3 a) e U=some (m,He (S.wy.getD i [])):=e2v (ij h (GL S b)) he (lr _ _ i [] d)
theorem Eg(h:a U=some (m,xb S b)):eN bY (ae (bj 1 a) ai) U=some (.fr,.int (S.lg.length:Nat)):=iC (xv (ij h (FK S b)) rfl) (by
 show some (Md.fr,T.int (((S.lg.map λ(n:Nat)=>T.int (n:Int)).length:Nat):Int))=_;rw[Zx])
end
theorem CY(a c:Nat):eqT (.str [a]) (.str [c])=(a==c):=by
 simp only[eqT];by_cases h:a=c
 ·simp[h]
 ·simp[h]
theorem qr(w:List (Nat×Nat))(c:Nat):df (w.map λp=>(T.str [p.1],T.int (p.2:Int))) (.str [c])=(gW w c).map λ(n:Nat)=>T.int (n:Int):=by
 unfold df gW;rw[List.find?_map];have:((λp:T×T=>eqT p.1 (.str [c])) ∘ λp:Nat×Nat=>(T.str [p.1],T.int (p.2:Int)))=λp:Nat×Nat=>p.1==c:=by
  funext p;exact CY p.1 c
 rw[this];cases w.find? λp=>p.1==c with
 |none=>rfl
 |some p=>rfl
theorem Ez(w:List (Nat×Nat))(c m:Nat):dput (w.map λp=>(T.str [p.1],T.int (p.2:Int))) (.str [c]) (.int (m:Int))=(pW w c m).map λp=>(T.str [p.1],T.int (p.2:Int)):=by
 have a:(w.map λp=>(T.str [p.1],T.int (p.2:Int))).any (λp=>eqT p.1 (.str [c]))=w.any λp=>p.1==c:=by
  rw[List.any_map];congr 1;funext p;exact CY p.1 c
 unfold dput pW;rw[a];split
 ·rw[Yv,Yv];apply X7;intro p _;simp only[Function.comp,CY];split<;>rfl
 ·rw[Z8];rfl
section
variable{U:Env}{m n k:Md}{S:St}{b:Bool}{a e ec ev:Ex}{i c v:Nat}{w:List (Nat×Nat)}
theorem GT(h:a U=some (m,He w))(he:e U=some (n,.str [c])):e2 k8 e a U=some (.fr,.bl (gW w c).isSome):=e2v he h (by
 show (if true=true then some (Md.fr,T.bl (df _ _).isSome) else none)=_;rw[Zs rfl,qr,Y3])
theorem Cr(h:a U=some (m,He w))(he:e U=some (n,.str [c])):e2 cE e a U=some (.fr,.bl (!(gW w c).isSome)):=e2v he h (by
 show (match (if true=true then some (Md.fr,T.bl (df (w.map λp=>(T.str [p.1],T.int (p.2:Int))) (.str [c])).isSome) else none) with | some (_,.bl b)=>some (Md.fr,T.bl (!b)) | _=>none)=_;rw[Zs rfl,qr,Y3])
theorem vV(h:a U=some (m,He w))(he:e U=some (n,.str [c]))(d:gW w c=some v):e2 IK a e U=some (.fr,.int (v:Int)):=e2v h he (by
 show (if true=true then (df _ _).map (sub m) else none)=_;rw[Zs rfl,qr,d];rfl)
theorem EV(h:a U=some (m,He w))(he:e U=some (n,.str [c])):e2 wR a e U=some (.fr,Hm (gW w c)):=e2v h he (by
 show (if true=true then some (match df (w.map λp=>(T.str [p.1],T.int (p.2:Int))) (.str [c]) with | some t=>sub m t | none=>(.fr,.non)) else none)=_;rw[Zs rfl,qr];cases gW w c with
 |none=>rfl
 |some v=>rfl)
theorem xG{r:List (Vs)}(d:i<S.wy.length)(he:e (oc (xb S b) :: r)=some (n,.int (i:Int)))(l:ec (oc (xb S b) :: r)=some (m,.str [c]))(g:ev (oc (xb S b) :: r)=some (k,.int (v:Int)))(f:(S.wy.getD i []).length<16777216) :
  fJ 0 [.fld 3,.ix e] ec ev (oc (xb S b) :: r)=some (.nx (oc (xb ⟨S.lg,S.lk,S.wy.set i (pW (S.wy.getD i []) c v)⟩ b) :: r)):=by
 unfold fJ;rw[g,Zt];show ((keys [.fld 3,.ix e] (oc (xb S b) :: r)).bind _)=_;have j:keys [.fld 3,.ix e] (oc (xb S b) :: r)=some [.fld 3,.at (.int (i:Int))]:=by
  show ((e _).bind _).map _=_;rw[he];rfl
 rw[j,Zt,l,Zt];have h:pm (kf (m,.str [c]) (k,.int (v:Int))) [.fld 3,.at (.int (i:Int))] (xb S b)=some (xb ⟨S.lg,S.lk,S.wy.set i (pW (S.wy.getD i []) c v)⟩ b,()):=by
  show ((pm (kf (m,.str [c]) (k,.int (v:Int))) [.at (.int (i:Int))] (.lst (S.wy.map He))).map _)=_;have:pm (kf (m,.str [c]) (k,.int (v:Int))) [.at (.int (i:Int))] (.lst (S.wy.map He))=some (.lst ((S.wy.set i (pW (S.wy.getD i []) c v)).map He),()):=by
   show ((Iq (S.wy.map He).length (i:Int)).bind _)=_;rw[Zx,xZ d,Zt,ZM,Zq d];show ((kf (m,.str [c]) (k,.int (v:Int)) (He S.wy[i])).map _)=_;have e1:S.wy.getD i []=S.wy[i]:=by rw[Zr,Zq d];rfl
   rw[e1]at f ⊢;show ((if true=true/\true=true/\(S.wy[i].map _).length<fL then some (T.dct 0 (dput _ _ _),()) else none).map _)=_;rw[Zs ⟨rfl,rfl,by rw[Zx];exact f⟩,Ez,Wa];rfl
  rw[this];rfl
 rw[h];rfl
theorem zg{r:List (Vs)}(h:i<S.lk.length)(he:e (oc (xb S b) :: r)=some (n,.int (i:Int)))(d:ev (oc (xb S b) :: r)=some (.fr,.int (v:Int))) :
  fJ 0 [.fld 2] e ev (oc (xb S b) :: r)=some (.nx (oc (xb ⟨S.lg,S.lk.set i (some v),S.wy⟩ b) :: r)):=by
 unfold fJ;rw[d,Zt];show ((keys [.fld 2] (oc (xb S b) :: r)).bind _)=_;have g:keys [.fld 2] (oc (xb S b) :: r)=some [.fld 2]:=rfl;rw[g,Zt,he,Zt];have f:pm (kf (n,.int (i:Int)) (.fr,.int (v:Int))) [.fld 2] (xb S b)=some (xb ⟨S.lg,S.lk.set i (some v),S.wy⟩ b,()):=by
  show ((kf (n,.int (i:Int)) (.fr,.int (v:Int)) (.lst (S.lk.map Hm))).map _)=_;have:kf (n,.int (i:Int)) (.fr,.int (v:Int)) (.lst (S.lk.map Hm))=some (.lst ((S.lk.set i (some v)).map Hm),()):=by
   show ((Iq (S.lk.map Hm).length (i:Int)).map _)=_;rw[Zx,xZ h,Wa];rfl
  rw[this];rfl
 rw[f];rfl
end
theorem m9{c:Ex}{a:Sx}{n:Nat}{U b:Env}{m:Md}(e:c U=some (m,.bl true))(d:a U=some (.nx b)):fE c a (n+1) U=fE c a n b:=by
 show (c U).bind _=_;rw[e];show (if true=true then (a U).bind _ else some (.nx U))=_;rw[Zs rfl,d];rfl
theorem fI{c:Ex}{a:Sx}{n:Nat}{U:Env}{m:Md}(b:c U=some (m,.bl false)):fE c a (n+1) U=some (.nx U):=by
 show (c U).bind _=_;rw[b];rfl
theorem jt{mv:List Bool}{g:Mt}{as:Hr}{xs:Vr}{S a:St}{v:T}{b:Bool}{r:List (Vs)}(h:as (oc (xb S b) :: r)=some xs)(i:argsOk mv xs=true)(j:de (trees xs)=true)(f:g (J9 S) (trees xs)=some (J9 a,v))(e:G5 v=true) :
  bH 0 [] 0 mv g as (oc (xb S b) :: r)=some ((.fr,v),oc (xb a b) :: r):=by
 show ((some ([]:List Ky)).bind λd=>(as (oc (xb S b) :: r)).bind λxs=>(pm (mI 0 mv g xs) d (xb S b)).map λz=>(z.2,(oc (xb S b) :: r).set 0 (oc z.1)))=_;rw[Zt,h,Zt];show ((if 1=0+1/\eB (J9 S)=true/\argsOk mv xs=true/\de (trees xs)=true then (g (J9 S) (trees xs)).bind λz=>if eB z.1=true/\G5 z.2=true then some (T.obj 1 ((0,.bl b) :: z.1),(Md.fr,z.2)) else none else none).map _)=_;rw[Zs ⟨rfl,kS S,i,j⟩,f,Zt,Zs ⟨kS a,e⟩];rfl
theorem DA{e:Ex}{S:St}{b:Bool}{r:List (Vs)}{v:Nat}(h:e (oc (xb S b) :: r)=some (.fr,.int (v:Int)))(f:S.lg.length<16777216):sX (jb 0 [.fld 1] aI (ae e ai)) (oc (xb S b) :: r)=some (.nx (oc (xb ⟨S.lg++[v],S.lk,S.wy⟩ b) :: r)):=by
 show (((some [Ky.fld 1]).bind λd=>(ae e ai (oc (xb S b) :: r)).bind λa=>(pm (λx=>aI x a) d (xb S b)).map _).map _)=_;rw[Zt,xv (r:=ai) h rfl,Zt];show (((aI (.lst (S.lg.map λ(n:Nat)=>T.int (n:Int))) [(.fr,.int (v:Int))]).map _).map _ |>.map _)=_;rw[dn (by rw[Zx];exact f),show (S.lg.map λ(n:Nat)=>T.int (n:Int))++[.int (v:Int)]=(S.lg++[v]).map λ(n:Nat)=>T.int (n:Int) from by rw[Z8];rfl];rfl
theorem Dv{e:Ex}{S:St}{b:Bool}{r:List (Vs)}{v:Option Nat}(h:e (oc (xb S b) :: r)=some (.fr,Hm v))(f:S.lk.length<16777216):sX (jb 0 [.fld 2] aI (ae e ai)) (oc (xb S b) :: r)=some (.nx (oc (xb ⟨S.lg,S.lk++[v],S.wy⟩ b) :: r)):=by
 show (((some [Ky.fld 2]).bind λd=>(ae e ai (oc (xb S b) :: r)).bind λa=>(pm (λx=>aI x a) d (xb S b)).map _).map _)=_;rw[Zt,xv (r:=ai) h rfl,Zt];show (((aI (.lst (S.lk.map Hm)) [(.fr,Hm v)]).map _).map _ |>.map _)=_;rw[dn (by rw[Zx];exact f),show (S.lk.map Hm)++[Hm v]=(S.lk++[v]).map Hm from by rw[Z8];rfl];rfl
theorem CV(o:Option Nat):up .pu (Hm o)=(.fr,Hm o):=by
 unfold up;rw[lF];rfl
theorem yp(S:St)(l:Nat)(o:Option Nat)(w:List (Nat×Nat))(f:S.lg.length<16777216)(d:S.lk.length<16777216)(a:S.wy.length<16777216):aM (J9 S) [.int (l:Int),Hm o,He w]=some (J9 ⟨S.lg++[l],S.lk++[o],S.wy++[w]⟩,.int (S.lg.length:Int)):=by
 have j:=DA (S:=S) (b:=true) (r:=[Q0 (l:Int),pc (Hm o),oc (He w)]) (e:=aa 1) (v:=l) rfl f;have i:=Dv (S:=⟨S.lg++[l],S.lk,S.wy⟩) (b:=true) (r:=[Q0 (l:Int),pc (Hm o),oc (He w)]) (e:=aa 2) (v:=o) (congrArg some (CV o)) d;have h:nQ 0 [.fld 3] 3 [oc (xb ⟨S.lg++[l],S.lk++[o],S.wy⟩ true),Q0 (l:Int),pc (Hm o),oc (He w)]=some (.nx [oc (xb ⟨S.lg++[l],S.lk++[o],S.wy++[w]⟩ true),Q0 (l:Int),pc (Hm o),none]):=by
  show ((aI (.lst (S.wy.map He)) [(.fr,He w)]).map _ |>.map _)=_;rw[dn (by rw[Zx];exact a),show (S.wy.map He)++[He w]=(S.wy++[w]).map He from by rw[Z8];rfl];rfl
 have g:=d5 (e:=e2 jU (eN bY (ae (bj 1 (aa 0)) ai)) (Q2 1)) (U:=[oc (xb ⟨S.lg++[l],S.lk++[o],S.wy++[w]⟩ true),Q0 (l:Int),pc (Hm o),none]) (t:=.int (S.lg.length:Int)) (e2v (Eg (m:=.bo) rfl) rfl (by
  show some (Md.fr,T.int ((((S.lg++[l]).length:Nat):Int)-1))=_;rw[Zy,Zc,show (((S.lg.length+1:Nat)):Int)-1=(S.lg.length:Int) by omega]))
 unfold aM Ja;rw[Zs ⟨rfl,rfl⟩];have body:=sq (b:=ak (sX (jb 0 [.fld 2] aI (ae (aa 2) ai))) (ak (nQ 0 [.fld 3] 3) (d8 (e2 jU (eN bY (ae (bj 1 (aa 0)) ai)) (Q2 1))))) j (sq i (sq h g));exact congrArg (λz:Option Out=>z.bind _) body
theorem Dy{c a v:Nat}(B:97<=c/\c<=122):∀(k:Nat)(S b:St)(o:Option Nat),WF S->v<S.lg.length->(∀n,o=some n->n<S.lg.length)->Mz c a v k S o=some b->WF b/\b.lg=S.lg/\∃d,∀N,k<N->∀z:Vs,
  fE (jg (gK (aa 1)) (e2 oEq (e2 wR (e2 aA (bj 3 (aa 0)) (aa 1)) (aa 2)) (aa 3))) bP N [oc (xb S true),pc (Hm o),Q1 ([c]),Q0 (a:Int),z,Q0 (v:Int)] =
   some (.nx [oc (xb b true),pc (Hm d),Q1 ([c]),Q0 (a:Int),z,Q0 (v:Int)]):=by
 intro k
 induction k with
 |zero =>
  intro S b o W f j e;cases o with
  |none =>
   cases (show some S=some b from e);refine⟨W,rfl,none,λN hN z=>?_⟩;obtain⟨N,rfl⟩:∃M,N=M+1:=⟨N-1,by omega⟩
   exact fI (m:=.fr) rfl
  |some n=>cases e
 |succ k w =>
  intro S b o W f j e;cases o with
  |none =>
   cases (show some S=some b from e);refine⟨W,rfl,none,λN hN z=>?_⟩;obtain⟨N,rfl⟩:∃M,N=M+1:=⟨N-1,by omega⟩
   exact fI (m:=.fr) rfl
  |some n =>
   have l:=j n rfl;have p:n<S.wy.length:=by rw[W.wy];exact l
   have cond:∀z:Vs,jg (gK (aa 1)) (e2 oEq (e2 wR (e2 aA (bj 3 (aa 0)) (aa 1)) (aa 2)) (aa 3)) [oc (xb S true),Q0 (n:Int),Q1 ([c]),Q0 (a:Int),z,Q0 (v:Int)]=some (.fr,.bl (decide (gW (S.wy.getD n []) c=some a))):=λz=>by
    refine xW (m:=.fr) (x:=true) rfl (λ_=>?_) (λh=>by cases h);refine e2v (EV (m:=.bo) (oB (m:=.bo) (n:=.fr) rfl rfl p) (n:=.fr) rfl) (y:=(.fr,.int (a:Int))) rfl ?_;cases hg:gW (S.wy.getD n []) c with
    |none=>rw[ZG (by simp)];exact pY rfl rfl rfl
    |some q =>
     refine(pY rfl rfl (show eqT (.int (q:Int)) (.int (a:Int))=decide (some q=some a) from ?_));simp only[eqT];by_cases h:q=a
     ·subst h;simp
     ·have D:¬(q:Int)=(a:Int):=by omega
      have C:¬some q=some a:=λz=>h (Zl z);rw[ZG C];exact beq_eq_false_iff_ne.mpr D
   unfold Mz at e;split at e
   ·rename_i g;have E:=W.way (n:=n) (c:=c) (v:=v) f B;obtain⟨u,s,d,r⟩:=w _ b (S.lk.getD n none) E f (λm A=>W.up n m A) e;refine⟨u,s,d,λN hN z=>?_⟩;obtain⟨N,rfl⟩:∃M,N=M+1:=⟨N-1,by omega⟩
    refine(m9 (m:=.fr) ((cond z).trans (by rw[decide_eq_true g])) ?_).trans (r N (by omega) z);unfold bP;refine sq (xG (S:=S) (i:=n) (n:=.fr) (m:=.fr) (k:=.fr) (c:=c) (v:=v) p rfl rfl rfl (W.small n)) ?_;have F:n<S.lk.length:=by rw[W.lk];exact l
    exact av (m:=.fr) (t:=Hm (S.lk.getD n none)) (u9 (S:=⟨S.lg,S.lk,S.wy.set n (pW (S.wy.getD n []) c v)⟩) (m:=.bo) (n:=.fr) rfl rfl F) (by decide) (by decide:1<6)
   ·rename_i g;cases e;refine⟨W,rfl,some n,λN hN z=>?_⟩;obtain⟨N,rfl⟩:∃M,N=M+1:=⟨N-1,by omega⟩
    exact fI (m:=.fr) ((cond z).trans (by rw[ZG g]))
theorem Ef{c v:Nat}(y:97<=c/\c<=122):∀(k:Nat)(S a:St)(o b:Option Nat),WF S->v<S.lg.length->(∀n,o=some n->n<S.lg.length)->up1 c v k S o=some (a,b)->WF a/\a.lg=S.lg/\(∀n,b=some n->n<S.lg.length)/\∀N,k<N->∀z:Vs,
  fE (jg (gK (aa 4)) (e2 cE (aa 2) (e2 aA (bj 3 (aa 0)) (aa 4)))) bQ N [oc (xb S true),z,Q1 ([c]),Q0 (v:Int),pc (Hm o)] =
   some (.nx [oc (xb a true),z,Q1 ([c]),Q0 (v:Int),pc (Hm b)]):=by
 intro k
 induction k with
 |zero =>
  intro S a o b W d g e;cases o with
  |none =>
   cases (show some (S,none)=some (a,b) from e);refine⟨W,rfl,(λn h=>nomatch h),λN hN z=>?_⟩;obtain⟨N,rfl⟩:∃M,N=M+1:=⟨N-1,by omega⟩
   exact fI (m:=.fr) rfl
  |some n=>cases e
 |succ k u =>
  intro S a o b W d g e;cases o with
  |none =>
   cases (show some (S,none)=some (a,b) from e);refine⟨W,rfl,(λn h=>nomatch h),λN hN z=>?_⟩;obtain⟨N,rfl⟩:∃M,N=M+1:=⟨N-1,by omega⟩
   exact fI (m:=.fr) rfl
  |some n =>
   have j:=g n rfl;have l:n<S.wy.length:=by rw[W.wy];exact j
   have cond:∀z:Vs,jg (gK (aa 4)) (e2 cE (aa 2) (e2 aA (bj 3 (aa 0)) (aa 4))) [oc (xb S true),z,Q1 ([c]),Q0 (v:Int),Q0 (n:Int)]=some (.fr,.bl (!(gW (S.wy.getD n []) c).isSome)):=λz =>
    xW (m:=.fr) (x:=true) rfl (λ_=>Cr (m:=.bo) (n:=.fr) (oB (m:=.bo) (n:=.fr) rfl rfl l) rfl) (λh=>by cases h)
   unfold up1 at e;split at e
   ·rename_i f;cases e;refine⟨W,rfl,g,λN hN z=>?_⟩;obtain⟨N,rfl⟩:∃M,N=M+1:=⟨N-1,by omega⟩
    exact fI (m:=.fr) ((cond z).trans (by rw[f];rfl))
   ·rename_i f;have A:=W.way (n:=n) (c:=c) (v:=v) d y;obtain⟨s,r,p,q⟩:=u _ a (S.lk.getD n none) b A d (λm w=>W.up n m w) e;refine⟨s,r,p,λN hN z=>?_⟩;obtain⟨N,rfl⟩:∃M,N=M+1:=⟨N-1,by omega⟩
    have C:(gW (S.wy.getD n []) c).isSome=false:=by simpa using f
    refine(m9 (m:=.fr) ((cond z).trans (by rw[C];rfl)) ?_).trans (q N (by omega) z);unfold bQ;refine sq (xG (S:=S) (i:=n) (n:=.fr) (m:=.fr) (k:=.fr) (c:=c) (v:=v) l rfl rfl rfl (W.small n)) ?_;have B:n<S.lk.length:=by rw[W.lk];exact j
    exact av (m:=.fr) (t:=Hm (S.lk.getD n none)) (u9 (S:=⟨S.lg,S.lk,S.wy.set n (pW (S.wy.getD n []) c v)⟩) (m:=.bo) (n:=.fr) rfl rfl B) (by decide) (by decide:4<5)
theorem D8(a b:Nat){m n:Md}:oEq (m,.int (a:Int)) (n,.int (b:Int))=some (.fr,.bl (decide (a=b))):=pY rfl rfl (by
 simp only[eqT];by_cases h:a=b
 ·subst h;simp
 ·rw[ZG h];exact beq_eq_false_iff_ne.mpr (by omega))
theorem xj{S a:St}{n c r:Nat}(W:WF S)(E:Sm S)(q:n<S.lg.length)(F:97<=c/\c<=122)(e:Mj S n c=some (a,r)):WF a/\r<a.lg.length/\S.lg.length<=a.lg.length/\a.lg.length<=S.lg.length+1/\aw (J9 S) [.int (n:Int),.str [c]]=some (J9 a,.int (r:Int)):=by
 unfold Mj at e;obtain⟨old,j,e⟩:=Zz.mp e;have hold:=W.on n c old j;have N:n<S.wy.length:=by rw[W.wy];exact q
 have how:old<S.wy.length:=by rw[W.wy];exact hold
 have xh:old<S.lk.length:=by rw[W.lk];exact hold
 have R:S.lg.length<=100001:=E;unfold aw Ja;rw[Zs ⟨rfl,rfl⟩];have s1:=av (i:=3) (m:=.fr) (e:=e2 IK (e2 aA (bj 3 (aa 0)) (aa 1)) (aa 2)) (U:=[oc (xb S true),Q0 (n:Int),Q1 ([c]),none,none,none]) (vV (m:=.bo) (n:=.fr) (oB (m:=.bo) (n:=.fr) rfl rfl N) rfl j) (by decide) (by decide:3<6);have h:=av (i:=4) (m:=.fr) (e:=e2 bK (e2 aA (bj 1 (aa 0)) (aa 1)) (Q2 1)) (U:=[oc (xb S true),Q0 (n:Int),Q1 ([c]),Q0 (old:Int),none,none]) (t:=.int ((S.lg.getD n 0+1:Nat):Int)) (e2v (tU (m:=.bo) (n:=.fr) rfl rfl q) rfl rfl) (by decide) (by decide:4<6);have cd:e2 oEq (e2 aA (bj 1 (aa 0)) (aa 3)) (aa 4) [oc (xb S true),Q0 (n:Int),Q1 ([c]),Q0 (old:Int),Q0 ((S.lg.getD n 0+1:Nat):Int),none]=some (.fr,.bl (decide (S.lg.getD old 0=S.lg.getD n 0+1))):=e2v (tU (m:=.bo) (n:=.fr) rfl rfl hold) (y:=(.fr,.int ((S.lg.getD n 0+1:Nat):Int))) rfl (D8 _ _);split at e
 ·rename_i g;obtain⟨rfl,rfl⟩:=XT (Zl e);rw[decide_eq_true g]at cd;refine⟨W,hold,Zo _,XS _,?_⟩;have body:∀b:Sx,ak (aH 3 (e2 IK (e2 aA (bj 3 (aa 0)) (aa 1)) (aa 2))) (ak (aH 4 (e2 bK (e2 aA (bj 1 (aa 0)) (aa 1)) (Q2 1))) (ak (HQ (e2 oEq (e2 aA (bj 1 (aa 0)) (aa 3)) (aa 4)) (gp 3) eQ) b)) [oc (xb S true),Q0 (n:Int),Q1 ([c]),none,none,none]=some (.rt (.fr,.int (old:Int)) [oc (xb S true),Q0 (n:Int),Q1 ([c]),Q0 (old:Int),Q0 ((S.lg.getD n 0+1:Nat):Int),none]):=λb =>
   sq s1 (sq h (lD (MN cd rfl)))
  exact congrArg (λz:Option Out=>z.bind _) (body _)
 ·rename_i g;rw[ZG g]at cd;obtain⟨s,O,G⟩:=Zu.mp e;obtain⟨rfl,rfl⟩:=XT G;have wn:=W.Ou old;have M:=W.more (l:=S.lg.getD n 0+1) (o:=S.lk.getD old none) (w:=S.wy.getD old []) (λm f=>W.up old m f) (λd m f=>W.on old d m f) wn.1 wn.2;have hlen:(S.lg++[S.lg.getD n 0+1]).length=S.lg.length+1:=by rw[Zy];rfl
  have L:=M.link (n:=old) (v:=S.lg.length) (by show S.lg.length<(S.lg++[S.lg.getD n 0+1]).length;omega);obtain⟨A,x,P,u⟩:=Dy F 1000 _ s (some n) L (by show S.lg.length<(S.lg++[S.lg.getD n 0+1]).length;omega) (λm f=>by cases f;show n<(S.lg++[S.lg.getD n 0+1]).length;omega) O;have Q:s.lg.length=S.lg.length+1:=by rw[x];exact hlen
  refine⟨A,by omega,by omega,by omega,?_⟩;have nw:=yp S (S.lg.getD n 0+1) (S.lk.getD old none) (S.wy.getD old []) (by omega) (by rw[W.lk];omega) (by rw[W.wy];omega);have args:ae (aa 4) (ae (e2 aA (bj 2 (aa 0)) (aa 3)) (ae (eN mw (ae (e2 aA (bj 3 (aa 0)) (aa 3)) ai)) ai)) [oc (xb S true),Q0 (n:Int),Q1 ([c]),Q0 (old:Int),Q0 ((S.lg.getD n 0+1:Nat):Int),none]=some [(.fr,.int ((S.lg.getD n 0+1:Nat):Int)),(.fr,Hm (S.lk.getD old none)),(.fr,He (S.wy.getD old []))] :=
   xv rfl (xv (u9 (m:=.bo) (n:=.fr) rfl rfl xh) (xv (iC (xv (oB (m:=.bo) (n:=.fr) rfl rfl how) rfl) (by
    show (if fK (((S.wy.getD old []).map λp=>(T.str [p.1],T.int (p.2:Int))).map (·.2))=true then some (Md.fr,He (S.wy.getD old [])) else none)=_;rw[Zs (by rw[Yv];exact lh _ (λ_=>rfl) _)])) rfl))
  have J:argsOk [false,false,true] [(.fr,.int ((S.lg.getD n 0+1:Nat):Int)),(.fr,Hm (S.lk.getD old none)),(.fr,He (S.wy.getD old []))]=true:=by
   show (true&&(G5 (Hm (S.lk.getD old none))&&true))=true;rw[lF];rfl
  have an:de (trees [(Md.fr,T.int ((S.lg.getD n 0+1:Nat):Int)),(.fr,Hm (S.lk.getD old none)),(.fr,He (S.wy.getD old []))])=true:=by
   show (true&&(gh (Hm (S.lk.getD old none))&&(gh (He (S.wy.getD old []))&&true)))=true;rw[nR _ (lF _),yA];rfl
  have H:=jt (b:=true) args J an nw rfl;have D:jl 5 (bH 0 [] 0 [false,false,true] aM (ae (aa 4) (ae (e2 aA (bj 2 (aa 0)) (aa 3)) (ae (eN mw (ae (e2 aA (bj 3 (aa 0)) (aa 3)) ai)) ai)))) [oc (xb S true),Q0 (n:Int),Q1 ([c]),Q0 (old:Int),Q0 ((S.lg.getD n 0+1:Nat):Int),none]=some (.nx [oc (xb ⟨S.lg++[S.lg.getD n 0+1],S.lk++[S.lk.getD old none],S.wy++[S.wy.getD old []]⟩ true),Q0 (n:Int),Q1 ([c]),Q0 (old:Int),Q0 ((S.lg.getD n 0+1:Nat):Int),Q0 (S.lg.length:Int)]):=by
   unfold jl;rw[H];rfl
  have C:=zg (S:=⟨S.lg++[S.lg.getD n 0+1],S.lk++[S.lk.getD old none],S.wy++[S.wy.getD old []]⟩) (b:=true) (r:=[Q0 (n:Int),Q1 ([c]),Q0 (old:Int),Q0 ((S.lg.getD n 0+1:Nat):Int),Q0 (S.lg.length:Int)]) (i:=old) (v:=S.lg.length) (n:=.fr) (e:=aa 3) (ev:=aa 5) (by show old<(S.lk++[S.lk.getD old none]).length;rw[Zy];omega) rfl rfl;have B:=u vX (by decide) (Q0 ((S.lg.getD n 0+1:Nat):Int));exact congrArg (λz:Option Out=>z.bind _) (sq s1 (sq h (sq (kb cd rfl) (sq D (sq C (sq B rfl))))))
theorem E6{S S':St}{h c r:Nat}(W:WF S)(R:S.lg.length<=100000)(x:h<S.lg.length)(y:97<=c/\c<=122)(e:hb S h c=some (S',r)):WF S'/\r<S'.lg.length/\S.lg.length<=S'.lg.length/\S'.lg.length<=S.lg.length+2/\bN (J9 S) [.int (h:Int),.str [c]]=some (J9 S',.int (r:Int)):=by
 have hw:h<S.wy.length:=by rw[W.wy];exact x
 unfold hb at e;unfold bN Ja;rw[Zs ⟨rfl,rfl⟩];have cd:e2 k8 (aa 2) (e2 aA (bj 3 (aa 0)) (aa 1)) [oc (xb S true),Q0 (h:Int),Q1 ([c]),none,none]=some (.fr,.bl (gW (S.wy.getD h []) c).isSome):=GT (m:=.bo) (n:=.fr) (oB (m:=.bo) (n:=.fr) rfl rfl hw) rfl;split at e
 ·rename_i u;rw[u]at cd;obtain⟨s,q,t,A,D⟩:=xj W (Nat.le_succ_of_le R) x y e;refine⟨s,q,t,by omega,?_⟩;have j:=jt (mv:=[false,false]) (as:=ae (aa 1) (ae (aa 2) ai)) (xs:=[(.fr,.int (h:Int)),(.fr,.str [c])]) (b:=true) (r:=[Q0 (h:Int),Q1 ([c]),none,none]) rfl rfl rfl D rfl;have s1:pX (bH 0 [] 0 [false,false] aw (ae (aa 1) (ae (aa 2) ai))) [oc (xb S true),Q0 (h:Int),Q1 ([c]),none,none]=some (.rt (.fr,.int (r:Int)) [oc (xb S' true),Q0 (h:Int),Q1 ([c]),none,none]):=by
   unfold pX;rw[j];rfl
  exact congrArg (λz:Option Out=>z.bind _) (lD (MN cd s1))
 ·rename_i u;have U:(gW (S.wy.getD h []) c).isSome=false:=by simpa using u
  rw[U]at cd;obtain⟨⟨a,o⟩,e1,C⟩:=Zz.mp e;have Q:=W.more (l:=S.lg.getD h 0+1) (o:=some 0) (w:=[]) (λm g=>by cases g;exact W.pos) (λd m g=>by cases g) YG (λp M=>nomatch M);have hlen:(S.lg++[S.lg.getD h 0+1]).length=S.lg.length+1:=by rw[Zy];rfl
  obtain⟨s,q,t,A⟩:=Ef y 1000 _ a (some h) o Q (by show S.lg.length<(S.lg++[S.lg.getD h 0+1]).length;omega) (λm g=>by cases g;show h<(S.lg++[S.lg.getD h 0+1]).length;omega) e1;have Z:a.lg.length=S.lg.length+1:=by rw[q];exact hlen
  have nw:=yp S (S.lg.getD h 0+1) (some 0) [] (by omega) (by rw[W.lk];omega) (by rw[W.wy];omega);have args:ae (e2 bK (e2 aA (bj 1 (aa 0)) (aa 1)) (Q2 1)) (ae (Q2 0) (ae (mZ 0 []) ai)) [oc (xb S true),Q0 (h:Int),Q1 ([c]),none,none]=some [(.fr,.int ((S.lg.getD h 0+1:Nat):Int)),(.fr,.int 0),(.fr,.dct 0 [])] :=
   xv (e2v (tU (m:=.bo) (n:=.fr) rfl rfl x) rfl rfl) (xv rfl (xv rfl rfl))
  have j:=jt (mv:=[false,false,true]) (b:=true) args rfl rfl nw rfl;have s1:jl 3 (bH 0 [] 0 [false,false,true] aM (ae (e2 bK (e2 aA (bj 1 (aa 0)) (aa 1)) (Q2 1)) (ae (Q2 0) (ae (mZ 0 []) ai)))) [oc (xb S true),Q0 (h:Int),Q1 ([c]),none,none]=some (.nx [oc (xb ⟨S.lg++[S.lg.getD h 0+1],S.lk++[some 0],S.wy++[[]]⟩ true),Q0 (h:Int),Q1 ([c]),Q0 (S.lg.length:Int),none]):=by
   unfold jl;rw[j];rfl
  have J:=A vX (by decide) (Q0 (h:Int));have hd:∀b:Sx,ak (HQ (e2 k8 (aa 2) (e2 aA (bj 3 (aa 0)) (aa 1))) (pX (bH 0 [] 0 [false,false] aw (ae (aa 1) (ae (aa 2) ai)))) eQ)
    (ak (jl 3 (bH 0 [] 0 [false,false,true] aM (ae (e2 bK (e2 aA (bj 1 (aa 0)) (aa 1)) (Q2 1)) (ae (Q2 0) (ae (mZ 0 []) ai)))))
    (ak (aH 4 (aa 1)) (ak (lG (jg (gK (aa 4)) (e2 cE (aa 2) (e2 aA (bj 3 (aa 0)) (aa 4)))) bQ) b))) [oc (xb S true),Q0 (h:Int),Q1 ([c]),none,none] =
    b [oc (xb a true),Q0 (h:Int),Q1 ([c]),Q0 (S.lg.length:Int),pc (Hm o)]:=λb =>
   sq (kb cd rfl) (sq s1 (sq rfl (aS J)))
  cases o with
  |none =>
   obtain⟨rfl,rfl⟩:=XT (Zl C);have fin:ak (HQ (gK (aa 4)) (jY 0 [.fld 2] (aa 3) (bH 0 [] 0 [false,false] aw (ae (aa 4) (ae (aa 2) ai)))) eQ) (gp 3) [oc (xb a true),Q0 (h:Int),Q1 ([c]),Q0 (S.lg.length:Int),pc (Hm none)] =
     some (.rt (.fr,.int (S.lg.length:Int)) [oc (xb a true),Q0 (h:Int),Q1 ([c]),Q0 (S.lg.length:Int),pc (Hm none)]):=sq (kb (m:=.fr) rfl rfl) rfl
   refine⟨s,by show S.lg.length<a.lg.length;omega,by show S.lg.length<=a.lg.length;omega,by show a.lg.length<=_;omega,?_⟩;exact congrArg (λz:Option Out=>z.bind _) ((hd _).trans fin)
  |some n =>
   obtain⟨⟨f,m⟩,P,O⟩:=Zu.mp C;obtain⟨rfl,rfl⟩:=XT O;have N:n<a.lg.length:=by
    have:=t n rfl;rw[q];exact this
   obtain⟨B,G,Y,X,F⟩:=xj s (by show a.lg.length<=100001;omega) N y P;have E:=B.link (n:=S.lg.length) (v:=m) G;have j:=jt (mv:=[false,false]) (as:=ae (aa 4) (ae (aa 2) ai)) (xs:=[(.fr,.int (n:Int)),(.fr,.str [c])]) (b:=true) (r:=[Q0 (h:Int),Q1 ([c]),Q0 (S.lg.length:Int),Q0 (n:Int)]) rfl rfl rfl F rfl;have L:=zg (S:=f) (b:=true) (r:=[Q0 (h:Int),Q1 ([c]),Q0 (S.lg.length:Int),Q0 (n:Int)]) (i:=S.lg.length) (v:=m) (n:=.fr) (e:=aa 3) (ev:=λ_=>some (.fr,.int (m:Int))) (by rw[B.lk];omega) rfl rfl;have H:jY 0 [.fld 2] (aa 3) (bH 0 [] 0 [false,false] aw (ae (aa 4) (ae (aa 2) ai))) [oc (xb a true),Q0 (h:Int),Q1 ([c]),Q0 (S.lg.length:Int),Q0 (n:Int)]=some (.nx [oc (xb ⟨f.lg,f.lk.set S.lg.length (some m),f.wy⟩ true),Q0 (h:Int),Q1 ([c]),Q0 (S.lg.length:Int),Q0 (n:Int)]):=by
    unfold jY;rw[j];exact L
   have fin:ak (HQ (gK (aa 4)) (jY 0 [.fld 2] (aa 3) (bH 0 [] 0 [false,false] aw (ae (aa 4) (ae (aa 2) ai)))) eQ) (gp 3) [oc (xb a true),Q0 (h:Int),Q1 ([c]),Q0 (S.lg.length:Int),Q0 (n:Int)] =
     some (.rt (.fr,.int (S.lg.length:Int)) [oc (xb ⟨f.lg,f.lk.set S.lg.length (some m),f.wy⟩ true),Q0 (h:Int),Q1 ([c]),Q0 (S.lg.length:Int),Q0 (n:Int)]):=sq (MN (m:=.fr) rfl H) rfl
   refine⟨E,by show S.lg.length<f.lg.length;omega,by show S.lg.length<=f.lg.length;omega,by show f.lg.length<=_;omega,?_⟩;exact congrArg (λz:Option Out=>z.bind _) ((hd _).trans fin)
theorem zN{S S':St}:∀{word:Vv}{h r:Nat},WF S->S.lg.length+2*word.length<=100000->h<S.lg.length->(∀c∈word,97<=c/\c<=122)->hg S h word=some (S',r) →
  WF S'/\r<S'.lg.length/\S'.lg.length<=S.lg.length+2*word.length/\∀f:Vs,∀a:T,∃j,forL (bg 3) cf (word.map λc=>T.str [c]) [oc (xb S true),Q0 (h:Int),pc a,f]=some (.nx [oc (xb S' true),Q0 (r:Int),pc a,j])
 |[],h,r,W,l,g,i,e=>by
  obtain⟨rfl,rfl⟩:=XT (Zl e);exact⟨W,g,by simp,λf a=>⟨f,rfl⟩⟩
 |c :: word,h,r,W,l,g,i,e=>by
  obtain⟨⟨v,A⟩,e1,w⟩:=Zz.mp e;rw[Zk]at l;obtain⟨o,n,y,x,m⟩:=E6 W (by omega) g (i c Zw) e1;obtain⟨t,s,z,p⟩:=zN (S:=v) (S':=S') (word:=word) o (by omega) n (λd hd=>i d (Zv _ hd)) w;refine⟨t,s,by rw[Zk];omega,λf a=>?_⟩;obtain⟨j,q⟩:=p (Q1 ([c])) a;refine⟨j,?_⟩;rw[Zm];refine(cQ (U1:=[oc (xb S true),Q0 (h:Int),pc a,Q1 ([c])]) rfl ?_).trans q;have u:=jt (mv:=[false,false]) (as:=ae (aa 1) (ae (aa 3) ai)) (xs:=[(.fr,.int (h:Int)),(.fr,.str [c])]) (b:=true) (r:=[Q0 (h:Int),pc a,Q1 ([c])]) rfl rfl rfl m rfl;unfold cf jl;rw[u];rfl
theorem Cj{S S':St}{a:Tx}{h r:Nat}(W:WF S)(i:S.lg.length+2*a.length<=100000)(j:h<S.lg.length)(n:∀c∈a,97<=c/\c<=122)(e:hg S h a=some (S',r)) :
  WF S'/\r<S'.lg.length/\S'.lg.length<=S.lg.length+2*a.length/\aW (J9 S) [.int (h:Int),.str a]=some (J9 S',.int (r:Int)):=by
 obtain⟨g,f,d,b⟩:=zN W i j n e;obtain⟨o,q⟩:=b none (.str a);refine⟨g,f,d,?_⟩;unfold aW Ja;rw[Zs ⟨rfl,rfl⟩];have s1:=(eX (tg:=bg 3) (it:=gM (aa 2)) (body:=cf) (U:=[oc (xb S true),Q0 (h:Int),Q1 a,none]) (m:=.fr) (l:=a.map λc=>T.str [c]) rfl rfl).trans q;exact congrArg (λz:Option Out=>z.bind _) (sq s1 rfl)
end T17
end
section
namespace AU
noncomputable abbrev Wd:=Vv
noncomputable abbrev W(a:List Wd)(n:Nat):Wd:=a.getD n []
structure I(fr:Option Nat)(S:St)(nd:Wd->Option Nat)(wd:List Wd):Prop where
 wf:WF S
 len:wd.length=S.lg.length
 lg:∀n,n<wd.length->S.lg.getD n 0=(W wd n).length
 z:nd []=some 0
 wz:W wd 0=[]
 lt:∀{x n},nd x=some n->n<wd.length
 sf:∀{x n},nd x=some n->x <:+ W wd n
 top:∀{n},n<wd.length->nd (W wd n)=some n
 iv:∀{x y n},nd x=some n->x <:+ y->y <:+ W wd n->nd y=some n
 pre:∀{x c n},nd (x++[c])=some n->∃m,nd x=some m
 Mg:∀{x y n},nd y=some n->x <:+ y->∃m,nd x=some m
 N1:S.lk.getD 0 none=none
 lk:∀{n},0<n->n<wd.length->some n≠fr->∃m,S.lk.getD n none=some m/\(m<wd.length/\some m≠fr)/\W wd m <:+ W wd n/\(W wd m).length<(W wd n).length/\∀y,y <:+ W wd n->(W wd m).length<y.length->nd y=some n
 wy:∀{x n},nd x=some n->∀c,gW (S.wy.getD n []) c=nd (x++[c])
theorem dI{α:Type}{x y w:List α}(d:x <:+ w)(b:y <:+ w)(a:x.length<=y.length):x <:+ y:=List.suffix_of_suffix_length_le d b a
section
variable{fr:Option Nat}{S:St}{nd:Wd->Option Nat}{wd:List Wd}
theorem I.up(H:I fr S nd wd):∀(k n:Nat)(x:Wd),(W wd n).length<=k->n<wd.length->some n≠fr->x <:+ W wd n->∃m,nd x=some m/\W wd m <:+ W wd n:=by
 intro k
 induction k with
 |zero =>
  intro n x d b f a;have e:W wd n=[]:=List.length_eq_zero_iff.mp (Nat.le_zero.mp d);rw[e]at a;have:x=[]:=YC.mp a;subst this;exact⟨0,H.z,by rw[H.wz];exact X4⟩
 |succ k l =>
  intro n x d b f a;by_cases h:n=0
  ·subst h;rw[H.wz]at a;have:x=[]:=YC.mp a;subst this;exact⟨0,H.z,Yh _⟩
  ·obtain⟨m,u,⟨r,s⟩,g,t,p⟩:=H.lk (Z2 h) b f;by_cases o:(W wd m).length<x.length
   ·exact⟨n,p x a o,Yh _⟩
   ·obtain⟨q,j,i⟩:=l m x (by omega) r s (dI a g (by omega));exact⟨q,j,i.trans g⟩
theorem I.Pu(H:I fr S nd wd){n:Nat}{x:Wd}(b:n<wd.length)(d:some n≠fr)(a:x <:+ W wd n):∃m,nd x=some m/\W wd m <:+ W wd n:=H.up _ n x (Zo _) b d a
theorem I.all(H:I fr S nd wd){n q:Nat}{x y:Wd}(e:q<wd.length)(f:some q≠fr)(d:nd x=some n)(b:nd y=some n)(h:x <:+ W wd q):y <:+ W wd q:=by
 obtain⟨m,a,g⟩:=H.Pu e f h;rw[d]at a;cases a;exact(H.sf b).trans g
theorem I.inj(H:I fr S nd wd){m n:Nat}(b:m<wd.length)(a:n<wd.length)(h:W wd m=W wd n):m=n:=by
 have:=H.top b;rw[h,H.top a]at this;exact(Zl this).symm
theorem I.way(H:I fr S nd wd){n c a:Nat}(b:n<wd.length)(h:gW (S.wy.getD n []) c=some a):nd (W wd n++[c])=some a:=by
 rw[← H.wy (H.top b) c];exact h
theorem I.zero(H:I fr S nd wd){x:Wd}(h:nd x=some 0):x=[]:=by
 have:=H.sf h;rw[H.wz]at this;exact YC.mp this
theorem I.low(H:I fr S nd wd){n m:Nat}{y:Wd}(h:some n≠fr)(a:S.lk.getD n none=some m)(b:nd y=some n):(W wd m).length<y.length/\m<wd.length/\W wd m <:+ W wd n/\some m≠fr:=by
 have g:=H.lt b;by_cases f:n=0
 ·subst f;rw[H.N1]at a;cases a
 ·obtain⟨o,j,⟨e,l⟩,d,i,p⟩:=H.lk (Z2 f) g h;rw[j]at a;cases a;refine⟨Wh λhle=>?_,e,d,l⟩;have:=H.iv b (dI (H.sf b) d hle) d;rw[H.top e]at this;cases this;exact YO _ i
theorem I.below(H:I fr S nd wd){n q m:Nat}(e:n<wd.length)(g:some n≠fr)(a:S.lk.getD n none=some q)(f:m<wd.length)(b:W wd m <:+ W wd n)(l:m≠n):W wd m <:+ W wd q:=by
 by_cases d:n=0
 ·subst d;rw[H.N1]at a;cases a
 ·obtain⟨p,j,⟨s,_⟩,i,r,h⟩:=H.lk (Z2 d) e g;rw[j]at a;cases a;refine dI b i (Yu λo=>l ?_);have:=h _ b o;rw[H.top f]at this;exact Zl this
theorem I.root(H:I fr S nd wd){n m:Nat}(b:n<wd.length)(g:some n≠fr)(d:S.lk.getD n none=none)(f:m<wd.length)(a:W wd m <:+ W wd n):m=n:=by
 have i:n=0:=Nat.eq_zero_of_not_pos λe=>by
  obtain⟨q,h,_⟩:=H.lk e b g;rw[h]at d;cases d
 subst i;rw[H.wz]at a;exact H.inj f b (by rw[H.wz,YC.mp a])
theorem gQ(a:List (List (Nat×Nat)))(n m c v d:Nat)(b:n<a.length):gW ((a.set n (pW (a.getD n []) c v)).getD m []) d=if m=n/\d=c then some v else gW (a.getD m []) d:=by
 rw[iL];by_cases h:n=m
 ·subst h;rw[Zs ⟨rfl,b⟩,Ca];by_cases hd:d=c
  ·rw[Zs hd,Zs ⟨rfl,hd⟩]
  ·rw[Zp hd,Zp (λz=>hd z.2)]
 ·rw[Zp (λz=>h z.1),Zp (λz=>h z.1.symm)]
theorem I.NQ(H:I fr S nd wd){c old v:Nat}:∀(k:Nat)(T:St)(n:Nat),n<wd.length->some n≠fr->(W wd n).length<k->(∀m,m<wd.length->W wd m <:+ W wd n->T.lk.getD m none=S.lk.getD m none)->wd.length<=T.wy.length →
  (∀m b,m<wd.length->b<wd.length->W wd m <:+ W wd b->W wd b <:+ W wd n->gW (T.wy.getD m []) c=some old->gW (T.wy.getD b []) c=some old) →
  ∃l,Mz c old v k T (some n)=some ⟨T.lg,T.lk,l⟩/\l.length=T.wy.length/\∀m d,gW (l.getD m []) d=if d=c/\m<wd.length/\W wd m <:+ W wd n/\gW (T.wy.getD m []) c=some old then some v else gW (T.wy.getD m []) d:=by
 intro k
 induction k with
 |zero=>intro T n _ _ h;omega
 |succ k B =>
  intro T n f s F x hw mono;have j:n<T.wy.length:=ZF f hw;unfold Mz;by_cases i:gW (T.wy.getD n []) c=some old
  ·rw[Zs i,x n f (Yh _)];cases r:S.lk.getD n none with
   |none =>
    refine⟨T.wy.set n (pW (T.wy.getD n []) c v),by cases k<;>rfl,Yb,λm d=>?_⟩;rw[gQ _ _ _ _ _ _ j];by_cases a:m=n/\d=c
    ·rw[Zs a,Zs ⟨a.2,by rw[a.1];exact f,by rw[a.1];exact Yh _,by rw[a.1];exact i⟩]
    ·rw[Zp a,Zp λz=>a ⟨H.root f s r z.2.1 z.2.2.1,z.1⟩]
   |some q =>
    obtain⟨E,A,p,y⟩:=H.low s r (H.top f);have ne:∀m,W wd m <:+ W wd q->m≠n:=λm a e=>by
     rw[e]at a;have:=a.length_le;omega
    obtain⟨l,e1,e2,C⟩:=B ⟨T.lg,T.lk,T.wy.set n (pW (T.wy.getD n []) c v)⟩ q A y (by omega) (λm a o=>x m a (o.trans p)) (by show _<=(T.wy.set _ _).length;rw[Yb];exact hw) (λm b a D o t h=>by
     have u:gW ((T.wy.set n (pW (T.wy.getD n []) c v)).getD m []) c=some old:=h;show gW ((T.wy.set n (pW (T.wy.getD n []) c v)).getD b []) c=some old;rw[gQ _ _ _ _ _ _ j,Zp (λz=>ne m (o.trans t) z.1)]at u;rw[gQ _ _ _ _ _ _ j,Zp (λz=>ne b t z.1)];exact mono m b a D o (t.trans p) u)
    refine⟨l,e1,by rw[e2];exact Yb,λm d=>?_⟩;rw[C m d];show (if d=c/\m<wd.length/\W wd m <:+ W wd q/\gW ((T.wy.set n (pW (T.wy.getD n []) c v)).getD m []) c=some old then some v else gW ((T.wy.set n (pW (T.wy.getD n []) c v)).getD m []) d)=_;by_cases a:m=n
    ·subst a;rw[Zp (λz=>ne m z.2.2.1 rfl),gQ _ _ _ _ _ _ j];by_cases hd:d=c
     ·rw[Zs ⟨rfl,hd⟩,Zs ⟨hd,f,Yh _,i⟩]
     ·rw[Zp (λz=>hd z.2),Zp (λz=>hd z.1)]
    ·have w:∀d,gW ((T.wy.set n (pW (T.wy.getD n []) c v)).getD m []) d=gW (T.wy.getD m []) d:=λd=>by rw[gQ _ _ _ _ _ _ j,Zp (λz=>a z.1)]
     rw[w,w];by_cases g:d=c/\m<wd.length/\W wd m <:+ W wd n/\gW (T.wy.getD m []) c=some old
     ·rw[Zs g,Zs ⟨g.1,g.2.1,H.below f s r g.2.1 g.2.2.1 a,g.2.2.2⟩]
     ·rw[Zp g,Zp λz=>g ⟨z.1,z.2.1,z.2.2.1.trans p,z.2.2.2⟩]
  ·rw[Zp i];refine⟨T.wy,rfl,rfl,λm d=>?_⟩;rw[Zp λz=>i (mono m n z.2.1 f z.2.2.1 (Yh _) z.2.2.2)]
theorem I.NR(H:I fr S nd wd){c v:Nat}:∀(k:Nat)(T:St)(n:Nat),n<wd.length->some n≠fr->(W wd n).length<k->(∀m,m<wd.length->W wd m <:+ W wd n->T.lk.getD m none=S.lk.getD m none)->wd.length<=T.wy.length →
  (∀m g,m<wd.length->g<wd.length->W wd m <:+ W wd g->W wd g <:+ W wd n->(gW (T.wy.getD g []) c).isSome->(gW (T.wy.getD m []) c).isSome) →
  ∃y s,up1 c v k T (some n)=some (⟨T.lg,T.lk,y⟩,s)/\y.length=T.wy.length/\(∀m d,gW (y.getD m []) d=if d=c/\m<wd.length/\W wd m <:+ W wd n/\gW (T.wy.getD m []) c=none then some v else gW (T.wy.getD m []) d) ∧
   (s=none->∀m,m<wd.length->W wd m <:+ W wd n->gW (T.wy.getD m []) c=none) ∧
   ∀p,s=some p->p<wd.length/\W wd p <:+ W wd n/\(gW (T.wy.getD p []) c).isSome/\∀m,m<wd.length->W wd m <:+ W wd n->(W wd p).length<(W wd m).length->gW (T.wy.getD m []) c=none:=by
 intro k
 induction k with
 |zero=>intro T n _ _ h;omega
 |succ k P =>
  intro T n f o hk G hw mono;have r:n<T.wy.length:=ZF f hw;unfold up1;by_cases l:(gW (T.wy.getD n []) c).isSome=true
  ·rw[Zs l];refine⟨T.wy,some n,rfl,rfl,λm d=>?_,(λh=>nomatch h),λp t=>?_⟩
   ·rw[Zp λz=>?_];have:=mono m n z.2.1 f z.2.2.1 (Yh _) l;rw[z.2.2.2]at this;cases this
   ·cases t;refine⟨f,Yh _,l,λm a b j=>?_⟩;have:=b.length_le;omega
  ·have w:gW (T.wy.getD n []) c=none:=by
    cases h:gW (T.wy.getD n []) c with
    |none=>rfl
    |some x=>rw[h]at l;exact absurd rfl l
   rw[Zp l,G n f (Yh _)];cases j:S.lk.getD n none with
   |none =>
    refine⟨T.wy.set n (pW (T.wy.getD n []) c v),none,by cases k<;>rfl,Yb,λm d=>?_,λ_ m a b=>?_,(λp t=>nomatch t)⟩
    ·rw[gQ _ _ _ _ _ _ r];by_cases a:m=n/\d=c
     ·rw[Zs a,Zs ⟨a.2,by rw[a.1];exact f,by rw[a.1];exact Yh _,by rw[a.1];exact w⟩]
     ·rw[Zp a,Zp λz=>a ⟨H.root f o j z.2.1 z.2.2.1,z.1⟩]
    ·rw[H.root f o j a b];exact w
   |some q =>
    obtain⟨l1,O,A,N⟩:=H.low o j (H.top f);have ne:∀m,W wd m <:+ W wd q->m≠n:=λm a e=>by
     rw[e]at a;have:=a.length_le;omega
    obtain⟨y,s,e1,e2,X,U,R⟩:=P ⟨T.lg,T.lk,T.wy.set n (pW (T.wy.getD n []) c v)⟩ q O N (by omega) (λm a b=>G m a (b.trans A)) (by show _<=(T.wy.set _ _).length;rw[Yb];exact hw) (λm g a Z b B h=>by
     have D:(gW ((T.wy.set n (pW (T.wy.getD n []) c v)).getD g []) c).isSome:=h;show (gW ((T.wy.set n (pW (T.wy.getD n []) c v)).getD m []) c).isSome;rw[gQ _ _ _ _ _ _ r,Zp (λz=>ne g B z.1)]at D;rw[gQ _ _ _ _ _ _ r,Zp (λz=>ne m (b.trans B) z.1)];exact mono m g a Z b (B.trans A) D)
    have old:∀m,W wd m <:+ W wd q->gW ((T.wy.set n (pW (T.wy.getD n []) c v)).getD m []) c=gW (T.wy.getD m []) c:=λm a=>by rw[gQ _ _ _ _ _ _ r,Zp (λz=>ne m a z.1)]
    refine⟨y,s,e1,by rw[e2];exact Yb,λm d=>?_,λQ m a b=>?_,λp t=>?_⟩
    ·rw[X m d];show (if d=c/\m<wd.length/\W wd m <:+ W wd q/\gW ((T.wy.set n (pW (T.wy.getD n []) c v)).getD m []) c=none then some v else gW ((T.wy.set n (pW (T.wy.getD n []) c v)).getD m []) d)=_;by_cases a:m=n
     ·subst a;rw[Zp (λz=>ne m z.2.2.1 rfl),gQ _ _ _ _ _ _ r];by_cases hd:d=c
      ·rw[Zs ⟨rfl,hd⟩,Zs ⟨hd,f,Yh _,w⟩]
      ·rw[Zp (λz=>hd z.2),Zp (λz=>hd z.1)]
     ·have E:∀d,gW ((T.wy.set n (pW (T.wy.getD n []) c v)).getD m []) d=gW (T.wy.getD m []) d:=λd=>by rw[gQ _ _ _ _ _ _ r,Zp (λz=>a z.1)]
      rw[E,E];by_cases i:d=c/\m<wd.length/\W wd m <:+ W wd n/\gW (T.wy.getD m []) c=none
      ·rw[Zs i,Zs ⟨i.1,i.2.1,H.below f o j i.2.1 i.2.2.1 a,i.2.2.2⟩]
      ·rw[Zp i,Zp λz=>i ⟨z.1,z.2.1,z.2.2.1.trans A,z.2.2.2⟩]
    ·by_cases u:m=n
     ·rw[u];exact w
     ·have hb:=H.below f o j a b u;rw[← old m hb];exact U Q m a hb
    ·obtain⟨M,C,L,J⟩:=R p t;have F:(gW ((T.wy.set n (pW (T.wy.getD n []) c v)).getD p []) c).isSome:=L;rw[old p C]at F;refine⟨M,C.trans A,F,λm a b Y=>?_⟩;by_cases u:m=n
     ·rw[u];exact w
     ·have hb:=H.below f o j a b u;rw[← old m hb];exact J m a hb Y
end
theorem CN{c b v:Nat}(g:97<=c/\c<=122):∀(k:Nat)(S a:St)(o:Option Nat),WF S->v<S.lg.length->Mz c b v k S o=some a->WF a:=by
 intro k
 induction k with
 |zero =>
  intro S a o H d e;cases o with
  |none=>cases (show some S=some a from e);exact H
  |some n=>cases e
 |succ k f =>
  intro S a o H d e;cases o with
  |none=>cases (show some S=some a from e);exact H
  |some n =>
   unfold Mz at e;split at e
   ·exact f ⟨S.lg,S.lk,S.wy.set n (pW (S.wy.getD n []) c v)⟩ a _ (H.way (n:=n) d g) d e
   ·cases e;exact H
theorem C9{c v:Nat}(g:97<=c/\c<=122):∀(k:Nat)(S a:St)(o b:Option Nat),WF S->v<S.lg.length->up1 c v k S o=some (a,b)->WF a:=by
 intro k
 induction k with
 |zero =>
  intro S a o b H d e;cases o with
  |none=>cases (show some (S,none)=some (a,b) from e);exact H
  |some n=>cases e
 |succ k f =>
  intro S a o b H d e;cases o with
  |none=>cases (show some (S,none)=some (a,b) from e);exact H
  |some n =>
   unfold up1 at e;split at e
   ·cases e;exact H
   ·exact f ⟨S.lg,S.lk,S.wy.set n (pW (S.wy.getD n []) c v)⟩ a _ b (H.way (n:=n) d g) d e
theorem jJ{α:Type}{x y:List α}{a b:α}(h:x++[a] <:+ y++[b]):a=b/\x <:+ y:=by
 obtain⟨t,e⟩:=h;rw[← Zd]at e;obtain⟨e1,e2⟩:=List.append_inj' e rfl;exact⟨by simpa using e2,⟨t,e1⟩⟩
theorem iG{α:Type}{x y:List α}(a:α)(h:x <:+ y):x++[a] <:+ y++[a]:=by
 obtain⟨t,e⟩:=h;exact⟨t,by rw[← e,Zd]⟩
noncomputable def jh(b:Wd->Option Nat)(a l h:Nat)(x:Wd):Option Nat:=if b x=some a/\x.length<=l then some h else b x
theorem I.split{L:Option Nat}{S:St}{j:Wd->Option Nat}{a:List Wd}(H:I L S j a){n c old:Nat}(G:n<a.length)(hf:some n≠L)(hc:97<=c/\c<=122)(ho:gW (S.wy.getD n []) c=some old)(NA:some old≠L)(MW:L≠some a.length)(Jc:S.lg.getD old 0≠S.lg.getD n 0+1)(hk:(W a n).length<1000) :
  ∃S',Mj S n c=some (S',S.lg.length)/\I L S' (jh j old ((W a n).length+1) a.length) (a++[W a n++[c]]):=by
 have J:S.lg.length=a.length:=H.len.symm;have hw:=H.way G ho;have hold:=H.lt hw;have u:=H.sf hw;have lw:(W a n++[c]).length=(W a n).length+1:=by rw[Zy];rfl
 rw[H.lg old hold,H.lg n G]at Jc;have Y:(W a n).length+1<(W a old).length:=by
  have:=u.length_le;rw[lw]at this;omega
 have P:old≠0:=λe=>by
  rw[e,H.wz]at Y;simp at Y
 have Sb:0<a.length:=by rw[H.len];exact H.wf.pos
 have l1:S.lk.length=a.length:=by rw[H.wf.lk,J]
 have l2:S.wy.length=a.length:=by rw[H.wf.wy,J]
 have U:∀m,((S.lk++[S.lk.getD old none]).set old (some S.lg.length)).getD m none=if m=old then some a.length else if m=a.length then S.lk.getD old none else S.lk.getD m none:=λm=>by
  rw[iL,b6,l1,J];by_cases h:m=old
  ·rw[Zs ⟨h.symm,by rw[Zy,l1];omega⟩,Zs h]
  ·rw[Zp (λz=>h z.1.symm),Zp h]
 have JN:∀m,(S.wy++[S.wy.getD old []]).getD m []=if m=a.length then S.wy.getD old [] else S.wy.getD m []:=λm=>by rw[b6,l2]
 have X:∀m,m<a.length->(S.wy++[S.wy.getD old []]).getD m []=S.wy.getD m []:=λm b=>by rw[JN,Zp (Zb b)]
 obtain⟨Z,e1,e2,e3⟩:=H.NQ (c:=c) (old:=old) (v:=S.lg.length) 1000 ⟨S.lg++[S.lg.getD n 0+1],(S.lk++[S.lk.getD old none]).set old (some S.lg.length),S.wy++[S.wy.getD old []]⟩ n G hf hk (λm b Q=>by
   have:=Q.length_le;show ((S.lk++[S.lk.getD old none]).set old (some S.lg.length)).getD m none=_;rw[U,Zp (λe=>by rw[e]at this;omega),Zp (Zb b)])
  (by show _<=(S.wy++[S.wy.getD old []]).length;rw[Zy,l2];omega)
  (λm t b D Q Jn h=>by
   have C:gW ((S.wy++[S.wy.getD old []]).getD m []) c=some old:=h;show gW ((S.wy++[S.wy.getD old []]).getD t []) c=some old;rw[X m b]at C;rw[X t D,H.wy (H.top D) c];rw[H.wy (H.top b) c]at C;exact H.iv C (iG c Q) ((iG c Jn).trans u))
 have wn:=H.wf.Ou old;have W1:=H.wf.more (l:=S.lg.getD n 0+1) (o:=S.lk.getD old none) (w:=S.wy.getD old []) (λm b=>H.wf.up old m b) (λd m b=>H.wf.on old d m b) wn.1 wn.2;have hlen:(S.lg++[S.lg.getD n 0+1]).length=S.lg.length+1:=by rw[Zy];rfl
 have W2:=W1.link (n:=old) (v:=S.lg.length) (by show S.lg.length<(S.lg++[S.lg.getD n 0+1]).length;omega);have QC:=CN hc 1000 _ _ _ W2 (by show S.lg.length<(S.lg++[S.lg.getD n 0+1]).length;omega) e1;refine⟨⟨S.lg++[S.lg.getD n 0+1],(S.lk++[S.lk.getD old none]).set old (some S.lg.length),Z⟩,?_,?_⟩
 ·unfold Mj;rw[ho,Zt,Zp (by rw[H.lg old hold,H.lg n G];exact Jc),e1];rfl
 have Wn:∀m,W (a++[W a n++[c]]) m=if m=a.length then W a n++[c] else W a m:=λm=>b6 a _ _ m
 have s:W (a++[W a n++[c]]) a.length=W a n++[c]:=by rw[Wn,Zs rfl]
 have f:∀{m},m<a.length->W (a++[W a n++[c]]) m=W a m:=λ{m} b=>by rw[Wn,Zp (Zb b)]
 have d7:(a++[W a n++[c]]).length=a.length+1:=by rw[Zy];rfl
 have tell:∀{x m},jh j old ((W a n).length+1) a.length x=some m->(m=a.length/\j x=some old/\x.length<=(W a n).length+1)\/(m<a.length/\j x=some m/\¬(m=old/\x.length<=(W a n).length+1)):=λ{x m} h=>by
  unfold jh at h;split at h
  ·rename_i q;cases h;exact .inl ⟨rfl,q.1,q.2⟩
  ·rename_i q;exact .inr ⟨H.lt h,h,λz=>q ⟨by rw[h,z.1],z.2⟩⟩
 have N:∀{x},j x=some old->x.length<=(W a n).length+1->jh j old ((W a n).length+1) a.length x=some a.length:=λ{x} B R=>Zs ⟨B,R⟩;have tO:∀{x m},j x=some m->¬(m=old/\x.length<=(W a n).length+1)->jh j old ((W a n).length+1) a.length x=some m:=λ{x m} B R=>by
  unfold jh;rw[Zp (λz=>R ⟨by rw[B]at z;exact Zl z.1,z.2⟩),B]
 have MB:∀{x m},j x=some m->∃t,jh j old ((W a n).length+1) a.length x=some t:=λ{x m} h=>by
  unfold jh;split
  ·exact⟨_,rfl⟩
  ·exact⟨m,h⟩
 have un:∀{x m},jh j old ((W a n).length+1) a.length x=some m->∃t,j x=some t:=λ{x m} h=>(tell h).elim (λz=>⟨_,z.2.1⟩) λz=>⟨_,z.2.1⟩
 refine⟨QC,by rw[d7,hlen,J],λm b=>?_,tO H.z (λz=>P z.1.symm),by rw[f Sb];exact H.wz,λ{x m} h=>by rcases tell h with z | z<;>omega,λ{x m} h=>?_,λ{m} b=>?_,λ{x y m} h M g=>?_,λ{x d m} h=>?_,λ{x y m} h M=>?_,?_,λ{m} h0 b RK=>?_,λ{x m} h d=>?_⟩
 ·rw[d7]at b;show (S.lg++[S.lg.getD n 0+1]).getD m 0=_;rw[b6,J];by_cases e:m=a.length
  ·rw[Zs e,e,s,H.lg n G,lw]
  ·rw[Zp e,f (by omega),H.lg m (by omega)]
 ·rcases tell h with⟨rfl,i,E⟩ | ⟨F,i,_⟩
  ·rw[s];exact dI (H.sf i) u (by rw[lw];exact E)
  ·rw[f F];exact H.sf i
 ·rw[d7]at b;by_cases e:m=a.length
  ·rw[e,s];exact N hw (by rw[lw];exact Zo _)
  ·rw[f (by omega)];exact tO (H.top (by omega)) (λz=>by have:=z.2;rw[z.1]at this;omega)
 ·rcases tell h with⟨rfl,i,E⟩ | ⟨F,i,E⟩
  ·rw[s]at g;have:=g.length_le;rw[lw]at this;exact N (H.iv i M (g.trans u)) this
  ·rw[f F]at g;exact tO (H.iv i M g) (λz=>E ⟨z.1,ZE M.length_le z.2⟩)
 ·obtain⟨t,C⟩:=un h;obtain⟨q,p⟩:=H.pre C;exact MB p
 ·obtain⟨t,C⟩:=un h;obtain⟨q,p⟩:=H.Mg C M;exact MB p
 ·show ((S.lk++[S.lk.getD old none]).set old (some S.lg.length)).getD 0 none=none;rw[U,Zp (YF P),Zp (by omega)];exact H.N1
 ·rw[d7]at b;show ∃q,((S.lk++[S.lk.getD old none]).set old (some S.lg.length)).getD m none=some q/\_;rw[U,d7];obtain⟨q,q1,⟨O,VU⟩,q3,q4,q5⟩:=H.lk (Z2 P) hold NA;obtain⟨lo,_⟩:=H.low NA q1 hw;rw[lw]at lo;by_cases e:m=old
  ·subst e;rw[Zs rfl];refine⟨a.length,rfl,⟨by omega,λz=>MW z.symm⟩,?_,?_,λy g A=>?_⟩
   ·rw[s,f hold];exact u
   ·rw[s,f hold,lw];exact Y
   ·rw[s,lw]at A;rw[f hold]at g;exact tO (H.iv hw (dI u g (by rw[lw];omega)) g) (λz=>by have:=z.2;omega)
  ·rw[Zp e];by_cases eL:m=a.length
   ·subst eL;rw[Zs rfl,q1];refine⟨q,rfl,⟨by omega,VU⟩,?_,?_,λy g A=>?_⟩
    ·rw[s,f O];exact dI q3 u (by rw[lw];omega)
    ·rw[s,f O,lw];exact lo
    ·rw[s]at g;rw[f O]at A;have:=g.length_le;rw[lw]at this;exact N (q5 y (g.trans u) A) this
   ·rw[Zp eL];have D:m<a.length:=by omega
    obtain⟨r,r1,⟨r2,VT⟩,r3,r4,r5⟩:=H.lk h0 D RK;rw[r1];refine⟨r,rfl,⟨by omega,VT⟩,by rw[f r2,f D];exact r3,by rw[f r2,f D];exact r4,λy g A=>?_⟩;rw[f D]at g;rw[f r2]at A;exact tO (r5 y g A) (λz=>e z.1)
 ·show gW (Z.getD m []) d=_;rw[e3 m d];show (if d=c/\m<a.length/\W a m <:+ W a n/\gW ((S.wy++[S.wy.getD old []]).getD m []) c=some old then some S.lg.length else gW ((S.wy++[S.wy.getD old []]).getD m []) d)=_;rcases tell h with⟨rfl,i,E⟩ | ⟨F,i,E⟩
  ·rw[Zp (λz=>YO _ z.2.1),JN,Zs rfl,H.wy i d];unfold jh;rw[Zp];intro z;have B:=z.1;rw[← H.wy i d,H.wy (H.top hold) d]at B;have:=(H.sf B).length_le;rw[Zy,Zc]at this;omega
  ·rw[X m F,H.wy i c,H.wy i d];unfold jh;by_cases p:j (x++[d])=some old/\(x++[d]).length<=(W a n).length+1
   ·have Jm:=dI (H.sf p.1) u (by rw[lw];exact p.2);obtain⟨rfl,hx⟩:=jJ Jm;obtain⟨t,m1,m2⟩:=H.Pu G hf hx;rw[i]at m1;cases m1;rw[Zs ⟨rfl,F,m2,p.1⟩,Zs p,J]
   ·rw[Zp p,Zp];rintro⟨rfl,_,a3,a4⟩;refine p ⟨a4,?_⟩;have b1:=(H.sf i).length_le;have b2:=a3.length_le;rw[Zy,Zc];omega
end AU
end
section
namespace AU
open Classical in
noncomputable def iT(a:Wd->Option Nat)(w:Wd)(f:Nat)(x:Wd):Option Nat:=match a x with
 |some m=>some m
 |none=>if x <:+ w then some f else none
theorem dW{a:Wd->Option Nat}{w:Wd}{f m:Nat}{x:Wd}(h:a x=some m):iT a w f x=some m:=by
 unfold iT;rw[h]
theorem gD{a:Wd->Option Nat}{w:Wd}{f:Nat}{x:Wd}(h:a x=none)(b:x <:+ w):iT a w f x=some f:=by
 unfold iT;rw[h];exact Zs b
theorem cW{a:Wd->Option Nat}{w:Wd}{f m:Nat}{x:Wd}(h:iT a w f x=some m):a x=some m\/(m=f/\a x=none/\x <:+ w):=by
 unfold iT at h;split at h
 ·rename_i q e;cases h;exact .inl e
 ·rename_i e;split at h
  ·rename_i b;cases h;exact .inr ⟨rfl,e,b⟩
  ·cases h
theorem xY{α:Type}{y t:List α}{c:α}(h:y <:+ t++[c])(d:y≠[]):∃a,y=a++[c]/\a <:+ t:=by
 rcases List.eq_nil_or_concat y with e | ⟨a,b,e⟩
 ·exact absurd e d
 ·rw[List.concat_eq_append]at e;subst e;obtain⟨e1,e2⟩:=jJ h;exact⟨a,by rw[e1],e2⟩
section
variable{S:St}{nd:Wd->Option Nat}{wd:List Wd}
theorem I.fresh(H:I none S nd wd){h c:Nat}(t:h<wd.length)(hc:97<=c/\c<=122)(hn:gW (S.wy.getD h []) c=none)(hk:(W wd h).length<1000) :
  ∃C u,up1 c S.lg.length 1000 ⟨S.lg++[S.lg.getD h 0+1],S.lk++[some 0],S.wy++[[]]⟩ (some h)=some (C,u)/\I (some wd.length) C (iT nd (W wd h++[c]) wd.length) (wd++[W wd h++[c]])/\C.lk.getD wd.length none=some 0/\C.lg.length=S.lg.length+1 ∧
   (∀m,m<wd.length->(gW (S.wy.getD m []) c).isSome->gW (C.wy.getD m []) c=gW (S.wy.getD m []) c) ∧
   (u=none->∀m,m<wd.length->W wd m <:+ W wd h->gW (S.wy.getD m []) c=none) ∧
   ∀p,u=some p->p<wd.length/\W wd p <:+ W wd h/\(gW (S.wy.getD p []) c).isSome/\∀m,m<wd.length->W wd m <:+ W wd h->(W wd p).length<(W wd m).length->gW (S.wy.getD m []) c=none:=by
 have B:S.lg.length=wd.length:=H.len.symm;have l1:S.lk.length=wd.length:=by rw[H.wf.lk,B]
 have Y:S.wy.length=wd.length:=by rw[H.wf.wy,B]
 have Sb:0<wd.length:=by rw[H.len];exact H.wf.pos
 have L:∀m,(S.lk++[some 0]).getD m none=if m=wd.length then some 0 else S.lk.getD m none:=λm=>by rw[b6,l1]
 have JN:∀m,(S.wy++[[]]).getD m []=if m=wd.length then [] else S.wy.getD m []:=λm=>by rw[b6,Y]
 have s:∀m,m<wd.length->(S.wy++[[]]).getD m []=S.wy.getD m []:=λm b=>by rw[JN,Zp (Zb b)]
 have nt:nd (W wd h++[c])=none:=by rw[← H.wy (H.top t) c];exact hn
 obtain⟨M,u,e1,e2,Z,e4,e5⟩:=H.NR (c:=c) (v:=S.lg.length) 1000 ⟨S.lg++[S.lg.getD h 0+1],S.lk++[some 0],S.wy++[[]]⟩ h t (λz=>nomatch z) hk (λm b _=>by
   show (S.lk++[some 0]).getD m none=_;rw[L,Zp (Zb b)])
  (by show _<=(S.wy++[[]]).length;rw[Zy,Y];omega)
  (λm N b j g Jn q=>by
   have R:(gW ((S.wy++[[]]).getD N []) c).isSome:=q;show (gW ((S.wy++[[]]).getD m []) c).isSome;rw[s N j,H.wy (H.top j) c]at R;rw[s m b,H.wy (H.top b) c];obtain⟨r,f⟩:=Yl.mp R;obtain⟨Q,O⟩:=H.Mg f (iG c g);rw[O];rfl)
 have hlen:(S.lg++[S.lg.getD h 0+1]).length=S.lg.length+1:=by rw[Zy];rfl
 have W1:=H.wf.more (l:=S.lg.getD h 0+1) (o:=some 0) (w:=[]) (λm b=>by cases b;exact H.wf.pos) (λd m b=>by cases b) YG (λp P=>nomatch P);have QC:=C9 hc 1000 _ _ _ _ W1 (by show S.lg.length<(S.lg++[S.lg.getD h 0+1]).length;omega) e1;have lw:(W wd h++[c]).length=(W wd h).length+1:=by rw[Zy];rfl
 have Wn:∀m,W (wd++[W wd h++[c]]) m=if m=wd.length then W wd h++[c] else W wd m:=λm=>b6 wd _ _ m
 have J:W (wd++[W wd h++[c]]) wd.length=W wd h++[c]:=by rw[Wn,Zs rfl]
 have i:∀{m},m<wd.length->W (wd++[W wd h++[c]]) m=W wd m:=λ{m} b=>by rw[Wn,Zp (Zb b)]
 have d7:(wd++[W wd h++[c]]).length=wd.length+1:=by rw[Zy];rfl
 refine⟨⟨S.lg++[S.lg.getD h 0+1],S.lk++[some 0],M⟩,u,e1,?_,by show (S.lk++[some 0]).getD wd.length none=_;rw[L,Zs rfl],hlen,λm b g=>?_,λho m b g=>?_,λp P=>?_⟩
 rotate_left
 ·show gW (M.getD m []) c=_;rw[Z m c];show (if c=c/\m<wd.length/\W wd m <:+ W wd h/\gW ((S.wy++[[]]).getD m []) c=none then some S.lg.length else gW ((S.wy++[[]]).getD m []) c)=_;rw[s m b,Zp (λz=>by rw[z.2.2.2]at g;cases g)]
 ·have:=e4 ho m b g;have E:gW ((S.wy++[[]]).getD m []) c=none:=this;rw[s m b]at E;exact E
 ·obtain⟨U,p2,p3,p4⟩:=e5 p P;have OG:(gW ((S.wy++[[]]).getD p []) c).isSome:=p3;rw[s p U]at OG;refine⟨U,p2,OG,λm b g G=>?_⟩;have:=p4 m b g G;have E:gW ((S.wy++[[]]).getD m []) c=none:=this;rw[s m b]at E;exact E
 refine⟨QC,by rw[d7];show _=(S.lg++[S.lg.getD h 0+1]).length;rw[hlen,B],λm b=>?_,dW H.z,by rw[i Sb];exact H.wz,λ{x m} q=>?_,λ{x m} q=>?_,λ{m} b=>?_,λ{x y m} q D n=>?_,λ{x d m} q=>?_,λ{x y m} q D=>?_,?_,λ{m} h0 b RK=>?_,λ{x m} q d=>?_⟩
 ·rw[d7]at b;show (S.lg++[S.lg.getD h 0+1]).getD m 0=_;rw[b6,B];by_cases e:m=wd.length
  ·rw[Zs e,e,J,H.lg h t,lw]
  ·rw[Zp e,i (by omega),H.lg m (by omega)]
 ·rw[d7];rcases cW q with z | z
  ·have:=H.lt z;omega
  ·omega
 ·rcases cW q with z | ⟨rfl,_,z⟩
  ·rw[i (H.lt z)];exact H.sf z
  ·rw[J];exact z
 ·rw[d7]at b;by_cases e:m=wd.length
  ·rw[e,J];exact gD nt (Yh _)
  ·rw[i (by omega)];exact dW (H.top (by omega))
 ·rcases cW q with z | ⟨rfl,F,z2⟩
  ·rw[i (H.lt z)]at n;exact dW (H.iv z D n)
  ·rw[J]at n;refine gD ?_ n;cases e:nd y with
   |none=>rfl
   |some r =>
    obtain⟨Q,f⟩:=H.Mg e D;rw[F]at f;cases f
 ·rcases cW q with z | ⟨_,_,z⟩
  ·obtain⟨r,f⟩:=H.pre z;exact⟨r,dW f⟩
  ·obtain⟨_,A⟩:=jJ z;obtain⟨r,f⟩:=H.Mg (H.top t) A;exact⟨r,dW f⟩
 ·rcases cW q with z | ⟨_,_,z⟩
  ·obtain⟨r,f⟩:=H.Mg z D;exact⟨r,dW f⟩
  ·cases e:nd x with
   |none=>exact⟨_,gD e (D.trans z)⟩
   |some r=>exact⟨r,dW e⟩
 ·show (S.lk++[some 0]).getD 0 none=none;rw[L,Zp (by omega)];exact H.N1
 ·rw[d7]at b;have j:m<wd.length:=by
   have:m≠wd.length:=λe=>RK (by rw[e]);omega
  show ∃q,(S.lk++[some 0]).getD m none=some q/\_;rw[L,Zp (Zb j),d7];obtain⟨r,r1,⟨r2,_⟩,r3,r4,r5⟩:=H.lk h0 j (λz=>nomatch z);refine⟨r,r1,⟨by omega,λz=>?_⟩,by rw[i r2,i j];exact r3,by rw[i r2,i j];exact r4,λy n G=>?_⟩
  ·have:=Zl z;omega
  ·rw[i j]at n;rw[i r2]at G;exact dW (r5 y n G)
 ·show gW (M.getD m []) d=_;rw[Z m d];show (if d=c/\m<wd.length/\W wd m <:+ W wd h/\gW ((S.wy++[[]]).getD m []) c=none then some S.lg.length else gW ((S.wy++[[]]).getD m []) d)=_;rcases cW q with z | ⟨rfl,F,z2⟩
  ·have b:=H.lt z;rw[s m b,H.wy z c,H.wy z d];cases e:nd (x++[d]) with
   |some r =>
    rw[dW e,Zp];rintro⟨rfl,_,_,a⟩;rw[e]at a;cases a
   |none =>
    by_cases g:x++[d] <:+ W wd h++[c]
    ·obtain⟨rfl,A⟩:=jJ g;obtain⟨N,X,m2⟩:=H.Pu t (λz=>nomatch z) A;rw[z]at X;cases X;rw[gD e g,Zs ⟨rfl,b,m2,e⟩,B]
    ·have:iT nd (W wd h++[c]) wd.length (x++[d])=none:=by
      unfold iT;rw[e];exact Zp g
     rw[this,Zp];rintro⟨rfl,_,a,_⟩;exact g (iG d ((H.sf z).trans a))
  ·rw[Zp (λa=>YO _ a.2.1),JN,Zs rfl];have e:nd (x++[d])=none:=by
    cases e:nd (x++[d]) with
    |none=>rfl
    |some r =>
     obtain⟨Q,f⟩:=H.pre e;rw[F]at f;cases f
   have:iT nd (W wd h++[c]) wd.length (x++[d])=none:=by
    unfold iT;rw[e];refine Zp λg=>?_;obtain⟨_,A⟩:=jJ g;obtain⟨r,f⟩:=H.Mg (H.top t) A;rw[F]at f;cases f
   rw[this];rfl
theorem I.fix{f m:Nat}(H:I (some f) S nd wd)(j:f<wd.length)(b:m<wd.length)(h:W wd m <:+ W wd f)(a:(W wd m).length<(W wd f).length)(g:∀y,y <:+ W wd f->(W wd m).length<y.length->nd y=some f):I none ⟨S.lg,S.lk.set f (some m),S.wy⟩ nd wd:=by
 have o:f≠0:=λe=>by
  rw[e,H.wz]at a;simp at a
 have lf:f<S.lk.length:=by rw[H.wf.lk,← H.len];exact j
 refine⟨H.wf.link (by rw[← H.len];exact b),H.len,H.lg,H.z,H.wz,H.lt,H.sf,H.top,H.iv,H.pre,H.Mg,?_,λ{n} l i _=>?_,H.wy⟩
 ·show (S.lk.set f (some m)).getD 0 none=none;rw[iL,Zp (λz=>o z.1)];exact H.N1
 ·show ∃q,(S.lk.set f (some m)).getD n none=some q/\_;rw[iL];by_cases e:f=n
  ·subst e;rw[Zs ⟨rfl,lf⟩];exact⟨m,rfl,⟨b,λz=>nomatch z⟩,h,a,g⟩
  ·rw[Zp (λz=>e z.1)];obtain⟨r,r1,⟨r2,_⟩,d⟩:=H.lk l i (λz=>e (Zl z).symm);exact⟨r,r1,⟨r2,λz=>nomatch z⟩,d⟩
end
end AU
end
section
namespace AU
structure Pq(nd Ie:Wd->Option Nat)(w:Wd):Prop where
 eq:∀{x y m n},Ie x=some m->Ie y=some n->(m=n↔nd x=nd y/\(x <:+ w↔y <:+ w))
section
variable{fr:Option Nat}{S:St}{nd:Wd->Option Nat}{wd:List Wd}
theorem I.OR(H:I fr S nd wd){n c old:Nat}(p:n<wd.length)(N:some n≠fr)(O:97<=c/\c<=122)(o:gW (S.wy.getD n []) c=some old)(g:some old≠fr)(i:fr≠some wd.length)(M:(W wd n).length<1000) :
  ∃e r j Hl,Mj S n c=some (e,r)/\I fr e j Hl/\r<Hl.length/\some r≠fr/\W Hl r=W wd n++[c]/\(∀m,m<wd.length->W Hl m=W wd m)/\wd.length<=Hl.length/\Hl.length<=wd.length+1 ∧
   (∀x,(∃m,j x=some m) ↔ ∃m,nd x=some m)/\Pq nd j (W wd n++[c])/\∀x f,f≠old->nd x=some f->j x=some f:=by
 have hw:=H.way p o;have hold:=H.lt hw;have E:=H.sf hw;have lw:(W wd n++[c]).length=(W wd n).length+1:=by rw[Zy];rfl
 by_cases u:S.lg.getD old 0=S.lg.getD n 0+1
 ·have t:W wd old=W wd n++[c]:=by
   have:=u;rw[H.lg old hold,H.lg n p]at this;exact(E.eq_of_length (by rw[lw,this])).symm
  refine⟨S,old,nd,wd,?_,H,hold,g,t,λm _=>rfl,Zo _,XS _,λx=>Iff.rfl,⟨λ{x y m k} b a=>?_⟩,λx f _ h=>h⟩
  ·unfold Mj;rw[o,Zt,Zs u]
  ·constructor
   ·rintro rfl;exact⟨by rw[b,a],λh=>by rw[← t]at h ⊢;exact H.all hold g b a h,λh=>by rw[← t]at h ⊢;exact H.all hold g a b h⟩
   ·rintro⟨h,_⟩;rw[b,a]at h;exact Zl h
 ·obtain⟨e,e1,v⟩:=H.split p N O o g i u M;have C:W (wd++[W wd n++[c]]) wd.length=W wd n++[c]:=(b6 wd _ _ _).trans (Zs rfl);have P:∀m,m<wd.length->W (wd++[W wd n++[c]]) m=W wd m:=λm J=>(b6 wd _ _ m).trans (Zp (Zb J));have d7:(wd++[W wd n++[c]]).length=wd.length+1:=by rw[Zy];rfl
  have inv:∀{x m},jh nd old ((W wd n).length+1) wd.length x=some m->(m=wd.length/\nd x=some old/\x.length<=(W wd n).length+1)\/nd x=some m:=λ{x m} h=>by
   unfold jh at h;split at h
   ·rename_i q;cases h;exact .inl ⟨rfl,q.1,q.2⟩
   ·exact .inr h
  have D:∀{x},nd x=some old->(x.length<=(W wd n).length+1↔x <:+ W wd n++[c]):=λ{x} h=>⟨λL=>dI (H.sf h) E (by rw[lw];exact L),λd=>by have:=d.length_le;rw[lw]at this;exact this⟩
  refine⟨e,S.lg.length,_,_,e1,v,by rw[d7,← H.len];exact YI _,by rw[← H.len];exact λz=>i z.symm,by rw[← H.len];exact C,P,by omega,by omega,λx=>⟨λ⟨m,h⟩=>(inv h).elim (λz=>⟨_,z.2.1⟩) λz=>⟨_,z⟩,λ⟨m,h⟩=>?_⟩,⟨λ{x y m k} b a=>?_⟩,λx f s h=>?_⟩
  ·unfold jh;split
   ·exact⟨_,rfl⟩
   ·exact⟨m,h⟩
  ·constructor
   ·rintro rfl;have w:wd.length<(wd++[W wd n++[c]]).length:=by omega
    have B:=λh=>v.all w (λz=>i z.symm) b a h;have A:=λh=>v.all w (λz=>i z.symm) a b h;rw[C]at B A;refine⟨?_,B,A⟩;rcases inv b with⟨Q,F,_⟩ | z
    ·rcases inv a with⟨_,G,_⟩ | y
     ·rw[F,G]
     ·have:=H.lt y;omega
    ·rcases inv a with⟨R,_,_⟩ | y
     ·have:=H.lt z;omega
     ·rw[z,y]
   ·rintro⟨h,d⟩;have:jh nd old ((W wd n).length+1) wd.length x=jh nd old ((W wd n).length+1) wd.length y:=by
     unfold jh;rw[h];by_cases q:nd y=some old
     ·have e1:=D (show nd x=some old by rw[h,q]);have e2:=D q;by_cases l:y.length<=(W wd n).length+1
      ·rw[Zs ⟨q,e1.mpr (d.mpr (e2.mp l))⟩,Zs ⟨q,l⟩]
      ·rw[Zp (λz=>l (e2.mpr (d.mp (e1.mp z.2)))),Zp (λz=>l z.2)]
     ·rw[Zp (λz=>q z.1),Zp (λz=>q z.1)]
    rw[b,a]at this;exact Zl this
  ·unfold jh;rw[Zp (λz=>s (by rw[h]at z;exact Zl z.1))];exact h
end
section
variable{S:St}{nd:Wd->Option Nat}{wd:List Wd}
theorem I.step(H:I none S nd wd){h c:Nat}(A:h<wd.length)(hc:97<=c/\c<=122)(hk:(W wd h).length+1<1000) :
  ∃R r u Hl,hb S h c=some (R,r)/\I none R u Hl/\r<Hl.length/\W Hl r=W wd h++[c]/\(∀m,m<wd.length->W Hl m=W wd m)/\wd.length<=Hl.length/\Hl.length<=wd.length+2 ∧
   (∀x,(∃m,u x=some m)↔(∃m,nd x=some m)\/x <:+ W wd h++[c])/\Pq nd u (W wd h++[c]):=by
 cases hg:gW (S.wy.getD h []) c with
 |some old =>
  obtain⟨R,r,u,Hl,e,H',h1,_,h2,h3,h4,h5,h6,h7,_⟩:=H.OR A (λz=>nomatch z) hc hg (λz=>nomatch z) (λz=>nomatch z) (by omega);refine⟨R,r,u,Hl,?_,H',h1,h2,h3,h4,by omega,λx=>(h6 x).trans ⟨.inl,λz=>z.elim id λz=>H.Mg (H.way A hg) z⟩,h7⟩;unfold hb;rw[hg];exact e
 |none =>
  have F:S.lg.length=wd.length:=H.len.symm;obtain⟨o,o',e1,v,k0,k1,k2,k3,k4⟩:=H.fresh A hc hg (by omega);have Q:W (wd++[W wd h++[c]]) wd.length=W wd h++[c]:=(b6 wd _ _ _).trans (Zs rfl);have P:∀m,m<wd.length->W (wd++[W wd h++[c]]) m=W wd m:=λm hm=>(b6 wd _ _ m).trans (Zp (Zb hm));have d7:(wd++[W wd h++[c]]).length=wd.length+1:=by rw[Zy];rfl
  have lw:(W wd h++[c]).length=(W wd h).length+1:=by rw[Zy];rfl
  have nt:nd (W wd h++[c])=none:=by rw[← H.wy (H.top A) c];exact hg
  have ex:∀x,(∃m,iT nd (W wd h++[c]) wd.length x=some m)↔(∃m,nd x=some m)\/x <:+ W wd h++[c]:=λx=>⟨λ⟨m,q⟩=>(cW q).elim (λz=>.inl ⟨_,z⟩) λz=>.inr z.2.2,λq=>by
   cases e:nd x with
   |some m=>exact⟨m,dW e⟩
   |none=>exact q.elim (λ⟨m,z⟩=>by rw[e]at z;cases z) λz=>⟨_,gD e z⟩⟩
  have same:∀{x y m n},iT nd (W wd h++[c]) wd.length x=some m->iT nd (W wd h++[c]) wd.length y=some n->(m=n↔nd x=nd y):=λ{x y m n} s j=>by
   rcases cW s with z | ⟨z1,z2,_⟩
   ·rcases cW j with i | ⟨y1,Y,_⟩
    ·rw[z,i];exact⟨λe=>by rw[e],λe=>Zl e⟩
    ·have:=H.lt z;refine⟨λe=>by omega,λe=>?_⟩;rw[z,Y]at e;cases e
   ·rcases cW j with i | ⟨y1,Y,_⟩
    ·have:=H.lt i;refine⟨λe=>by omega,λe=>?_⟩;rw[z2,i]at e;cases e
    ·exact⟨λ_=>by rw[z2,Y],λ_=>by rw[z1,y1]⟩
  have MA:∀{y},y <:+ W wd h++[c]->y≠[]->∀{q},nd y=some q->∃i m,y=i++[c]/\i <:+ W wd h/\nd i=some m/\m<wd.length/\W wd m <:+ W wd h/\(gW (S.wy.getD m []) c).isSome:=λ{y} d Jc {q} M=>by
   obtain⟨i,rfl,TZ⟩:=xY d Jc;obtain⟨m,D,m2⟩:=H.Pu A (λz=>nomatch z) TZ;exact⟨i,m,rfl,TZ,D,H.lt D,m2,by rw[H.wy D c,M];rfl⟩
  unfold hb;rw[hg,Zp (by simp),e1];cases o' with
  |none =>
   have w:=k3 rfl;have none_:∀{y},y <:+ W wd h++[c]->y≠[]->nd y=none:=λ{y} d Jc=>by
    cases e:nd y with
    |none=>rfl
    |some q =>
     obtain⟨i,m,_,_,_,m3,m4,C⟩:=MA d Jc e;rw[w m m3 m4]at C;cases C
   have X:=v.fix (f:=wd.length) (m:=0) (by omega) (by omega) (by rw[v.wz];exact X4) (by rw[v.wz,Q,lw];exact Nat.succ_pos _) (λy d g=>by
    rw[Q]at d;rw[v.wz]at g;exact gD (none_ d (λe=>by rw[e]at g;cases g)) d)
   have eS:(⟨o.lg,o.lk.set wd.length (some 0),o.wy⟩:St)=o:=by
    have g:wd.length<o.lk.length:=by rw[v.wf.lk,← v.len,d7];exact YI _
    have:o.lk.set wd.length (some 0)=o.lk:=by
     rw[Zr,Zq g,Y0]at k0;rw[← k0];exact WU g
    rw[this]
   rw[eS]at X;refine⟨o,S.lg.length,_,_,rfl,X,by rw[d7,F];exact YI _,by rw[F];exact Q,P,by omega,by omega,ex,⟨λ{x y m n} s j=>?_⟩⟩;rw[same s j];refine⟨λe=>⟨e,?_⟩,λe=>e.1⟩;have key:∀{x y m n},iT nd (W wd h++[c]) wd.length x=some m->iT nd (W wd h++[c]) wd.length y=some n->nd x=nd y->x <:+ W wd h++[c]->y <:+ W wd h++[c]:=λ{x y m n} s j e hx=>by
    rcases cW j with z | z
    ·rw[z]at e;by_cases OV:x=[]
     ·subst OV;rw[H.z]at e;cases e;rw[H.zero z];exact X4
     ·rw[none_ hx OV]at e;cases e
    ·exact z.2.2
   exact⟨key s j e,key j s e.symm⟩
  |some p =>
   obtain⟨B,L,p3,p4⟩:=k4 p rfl;obtain⟨old,N⟩:=Yl.mp p3;have ho2:gW (o.wy.getD p []) c=some old:=by rw[k2 p B p3];exact N
   have TL:=H.way B N;have hold:=H.lt TL;have ph:(W wd p).length<(W wd h).length:=by
    rcases Nat.lt_or_eq_of_le L.length_le with l | l
    ·exact l
    ·have:=H.inj B A (L.eq_of_length l);rw[this,hg]at N;cases N
   obtain⟨S3,r,u,Hl,f1,X,f2,f2',O,f4,f5,f6,f7,f8,f9⟩:=v.OR (n:=p) (c:=c) (old:=old) (by omega) (λz=>by have:=Zl z;omega) hc ho2 (λz=>by have:=Zl z;omega) (λz=>by have:=Zl z;omega) (by rw[P p B];omega);rw[P p B]at O f8;have Rl:(W wd p++[c]).length=(W wd p).length+1:=by rw[Zy];rfl
   have U:W Hl wd.length=W wd h++[c]:=by rw[f4 _ (by omega),Q]
   have none_:∀{y},y <:+ W wd h++[c]->(W wd p).length+1<y.length->nd y=none:=λ{y} d g=>by
    cases e:nd y with
    |none=>rfl
    |some q =>
     obtain⟨i,m,rfl,D,m2,m3,m4,C⟩:=MA d (λe=>by rw[e]at g;cases g) e;have l1:=(H.sf m2).length_le;rw[Zy,Zc]at g;rw[p4 m m3 m4 (by omega)]at C;cases C
   have H4:=X.fix (f:=wd.length) (m:=r) (by omega) f2 (by rw[O,U];exact iG c L) (by rw[O,U,Rl,lw];omega) (λy d g=>by
    rw[U]at d;rw[O,Rl]at g;exact f9 y wd.length (by omega) (gD (none_ d g) d))
   refine⟨⟨S3.lg,S3.lk.set S.lg.length (some r),S3.wy⟩,S.lg.length,u,Hl,?_,by rw[F];exact H4,by rw[F];omega,by rw[F];exact U,λm hm=>by rw[f4 m (by omega),P m hm],by omega,by omega,λx=>(f7 x).trans (ex x),⟨λ{x y m n} s j=>?_⟩⟩
   ·show (Mj o p c).map _=_;rw[f1];rfl
   ·rw[f8.eq s j];obtain⟨D,J⟩:=(f7 x).mp ⟨m,s⟩;obtain⟨n1,G⟩:=(f7 y).mp ⟨n,j⟩;have e1:iT nd (W wd h++[c]) wd.length x=iT nd (W wd h++[c]) wd.length y↔nd x=nd y:=by
     rw[J,G];exact⟨λe=>(same J G).mp (Zl e),λe=>by rw[(same J G).mpr e]⟩
    rw[e1];have sw:W wd p++[c] <:+ W wd h++[c]:=iG c L;have w:∀{z q},nd z=some q->(z <:+ W wd h++[c]↔z <:+ W wd p++[c]):=λ{z q} E=>⟨λa=>dI a sw (by
     rw[Rl];refine Yu λb=>?_;rw[none_ a b]at E;cases E),λa=>a.trans sw⟩
    have un:∀{z q},nd z=none->iT nd (W wd h++[c]) wd.length z=some q->z <:+ W wd h++[c]/\¬z <:+ W wd p++[c]:=λ{z q} E a=>by
     rcases cW a with b | b
     ·rw[E]at b;cases b
     ·refine⟨b.2.2,λa=>?_⟩;obtain⟨q',M⟩:=H.Mg TL a;rw[E]at M;cases M
    refine⟨λ⟨a,b⟩=>⟨a,?_⟩,λ⟨a,b⟩=>⟨a,?_⟩⟩
    ·cases t:nd x with
     |some q=>rw[w t,w (show nd y=some q by rw[← a,t])];exact b
     |none =>
      have u1:=un t J;have Z:=un (show nd y=none by rw[← a,t]) G;exact⟨λ_=>Z.1,λ_=>u1.1⟩
    ·cases t:nd x with
     |some q=>rw[← w t,← w (show nd y=some q by rw[← a,t])];exact b
     |none =>
      have u1:=un t J;have Z:=un (show nd y=none by rw[← a,t]) G;exact⟨λz=>absurd z u1.2,λz=>absurd z Z.2⟩
end
structure K(P:Wd->Prop)(S:St)(nd:Wd->Option Nat)(wd:List Wd):Prop where
 i:I none S nd wd
 nil:P []
 some:∀x,(∃m,nd x=some m) ↔ ∃p,P p/\x <:+ p
 eq:∀{x y m n},nd x=.some m->nd y=.some n->(m=n ↔ ∀p,P p->(x <:+ p↔y <:+ p))
theorem K.congr{P Q:Wd->Prop}{S:St}{b:Wd->Option Nat}{a:List Wd}(H:K P S b a)(h:∀p,P p↔Q p):K Q S b a:=by
 have:P=Q:=funext λp=>propext (h p);rw[← this];exact H
noncomputable def Ng(x:Wd):Option Nat:=if x=[] then some 0 else none
theorem gu{x:Wd}{n:Nat}(h:Ng x=some n):x=[]/\n=0:=by
 unfold Ng at h;split at h
 ·exact⟨by assumption,(Zl h).symm⟩
 ·cases h
theorem K0:K (λp=>p=[]) S0 Ng [[]]:=by
 refine⟨⟨BY,rfl,λn d=>?_,rfl,rfl,λ{x n} h=>?_,λ{x n} h=>?_,λ{n} d=>?_,λ{x y n} h b a=>?_,λ{x c n} h=>?_,λ{x y n} h b=>?_,rfl,λ{n} b a=>?_,λ{x n} h c=>?_⟩,rfl,λx=>?_,λ{x y m n} b a=>?_⟩
 ·have:n=0:=Nat.lt_one_iff.mp d;subst this;rfl
 ·rw[(gu h).2];exact Nat.one_pos
 ·rw[(gu h).1];exact X4
 ·have:n=0:=Nat.lt_one_iff.mp d;subst this;rfl
 ·have e:=(gu h).2;subst e;have:y=[]:=YC.mp a;subst this;rfl
 ·have:=(gu h).1;exact absurd this (by simp)
 ·have e:=(gu h).1;subst e;have:x=[]:=YC.mp b;subst this;exact⟨0,rfl⟩
 ·have:n<1:=a;omega
 ·have e:=gu h;obtain⟨rfl,rfl⟩:=e;rfl
 ·constructor
  ·rintro⟨m,h⟩;exact⟨[],rfl,by rw[(gu h).1];exact X4⟩
  ·rintro⟨p,rfl,h⟩;have:x=[]:=YC.mp h;subst this;exact⟨0,rfl⟩
 ·obtain⟨rfl,rfl⟩:=gu b;obtain⟨rfl,rfl⟩:=gu a;exact⟨λ_ _ _=>Iff.rfl,λ_=>rfl⟩
section
variable{P:Wd->Prop}{S:St}{nd:Wd->Option Nat}{wd:List Wd}
theorem K.step(H:K P S nd wd){h c:Nat}(w:h<wd.length)(A:97<=c/\c<=122)(v:(W wd h).length+1<1000) :
  ∃g r j Hl,hb S h c=.some (g,r)/\K (λp=>P p\/p=W wd h++[c]) g j Hl/\r<Hl.length/\W Hl r=W wd h++[c]/\(∀m,m<wd.length->W Hl m=W wd m)/\wd.length<=Hl.length/\Hl.length<=wd.length+2:=by
 obtain⟨g,r,j,Hl,e,J,G,F,E,D,C,t,B⟩:=H.i.step w A v;refine⟨g,r,j,Hl,e,⟨J,.inl H.nil,λx=>?_,λ{x y m n} s o=>?_⟩,G,F,E,D,C⟩
 ·rw[t,H.some];constructor
  ·rintro (⟨p,a,b⟩ | a)
   ·exact⟨p,.inl a,b⟩
   ·exact⟨_,.inr rfl,a⟩
  ·rintro⟨p,a | rfl,b⟩
   ·exact .inl ⟨p,a,b⟩
   ·exact .inr b
 ·rw[B.eq s o];have un:∀{z q},j z=.some q->nd z=none->z <:+ W wd h++[c]/\∀p,P p->¬z <:+ p:=λ{z q} a b=>⟨((t z).mp ⟨q,a⟩).elim (λ⟨m,x⟩=>by rw[b]at x;cases x) id,λp d u=>by
   obtain⟨m,x⟩:=(H.some z).mpr ⟨p,d,u⟩;rw[b]at x;cases x⟩
  have old:nd x=nd y ↔ ∀p,P p->(x <:+ p↔y <:+ p):=by
   cases ex:nd x with
   |some a =>
    cases f:nd y with
    |some b=>exact⟨λe=>(H.eq ex f).mp (Zl e),λe=>by rw[(H.eq ex f).mpr e]⟩
    |none =>
     refine⟨λe=>(nomatch e),λe=>?_⟩;obtain⟨p,d,l⟩:=(H.some x).mp ⟨a,ex⟩;exact absurd ((e p d).mp l) ((un o f).2 p d)
   |none =>
    cases f:nd y with
    |some b =>
     refine⟨λe=>(nomatch e),λe=>?_⟩;obtain⟨p,d,l⟩:=(H.some y).mp ⟨b,f⟩;exact absurd ((e p d).mpr l) ((un s ex).2 p d)
    |none=>exact⟨λ_ p d=>⟨λz=>absurd z ((un s ex).2 p d),λz=>absurd z ((un o f).2 p d)⟩,λ_=>rfl⟩
  rw[old];constructor
  ·rintro⟨a,b⟩ p (d | rfl)
   ·exact a p d
   ·exact b
  ·intro a;exact⟨λp d=>a p (.inl d),a _ (.inr rfl)⟩
end
theorem K.grow:∀(w:Vv){P:Wd->Prop}{S:St}{nd:Wd->Option Nat}{b:List Wd}(H:K P S nd b){h:Nat},h<b.length->P (W b h)->(∀c∈w,97<=c/\c<=122)->(W b h).length+w.length<1000 →
  ∃j r B Hl,hg S h w=.some (j,r)/\K (λp=>P p\/∃v,v <+: w/\p=W b h++v) j B Hl/\r<Hl.length/\W Hl r=W b h++w/\(∀m,m<b.length->W Hl m=W b m)/\b.length<=Hl.length/\Hl.length<=b.length+2*w.length:=by
 intro w
 induction w with
 |nil =>
  intro P S nd b H h g f hw i;refine⟨S,h,nd,b,rfl,H.congr λp=>⟨.inl,?_⟩,g,(ZQ _).symm,λ_ _=>rfl,Zo _,Zo _⟩;rintro (a | ⟨v,a,rfl⟩)
  ·exact a
  ·rw[List.prefix_nil.mp a,ZQ];exact f
 |cons c w l =>
  intro P S nd b H h g f hw i;rw[Zk]at i;obtain⟨M,r1,N,L,e1,D,u,e,t,J,G⟩:=H.step g (hw c Zw) (by omega);obtain⟨y,r2,z,A,e2,C,s,q,o,F,E⟩:=l D u (.inr e) (λd hd=>hw d (Zv _ hd)) (by rw[e,Zy,Zc];omega);refine⟨y,r2,z,A,?_,C.congr λp=>?_,s,?_,λm n=>by rw[o m (by omega),t m n],by omega,by rw[Zk];omega⟩
  ·show (hb S h c).bind _=_;rw[e1];exact e2
  ·rw[e];constructor
   ·rintro ((a | rfl) | ⟨v,a,rfl⟩)
    ·exact .inl a
    ·exact .inr ⟨[c],WT.mpr ⟨rfl,List.nil_prefix⟩,rfl⟩
    ·exact .inr ⟨c :: v,WT.mpr ⟨rfl,a⟩,by rw[Zd];rfl⟩
   ·rintro (a | ⟨v,a,rfl⟩)
    ·exact .inl (.inl a)
    ·cases v with
     |nil=>rw[ZQ];exact .inl (.inl f)
     |cons d v =>
      obtain⟨rfl,x⟩:=WT.mp a;exact .inr ⟨v,x,by rw[Zd];rfl⟩
  ·rw[q,e,Zd];rfl
noncomputable def mB(S:St):List Wd->Option St
 |[]=>some S
 |t :: b=>(hg S 0 t).bind λz=>mB z.1 b
theorem K.book:∀(b:List Wd){P:Wd->Prop}{S:St}{nd:Wd->Option Nat}{d:List Wd}(H:K P S nd d),(∀t∈b,∀c∈t,97<=c/\c<=122)->(∀t∈b,t.length<1000) →
  ∃j r Hl,mB S b=.some j/\K (λp=>P p\/∃t∈b,p <+: t) j r Hl/\d.length<=Hl.length/\Hl.length<=d.length+2*(b.map List.length).sum:=by
 intro b
 induction b with
 |nil =>
  intro P S nd d H _ _;refine⟨S,nd,d,rfl,H.congr λp=>⟨.inl,?_⟩,Zo _,Z1 _ _⟩;rintro (a | ⟨t,f,_⟩)
  ·exact a
  ·cases f
 |cons t b l =>
  intro P S nd d H h g;have m:0<d.length:=H.i.lt H.i.z;obtain⟨G,r1,J,F,e1,w,E,D,C,B,A⟩:=H.grow t m (by rw[H.i.wz];exact H.nil) (h t Zw) (by rw[H.i.wz];have:=g t Zw;simpa using this);obtain⟨n,o,q,e2,s,y,x⟩:=l w (λt f=>h t (Zv _ f)) (λt f=>g t (Zv _ f));refine⟨n,o,q,?_,s.congr λp=>?_,by omega,by rw[Zm,Wk];omega⟩
  ·show (hg S 0 t).bind _=_;rw[e1];exact e2
  ·rw[H.i.wz];constructor
   ·rintro ((a | ⟨v,a,rfl⟩) | ⟨u,e,a⟩)
    ·exact .inl a
    ·exact .inr ⟨t,Zw,a⟩
    ·exact .inr ⟨u,Zv _ e,a⟩
   ·rintro (a | ⟨u,e,a⟩)
    ·exact .inl (.inl a)
    ·rcases Zj.mp e with rfl | e
     ·exact .inl (.inr ⟨p,a,rfl⟩)
     ·exact .inr ⟨u,e,a⟩
noncomputable def Hd(b:List Wd)(p:Wd):Prop:=p=[]\/∃t∈b,p <+: t
theorem K.of(b:List Wd)(f:∀t∈b,∀c∈t,97<=c/\c<=122)(d:∀t∈b,t.length<1000):∃S nd a,mB S0 b=.some S/\K (Hd b) S nd a/\a.length<=1+2*(b.map List.length).sum:=by
 obtain⟨S,nd,a,e,H,_,l⟩:=K0.book b f d;exact⟨S,nd,a,e,H,l⟩
noncomputable def sk(w:List (Nat×Nat)):Vv:=(List.range' 97 26).filter λc=>(gW w c).isSome
noncomputable def visit(w:List (Nat×Nat)):Vv->Vv->Vv
 |[],met=>met
 |c :: r,met=>visit w r (if (gW w c).getD 0∈met then met else met++[(gW w c).getD 0])
noncomputable def KD(S:St):Nat->Vv->Nat->Option (Vv)
 |k,met,d=>if d<met.length then (match k with
  |0=>none
  |k+1=>KD S k (visit (S.wy.getD (met.getD d 0) []) (sk (S.wy.getD (met.getD d 0) [])) met) (d+1)) else some met
noncomputable def steps(S:St)(a:Vv)(n:Nat):List (Nat×Nat):=(sk (S.wy.getD n [])).map λc=>(c,a.idxOf ((gW (S.wy.getD n []) c).getD 0))
noncomputable abbrev Row:=Nat×Nat×Option Nat×List (Nat×Nat)
noncomputable def row(S:St)(a:Vv)(n:Nat):Row:=match S.lk.getD n none with
 |none=>(0,0,none,steps S a n)
 |some l=>(S.lg.getD l 0+1,S.lg.getD n 0,some (a.idxOf l),steps S a n)
noncomputable def tab(S:St)(a:Vv):List Row:=a.map (row S a)
section
variable{S T:St}{f:Nat->Nat}
theorem lN{w:List (Nat×Nat)}{c:Nat}(h:c∈sk w):∃m,gW w c=some m:=Yl.mp (Xq.mp h).2
theorem n6{w:List (Nat×Nat)}{N:Nat}(hw:∀c m,gW w c=some m->m<N):∀(r met:Vv),(∀c∈r,∃m,gW w c=some m)->(∀x∈met,x<N)->∀x∈visit w r met,x<N
 |[],met,_,a=>a
 |c :: r,met,b,a=>by
  refine n6 hw r _ (λd hd=>b d (Zv _ hd)) ?_;obtain⟨m,e⟩:=b c Zw;rw[e,Y0];split
  ·exact a
  ·intro x g;rcases Ze.mp g with h | h
   ·exact a x h
   ·rw[Za.mp h];exact hw c m e
theorem getD_mem{l:Vv}{d:Nat}(h:d<l.length):l.getD d 0∈l:=by
 rw[Zr,Zq h];exact Yt h
end
theorem lZ{w:List (Nat×Nat)}:∀(r met:Vv),∃l,visit w r met=met++l
 |[],met=>⟨[],(ZQ _).symm⟩
 |c :: r,met=>by
  obtain⟨l,e⟩:=lZ (w:=w) r (if (gW w c).getD 0∈met then met else met++[(gW w c).getD 0]);show ∃l,visit w r _=_;rw[e];split
  ·exact⟨l,rfl⟩
  ·exact⟨_,Zd _ _ _⟩
theorem oM{w:List (Nat×Nat)}:∀(r met:Vv),met.Nodup->(visit w r met).Nodup
 |[],met,h=>h
 |c :: r,met,h=>by
  refine oM (w:=w) r _ ?_;split
  ·exact h
  ·rename_i q;rw[ZK];refine⟨h,by simp,λa d b hb e=>q ?_⟩;rw[Za.mp hb]at e;rw[← e];exact d
theorem pq{w:List (Nat×Nat)}:∀(r met:Vv),∀c∈r,(gW w c).getD 0∈visit w r met
 |d :: r,met,c,a=>by
  rcases Zj.mp a with rfl | a
  ·obtain⟨l,e⟩:=lZ (w:=w) r (if (gW w c).getD 0∈met then met else met++[(gW w c).getD 0]);show _∈visit w r _;rw[e];refine Yf _ ?_;split
   ·assumption
   ·exact ZP _ Zw
  ·exact pq r _ c a
theorem yg{w:List (Nat×Nat)}(d:∀p∈w,97<=p.1/\p.1<=122){c m:Nat}(h:gW w c=some m):c∈sk w:=by
 refine Xq.mpr ⟨?_,by rw[h];rfl⟩;unfold gW at h;obtain⟨p,a,_⟩:=Zu.mp h;have e:=List.find?_some a;have:=d p (Wv a);have b:p.1=c:=by simpa using e
 rw[b]at this;rw[List.mem_range'_1];omega
theorem CH{S:St}(o:WF S):∀(k:Nat)(met:Vv)(d:Nat),met.Nodup->(∀x∈met,x<S.lg.length)->d<=met.length->S.lg.length<=k+d->(∀i,i<d->∀c m,gW (S.wy.getD (met.getD i 0) []) c=some m->m∈met) →
  ∃l,KD S k met d=some (met++l)/\(met++l).Nodup/\(∀x∈met++l,x<S.lg.length)/\∀n∈met++l,∀c m,gW (S.wy.getD n []) c=some m->m∈met++l:=by
 intro k;have fin:∀(met:Vv)(d:Nat),¬d<met.length->d<=met.length->(∀i,i<d->∀c m,gW (S.wy.getD (met.getD i 0) []) c=some m->m∈met)->∀n∈met,∀c m,gW (S.wy.getD n []) c=some m->m∈met:=by
  intro met d f b h n t c m e;obtain⟨i,g,q⟩:=List.mem_iff_getElem.mp t;refine h i (by omega) c m ?_;have:met.getD i 0=n:=by rw[Zr,Zq g,q];rfl
  rw[this];exact e
 induction k with
 |zero =>
  intro met d nd lt hd u h;have z:met.length<=S.lg.length:=by
   have:=sub_len met (List.range S.lg.length) nd λx s=>ZD.mpr (lt x s)
   rwa [ZO]at this
  have a:¬d<met.length:=by omega
  refine⟨[],?_,?_⟩
  ·unfold KD;rw[Zp a,ZQ]
  ·rw[ZQ];exact⟨nd,lt,fin met d a hd h⟩
 |succ k r =>
  intro met d nd lt hd u h;by_cases a:d<met.length
  ·obtain⟨p,e1⟩:=lZ (w:=S.wy.getD (met.getD d 0) []) (sk (S.wy.getD (met.getD d 0) [])) met;obtain⟨l,e,f,b,j⟩:=r (visit (S.wy.getD (met.getD d 0) []) (sk (S.wy.getD (met.getD d 0) [])) met) (d+1) (oM _ _ nd) (n6 (λc m e=>o.on _ c m e) _ _ (λc v=>lN v) lt) (by rw[e1,Zy];omega) (by omega) (λi g c m e=>by
    have y:(visit (S.wy.getD (met.getD d 0) []) (sk (S.wy.getD (met.getD d 0) [])) met).getD i 0=met.getD i 0:=by
     rw[e1,Zr,Zr,Ys (by omega)]
    rw[y]at e;by_cases q:i=d
    ·subst q;have:=pq (w:=S.wy.getD (met.getD i 0) []) (sk (S.wy.getD (met.getD i 0) [])) met c (yg (o.Ou _).2 e);rw[e]at this;exact this
    ·rw[e1];exact Yf _ (h i (by omega) c m e))
   rw[e1,Zd]at f b j;refine⟨p++l,?_,f,b,j⟩;unfold KD;rw[Zs a];show KD S k _ (d+1)=_;rw[e,e1,Zd]
  ·refine⟨[],?_,?_⟩
   ·unfold KD;rw[Zp a,ZQ]
   ·rw[ZQ];exact⟨nd,lt,fin met d a hd h⟩
theorem BL{α:Type}{p:List α->Prop}(h0:p [])(h1:∀l a,p l->p (l++[a]))(l:List α):p l:=by
 have:∀l:List α,p l.reverse:=by
  intro l
  induction l with
  |nil=>exact h0
  |cons a l ih=>rw[List.reverse_cons];exact h1 _ a ih
 rw[← List.reverse_reverse l];exact this _
theorem K.met{P:Wd->Prop}{S:St}{nd:Wd->Option Nat}{wd:List Wd}(H:K P S nd wd){k:Nat}(hk:wd.length<=k):∃l,KD S k [0] 0=Option.some (0 :: l)/\(0 :: l).Nodup/\(∀x,x∈0 :: l↔x<wd.length)/\(0 :: l).length=wd.length:=by
 have L:S.lg.length=wd.length:=H.i.len.symm;obtain⟨l,e,h1,h2,h3⟩:=CH H.i.wf k [0] 0 (by simp) (λx hx=>by rw[Za.mp hx];exact H.i.wf.pos) (ZR _) (by omega) (λi hi=>absurd hi (Nat.not_lt_zero _));have h0:∀(x:Wd) n,nd x=Option.some n->n∈0 :: l:=by
  intro x
  induction x using BL with
  |h0=>intro n e;rw[H.i.z]at e;cases e;exact Zw
  |h1 x c ih =>
   intro n e;obtain⟨m,hm⟩:=H.i.pre e;exact h3 m (ih m hm) c n (by rw[H.i.wy hm];exact e)
 have hx:∀x,x∈0 :: l↔x<wd.length:=λx=>⟨λz=>by rw[← L];exact h2 x z,λz=>h0 _ x (H.i.top z)⟩
 refine⟨l,e,h1,hx,Nat.le_antisymm ?_ ?_⟩
 ·have:=sub_len (0 :: l) (List.range wd.length) h1 λx z=>ZD.mpr ((hx x).mp z)
  rwa [ZO]at this
 ·have:=sub_len (List.range wd.length) (0 :: l) Vy λx z=>(hx x).mpr (ZD.mp z)
  rwa [ZO]at this
end AU
end
section
namespace T17
open VS AU
theorem AI(w:List (Nat×Nat))(c:Nat):c∈w.map (·.1)↔(gW w c).isSome=true:=by
 rw[← CB,Xz,Yo];exact⟨λ⟨p,b,a⟩=>⟨p,b,by rw[a];exact beq_self_eq_true c⟩,λ⟨p,b,a⟩=>⟨p,b,by simpa using a⟩⟩
theorem uV{w:List (Nat×Nat)}(a:(w.map (·.1)).Nodup)(b:∀p∈w,97<=p.1/\p.1<=122):(sk w).Perm (w.map (·.1)):=by
 refine(List.perm_ext_iff_of_nodup ?_ a).mpr λc=>?_
 ·exact List.Nodup.sublist List.filter_sublist List.nodup_range'
 ·rw[AI];constructor
  ·intro h;exact(Xq.mp h).2
  ·intro h;obtain⟨m,e⟩:=Yl.mp h;exact yg b e
theorem yM{m:Md}{w:List (Nat×Nat)}(e:(w.map (·.1)).Nodup)(d:∀p∈w,97<=p.1/\p.1<=122):iq [(m,He w)]=some (.fr,.lst ((sk w).map λc=>T.str [c])):=by
 show ((strs? ((w.map λp=>(T.str [p.1],T.int (p.2:Int))).map (·.1))).bind _)=_;have e1:(w.map λp=>(T.str [p.1],T.int (p.2:Int))).map (·.1)=(w.map (·.1)).map λc=>T.str [c]:=by
  rw[Yv,Yv];rfl
 rw[e1,strs_map (λc=>[c]),Zt,Zs]
 ·have:(sk w).map (λc=>[c])=cP ((w.map (·.1)).map λc=>[c]):=by
   refine lS ((uV e d).map _) ?_;rw[Wr];refine List.Pairwise.imp ?_ (List.Pairwise.filter _ (List.pairwise_lt_range' (s:=97) (n:=26)));intro a b j h;rcases XE.mp h with h | ⟨_,h⟩
   ·omega
   ·exact absurd h (List.not_lt_nil _)
  rw[← this,Yv];rfl
 ·refine⟨?_,Yk.mpr ?_⟩
  ·rw[Zx,← (uV e d).length_eq];have:(sk w).length<=(List.range' 97 26).length:=Xo _ _;rw[List.length_range']at this;omega
  intro s f;obtain⟨c,i,rfl⟩:=Yo.mp f;obtain⟨p,g,rfl⟩:=Yo.mp i;have:=d p g;show (decide (1<=fL)&&(decide (p.1<1114112)&&true))=true;rw[decide_eq_true (show p.1<1114112 by omega)];rfl
noncomputable def nE:Nat->Vv->List (T×T)
 |_,[]=>[]
 |k,n :: r=>(T.int (n:Int),T.int (k:Int)) :: nE (k+1) r
theorem xm:∀(met:Vv)(k:Nat),(nE k met).length=met.length
 |[],_=>rfl
 |_ :: r,k=>by rw[nE,Zk,Zk,xm r]
theorem qk:∀(met:Vv)(k:Nat),(nE k met).map (·.1)=met.map λ(n:Nat)=>T.int (n:Int)
 |[],_=>rfl
 |_ :: r,k=>by rw[nE,Zm,Zm,qk r]
theorem xT:∀(met:Vv)(k n:Nat),nE k (met++[n])=nE k met++[(T.int (n:Int),T.int ((k+met.length:Nat):Int))]
 |[],k,n=>rfl
 |m :: r,k,n=>by
  rw[XA,nE,nE,xT r (k+1) n,Zk,XA];rw[show k+1+r.length=k+(r.length+1) by omega]
theorem Gq(a b:Nat):eqT (.int (a:Int)) (.int (b:Int))=(a==b):=by
 simp only[eqT];by_cases h:a=b
 ·simp[h]
 ·have d:¬(a:Int)=(b:Int):=by omega
  rw[beq_eq_false_iff_ne.mpr h,beq_eq_false_iff_ne.mpr d]
theorem qw:∀(met:Vv)(k n:Nat),df (nE k met) (.int (n:Int))=if n∈met then some (T.int ((k+met.idxOf n:Nat):Int)) else none
 |[],_,_=>rfl
 |m :: r,k,n=>by
  show ((((T.int (m:Int),T.int (k:Int)) :: nE (k+1) r).find? λp=>eqT p.1 (.int (n:Int))).map (·.2))=_;rw[Yy];simp only[Gq];by_cases h:m=n
  ·subst h;simp[List.idxOf_cons]
  ·have hb:(m==n)=false:=beq_eq_false_iff_ne.mpr h;have a:=qw r (k+1) n;unfold df at a;simp only[hb];rw[a,List.idxOf_cons,hb];by_cases q:n∈r
   ·rw[Zs q,Zs (Zv _ q)];show some (T.int ((k+1+r.idxOf n:Nat):Int))=some (T.int ((k+(r.idxOf n+1):Nat):Int));rw[show k+1+r.idxOf n=k+(r.idxOf n+1) by omega]
   ·rw[Zp q,Zp (λz=>(Zj.mp z).elim (λe=>h e.symm) q)]
theorem Dm(a:Vv)(n:Nat)(h:n∉a):dput (nE 0 a) (.int (n:Int)) (.int (a.length:Int))=nE 0 (a++[n]):=by
 unfold dput;rw[Zp,xT]
 ·rw[YB]
 ·intro z;obtain⟨p,b,e⟩:=Xz.mp z;have:(df (nE 0 a) (.int (n:Int))).isSome=true:=by
   unfold df;rw[Y3,List.find?_isSome];exact⟨p,b,e⟩
  rw[qw,Zp h]at this;cases this
noncomputable def nT(met:Vv):T:=.dct 0 (nE 0 met)
noncomputable def mT(met:Vv):T:=.lst (met.map λ(n:Nat)=>T.int (n:Int))
theorem Ce{U:Env}{m k:Md}{met:Vv}{n:Nat}{a e:Ex}(h:a U=some (m,nT met))(he:e U=some (k,.int (n:Int))):e2 cE e a U=some (.fr,.bl (decide (n∉met))):=e2v he h (by
 show (match (if true=true then some (Md.fr,T.bl (df (nE 0 met) (.int (n:Int))).isSome) else none) with | some (_,.bl b)=>some (Md.fr,T.bl (!b)) | _=>none)=_;rw[Zs rfl,qw];by_cases q:n∈met
 ·rw[Zs q,ZG (λz=>z q)];rfl
 ·rw[Zp q,decide_eq_true q];rfl)
section
variable{S:St}{w:List (Nat×Nat)}
theorem yI{d:Nat}{ob:Vs}:∀(r met:Vv)(z:Vs),(∀c∈r,∃m,gW w c=some m)->met.length+r.length<16777216->∃a,forL (bg 5) bB (r.map λc=>T.str [c]) [ob,oc (nT met),oc (mT met),Q0 (d:Int),pc (He w),z]=some (.nx [ob,oc (nT (visit w r met)),oc (mT (visit w r met)),Q0 (d:Int),pc (He w),a])
 |[],met,z,_,_=>⟨z,rfl⟩
 |c :: r,met,z,f,p=>by
  obtain⟨m,e⟩:=f c Zw;rw[Zk]at p;have hlen:(nE 0 met).length=met.length:=xm met 0;by_cases q:m∈met
  ·obtain⟨a,b⟩:=yI r met (Q1 ([c])) (λd hd=>f d (Zv _ hd)) (by omega);refine⟨a,?_⟩;have ev:visit w (c :: r) met=visit w r met:=by
    show visit w r (if (gW w c).getD 0∈met then met else met++[(gW w c).getD 0])=_;rw[e,Y0,Zs q]
   rw[ev,Zm];refine(cQ (U1:=[ob,oc (nT met),oc (mT met),Q0 (d:Int),pc (He w),Q1 ([c])]) rfl ?_).trans b;unfold bB;refine kb (m:=.fr) ?_ rfl;refine(Ce (m:=.bo) (k:=.fr) (met:=met) (n:=m) rfl (vV (m:=.pu) (n:=.fr) (c:=c) (w:=w) rfl rfl e)).trans ?_;rw[ZG (λz=>z q)]
  ·obtain⟨a,b⟩:=yI r (met++[m]) (Q1 ([c])) (λd hd=>f d (Zv _ hd)) (by rw[Zy,Zc];omega);refine⟨a,?_⟩;have ev:visit w (c :: r) met=visit w r (met++[m]):=by
    show visit w r (if (gW w c).getD 0∈met then met else met++[(gW w c).getD 0])=_;rw[e,Y0,Zp q]
   rw[ev,Zm];refine(cQ (U1:=[ob,oc (nT met),oc (mT met),Q0 (d:Int),pc (He w),Q1 ([c])]) rfl ?_).trans b;unfold bB;refine MN (m:=.fr) ?_ ?_
   ·refine(Ce (m:=.bo) (k:=.fr) (met:=met) (n:=m) rfl (vV (m:=.pu) (n:=.fr) (c:=c) (w:=w) rfl rfl e)).trans ?_;rw[decide_eq_true q]
   ·have h:∀nn g:Vs,e2 IK (aa 4) (aa 5) [ob,nn,g,Q0 (d:Int),pc (He w),Q1 ([c])]=some (.fr,.int (m:Int)):=λnn g=>vV (m:=.pu) (n:=.fr) (c:=c) (w:=w) rfl rfl e;have j:mL 1 (e2 IK (aa 4) (aa 5)) (eN bY (ae (aa 2) ai)) [ob,oc (nT met),oc (mT met),Q0 (d:Int),pc (He w),Q1 ([c])]=some (.nx [ob,oc (nT (met++[m])),oc (mT met),Q0 (d:Int),pc (He w),Q1 ([c])]):=by
     have o:eN bY (ae (aa 2) ai) [ob,oc (nT met),oc (mT met),Q0 (d:Int),pc (He w),Q1 ([c])]=some (.fr,.int (met.length:Int)):=iC (xv (x:=(.bo,mT met)) rfl rfl) (by
      show some (Md.fr,T.int (((met.map λ(n:Nat)=>T.int (n:Int)).length:Nat):Int))=_;rw[Zx])
     unfold mL;rw[o,Zt];show ((e2 IK (aa 4) (aa 5) [ob,oc (nT met),oc (mT met),Q0 (d:Int),pc (He w),Q1 ([c])]).bind _)=_;rw[h,Zt];show (if true=true/\true=true/\(nE 0 met).length<fL then some (Out.nx [ob,oc (.dct 0 (dput (nE 0 met) (.int (m:Int)) (.int (met.length:Int)))),oc (mT met),Q0 (d:Int),pc (He w),Q1 ([c])]) else none)=_;rw[Zs ⟨rfl,rfl,by rw[hlen];show met.length<16777216;omega⟩,Dm met m q];rfl
    refine sq j ?_;refine(oy (i:=2) (l:=met.map λ(n:Nat)=>T.int (n:Int)) (v:=.int (m:Int)) rfl (h _ _) (by rw[Zx];omega)).trans ?_;rw[show (met.map λ(n:Nat)=>T.int (n:Int))++[.int (m:Int)]=(met++[m]).map λ(n:Nat)=>T.int (n:Int) from by rw[Z8];rfl];rfl
end
theorem ue(w:List (Nat×Nat)):(sk w).length<=26:=by
 refine ZE (Xo _ _) ?_;rw[List.length_range'];exact Zo _
theorem Ap{S:St}{a:Vv}(b:a.Nodup)(d:∀x∈a,x<S.lg.length):a.length<=S.lg.length:=by
 have:=sub_len a (List.range S.lg.length) b λx e=>ZD.mpr (d x e)
 rwa [ZO]at this
theorem Gf{S:St}(j:WF S)(F:S.lg.length<=100001):∀(k:Nat)(met:Vv)(d:Nat)(M:Vv),met.Nodup->(∀x∈met,x<S.lg.length)->KD S k met d=some M->∀N,k<N->∀f a:Vs,∃i A B,
  fE (e2 oLt (aa 3) (eN bY (ae (aa 2) ai))) bX N [pc (xb S false),oc (nT met),oc (mT met),Q0 ((d:Nat):Int),f,a] =
   some (.nx [pc (xb S false),oc (nT M),oc (mT M),pc i,A,B]):=by
 have cond:∀(met:Vv)(d:Nat)(f a:Vs),e2 oLt (aa 3) (eN bY (ae (aa 2) ai)) [pc (xb S false),oc (nT met),oc (mT met),Q0 ((d:Nat):Int),f,a]=some (.fr,.bl (decide (d<met.length))):=λmet d f a =>
  e2v (x:=(.fr,.int (d:Int))) rfl (iC (v:=(.fr,.int (met.length:Int))) (xv (x:=(.bo,mT met)) rfl rfl) (by
   show some (Md.fr,T.int (((met.map λ(n:Nat)=>T.int (n:Int)).length:Nat):Int))=_;rw[Zx])) (by
   show some (Md.fr,T.bl (decide ((d:Int)<(met.length:Int))))=_;rw[show decide ((d:Int)<(met.length:Int))=decide (d<met.length) from decide_eq_decide.mpr (by omega)])
 intro k
 induction k with
 |zero =>
  intro met d M nd lt e N hN f a;obtain⟨N,rfl⟩:∃M,N=M+1:=⟨N-1,by omega⟩
  unfold KD at e;split at e
  ·cases e
  ·rename_i h;cases e;exact⟨_,f,a,fI (m:=.fr) ((cond _ _ _ _).trans (by rw[ZG h]))⟩
 |succ k u =>
  intro met d M nd lt e N hN f a;obtain⟨N,rfl⟩:∃M,N=M+1:=⟨N-1,by omega⟩
  unfold KD at e;split at e
  ·rename_i h;have z:=lt _ (getD_mem h);have C:met.getD d 0<S.wy.length:=by rw[j.wy];exact z
   have E:=Ap nd lt;have D:=ue (S.wy.getD (met.getD d 0) []);obtain⟨o,s⟩:=yI (w:=S.wy.getD (met.getD d 0) []) (d:=d) (ob:=pc (xb S false)) (sk (S.wy.getD (met.getD d 0) [])) met a (λc g=>lN g) (by omega);obtain⟨i,r,p,q⟩:=u _ (d+1) M (oM _ _ nd) (n6 (λc m e=>j.on _ c m e) _ _ (λc g=>lN g) lt) e N (by omega) (pc (He (S.wy.getD (met.getD d 0) []))) o;refine⟨i,r,p,(m9 (m:=.fr) ((cond _ _ _ _).trans (by rw[decide_eq_true h])) ?_).trans q⟩;unfold bX;have ix:e2 aA (aa 2) (aa 3) [pc (xb S false),oc (nT met),oc (mT met),Q0 ((d:Nat):Int),f,a]=some (.fr,.int ((met.getD d 0:Nat):Int)):=e2v (x:=(.bo,mT met)) (y:=(.fr,.int (d:Int))) rfl rfl (lr _ met d 0 h);have s1:aH 4 (e2 aA (bj 3 (aa 0)) (e2 aA (aa 2) (aa 3))) [pc (xb S false),oc (nT met),oc (mT met),Q0 ((d:Nat):Int),f,a]=some (.nx [pc (xb S false),oc (nT met),oc (mT met),Q0 ((d:Nat):Int),pc (He (S.wy.getD (met.getD d 0) [])),a]) :=
    av (m:=.pu) (oB (S:=S) (b:=false) (m:=.pu) (n:=.fr) rfl ix C) (by decide) (by decide:4<6)
   refine sq s1 ?_;have nw:=j.Ou (met.getD d 0);refine sq ((eX (m:=.fr) (l:=(sk (S.wy.getD (met.getD d 0) [])).map λc=>T.str [c]) ?_ rfl).trans s) ?_
   ·show (eN iq (ae (aa 4) ai) _).bind DZ=_;rw[iC (xv (x:=(.pu,He (S.wy.getD (met.getD d 0) []))) rfl rfl) (yM nw.1 nw.2)];rfl
   ·exact av (m:=.fr) (t:=.int (((d+1:Nat)):Int)) rfl (by decide) (by decide:3<6)
  ·rename_i h;cases e;exact⟨_,f,a,fI (m:=.fr) ((cond _ _ _ _).trans (by rw[ZG h]))⟩
theorem CU{S:St}(a:WF S)(g:S.lg.length<=100001){M:Vv}{k:Nat}(h:k<1000000)(e:KD S k [0] 0=some M):aL [xb S false]=some (.fr,nT M):=by
 obtain⟨i,d,b,q⟩:=Gf a g k [0] 0 M (by simp) (λx f=>by rw[Za.mp f];exact a.pos) e vX (by show k<1000000;exact h) none none;refine eA (U:=[pc (xb S false),none,pc (mT M),pc i,d,b]) rfl ?_;exact sq rfl (sq rfl (sq rfl (sq q (sq rfl rfl))))
noncomputable def JS(l:List (Nat×Nat)):T:=.tup (l.map λp=>T.tup [.str [p.1],.int (p.2:Int)])
noncomputable def fX(r:Row):T:=.tup [.int (r.1:Int),.int (r.2.1:Int),Hm r.2.2.1,JS r.2.2.2]
theorem u4:∀l:List (Nat×Nat),fK (l.map λp=>T.tup [.str [p.1],.int (p.2:Int)])=true
 |[]=>rfl
 |p :: l=>by
  rw[Zm];show (true&&fK _)=true;rw[u4 l];rfl
theorem lW(l:List (Nat×Nat)):G5 (JS l)=true:=u4 l
theorem qM(r:Row):G5 (fX r)=true:=by
 show (true&&(true&&(G5 (Hm r.2.2.1)&&(G5 (JS r.2.2.2)&&true))))=true;rw[lF,lW];rfl
theorem FD{a b c d:Ex}{U:Env}{x y z w:T}(h:a U=some (.fr,x))(g:b U=some (.fr,y))(f:c U=some (.fr,z))(e:d U=some (.fr,w)):oT (ae a (ae b (ae c (ae d ai)))) U=some (.fr,.tup [x,y,z,w]):=by
 show (ae a (ae b (ae c (ae d ai))) U).bind rz=_;rw[xv h (xv g (xv f (xv (r:=ai) e rfl))),Zt];show some (up .fr _)=_;unfold up;split<;>rfl
theorem Dc{S:St}(d:WF S){a:Vv}(o:∀x,x<S.lg.length->x∈a){n:Nat}(g:n<S.lg.length):b7 [xb S false,.int (n:Int),.dct 3 (nE 0 a)]=some (.fr,fX (row S a n)):=by
 have hw:n<S.wy.length:=by rw[d.wy];exact g
 have z:n<S.lk.length:=by rw[d.lk];exact g
 have nw:=d.Ou n;have get:∀v,v<S.lg.length->df (nE 0 a) (.int (v:Int))=some (T.int ((a.idxOf v:Nat):Int)):=λv u=>by rw[qw,Zs (o v u),YB]
 have s1:aH 3 (e2 aA (bj 2 (aa 0)) (aa 1)) [pc (xb S false),Q0 (n:Int),pc (.dct 3 (nE 0 a)),none,none,none]=some (.nx [pc (xb S false),Q0 (n:Int),pc (.dct 3 (nE 0 a)),pc (Hm (S.lk.getD n none)),none,none]):=av (m:=.fr) (u9 (S:=S) (b:=false) (m:=.pu) (n:=.fr) rfl rfl z) (by decide) (by decide:3<6);have f:aH 4 (e2 aA (bj 3 (aa 0)) (aa 1)) [pc (xb S false),Q0 (n:Int),pc (.dct 3 (nE 0 a)),pc (Hm (S.lk.getD n none)),none,none]=some (.nx [pc (xb S false),Q0 (n:Int),pc (.dct 3 (nE 0 a)),pc (Hm (S.lk.getD n none)),pc (He (S.wy.getD n [])),none]):=av (m:=.pu) (oB (S:=S) (b:=false) (m:=.pu) (n:=.fr) rfl rfl hw) (by decide) (by decide:4<6);have B:eN kG (ae (du 1 (bg 0) (gM (eN iq (ae (aa 4) ai))) none (oT (ae (aa 0) (ae (e2 qq (aa 3) (e2 IK (aa 5) (aa 0))) ai)))) ai) [pc (xb S false),Q0 (n:Int),pc (.dct 3 (nE 0 a)),pc (Hm (S.lk.getD n none)),pc (He (S.wy.getD n [])),none]=some (.fr,JS (steps S a n)):=by
  have C:=eu (k:=1) (tg:=bg 0) (it:=gM (eN iq (ae (aa 4) ai))) (elt:=oT (ae (aa 0) (ae (e2 qq (aa 3) (e2 IK (aa 5) (aa 0))) ai))) (m:=.fr) (U:=[pc (xb S false),Q0 (n:Int),pc (.dct 3 (nE 0 a)),pc (Hm (S.lk.getD n none)),pc (He (S.wy.getD n [])),none]) (λc=>T.str [c]) (λc=>T.tup [.str [c],.int ((a.idxOf ((gW (S.wy.getD n []) c).getD 0):Nat):Int)]) (sk (S.wy.getD n [])) (by
   show (eN iq (ae (aa 4) ai) _).bind DZ=_;rw[iC (xv (x:=(.pu,He (S.wy.getD n []))) rfl rfl) (yM nw.1 nw.2)];rfl) rfl (ZE (ue _) (by decide)) (λc A=>by
   obtain⟨v,ev⟩:=lN A;refine⟨[Q1 ([c]),pc (xb S false),Q0 (n:Int),pc (.dct 3 (nE 0 a)),pc (Hm (S.lk.getD n none)),pc (He (S.wy.getD n [])),none],rfl,?_⟩;have s:e2 qq (aa 3) (e2 IK (aa 5) (aa 0)) [Q1 ([c]),pc (xb S false),Q0 (n:Int),pc (.dct 3 (nE 0 a)),pc (Hm (S.lk.getD n none)),pc (He (S.wy.getD n [])),none]=some (.fr,.int ((a.idxOf v:Nat):Int)) :=
    e2v (x:=(.pu,.dct 3 (nE 0 a))) rfl (vV (m:=.pu) (n:=.fr) (c:=c) (w:=S.wy.getD n []) rfl rfl ev) (by
     show (if true=true then (df (nE 0 a) (.int (v:Int))).map (sub .pu) else none)=_;rw[Zs rfl,get v (d.on n c v ev)];rfl)
   rw[ev,Y0];show (ae (aa 0) (ae (e2 qq (aa 3) (e2 IK (aa 5) (aa 0))) ai) _).bind rz=_;rw[xv (x:=(.fr,.str [c])) rfl (xv (r:=ai) s rfl)];rfl)
  refine iC (xv (r:=ai) C rfl) ?_;show (if _<=fL then some (up .fr (.tup _)) else none)=_;rw[Zs (by rw[Zx];exact ZE (ue _) (by decide))];have:T.tup ((sk (S.wy.getD n [])).map λc=>T.tup [.str [c],.int ((a.idxOf ((gW (S.wy.getD n []) c).getD 0):Nat):Int)])=JS (steps S a n):=by
   unfold JS steps;rw[Yv];rfl
  rw[this];unfold up;rw[lW];rfl
 have e:=av (i:=5) B (by decide) (by decide:5<6);have p:∀U:Env,U[5]?=some (pc (JS (steps S a n)))->aa 5 U=some (.fr,JS (steps S a n)):=λU h=>by
  show (match U[5]? with | some (some (.pu t))=>some (up .pu t) | some (some (.ow t))=>some (.bo,t) | _=>none)=_;rw[h];show some (up .pu _)=_;unfold up;rw[lW];rfl
 unfold row;cases j:S.lk.getD n none with
 |none =>
  rw[j]at s1 f e;refine eA (v:=(.fr,fX (0,0,none,steps S a n))) (U:=[pc (xb S false),Q0 (n:Int),pc (.dct 3 (nE 0 a)),pc (Hm none),pc (He (S.wy.getD n [])),pc (JS (steps S a n))]) rfl ?_;refine sq s1 (sq f (sq e (lD (MN (m:=.fr) rfl (d5 (FD rfl rfl rfl (p _ rfl)))))))
 |some l =>
  rw[j]at s1 f e;have q:=d.up n l j;refine eA (v:=(.fr,fX (S.lg.getD l 0+1,S.lg.getD n 0,some (a.idxOf l),steps S a n))) (U:=[pc (xb S false),Q0 (n:Int),pc (.dct 3 (nE 0 a)),pc (Hm (some l)),pc (He (S.wy.getD n [])),pc (JS (steps S a n))]) rfl ?_;refine sq s1 (sq f (sq e (sq (kb (m:=.fr) rfl rfl) (d5 (FD ?_ ?_ ?_ (p _ rfl))))))
  ·exact e2v (tU (S:=S) (b:=false) (m:=.pu) (n:=.fr) (i:=l) rfl rfl q) rfl rfl
  ·exact tU (S:=S) (b:=false) (m:=.pu) (n:=.fr) (i:=n) rfl rfl g
  ·exact e2v (x:=(.pu,.dct 3 (nE 0 a))) (y:=(.fr,.int (l:Int))) rfl rfl (by
    show (if true=true then (df (nE 0 a) (.int (l:Int))).map (sub .pu) else none)=_;rw[Zs rfl,get l q];rfl)
noncomputable def Ho(t:List Row):T:=.lst (t.map fX)
theorem DH{S:St}(b:WF S)(g:S.lg.length<=100001){M:Vv}{k:Nat}(l:k<1000000)(e:KD S k [0] 0=some M)(a:∀x,x∈M↔x<S.lg.length)(j:M.length<=16777216):dU [xb S false]=some (.fr,Ho (tab S M)):=by
 have d:=CU b g l e;refine eA (U:=[pc (xb S false),none]) rfl ?_;have s1:oN 1 (fS 0 aL (aa 0) ai) [pc (xb S false),none]=some (.nx [pc (xb S false),oc (nT M)]):=by
  show (fS 0 aL (aa 0) ai [pc (xb S false),none]).bind _=_;have:fS 0 aL (aa 0) ai [pc (xb S false),none]=some (.fr,nT M):=by
   show ((aL [xb S false]).bind _)=_;rw[d];rfl
  rw[this];rfl
 refine sq s1 ?_;have o:=eu (k:=1) (tg:=bg 0) (it:=rB 1) (elt:=fS 0 b7 (aa 1) (ae (aa 0) (ae (aa 2) ai))) (m:=.fr) (U:=[pc (xb S false),pc (.dct 3 (nE 0 M))]) (λ(n:Nat)=>T.int (n:Int)) (λn=>fX (row S M n)) M (by
  show (if ((nE 0 M).all λp=>isInt p.1)=true then some (Md.fr,(nE 0 M).map (·.1)) else none)=_;rw[Zs,qk];rw[Yk];intro p h;have:p.1∈(nE 0 M).map (·.1):=List.mem_map_of_mem h;rw[qk]at this;obtain⟨n,_,e⟩:=Yo.mp this;rw[← e];rfl) rfl j (λn i=>by
  refine⟨[Q0 (n:Int),pc (xb S false),pc (.dct 3 (nE 0 M))],rfl,?_⟩;show ((b7 [xb S false,.int (n:Int),.dct 3 (nE 0 M)]).bind _)=_;rw[Dc b (λx f=>(a x).mpr f) ((a n).mp i)];rfl)
 show ((du 1 (bg 0) (rB 1) none (fS 0 b7 (aa 1) (ae (aa 0) (ae (aa 2) ai))) [pc (xb S false),pc (.dct 3 (nE 0 M))]).bind _)=_;rw[o];unfold Ho tab;rw[Yv];rfl
noncomputable def LG(a:List Tx)(b:Vv)(S:St):sV:=[(4,.lst (a.map .str)),(5,.lst (b.map λ(n:Nat)=>T.int (n:Int))),(6,xb S false)]
noncomputable def G3(a:List Tx)(d:Vv)(S:St)(b:Bool):T:=.obj 2 ((0,.bl b) :: LG a d S)
theorem Bb(S:St):gh (xb S false)=true:=by
 show ((true && !(0==0&&false))&&eB (J9 S))=true;rw[kS];rfl
theorem ll(a:List Tx)(b:Vv)(S:St):eB (LG a b S)=true:=by
 have e:gh (.lst (a.map T.str))=true:=fC _ (λ_=>rfl) _;have d:gh (.lst (b.map λ(n:Nat)=>T.int (n:Int)))=true:=fC _ (λ_=>rfl) _;show ((gh _ && !(4==0&&MM _))&&((gh _ && !(5==0&&MM _))&&((gh _ && !(6==0&&MM _))&&true)))=true;rw[e,d,Bb];rfl
theorem AN(a:List Tx)(d:Vv)(S:St)(b:Bool):qu 4 (G3 a d S b)=some (.lst (a.map .str)):=rfl
theorem GA(d:List Tx)(a:Vv)(S:St)(b:Bool):qu 5 (G3 d a S b)=some (.lst (a.map λ(n:Nat)=>T.int (n:Int))):=rfl
theorem GX(a:List Tx)(d:Vv)(S:St)(b:Bool):qu 6 (G3 a d S b)=some (xb S false):=rfl
section
variable{tx:List Tx}{hd:Vv}{S S':St}{b:Bool}{r:List (Vs)}
theorem zm{a:Ex}{U:Env}{m:Md}(h:a U=some (m,G3 tx hd S b)):eN bY (ae (bj 4 a) ai) U=some (.fr,.int (tx.length:Nat)):=iC (xv (ij h (AN tx hd S b)) rfl) (by
 show some (Md.fr,T.int (((tx.map T.str).length:Nat):Int))=_;rw[Zx])
theorem CQ{e:Ex}{v:Tx}(h:e (oc (G3 tx hd S b) :: r)=some (.fr,.str v))(f:tx.length<16777216):sX (jb 0 [.fld 4] aI (ae e ai)) (oc (G3 tx hd S b) :: r)=some (.nx (oc (G3 (tx++[v]) hd S b) :: r)):=by
 show (((some [Ky.fld 4]).bind λd=>(ae e ai (oc (G3 tx hd S b) :: r)).bind λa=>(pm (λx=>aI x a) d (G3 tx hd S b)).map _).map _)=_;rw[Zt,xv (r:=ai) h rfl,Zt];show (((aI (.lst (tx.map T.str)) [(.fr,.str v)]).map _).map _ |>.map _)=_;rw[dn (by rw[Zx];exact f),show (tx.map T.str)++[.str v]=(tx++[v]).map T.str from by rw[Z8];rfl];rfl
theorem Ep{e:Ex}{v:Nat}(h:e (oc (G3 tx hd S b) :: r)=some (.fr,.int (v:Int)))(f:hd.length<16777216):sX (jb 0 [.fld 5] aI (ae e ai)) (oc (G3 tx hd S b) :: r)=some (.nx (oc (G3 tx (hd++[v]) S b) :: r)):=by
 show (((some [Ky.fld 5]).bind λd=>(ae e ai (oc (G3 tx hd S b) :: r)).bind λa=>(pm (λx=>aI x a) d (G3 tx hd S b)).map _).map _)=_;rw[Zt,xv (r:=ai) h rfl,Zt];show (((aI (.lst (hd.map λ(n:Nat)=>T.int (n:Int))) [(.fr,.int (v:Int))]).map _).map _ |>.map _)=_;rw[dn (by rw[Zx];exact f),show (hd.map λ(n:Nat)=>T.int (n:Int))++[.int (v:Int)]=(hd++[v]).map λ(n:Nat)=>T.int (n:Int) from by rw[Z8];rfl];rfl
theorem yL(h:tx.length<8)(i:hd.length=tx.length):bE (LG tx hd S) []=some (LG (tx++[[]]) (hd++[0]) S,.int (tx.length:Int)):=by
 unfold bE Ja;rw[Zs ⟨rfl,rfl⟩];have a:e2 LO (eN bY (ae (bj 4 (aa 0)) ai)) (Q2 8) [oc (G3 tx hd S true)]=some (.fr,.bl false):=e2v (zm (m:=.bo) rfl) rfl (by
  show some (Md.fr,T.bl (decide ((8:Int)<=(tx.length:Int))))=_;rw[ZG (by omega)])
 have g:=CQ (tx:=tx) (hd:=hd) (S:=S) (b:=true) (r:=[]) (e:=eC (.str [])) (v:=[]) rfl (by omega);have f:=Ep (tx:=tx++[[]]) (hd:=hd) (S:=S) (b:=true) (r:=[]) (e:=Q2 0) (v:=0) rfl (by omega);have d:=d5 (e:=e2 jU (eN bY (ae (bj 4 (aa 0)) ai)) (Q2 1)) (U:=[oc (G3 (tx++[[]]) (hd++[0]) S true)]) (t:=.int (tx.length:Int)) (e2v (zm (m:=.bo) rfl) rfl (by
  show some (Md.fr,T.int ((((tx++[[]]).length:Nat):Int)-1))=_;rw[Zy,Zc,show (((tx.length+1:Nat)):Int)-1=(tx.length:Int) by omega]))
 exact congrArg (λz:Option Out=>z.bind _) (sq (kb a rfl) (sq g (sq f d)))
theorem Cs{l:Vp}{i:Nat}(a:i<l.length):bz [.lst l,.int (i:Int)]=some (.fr,.non):=by
 refine Gb (U:=[pc (.lst l),Q0 (i:Int)]) rfl ?_;refine(Ah (m:=.fr) (B0 (m:=.fr) (x:=false) ?_ (λ_=>?_) (λh=>by cases h))).trans rfl
 ·exact p8 (m:=.fr) (b:=true) rfl
 ·refine p8 (m:=.fr) (b:=true) (BV (x:=(.fr,.int 0)) (y:=(.fr,.int (i:Int))) (z:=(.fr,.int (l.length:Int))) rfl rfl ?_ (iC (xv (x:=(.pu,.lst l)) rfl rfl) rfl) ?_)
  ·show some (Md.fr,T.bl (decide ((0:Int)<=(i:Int))))=_;rw[decide_eq_true (by omega)]
  ·show some (Md.fr,T.bl (decide ((i:Int)<(l.length:Int))))=_;rw[decide_eq_true (by omega)]
theorem wo{i:Nat}(a:i<tx.length):bz [.lst (tx.map .str),.int (i:Int)]=some (.fr,.non):=Cs (by rw[Zx];exact a)
end
noncomputable def fi(a:List Tx):Nat:=(a.map List.length).sum
theorem vp:∀a:List Tx,(a.map λt=>(t.length:Int)).sum=(fi a:Int)
 |[]=>rfl
 |t :: a=>by
  rw[Zm,Wk,vp a];unfold fi;rw[Zm,Wk];omega
theorem zb(a:List Tx)(b:a.length<=16777216):gT [.lst (a.map .str)]=some (.fr,.int (fi a:Int)):=by
 refine eA (U:=[pc (.lst (a.map .str))]) rfl ?_;refine d5 (iC (xv (r:=ai) (eu (m:=.pu) T.str (λ(t:Tx)=>T.int (t.length:Int)) a rfl rfl b (λt d=>⟨[Q1 t,pc (.lst (a.map .str))],rfl,rfl⟩)) rfl) ?_);show (oG (a.map λ(t:Tx)=>T.int (t.length:Int))).bind _=_;rw[ints_map (λ(t:Tx)=>(t.length:Int)),Zt,vp]
section
variable{tx:List Tx}{hd:Vv}{S S':St}{b:Bool}
theorem El{i v:Nat}{e ev:Ex}{n:Md}{r:List (Vs)}(g:i<hd.length)(he:e (oc (G3 tx hd S b) :: r)=some (n,.int (i:Int)))(a:ev (oc (G3 tx hd S b) :: r)=some (.fr,.int (v:Int))) :
  fJ 0 [.fld 5] e ev (oc (G3 tx hd S b) :: r)=some (.nx (oc (G3 tx (hd.set i v) S b) :: r)):=by
 unfold fJ;rw[a,Zt];show ((keys [.fld 5] (oc (G3 tx hd S b) :: r)).bind _)=_;have f:keys [.fld 5] (oc (G3 tx hd S b) :: r)=some [.fld 5]:=rfl;rw[f,Zt,he,Zt];have d:pm (kf (n,.int (i:Int)) (.fr,.int (v:Int))) [.fld 5] (G3 tx hd S b)=some (G3 tx (hd.set i v) S b,()):=by
  show ((kf (n,.int (i:Int)) (.fr,.int (v:Int)) (.lst (hd.map λ(n:Nat)=>T.int (n:Int)))).map _)=_;have:kf (n,.int (i:Int)) (.fr,.int (v:Int)) (.lst (hd.map λ(n:Nat)=>T.int (n:Int)))=some (.lst ((hd.set i v).map λ(n:Nat)=>T.int (n:Int)),()):=by
   show ((Iq (hd.map λ(n:Nat)=>T.int (n:Int)).length (i:Int)).map _)=_;rw[Zx,xZ g,Wa];rfl
  rw[this];rfl
 rw[d];rfl
theorem Er{i:Nat}{v:Tx}{e a:Ex}{n:Md}{r:List (Vs)}(h:i<tx.length)(he:e (oc (G3 tx hd S b) :: r)=some (n,.int (i:Int)))(d:a (oc (G3 tx hd S b) :: r)=some (.fr,.str v)) :
  fJ 0 [.fld 4] e a (oc (G3 tx hd S b) :: r)=some (.nx (oc (G3 (tx.set i v) hd S b) :: r)):=by
 unfold fJ;rw[d,Zt];show ((keys [.fld 4] (oc (G3 tx hd S b) :: r)).bind _)=_;have g:keys [.fld 4] (oc (G3 tx hd S b) :: r)=some [.fld 4]:=rfl;rw[g,Zt,he,Zt];have f:pm (kf (n,.int (i:Int)) (.fr,.str v)) [.fld 4] (G3 tx hd S b)=some (G3 (tx.set i v) hd S b,()):=by
  show ((kf (n,.int (i:Int)) (.fr,.str v) (.lst (tx.map T.str))).map _)=_;have:kf (n,.int (i:Int)) (.fr,.str v) (.lst (tx.map T.str))=some (.lst ((tx.set i v).map T.str),()):=by
   show ((Iq (tx.map T.str).length (i:Int)).map _)=_;rw[Zx,xZ h,Wa];rfl
  rw[this];rfl
 rw[f];rfl
theorem Bn{i r:Nat}{w:Tx}(W:WF S)(F:hd.length=tx.length)(a:i<tx.length)(G:tx.length<=8)(E:fi tx+w.length<=120)(q:S.lg.length+2*w.length<=100000)(p:hd.getD i 0<S.lg.length)(s:∀c∈w,97<=c/\c<=122)(D:(tx.getD i []).length<=120)(e:hg S (hd.getD i 0) w=some (S',r)) :
  bD (LG tx hd S) [.int (i:Int),.str w]=some (LG (tx.set i (tx.getD i []++w)) (hd.set i r) S',.non):=by
 obtain⟨C,B,A,g⟩:=Cj W q p s e;unfold bD Ja;rw[Zs ⟨rfl,rfl⟩];have s1:sX (xP (aZ bz (ae (bj 4 (aa 0)) (ae (aa 1) ai)))) [oc (G3 tx hd S true),Q0 (i:Int),Q1 w]=some (.nx [oc (G3 tx hd S true),Q0 (i:Int),Q1 w]):=by
  have:aZ bz (ae (bj 4 (aa 0)) (ae (aa 1) ai)) [oc (G3 tx hd S true),Q0 (i:Int),Q1 w]=some (.fr,.non):=aX (xv (ij (m:=.bo) (t:=G3 tx hd S true) rfl (AN tx hd S true)) (xv (x:=(.fr,.int (i:Int))) rfl rfl)) (wo a);show (((aZ bz _ _).map _).map _)=_;rw[this];rfl
 have u:e2 La (e2 bK (aZ gT (ae (bj 4 (aa 0)) ai)) (eN bY (ae (aa 2) ai))) (Q2 120) [oc (G3 tx hd S true),Q0 (i:Int),Q1 w]=some (.fr,.bl false) :=
  e2v (x:=(.fr,.int ((fi tx:Int)+(w.length:Int)))) (e2v (aX (xv (r:=ai) (ij (m:=.bo) (t:=G3 tx hd S true) rfl (AN tx hd S true)) rfl) (zb tx (by omega))) (y:=(.fr,.int (w.length:Int))) rfl rfl) rfl (by
   show some (Md.fr,T.bl (decide ((120:Int)<(fi tx:Int)+(w.length:Int))))=_;rw[ZG (by omega)])
 have f:bH 0 [.fld 6] 0 [false,false] aW (ae (e2 aA (bj 5 (aa 0)) (aa 1)) (ae (aa 2) ai)) [oc (G3 tx hd S true),Q0 (i:Int),Q1 w]=some ((.fr,.int (r:Int)),[oc (G3 tx hd S' true),Q0 (i:Int),Q1 w]):=by
  show ((some [Ky.fld 6]).bind λo=>(ae (e2 aA (bj 5 (aa 0)) (aa 1)) (ae (aa 2) ai) [oc (G3 tx hd S true),Q0 (i:Int),Q1 w]).bind λd=>(pm (mI 0 [false,false] aW d) o (G3 tx hd S true)).map λz=>(z.2,[oc z.1,Q0 (i:Int),Q1 w]))=_;rw[Zt,xv (x:=(.fr,.int ((hd.getD i 0:Nat):Int))) (e2v (ij (m:=.bo) (t:=G3 tx hd S true) rfl (GA tx hd S true)) (y:=(.fr,.int (i:Int))) rfl (lr _ hd i 0 (by omega))) (xv (r:=ai) (x:=(.fr,.str w)) rfl rfl),Zt];show (((if 1=0+1/\eB (J9 S)=true/\argsOk [false,false] [(Md.fr,T.int ((hd.getD i 0:Nat):Int)),(Md.fr,T.str w)]=true/\de (trees [(Md.fr,T.int ((hd.getD i 0:Nat):Int)),(Md.fr,T.str w)])=true then (aW (J9 S) [.int ((hd.getD i 0:Nat):Int),.str w]).bind λz=>if eB z.1=true/\G5 z.2=true then some (T.obj 1 ((0,.bl false) :: z.1),(Md.fr,z.2)) else none else none).map _).map _)=_;rw[Zs ⟨rfl,kS S,rfl,rfl⟩,g,Zt,Zs ⟨kS S',rfl⟩];rfl
 have l:jY 0 [.fld 5] (aa 1) (bH 0 [.fld 6] 0 [false,false] aW (ae (e2 aA (bj 5 (aa 0)) (aa 1)) (ae (aa 2) ai))) [oc (G3 tx hd S true),Q0 (i:Int),Q1 w]=some (.nx [oc (G3 tx (hd.set i r) S' true),Q0 (i:Int),Q1 w]):=by
  unfold jY;rw[f];exact El (tx:=tx) (hd:=hd) (S:=S') (b:=true) (r:=[Q0 (i:Int),Q1 w]) (e:=aa 1) (ev:=λ_=>some (.fr,.int (r:Int))) (i:=i) (v:=r) (n:=.fr) (by omega) rfl rfl
 have j:fJ 0 [.fld 4] (aa 1) (e2 bK (e2 aA (bj 4 (aa 0)) (aa 1)) (aa 2)) [oc (G3 tx (hd.set i r) S' true),Q0 (i:Int),Q1 w]=some (.nx [oc (G3 (tx.set i (tx.getD i []++w)) (hd.set i r) S' true),Q0 (i:Int),Q1 w]) :=
  Er (n:=.fr) a rfl (e2v (ij (m:=.bo) (t:=G3 tx (hd.set i r) S' true) rfl (AN tx (hd.set i r) S' true) |> λh=>e2v h (y:=(.fr,.int (i:Int))) rfl (lr T.str tx i [] a)) (y:=(.fr,.str w)) rfl (lz (by omega)))
 exact congrArg (λz:Option Out=>z.bind _) (sq s1 (sq (kb u rfl) (sq l j)))
end
theorem iI{α:Type}(l:List α)(x d:α):(l++[x]).getD l.length d=x:=(b6 l x d l.length).trans (Zs rfl)
theorem vn{α:Type}(l:List α)(x y:α):(l++[x]).set l.length y=l++[y]:=by
 rw[List.set_append_right _ _ (Zo _),WD];rfl
theorem rH(a b:List Tx):fi (a++b)=fi a+fi b:=by
 unfold fi;rw[Z8,List.sum_append]
theorem D5:∀(rest:List Tx){tx:List Tx}{hd:Vv}{S S':St}{B:T}{z:Vs},WF S->hd.length=tx.length->tx.length+rest.length<=8->fi tx+fi rest<=120->S.lg.length+2*fi rest<=100000->(∀t∈rest,∀c∈t,97<=c/\c<=122)->mB S rest=some S' →
  ∃j h,forL (bg 2) bG (rest.map .str) [oc (G3 tx hd S true),pc B,z]=some (.nx [oc (G3 (tx++rest) j S' true),pc B,h]):=by
 intro rest
 induction rest with
 |nil =>
  intro tx hd S S' B z W a n l m f e;cases (show some S=some S' from e);exact⟨hd,z,by rw[ZQ];rfl⟩
 |cons t rest s =>
  intro tx hd S S' B z W a n l m f e;obtain⟨⟨d,r⟩,e1,C⟩:=Zz.mp (show (hg S 0 t).bind _=some S' from e);rw[Zk]at n;have y:fi (t :: rest)=t.length+fi rest:=by unfold fi;rw[Zm,Wk]
  rw[y]at l m;have A:hg S ((hd++[0]).getD tx.length 0) t=some (d,r):=by rw[← a,iI];exact e1
  have o:=Cj W (by omega) W.pos (f t Zw) e1;have g:=Bn (tx:=tx++[[]]) (hd:=hd++[0]) (S:=S) (S':=d) (i:=tx.length) (r:=r) (w:=t) W (by rw[Zy,Zy,a];rfl) (by rw[Zy];exact YI _) (by rw[Zy];show tx.length+1<=8;omega) (by rw[rH];show fi tx+0+t.length<=120;omega) (by omega) (by rw[← a,iI];exact W.pos) (f t Zw) (by rw[iI];exact ZR _) A;rw[iI,vn,Yg]at g;have x:(hd++[0]).set tx.length r=hd++[r]:=by rw[← a];exact vn hd 0 r
  rw[x]at g;have b:=yL (tx:=tx) (hd:=hd) (S:=S) (by omega) a;obtain⟨j,h,q⟩:=s (tx:=tx++[t]) (hd:=hd++[r]) (S:=d) (S':=S') (B:=B) (z:=Q1 t) o.1 (by rw[Zy,Zy,a];rfl) (by rw[Zy,Zc];omega) (by rw[rH];show fi tx+(t.length+0)+fi rest<=120;omega) (by have:=o.2.2.1;omega) (λu v=>f u (Zv _ v)) C;refine⟨j,h,?_⟩;rw[Zm];refine(cQ (U1:=[oc (G3 tx hd S true),pc B,Q1 t]) rfl ?_).trans (q.trans (by rw[Zd];rfl));have p:bH 0 [] 1 [] bE ai [oc (G3 tx hd S true),pc B,Q1 t]=some ((.fr,.int (tx.length:Int)),[oc (G3 (tx++[[]]) (hd++[0]) S true),pc B,Q1 t]):=by
   show (((if 2=1+1/\eB (LG tx hd S)=true/\argsOk [] []=true/\de (trees [])=true then (bE (LG tx hd S) (trees [])).bind λz=>if eB z.1=true/\G5 z.2=true then some (T.obj 2 ((0,.bl true) :: z.1),(Md.fr,z.2)) else none else none).map _))=_;rw[Zs ⟨rfl,ll tx hd S,rfl,rfl⟩,show trees []=[] from rfl,b,Zt,Zs ⟨ll _ _ _,rfl⟩];rfl
  have x2:pT 0 1 [false,false] bD (bH 0 [] 1 [] bE ai) (ae (aa 2) ai) [oc (G3 tx hd S true),pc B,Q1 t]=some ((.fr,.non),[oc (G3 (tx++[t]) (hd++[r]) d true),pc B,Q1 t]):=by
   unfold pT;rw[Zs (show D4 1 [oc (G3 tx hd S true),pc B,pc (T.str t)][0]?=true from rfl),p,Zt,Zs (show G5 (T.int (tx.length:Int))=true from rfl)];have ct:mI 1 [false,false] bD [(Md.fr,T.int (tx.length:Int)),(Md.fr,T.str t)] (G3 (tx++[[]]) (hd++[0]) S true)=some (G3 (tx++[t]) (hd++[r]) d true,(Md.fr,T.non)):=by
    show (if 2=1+1/\eB (LG (tx++[[]]) (hd++[0]) S)=true/\argsOk [false,false] [(Md.fr,T.int (tx.length:Int)),(Md.fr,T.str t)]=true/\de (trees [(Md.fr,T.int (tx.length:Int)),(Md.fr,T.str t)])=true then (bD (LG (tx++[[]]) (hd++[0]) S) (trees [(Md.fr,T.int (tx.length:Int)),(Md.fr,T.str t)])).bind λz=>if eB z.1=true/\G5 z.2=true then some (T.obj 2 ((0,.bl true) :: z.1),(Md.fr,z.2)) else none else none)=_;rw[Zs ⟨rfl,ll _ _ _,rfl,rfl⟩,show trees [(Md.fr,T.int (tx.length:Int)),(Md.fr,T.str t)]=[T.int (tx.length:Int),T.str t] from rfl,g,Zt,Zs ⟨ll _ _ _,rfl⟩];rfl
   show ((mI 1 [false,false] bD [(Md.fr,T.int (tx.length:Int)),(Md.fr,T.str t)] (G3 (tx++[[]]) (hd++[0]) S true)).map _)=_;rw[ct];rfl
  unfold bG OB;rw[x2];rfl
structure L6(bk:List Tx):Prop where
 Qs:bk.length<=8
 sum:fi bk<=120
 az:∀t∈bk,∀c∈t,97<=c/\c<=122
theorem L6.Oz{t:Tx}:∀{l:List Tx},t∈l->t.length<=fi l
 |a :: l,h=>by
  have e:fi (a :: l)=a.length+fi l:=by unfold fi;rw[Zm,Wk]
  rw[e];rcases Zj.mp h with rfl | h
  ·omega
  ·have:=L6.Oz h;omega
theorem L6.len{a:List Tx}(h:L6 a):∀t∈a,t.length<1000:=λt b=>XY (L6.Oz b) (XY h.sum (by decide))
noncomputable def aR(a:List Tx):St:=(mB S0 a).getD S0
noncomputable def au(a:List Tx):Vv:=(KD (aR a) 1000 [0] 0).getD []
noncomputable def tabOf(a:List Tx):List Row:=tab (aR a) (au a)
theorem L6.k{a:List Tx}(h:L6 a):mB S0 a=some (aR a)/\∃nd b,K (Hd a) (aR a) nd b/\b.length<=241/\KD (aR a) 1000 [0] 0=some (au a)/\(∀x,x∈au a↔x<(aR a).lg.length)/\(au a).length=b.length/\(au a).idxOf 0=0/\(au a).Nodup:=by
 obtain⟨S,nd,b,e,H,l⟩:=K.of a h.az h.len;have f:aR a=S:=by unfold aR;rw[e];rfl
 rw[f];have g:b.length<=241:=by
  have:=h.sum;unfold fi at this;omega
 obtain⟨m,e2,d,n,j⟩:=H.met (k:=1000) (by omega);have eM:au a=0 :: m:=by unfold au;rw[f,e2];rfl
 rw[eM];exact⟨e,nd,b,H,g,e2,λx=>by rw[n,H.i.len],j,List.idxOf_cons_self,d⟩
theorem Ei{d:List Tx}(h:L6 d):∃hd,ba [] [.lst (d.map .str)]=some (LG d hd (aR d),.non):=by
 obtain⟨e,_⟩:=h.k;have g:=h.sum;obtain⟨hd,z,q⟩:=D5 d (tx:=[]) (hd:=[]) (S:=S0) (S':=aR d) (B:=.lst (d.map .str)) (z:=none) BY rfl (by have:=h.Qs;simpa using this) (by show 0+fi d<=120;omega) (by show 1+2*fi d<=100000;omega) h.az e;rw[Yg]at q;refine⟨hd,?_⟩;unfold ba Ja;rw[Zs ⟨rfl,rfl⟩];have f:=(eX (tg:=bg 2) (it:=gM (aa 1)) (body:=bG) (U:=[oc (G3 [] [] S0 true),pc (.lst (d.map .str)),none]) (m:=.pu) (l:=d.map .str) rfl rfl).trans q;have body:=(aS (a:=jk 0 4 (il ai)) (b:=ak (jk 0 5 (il ai)) (ak (jk 0 6 (eNew 0 dG ai)) (HQ (gK (aa 1)) (eW (bg 2) (gM (aa 1)) bG) eQ))) (U:=[oc (.obj 2 [(0,.bl true)]),pc (.lst (d.map .str)),none]) (U1:=[oc (.obj 2 [(0,.bl true),(4,.lst [])]),pc (.lst (d.map .str)),none]) rfl).trans
  (sq (U1:=[oc (.obj 2 [(0,.bl true),(4,.lst []),(5,.lst [])]),pc (.lst (d.map .str)),none]) rfl (sq (U1:=[oc (G3 [] [] S0 true),pc (.lst (d.map .str)),none]) rfl (MN (m:=.fr) rfl f)))
 exact congrArg (λz:Option Out=>z.bind _) body
theorem AD{a:List Tx}(h:L6 a){arg:Ex}{U:Env}{m:Md}(g:arg U=some (m,.lst (a.map .str))):fS 1 cp (eNew 1 ba (ae arg ai)) ai U=some (.fr,Ho (tabOf a)):=by
 obtain⟨hd,e⟩:=Ei h;obtain⟨_,nd,p,H,l,e2,n,q,_⟩:=h.k;have hlen:(aR a).lg.length<=100001:=by rw[← H.i.len];omega
 have d:=DH H.i.wf hlen (k:=1000) (by decide) e2 n (by omega);have f:eNew 1 ba (ae arg ai) U=some (.fr,G3 a hd (aR a) false):=by
  unfold eNew;rw[xv (r:=ai) g rfl,Zt];have o:de (trees [(m,T.lst (a.map .str))])=true:=by
   show (de (a.map T.str)&&true)=true;rw[fC _ (λ_=>rfl)];rfl
  rw[Zs o,show trees [(m,T.lst (a.map .str))]=[T.lst (a.map .str)] from rfl,e,Zt,Zs ⟨ll _ _ _,rfl⟩];rfl
 have b:cp [G3 a hd (aR a) false]=some (.fr,Ho (tabOf a)):=by
  refine eA (U:=[pc (G3 a hd (aR a) false)]) rfl (d5 ?_);have j:bj 6 (aa 0) [pc (G3 a hd (aR a) false)]=some (.pu,xb (aR a) false):=ij (m:=.pu) (t:=G3 a hd (aR a) false) rfl (GX a hd (aR a) false);unfold fS;show ((bj 6 (aa 0) [pc (G3 a hd (aR a) false)]).bind _)=_;rw[j];show ((dU [xb (aR a) false]).bind _)=_;rw[d];rfl
 show ((eNew 1 ba (ae arg ai) U).bind _)=_;rw[f];show ((cp [G3 a hd (aR a) false]).bind _)=_;rw[b];rfl
end T17
end
section
namespace T17
open VS
theorem DC(d:Vu):∃c,fA [.scr d,.int 0]=some (.fr,.int c):=by
 cases d with
 |cons a r =>
  have e:(0:Int)<((a :: r).length:Int):=by rw[Zk];lia
  exact⟨_,yy [some (.pu (.scr (a :: r))),some (.pu (.int 0))] rfl rfl (lD ((zf (m:=.fr) (e2v (x:=(.fr,.int 0)) rfl (iC (xv rfl rfl) rfl) (congrArg (λb=>some (Md.fr,T.bl b)) (decide_eq_true e)))).trans (d5 (e2v (x:=(.fr,.scr (a :: r))) rfl rfl (vF _ 0 (by decide) e)))))⟩
 |nil=>exact⟨0,rfl⟩
theorem iU(d:Vu)(k:Int)(F:0<=k)(E:k<1000):∃n,aQ [.scr d,.int k]=some (.fr,.int n)/\0<=n/\n<2147483648:=by
 obtain⟨c,q⟩:∃c,(HQ (e2 La (eN bY (ae (aa 0) ai)) (Q2 0)) (aH 2 (e2 aA (aa 0) (e2 oMod (aa 1) (eN bY (ae (aa 0) ai))))) eQ) [some (.pu (.scr d)),some (.pu (.int k)),some (.pu (.int 7)),none]=some (.nx [some (.pu (.scr d)),some (.pu (.int k)),some (.pu (.int c)),none]):=by
  cases d with
  |nil=>exact⟨7,rfl⟩
  |cons a r =>
   have e:(0:Int)<((a :: r).length:Int):=by rw[Zk];lia
   exact⟨_,(zf (m:=.fr) (e2v (iC (xv rfl rfl) rfl) rfl (congrArg (λb=>some (Md.fr,T.bl b)) (decide_eq_true e)))).trans (av (m:=.fr) (e2v (x:=(.fr,.scr (a :: r))) rfl (e2v (x:=(.fr,.int k)) rfl (iC (xv rfl rfl) rfl) (bJ e)) (vF _ _ (Yx k (Int.ne_of_gt e)) (ZA k e))) (by decide) (by decide:2<4))⟩
 have B:=Yx c (b:=2147483629) (by decide);have A:=ZA c (b:=2147483629) (by decide);generalize C:c%2147483629=x1 at B A;have z:=Yx ((x1+40503*k+1)*48271) (b:=2147483647) (by decide);have y:=ZA ((x1+40503*k+1)*48271) (b:=2147483647) (by decide);generalize D:(x1+40503*k+1)*48271%2147483647=x2 at z y;have w:=Yx (x2*x2) (b:=2147483629) (by decide);have v:=ZA (x2*x2) (b:=2147483629) (by decide);generalize h:x2*x2%2147483629=x3 at w v;have u:=Yx ((x3+k)*69621) (b:=2147483587) (by decide);have s:=ZA ((x3+k)*69621) (b:=2147483587) (by decide);generalize g:(x3+k)*69621%2147483587=x4 at u s;have G:=Yx (x4*x4) (b:=2147483563) (by decide);have e1:=ZA (x4*x4) (b:=2147483563) (by decide);refine⟨x4*x4%2147483563/3,?_,by lia,by lia⟩;have o:∀m n,fY (m,.int (x1+40503*k+1)) (n,.int 48271)=some (.fr,.int ((x1+40503*k+1)*48271)):=λm n=>lP (by lia);have l:∀m n,fY (m,.int x2) (n,.int x2)=some (.fr,.int (x2*x2)):=λm n=>lP (by lia);have j:∀m n,fY (m,.int (x3+k)) (n,.int 69621)=some (.fr,.int ((x3+k)*69621)):=λm n=>lP (by lia);have i:∀m n,fY (m,.int x4) (n,.int x4)=some (.fr,.int (x4*x4)):=λm n=>lP (by lia);have p:∀m n,fY (m,.int 40503) (n,.int k)=some (.fr,.int (40503*k)):=λm n=>lP (by decide);unfold aQ;refine yy [some (.pu (.scr d)),some (.pu (.int k)),none,none] (U':=[some (.pu (.scr d)),some (.pu (.int k)),some (.pu (.int c)),some (.pu (.int x4))]) rfl rfl ?_;rw[gy (U':=[some (.pu (.scr d)),some (.pu (.int k)),some (.pu (.int 7)),none]) rfl,gy q];rw[gy (av (m:=.fr) (t:=.int x2) (e2v (e2v (e2v (e2v (e2v rfl rfl ((bJ (by decide)).trans (by rw[C]))) (e2v rfl rfl (p _ _)) rfl) rfl rfl) rfl (o _ _)) rfl ((bJ (by decide)).trans (by rw[D]))) (by decide) (by decide:3<4))];refine(show ak _ _ [some (.pu (.scr d)),some (.pu (.int k)),some (.pu (.int c)),some (.pu (.int x2))]=_ from ?_);rw[gy (av (m:=.fr) (t:=.int x3) (e2v (e2v rfl rfl (l _ _)) rfl ((bJ (by decide)).trans (by rw[h]))) (by decide) (by decide:3<4))];refine(show ak _ _ [some (.pu (.scr d)),some (.pu (.int k)),some (.pu (.int c)),some (.pu (.int x3))]=_ from ?_);rw[gy (av (m:=.fr) (t:=.int x4) (e2v (e2v (e2v rfl rfl rfl) rfl (j _ _)) rfl ((bJ (by decide)).trans (by rw[g]))) (by decide) (by decide:3<4))];refine(show d8 _ [some (.pu (.scr d)),some (.pu (.int k)),some (.pu (.int c)),some (.pu (.int x4))]=_ from ?_);refine d5 ?_;have r:=e2v (f:=ic) (U:=[some (.pu (.scr d)),some (.pu (.int k)),some (.pu (.int c)),some (.pu (.int x4))]) (e2v (f:=oMod) (a:=e2 fY (aa 3) (aa 3)) (b:=Q2 2147483563) (e2v rfl rfl (i _ _)) rfl (bJ (by decide))) (show Q2 3 _=some (.fr,.int 3) from rfl) (gC (by decide));exact r
noncomputable abbrev Mv:Tx:=[97,98,99,100,101,102,103,104,105,106,107,108,109,110,111,112,113,114,115,116,117,118,119,120,121,122]
theorem Eb(i:Nat)(h:i<26):97<=Mv.getD i 0/\Mv.getD i 0<=122:=by
 have:∀i,i<26->97<=Mv.getD i 0/\Mv.getD i 0<=122:=by decide
 exact this i h
theorem uZ(c:Int):∃a:Vv,dE [.int c]=some (.fr,.lst (a.map λx=>T.str [x]))/\a.length=26/\∀x∈a,97<=x/\x<=122:=by
 have r:=Yx (c/26) (b:=5) (by decide);have q:=ZA (c/26) (b:=5) (by decide);have li:=oa (m:=.fr) (n:=.fr) T.int [1,3,5,7,9] (c/26%5) 0 r (by simpa using q) rfl;simp only[Zm,WZ]at li;obtain⟨st,t,u,s1⟩:∃st:Int,List.getD [1,3,5,7,9] (c/26%5).toNat 0=st/\0<=st/\st<10:=by
  have e:∀i,i<5->0<=(List.getD [1,3,5,7,9] i 0:Int)/\(List.getD [1,3,5,7,9] i 0:Int)<10:=by decide
  have h:=e (c/26%5).toNat (by lia);exact⟨_,rfl,h.1,h.2⟩
 rw[t]at li;have l:=Yx c (b:=26) (by decide);have g:=ZA c (b:=26) (by decide);generalize p:c%26=s at l g;have comp:=eu (k:=1) (tg:=bg 0) (it:=cq (Q2 26)) (elt:=e2 aA (eC (.str Mv)) (e2 oMod (e2 bK (aa 2) (e2 fY (aa 3) (aa 0))) (Q2 26)))
  (U:=[some (.pu (.int c)),some (.pu (.int s)),some (.pu (.int st))]) (m:=.fr) (λ(j:Nat)=>T.int (j:Int)) (λj:Nat=>T.str [Mv.getD ((s+st*(j:Int))%26).toNat 0]) (List.range 26)
  (by rw[kz (m:=.fr) (j:=26) rfl (by lia),oC];rfl) rfl (by decide) (λj v=>⟨[some (.pu (.int j)),some (.pu (.int c)),some (.pu (.int s)),some (.pu (.int st))],rfl,by
   have d:=Yx (s+st*(j:Int)) (b:=26) (by decide);have e1:=ZA (s+st*(j:Int)) (b:=26) (by decide);have ix:=yK (m:=.fr) (n:=.fr) Mv ((s+st*(j:Int))%26) d (by exact e1);have f:∀m n,fY (m,.int st) (n,.int (j:Int))=some (.fr,.int (st*(j:Int))):=λm n=>lP (by lia);exact e2v (x:=(.fr,.str Mv)) rfl (e2v (x:=(.fr,.int (s+st*(j:Int)))) (e2v (x:=(.fr,.int s)) rfl (e2v (x:=(.fr,.int st)) rfl rfl (f _ _)) rfl) rfl (bJ (by decide))) ix⟩)
 refine⟨(List.range 26).map λj:Nat=>Mv.getD ((s+st*(j:Int))%26).toNat 0,?_,by simp,λx o=>?_⟩
 ·unfold dE;refine yy [some (.pu (.int c)),none,none] (U':=[some (.pu (.int c)),some (.pu (.int s)),some (.pu (.int st))]) rfl rfl ?_;rw[gy (U':=[some (.pu (.int c)),some (.pu (.int s)),none]) (av (m:=.fr) (e2v (x:=(.fr,.int c)) rfl rfl ((bJ (by decide)).trans (by rw[p]))) (by decide) (by decide:1<3)),
   gy (U':=[some (.pu (.int c)),some (.pu (.int s)),some (.pu (.int st))]) (av (m:=.fr) (e2v rfl (e2v (e2v (x:=(.fr,.int c)) rfl rfl (gC (by decide))) rfl (bJ (by decide))) li) (by decide) (by decide:2<3))]
  refine(d5 comp).trans ?_;rw[Yv];rfl
 ·obtain⟨j,_,rfl⟩:=Yo.mp o;have d:=Yx (s+st*(j:Int)) (b:=26) (by decide);have e1:=ZA (s+st*(j:Int)) (b:=26) (by decide);exact Eb _ (by lia)
noncomputable def Az(t:Vv):Prop:=∀x∈t,97<=x/\x<=122
theorem Az.app{s t:Vv}(a:Az s)(b:Az t):Az (s++t):=λx d=>(Ze.mp d).elim (a x) (b x)
noncomputable abbrev Jl(a:Vv):T:=.lst (a.map λx=>T.str [x])
theorem yO{m n:Md}(a:Vv)(i:Int)(d:0<=i)(b:i<a.length):aA (m,Jl a) (n,.int i)=some (.fr,.str [a.getD i.toNat 0]):=oa (λx=>T.str [x]) a i 0 d b rfl
theorem qc{a:Vv}(h:Az a){i:Nat}(b:i<a.length):Az [a.getD i 0]:=λx d=>by
 rw[Za.mp d,Zr,Zq b];exact h _ (Yt b)
noncomputable abbrev Kt(c:Int)(i:Vv)(h b a:Int)(j:Vp)(g f e d:Vs):Env:=[some (.pu (.int c)),some (.pu (Jl i)),some (.pu (.int h)),some (.pu (.int b)),some (.pu (.int a)),some (.ow (.lst j)),g,f,e,d]
theorem Gm(h:Vv)(y:Az h)(a g f d:Int)(r:0<a)(C:a<=h.length)(B:a<1000)(n:Vp)(l:Vs)(j:Vv):∀(c:Int)(t:Tx)(z:Vs),t.length+j.length<=1000->Az t →
  ∃q i o,forL (bg 9) d6 (j.map λ(k:Nat)=>T.int (k:Int)) (Kt c h a g f n l (some (.pu (.int d))) (some (.pu (.str t))) z)=some (.nx (Kt q h a g f n l (some (.pu (.int d))) (some (.pu (.str i))) o))/\i.length=t.length+j.length/\Az i:=by
 induction j with
 |nil=>exact λc t z _ p=>⟨c,t,z,rfl,rfl,p⟩
 |cons k j s =>
  intro c t z u p;have v:=Yx c (b:=a) (by lia);have e1:=ZA c (b:=a) r;rw[Zk]at u;have ad:bK (.fr,.str t) (.fr,.str [h.getD (c%a).toNat 0])=some (.fr,.str (t++[h.getD (c%a).toNat 0])):=lz (show t.length+1<=16777216 by lia);obtain⟨q,i,o,e,w,A⟩:=s (c/a) (t++[h.getD (c%a).toNat 0]) (some (.pu (.int k))) (by rw[Zy,Zc];lia) (p.app (qc y (by lia)));refine⟨q,i,o,?_,by rw[w,Zy,Zc,Zk];lia,A⟩;rw[Zm,cQ (U1:=Kt c h a g f n l (some (.pu (.int d))) (some (.pu (.str t))) (some (.pu (.int k)))) (U2:=Kt (c/a) h a g f n l (some (.pu (.int d))) (some (.pu (.str (t++[h.getD (c%a).toNat 0])))) (some (.pu (.int k)))) rfl (by
   unfold d6;rw[aS (U1:=Kt c h a g f n l (some (.pu (.int d))) (some (.pu (.str (t++[h.getD (c%a).toNat 0])))) (some (.pu (.int k)))) (av (m:=.fr) (e2v (x:=(.fr,.str t)) rfl (e2v (x:=(.pu,Jl h)) rfl (e2v rfl rfl (bJ r)) (yO h _ v (by lia))) ad) (by decide) (by decide:8<10))];exact av (m:=.fr) (e2v rfl rfl (gC (show 0<a/\a<1073741824 by lia))) (by decide) (by decide:0<10)),e]
structure Bk(most:Nat)(bk:List Tx):Prop where
 n:bk.flatten.length<=most
 az:∀t∈bk,Az t
theorem Bk.snoc{m b:Nat}{d:List Tx}{t:Tx}(B:Bk m d)(h:m+t.length<=b)(e:Az t):Bk b (d++[t]):=by
 refine⟨?_,λs a=>?_⟩
 ·have:=B.n;rw[Z4,Zy,show [t].flatten=t by simp];lia
 ·rcases Ze.mp a with a | a
  ·exact B.az s a
  ·rw[Za.mp a];exact e
theorem pB{a:Ex}{U:Env}{m:Md}{n:Nat}(e:a U=some (m,.int (n:Int)))(h:n<100000):cq a U=some (.fr,(List.range n).map λ(k:Nat)=>T.int (k:Int)):=by
 rw[kz e (by lia),oC];rfl
theorem pQ{b:Tg}{d:JL}{a:Sx}{U:Env}{l:Vp}(h:d U=some (.fr,l)):eW b d a U=forL b a l U:=by
 simp[eW,h]
theorem vM(g:Vv)(J:Az g)(f d:Int)(D:0<f)(C:f<=g.length)(A:f<1000)(k:Nat)(c:Int)(a:Nat)(e:List Tx)(u o j:Vs)(z:a<=24)(B:Bk (24-a) e)(L:e.length<1000) :
  ∃(q:Int)(sz:Nat)(i:Tx)(p:Vs),sz<=a/\Bk (24-(a-sz)) (e++[i])/\cO (Kt c g f d a (e.map T.str) (some (.pu (.int k))) u o j)=some (.nx (Kt q g f d ((a-sz:Nat):Int) ((e++[i]).map T.str) (some (.pu (.int k))) (some (.pu (.int sz))) (some (.pu (.str i))) p)):=by
 have M:=Yx c (b:=25) (by decide);have e1:=ZA c (b:=25) (by decide);obtain⟨sz,r,F,N⟩:∃sz:Nat,(if c%25<(a:Int) then c%25 else (a:Int))=(sz:Int)/\sz<=a/\sz<=24:=by
  by_cases h:c%25<(a:Int)
  ·exact⟨(c%25).toNat,by rw[Zs h];lia,by lia,by lia⟩
  ·exact⟨a,by rw[Zp h],Zo _,z⟩
 have s:((a:Int)-(sz:Int))=((a-sz:Nat):Int):=by lia
 generalize y:(a-sz:Nat)=r1 at s;obtain⟨q,i,p,E,H,G⟩:=Gm g J f d (r1:Int) (sz:Int) D C A (e.map T.str) (some (.pu (.int k))) (List.range sz) (c/25) [] j (by rw[ZO,YM];lia) (λx w=>nomatch w);rw[ZO,YM,YB]at H;refine⟨q,sz,i,p,F,B.snoc (by lia) G,?_⟩;rw[y];unfold cO;rw[aS (U1:=Kt c g f d a (e.map T.str) (some (.pu (.int k))) (some (.pu (.int sz))) o j) (av (m:=.fr) (t:=.int sz) (by rw[← r];rfl) (by decide) (by decide:7<10))];rw[aS (U1:=Kt (c/25) g f d a (e.map T.str) (some (.pu (.int k))) (some (.pu (.int sz))) o j) rfl];rw[aS (U1:=Kt (c/25) g f d r1 (e.map T.str) (some (.pu (.int k))) (some (.pu (.int sz))) o j) (av (m:=.fr) (t:=.int r1) (by rw[← s];rfl) (by decide) (by decide:4<10))];rw[aS (U1:=Kt (c/25) g f d r1 (e.map T.str) (some (.pu (.int k))) (some (.pu (.int sz))) (some (.pu (.str []))) j) rfl];rw[aS (U1:=Kt q g f d r1 (e.map T.str) (some (.pu (.int k))) (some (.pu (.int sz))) (some (.pu (.str i))) p) (by rw[pQ (pB (m:=.fr) (n:=sz) rfl (by lia))];exact E)];rw[oy (l:=e.map T.str) (v:=.str i) rfl rfl (by rw[Zx];lia),Z8];rfl
theorem GF(h:Vv)(F:Az h)(b a:Int)(A:0<b)(z:b<=h.length)(y:b<1000)(i:Vv):∀(c:Int)(room:Nat)(bk:List Tx)(l g f d:Vs),room<=24->Bk (24-room) bk->bk.length+i.length<=1000 →
  ∃p m j q r s t,forL (bg 6) cO (i.map λ(k:Nat)=>T.int (k:Int)) (Kt c h b a room (bk.map T.str) l g f d)=some (.nx (Kt p h b a m (j.map T.str) q r s t))/\Bk 24 j/\j.length=bk.length+i.length:=by
 induction i with
 |nil=>exact λc room bk l g f d o B _=>⟨c,room,bk,l,g,f,d,rfl,⟨ZE B.n (YN _ _),B.az⟩,rfl⟩
 |cons k i w =>
  intro c room bk l g f d o B x;rw[Zk]at x;obtain⟨D,sz,u,v,J,G,C⟩:=vM h F b a A z y k c room bk g f d o B (by lia);obtain⟨p,m,j,q,r,s,t,e,H,E⟩:=w D (room-sz) (bk++[u]) (some (.pu (.int k))) (some (.pu (.int sz))) (some (.pu (.str u))) v (ZE (YN _ _) o) G (by rw[Zy,Zc];lia);refine⟨p,m,j,q,r,s,t,?_,H,by rw[E,Zy,Zc,Zk];lia⟩;rw[Zm,cQ rfl C,e]
theorem yb(c:Int):∃bk:List Tx,cX [.int c]=some (.fr,.lst (bk.map T.str))/\Bk 24 bk/\bk.length<=4:=by
 obtain⟨d,p,F,C⟩:=uZ c;have s:=Yx (c/130) (b:=8) (by decide);have r:=ZA (c/130) (b:=8) (by decide);have li:aA (.fr,.lst [.int 1,.int 2,.int 3,.int 4,.int 2,.int 3,.int 4,.int 26]) (.fr,.int (c/130%8))=_:=oa T.int [1,2,3,4,2,3,4,26] (c/130%8) 0 s r rfl;obtain⟨so,u,f,s1⟩:∃so:Int,List.getD [1,2,3,4,2,3,4,26] (c/130%8).toNat 0=so/\0<so/\so<=26:=by
  have l:∀i,i<8->0<(List.getD [1,2,3,4,2,3,4,26] i 0:Int)/\(List.getD [1,2,3,4,2,3,4,26] i 0:Int)<=26:=by decide
  have h:=l (c/130%8).toNat (by lia);exact⟨_,rfl,h.1,h.2⟩
 rw[u]at li;have H:=Yx (c/1040) (b:=5) (by decide);have G:=ZA (c/1040) (b:=5) (by decide);obtain⟨a,z,E⟩:∃a:Nat,c/1040%5=(a:Int)/\a<=4:=⟨(c/1040%5).toNat,by lia,by lia⟩
 obtain⟨q,g,B,v,w,x,y,e,D,A⟩:=GF d C so a f (by lia) (by lia) (List.range a) (c/5200) 24 [] none none none none (Zo _) ⟨ZR _,λt o=>nomatch o⟩ (by rw[ZO,YM];lia);rw[ZO,YM,YB]at A;refine⟨B,?_,D,by lia⟩;unfold cX;refine eA rfl (U:=[some (.pu (.int q)),some (.pu (Jl d)),some (.pu (.int so)),some (.pu (.int a)),some (.pu (.int g)),none,v,w,x,y]) ?_;refine(show ak _ _ [some (.pu (.int c)),none,none,none,none,none,none,none,none,none]=_ from ?_);rw[aS (U1:=[some (.pu (.int c)),some (.pu (Jl d)),none,none,none,none,none,none,none,none]) (av (aX (xs:=[(.fr,.int c)]) rfl p) (by decide) (by decide:1<10))];rw[aS (U1:=[some (.pu (.int c)),some (.pu (Jl d)),some (.pu (.int so)),none,none,none,none,none,none,none]) (av (m:=.fr) (e2v rfl (e2v (e2v rfl rfl (gC (j:=130) (by decide))) rfl (bJ (j:=8) (by decide))) li) (by decide) (by decide:2<10))];rw[aS (U1:=[some (.pu (.int c)),some (.pu (Jl d)),some (.pu (.int so)),some (.pu (.int a)),none,none,none,none,none,none]) (av (m:=.fr) (e2v (e2v rfl rfl (gC (j:=1040) (by decide))) rfl (by rw[← z];exact bJ (j:=5) (by decide))) (by decide) (by decide:3<10))];rw[aS (U1:=[some (.pu (.int (c/5200))),some (.pu (Jl d)),some (.pu (.int so)),some (.pu (.int a)),none,none,none,none,none,none]) rfl];rw[aS (U1:=[some (.pu (.int (c/5200))),some (.pu (Jl d)),some (.pu (.int so)),some (.pu (.int a)),some (.pu (.int ((24:Nat):Int))),none,none,none,none,none]) rfl];rw[aS (U1:=Kt (c/5200) d so a ((24:Nat):Int) (([]:List Tx).map T.str) none none none none) rfl];rw[aS (show eW _ _ _ _=_ from by
  rw[pQ (pB (m:=.fr) (n:=a) rfl (by lia))];exact e)]
 rfl
noncomputable abbrev IS(i:Vu)(h:Vv)(b g a:Int)(j:Vp)(k:Nat)(f e d l m:Vs):Env:=[some (.pu (.scr i)),some (.pu (.int b)),some (.pu (Jl h)),some (.pu (.int g)),some (.pu (.int a)),some (.ow (.lst j)),some (.pu (.int k)),f,e,d,l,m]
noncomputable abbrev cI(i:Int):Vs:=some (.pu (.int i))
noncomputable abbrev cS(t:Tx):Vs:=some (.pu (.str t))
theorem ny{a b:Ex}{U:Env}{x y:Bool}(e:a U=some (.fr,.bl x))(d:b U=some (.fr,.bl y)):jg a b U=some (.fr,.bl (x&&y)):=by
 unfold jg;rw[e,Zt];cases x with
 |true=>exact d
 |false=>rfl
theorem wD(o:Vu)(l:Vv)(B:Az l)(g i f d:Int)(r:0<i)(J:i<=l.length)(q:Vp)(k a:Nat)(F:k<6)(H:1<=a)(L:a<=5)(j:Nat)(G:j<200)(t:Tx)(v:Az t)(z:t.length<=1000)(C:Vs) :
  ∃x n,Az [x]/\cU (IS o l g i f q k (cI d) (cI a) (cS t) (cI j) C)=some (.nx (IS o l g i f q k (cI d) (cI a) (cS (t++[x])) (cI j) (cI n))):=by
 obtain⟨n,w,E,D⟩:=iU o (20*(k:Int)+6+(j:Int)) (by lia) (by lia);have ad:∀x:Nat,bK (.fr,.str t) (.fr,.str [x])=some (.fr,.str (t++[x])):=λx=>lz (ZE (Nat.add_le_add_right z 1) (by decide));have u:e2 LO (eN bY (ae (aa 9) ai)) (aa 8) (IS o l g i f q k (cI d) (cI a) (cS t) (cI j) (cI n))=some (.fr,.bl (decide ((a:Int)<=(t.length:Int)))):=rfl;have s:e2 La (e2 oMod (aa 11) (Q2 4)) (Q2 0) (IS o l g i f q k (cI d) (cI a) (cS t) (cI j) (cI n))=some (.fr,.bl (decide (0<n%4))):=e2v (e2v rfl rfl (bJ (by decide))) rfl rfl;have st:∀{e:Ex}{x:Nat},e (IS o l g i f q k (cI d) (cI a) (cS t) (cI j) (cI n))=some (.fr,.str [x])->aH 9 (e2 bK (aa 9) e) (IS o l g i f q k (cI d) (cI a) (cS t) (cI j) (cI n))=some (.nx (IS o l g i f q k (cI d) (cI a) (cS (t++[x])) (cI j) (cI n))):=λ{e x} h =>
  av (m:=.fr) (e2v (x:=(.fr,.str t)) rfl h (ad x)) (by decide) (by decide:9<12)
 unfold cU;rw[aS (U1:=IS o l g i f q k (cI d) (cI a) (cS t) (cI j) (cI n)) (av (aX (xs:=[(.fr,.scr o),(.fr,.int (20*(k:Int)+6+(j:Int)))]) rfl w) (by decide) (by decide:11<12))];by_cases p:(a:Int)<=(t.length:Int)/\0<n%4
 ·refine⟨t.getD ((t.length:Int)-(a:Int)).toNat 0,n,qc v (by lia),?_⟩;rw[zf (m:=.fr) (by rw[ny u s,decide_eq_true p.1,decide_eq_true p.2];rfl)];exact st (e2v (x:=(.fr,.str t)) (y:=(.fr,.int ((t.length:Int)-(a:Int)))) rfl rfl (yK t _ (by lia) (by lia)))
 ·have A:=Yx (n/4) (b:=i) (by lia);have e1:=ZA (n/4) (b:=i) r;refine⟨l.getD (n/4%i).toNat 0,n,qc B (by lia),?_⟩;rw[Ah (m:=.fr) (by
   rw[ny u s,← Bool.decide_and,ZG p])]
  exact st (e2v (x:=(.pu,Jl l)) rfl (e2v (e2v rfl rfl (gC (by decide))) rfl (bJ r)) (yO l _ A (by lia)))
theorem Gy(u:Vu)(p:Vv)(N:Az p)(h o g f:Int)(F:0<o)(E:o<=p.length)(v:Vp)(k d:Nat)(B:k<6)(D:1<=d)(M:d<=5)(l:Vv):∀(t:Tx)(s q:Vs),(∀j∈l,j<200)->t.length+l.length<=1000->Az t →
  ∃m H J,forL (bg 10) cU (l.map λ(j:Nat)=>T.int (j:Int)) (IS u p h o g v k (cI f) (cI d) (cS t) s q)=some (.nx (IS u p h o g v k (cI f) (cI d) (cS m) H J))/\m.length=t.length+l.length/\Az m:=by
 induction l with
 |nil=>exact λt s q _ _ r=>⟨t,s,q,rfl,rfl,r⟩
 |cons j l y =>
  intro t s q w A r;rw[Zk]at A;obtain⟨x,n,z,G⟩:=wD u p N h o g f F E v k d B D M j (w j Zw) t r (by lia) q;obtain⟨m,a,b,e,L,O⟩:=y (t++[x]) (cI j) (cI n) (λi C=>w i (Zv _ C)) (by rw[Zy,Zc];lia) (r.app z);refine⟨m,a,b,?_,by rw[L,Zy,Zc,Zk];lia,O⟩;rw[Zm,cQ rfl G,e]
theorem u0(t:Tx)(i L:Nat)(h:i<=t.length):cut t (some (i:Int)) (some ((i:Int)+(L:Int)))=(t.drop i).take L:=by
 have b:¬((i:Int)<0):=by lia
 have a:¬((i:Int)+(L:Int)<0):=by lia
 simp only[cut,clip,Zp b,Zp a,Wm];rw[show ((i:Int)+(L:Int)).toNat=i+L by lia,YW h];by_cases q:i+L<=t.length
 ·rw[YW q,show i+L-i=L by exact YE _ _]
 ·rw[Wi (by exact Xe q),Yr (l:=t.drop i) (by simp),Yr (l:=t.drop i) (by simp;lia)]
theorem wK(o:Vu)(s:Vv)(KW:Az s)(d p:Int)(P2:0<=d)(N5:d<=120)(h0:0<p)(h1:p<=s.length)(k:Nat)(hk:k<6)(e:Nat)(hr:(e:Int)<=d)(i:List Tx)(B:Bk (d.toNat-e) i)(hl:i.length<=100)(J G E C D:Vs) :
  ∃(S:Nat)(R:List Tx)(y7 y8 y9 w A:Vs),S<=e/\Bk (d.toNat-S) R/\R.length<=i.length+2/\cV (IS o s d p e (i.map T.str) k J G E C D)=some (.nx (IS o s d p S (R.map T.str) k y7 y8 y9 w A)):=by
 obtain⟨F,O,n40,n41⟩:=iU o (20*(k:Int)+4) (by lia) (by lia);obtain⟨H,N,n50,n51⟩:=iU o (20*(k:Int)+5) (by lia) (by lia);have e0:=Yx F (b:=d+1) (by lia);have e1:=ZA F (b:=d+1) (by lia);have f0:=Yx H (b:=5) (by decide);have f1:=ZA H (b:=5) (by decide);obtain⟨sz,M,RB⟩:∃sz:Nat,(if F%(d+1)<(e:Int) then F%(d+1) else (e:Int))=(sz:Int)/\sz<=e:=by
  by_cases h:F%(d+1)<(e:Int)
  ·exact⟨(F%(d+1)).toNat,by rw[Zs h];lia,by lia⟩
  ·exact⟨e,by rw[Zp h],Zo _⟩
 have Y:((e:Int)-(sz:Int))=((e-sz:Nat):Int):=by lia
 generalize ht:(e-sz:Nat)=r1 at Y;obtain⟨u,P,c0,c1⟩:∃u:Nat,1+H%5=(u:Int)/\1<=u/\u<=5:=⟨(1+H%5).toNat,by lia,by lia,by lia⟩
 obtain⟨f,w,A,ee,LQ,Z⟩:=Gy o s KW d p (r1:Int) (sz:Int) h0 h1 (i.map T.str) k u hk c0 c1 (List.range sz) [] C D (λj hj=>by have:=ZD.mp hj;lia) (by rw[ZO,YM];lia) (λx L=>nomatch L);rw[ZO,YM,YB]at LQ;have B1:Bk (d.toNat-r1) (i++[f]):=B.snoc (by lia) Z;have X:∀(r:Int)(b:Vp)(J G E C D:Vs),aZ aQ (ae (aa 0) (ae (e2 bK (e2 fY (Q2 20) (aa 6)) (Q2 5)) ai)) (IS o s d p r b k J G E C D)=some (.fr,.int H):=λr b _ _ _ _ _=>aX (xs:=[(.fr,.scr o),(.fr,.int (20*(k:Int)+5))]) rfl N;have m4:aZ aQ (ae (aa 0) (ae (e2 bK (e2 fY (Q2 20) (aa 6)) (Q2 4)) ai)) (IS o s d p e (i.map T.str) k J G E C D)=some (.fr,.int F):=aX (xs:=[(.fr,.scr o),(.fr,.int (20*(k:Int)+4))]) rfl O;have mp:∀(b:List Tx)(t:Tx),(b++[t]).map T.str=b.map T.str++[T.str t]:=λb t=>by rw[Z8];rfl
 unfold cV;rw[aS (U1:=IS o s d p e (i.map T.str) k (cI sz) G E C D) (av (m:=.fr) (t:=.int sz) (by
  have a:=xv (a:=aa 4) (x:=(.fr,.int e)) (U:=IS o s d p e (i.map T.str) k J G E C D) rfl (xv (e2v (z:=(.fr,.int (F%(d+1)))) m4 (b:=e2 bK (aa 1) (Q2 1)) (y:=(.fr,.int (d+1))) rfl (bJ (by lia))) (xs:=[]) (r:=ai) rfl);show (ae _ _ _).bind _=_;rw[a,← M];rfl) (by decide) (by decide:7<12))]
 rw[aS (U1:=IS o s d p r1 (i.map T.str) k (cI sz) G E C D) (av (m:=.fr) (t:=.int r1) (by rw[← Y];rfl) (by decide) (by decide:4<12))];rw[aS (U1:=IS o s d p r1 (i.map T.str) k (cI sz) (cI u) E C D) (av (m:=.fr) (t:=.int u) (e2v (x:=(.fr,.int 1)) rfl (e2v (X r1 _ _ _ _ _ _) rfl (bJ (j:=5) (by decide))) (by rw[← P];rfl)) (by decide) (by decide:8<12))];rw[aS (U1:=IS o s d p r1 (i.map T.str) k (cI sz) (cI u) (cS []) C D) rfl];rw[aS (U1:=IS o s d p r1 (i.map T.str) k (cI sz) (cI u) (cS f) w A) (by rw[pQ (pB (m:=.fr) (n:=sz) rfl (by lia))];exact ee)];rw[aS (U1:=IS o s d p r1 ((i++[f]).map T.str) k (cI sz) (cI u) (cS f) w A) (by rw[mp,oy (l:=i.map T.str) (v:=.str f) rfl rfl (by rw[Zx];lia)];rfl)];have g1:e2 La (aa 7) (Q2 2) (IS o s d p r1 ((i++[f]).map T.str) k (cI sz) (cI u) (cS f) w A)=some (.fr,.bl (decide ((2:Int)<(sz:Int)))):=rfl;have g2:e2 oEq (e2 oMod (aZ aQ (ae (aa 0) (ae (e2 bK (e2 fY (Q2 20) (aa 6)) (Q2 5)) ai))) (Q2 3)) (Q2 0) (IS o s d p r1 ((i++[f]).map T.str) k (cI sz) (cI u) (cS f) w A)=some (.fr,.bl (H%3==0)):=e2v (e2v (X _ _ _ _ _ _ _) rfl (bJ (by decide))) rfl rfl;have g3:e2 LO (aa 4) (Q2 2) (IS o s d p r1 ((i++[f]).map T.str) k (cI sz) (cI u) (cS f) w A)=some (.fr,.bl (decide ((2:Int)<=(r1:Int)))):=rfl;have g:=ny g1 (ny g2 g3);cases hg:(decide ((2:Int)<(sz:Int))&&((H%3==0)&&decide ((2:Int)<=(r1:Int)))) with
 |true =>
  rw[hg]at g;have q:=Xh.mp hg;have q3:=of_decide_eq_true (Xh.mp q.2).2;have q1:=of_decide_eq_true q.1;have cu:cut f (some 1) (some 3)=(f.drop 1).take 2:=u0 f 1 2 (by lia);have Q:Az ((f.drop 1).take 2):=λx L=>Z x (YQ (YX L));have l2:((f.drop 1).take 2).length<=2:=by rw[ZC];exact Nat.min_le_left _ _
  have II:((r1:Int)-2)=((r1-2:Nat):Int):=by lia
  refine⟨r1-2,i++[f]++[(f.drop 1).take 2],cI sz,cI u,cS f,w,A,by lia,B1.snoc (by lia) Q,by rw[Zy,Zy,Zc,Zc];exact Zo _,?_⟩;rw[zf (m:=.fr) g];rw[aS (U1:=IS o s d p r1 ((i++[f]++[(f.drop 1).take 2]).map T.str) k (cI sz) (cI u) (cS f) w A) (by
   rw[mp (i++[f]),oy (l:=(i++[f]).map T.str) (v:=.str ((f.drop 1).take 2)) rfl (by rw[← cu];rfl) (by rw[Zx,Zy,Zc];lia)];rfl)]
  rw[← II];rfl
 |false =>
  rw[hg]at g;refine⟨r1,i++[f],cI sz,cI u,cS f,w,A,by lia,B1,by rw[Zy,Zc];exact XS _,?_⟩;rw[Ah (m:=.fr) g];rfl
theorem GD(s:Vu)(j:Vv)(U:Az j)(a h:Int)(P:0<=a)(S:a<=120)(L:0<h)(J:h<=j.length)(b:Vv):∀(room:Nat)(bk:List Tx)(o g f d l m:Vs),(∀k∈b,k<6)->(room:Int)<=a->Bk (a.toNat-room) bk->bk.length+2*b.length<=100 →
  ∃(X:Int)(v:List Tx)(y r q p t u:Vs),Bk a.toNat v/\v.length<=bk.length+2*b.length/\forL (bg 6) cV (b.map λ(k:Nat)=>T.int (k:Int)) [some (.pu (.scr s)),some (.pu (.int a)),some (.pu (Jl j)),some (.pu (.int h)),some (.pu (.int (room:Int))),some (.ow (.lst (bk.map T.str))),o,g,f,d,l,m] =
   some (.nx [some (.pu (.scr s)),some (.pu (.int a)),some (.pu (Jl j)),some (.pu (.int h)),some (.pu (.int X)),some (.ow (.lst (v.map T.str))),y,r,q,p,t,u]):=by
 induction b with
 |nil=>exact λroom bk o g f d l m _ w B _=>⟨room,bk,o,g,f,d,l,m,⟨ZE B.n (YN _ _),B.az⟩,Zo _,rfl⟩
 |cons k b E =>
  intro room bk o g f d l m x w B G;rw[Zk]at G;obtain⟨r1,O,r,q,p,t,u,F,Z,LQ,M⟩:=wK s j U a h P S L J k (x k Zw) room w bk B (by lia) g f d l m;obtain⟨r2,N,D,C,A,z,Q,R,Y,Ik,e⟩:=E r1 O (cI k) r q p t u (λi H=>x i (Zv _ H)) (by lia) Z (by lia);refine⟨r2,N,D,C,A,z,Q,R,Y,by rw[Zk];lia,?_⟩;rw[Zm,cQ rfl M,e]
theorem GJ{α:Type}(l:List α):cut l none (some 8)=l.take 8:=by
 simp only[cut,clip];by_cases h:8<=l.length
 ·simp[YW h]
 ·simp[Wi (Z0 (Wh h))];rw[Yr (by exact Xe h)]
theorem Bk.take{m:Nat}{a:List Tx}(B:Bk m a)(n:Nat):Bk m (a.take n):=by
 refine⟨?_,λt b=>B.az t (YX b)⟩;have h:a.flatten=(a.take n).flatten++(a.drop n).flatten:=by rw[← Z4,YS]
 have:=B.n;rw[h,Zy]at this;lia
theorem zc(l:List Tx):fK (l.map T.str)=true:=by
 induction l with
 |nil=>rfl
 |cons a l b=>simpa[fK,G5] using b
theorem xB(d:Vu)(a:Int)(P:0<=a)(Q:a<=120):∃bk:List Tx,c6 [.scr d,.int a]=some (.fr,.lst (bk.map T.str))/\Bk a.toNat bk/\bk.length<=8:=by
 obtain⟨x,A,_,_⟩:=iU d 1 (by decide) (by decide);obtain⟨o,R,_,_⟩:=iU d 2 (by decide) (by decide);obtain⟨p,z,_,_⟩:=iU d 3 (by decide) (by decide);obtain⟨l,J,Z,X⟩:=uZ x;have N:=Yx o (b:=8) (by decide);have M:=ZA o (b:=8) (by decide);have li:aA (.fr,.lst [.int 1,.int 2,.int 3,.int 4,.int 2,.int 3,.int 9,.int 26]) (.fr,.int (o%8))=_:=oa T.int [1,2,3,4,2,3,9,26] (o%8) 0 N M rfl;obtain⟨so,O,E,s1⟩:∃so:Int,List.getD [1,2,3,4,2,3,9,26] (o%8).toNat 0=so/\0<so/\so<=26:=by
  have F:∀i,i<8->0<(List.getD [1,2,3,4,2,3,9,26] i 0:Int)/\(List.getD [1,2,3,4,2,3,9,26] i 0:Int)<=26:=by decide
  have h:=F (o%8).toNat (by lia);exact⟨_,rfl,h.1,h.2⟩
 rw[O]at li;have b0:=Yx p (b:=6) (by decide);have b1:=ZA p (b:=6) (by decide);obtain⟨q,S,G⟩:∃q:Nat,p%6=(q:Int)/\q<6:=⟨(p%6).toNat,by lia,by lia⟩
 obtain⟨f,rfl⟩:∃f:Nat,a=(f:Int):=⟨a.toNat,by lia⟩
 obtain⟨r2,g,w,v,u,s,B,C,Y,Ik,e⟩:=GD d l X f so P Q E (by lia) (List.range q) f [] none none none none none none (λk L=>Wc (ZD.mp L) G) (Int.le_refl _) ⟨ZR _,λt H=>nomatch H⟩ (by rw[ZO,YM];lia);have y:∀(i n:Int)(r:Env),aQ [.scr d,.int i]=some (.fr,.int n)->aZ aQ (ae (aa 0) (ae (Q2 i) ai)) (some (.pu (.scr d)) :: r)=some (.fr,.int n):=λi n r h=>aX (xs:=[(.fr,.scr d),(.fr,.int i)]) rfl h;have mk:JA .pu ((g.take 8).map T.str)=some (.fr,.lst ((g.take 8).map T.str)):=by
  unfold JA;rw[Zs (show ((g.take 8).map T.str).length<=fL by rw[Zx,ZC];exact ZE (Nat.min_le_left _ _) (by decide)),Zs (zc _)]
 refine⟨g.take 8,?_,Y.take 8,by rw[ZC];exact Nat.min_le_left _ _⟩;unfold c6;refine eA rfl (U:=[some (.pu (.scr d)),some (.pu (.int f)),some (.pu (Jl l)),some (.pu (.int so)),some (.pu (.int r2)),some (.pu (.lst (g.map T.str))),w,v,u,s,B,C]) ?_;refine(show ak _ _ [some (.pu (.scr d)),some (.pu (.int f)),none,none,none,none,none,none,none,none,none,none]=_ from ?_);rw[aS (U1:=[some (.pu (.scr d)),some (.pu (.int f)),some (.pu (Jl l)),none,none,none,none,none,none,none,none,none]) (av (aX (xs:=[(.fr,.int x)]) (xv (y 1 x _ A) rfl) J) (by decide) (by decide:2<12))];rw[aS (U1:=[some (.pu (.scr d)),some (.pu (.int f)),some (.pu (Jl l)),some (.pu (.int so)),none,none,none,none,none,none,none,none]) (av (m:=.fr) (e2v rfl (e2v (y 2 o _ R) rfl (bJ (j:=8) (by decide))) li) (by decide) (by decide:3<12))];rw[aS (U1:=[some (.pu (.scr d)),some (.pu (.int f)),some (.pu (Jl l)),some (.pu (.int so)),some (.pu (.int (f:Int))),none,none,none,none,none,none,none]) rfl];rw[aS (U1:=[some (.pu (.scr d)),some (.pu (.int f)),some (.pu (Jl l)),some (.pu (.int so)),some (.pu (.int (f:Int))),some (.ow (.lst (([]:List Tx).map T.str))),none,none,none,none,none,none]) rfl];rw[aS (show eW _ _ _ _=_ from by
  rw[pQ (pB (m:=.fr) (n:=q) (e2v (y 3 p _ z) rfl (by rw[← S];exact bJ (by decide))) (by lia))];exact e)]
 rw[aS (U1:=[some (.pu (.scr d)),some (.pu (.int f)),some (.pu (Jl l)),some (.pu (.int so)),some (.pu (.int r2)),some (.pu (.lst (g.map T.str))),w,v,u,s,B,C]) rfl];have D:Lj (aa 5) none (some (Q2 8)) [some (.pu (.scr d)),some (.pu (.int f)),some (.pu (Jl l)),some (.pu (.int so)),some (.pu (.int r2)),some (.pu (.lst (g.map T.str))),w,v,u,s,B,C]=some (.fr,.lst ((g.take 8).map T.str)):=by
  show JA .pu (cut (g.map T.str) none (some 8))=_;rw[GJ,← List.map_take,mk]
 simp only[d8,D,Zt]
theorem Bk.up{m n:Nat}{a:List Tx}(B:Bk m a)(h:m<=n):Bk n a:=⟨ZE B.n h,B.az⟩
theorem eq0{m n:Md}(i:Int):oEq (m,.int i) (n,.int 0)=some (.fr,.bl (decide (i=0))):=by
 show (if _ then some (Md.fr,T.bl (eqT (.int i) (.int 0))) else none)=_;rw[Zs ⟨rfl,rfl⟩];rfl
theorem Dn(a:Vu):∃bk:List Tx,gO [.scr a,.int 24]=some (.fr,.lst (bk.map T.str))/\Bk 120 bk/\bk.length<=8:=by
 obtain⟨c,j⟩:=DC a;obtain⟨d,g,_,_⟩:=iU a 0 (by decide) (by decide);have ca:aZ fA (ae (aa 0) (ae (Q2 0) ai)) [some (.pu (.scr a)),some (.pu (.int 24))]=some (.fr,.int c):=aX (xs:=[(.fr,.scr a),(.fr,.int 0)]) rfl j;have e:=e2v (f:=oEq) (b:=Q2 0) (e2v (f:=oMod) (b:=Q2 2) ca rfl (bJ (by decide))) rfl (eq0 (c%2));unfold gO;by_cases p:c%2=0
 ·rw[decide_eq_true p]at e;obtain⟨bk,hb,B,h⟩:=yb (c/2);exact⟨bk,eA rfl (lD (MN e (d5 (aX (xs:=[(.fr,.int (c/2))]) (xv (e2v ca rfl (gC (by decide))) rfl) hb)))),B.up (by decide),ZE h (by decide)⟩
 rw[ZG p]at e;have o:=Yx d (b:=4) (by decide);have l:=ZA d (b:=4) (by decide);have li:=λm n=>oa (m:=m) (n:=n) T.int [24,24,24,24] (d%4) 0 o l rfl;rw[show (List.getD [24,24,24,24] (d%4).toNat 0:Int)=24 from(by decide:∀i,i<4->(List.getD [24,24,24,24] i 0:Int)=24) _ (by lia)]at li;obtain⟨bk,hb,B,h⟩:=xB a 24 (by decide) (by decide);exact⟨bk,eA rfl (sq (kb e rfl) (d5 (aX (xs:=[(.fr,.scr a),(.fr,.int 24)]) (xv rfl (xv (e2v rfl (e2v (aX (xs:=[(.fr,.scr a),(.fr,.int 0)]) rfl g) rfl (bJ (by decide))) (li _ _)) rfl)) hb))),B.up (by decide),h⟩
noncomputable abbrev Pl:=Nat×Nat
noncomputable def tP(p:Pl):T:=.tup [.int p.1,.int p.2]
noncomputable abbrev Fd:=List (Tx×List Pl)
noncomputable def dT(d:Fd):List (T×T):=d.map λp=>(T.str p.1,T.lst (p.2.map tP))
noncomputable def dS:Fd->Tx->Pl->Fd
 |[],w,p=>[(w,[p])]
 | (x,l) :: d,w,p=>if x=w then (x,l++[p]) :: d else (x,l) :: dS d w p
noncomputable def uf(f:T->Option (T×Val))(w:Tx)(L:List (T×T)):Option (List (T×T)):=(L.findIdx? λq=>eqT q.1 (.str w)).bind λi=>(L[i]?).bind λq=>(f q.2).map λz=>L.set i (q.1,z.1)
theorem wa{f:T->Option (T×Val)}{w:Tx}{a:T×T}{L:List (T×T)}(h:eqT a.1 (.str w)=false):uf f w (a :: L)=(uf f w L).map (a :: ·):=by
 unfold uf;rw[XX,Zp (by rw[h];simp)];cases e:L.findIdx? λq=>eqT q.1 (.str w) with
 |none=>rfl
 |some i =>
  simp only[Xs,Zt,Wg];cases e2:L[i]? with
  |none=>rfl
  |some q =>
   simp only[Zt];cases f q.2 with
   |none=>rfl
   |some z=>rfl
theorem tN{f:T->Option (T×Val)}{w:Tx}{a:T×T}{L:List (T×T)}(h:eqT a.1 (.str w)=true):uf f w (a :: L)=(f a.2).map λz=>(a.1,z.1) :: L:=by
 unfold uf;rw[XX,Zs h];rfl
theorem sO{k:T}{a:T×T}{L:List (T×T)}(h:eqT a.1 k=false):dj (a :: L) k=a :: dj L k:=by
 unfold dj df;rw[Yy,h];dsimp only;by_cases q:(Option.map (λx=>x.2) (L.find? λp=>eqT p.1 k)).isSome=true
 ·rw[Zs q,Zs q]
 ·rw[Zp q,Zp q];rfl
theorem t8{k:T}{a:T×T}{L:List (T×T)}(h:eqT a.1 k=true):dj (a :: L) k=a :: L:=by
 unfold dj df;rw[Yy,h];rfl
theorem mq(d:Fd)(w:Tx)(p:Pl)(b:∀q∈d,q.2.length<16777216):uf (λx=>aI x [(.fr,tP p)]) w (dj (dT d) (.str w))=some (dT (dS d w p)):=by
 induction d with
 |nil =>
  have:dj (dT []) (.str w)=[(.str w,.lst [])]:=rfl;rw[this,tN (by simp),dn (by decide)];rfl
 |cons a d f =>
  obtain⟨x,l⟩:=a;by_cases e:x=w
  ·subst e;have h:eqT (T.str x) (.str x)=true:=by simp
   rw[show dT ((x,l) :: d)=(T.str x,T.lst (l.map tP)) :: dT d from rfl,t8 h,tN h,dn (by rw[Zx];exact b (x,l) Zw)];simp[dS,dT]
  ·have h:eqT (T.str x) (.str w)=false:=by simpa using e
   rw[show dT ((x,l) :: d)=(T.str x,T.lst (l.map tP)) :: dT d from rfl,sO h,wa h,f λq g=>b q (Zv _ g)];simp[dS,dT,e]
theorem wA{i:Nat}{f:Ex}{b:Ex}{U:Env}{d:Fd}{w:Tx}{p:Pl}{m:Md}(h:U[i]?=some (some (.ow (.dct 0 (dT d)))))(o:f U=some (m,.str w))(g:∀c,b (U.set i c)=some (.fr,tP p))(n:∀q∈d,q.2.length<16777216)(r:d.length<16777216) :
  lj i f (ae b ai) U=some (.nx (U.set i (some (.ow (.dct 0 (dT (dS d w p))))))):=by
 unfold lj;simp only[h];rw[o,Zt,Zs ⟨rfl,by rw[dT,Zx];exact r⟩];have e:ae b ai (U.set i (some (.ow (.dct 0 (dj (dT d) (.str w))))))=some [(.fr,tP p)]:=by simp[g]
 rw[e,Zt];have a:=mq d w p n;unfold uf at a;obtain⟨j,u,a⟩:=Zz.mp a;obtain⟨q,t,a⟩:=Zz.mp a;obtain⟨z,s,a⟩:=Zu.mp a;have l:pm (λx=>aI x [(.fr,tP p)]) [.at (.str w)] (.dct 0 (dj (dT d) (.str w)))=some (.dct 0 (dT (dS d w p)),z.2):=by
  show (if g7 (.str w) then _ else none)=_;rw[Zs (show g7 (.str w)=true from rfl),u,Zt,t,Zt];show (aI q.2 [(.fr,tP p)]).map _=_;rw[show aI q.2 [(.fr,tP p)]=some z from s,Xs,a]
 rw[l];rfl
noncomputable def Sz(N:Nat)(d:Fd):Prop:=d.length<=N/\∀q∈d,q.2.length<=N
theorem xq(d:Fd)(w:Tx)(p:Pl):(dS d w p).length<=d.length+1:=by
 induction d with
 |nil=>simp[dS]
 |cons a d b =>
  obtain⟨x,l⟩:=a;unfold dS;split
  ·simp
  ·simp only[Zk];exact Y8 b
theorem xu(d:Fd)(w:Tx)(p:Pl)(N:Nat)(h:∀q∈d,q.2.length<=N):∀q∈dS d w p,q.2.length<=N+1:=by
 induction d with
 |nil=>intro q b;simp[dS]at b;rw[b];simp
 |cons a d f =>
  obtain⟨x,l⟩:=a;have e:=h (x,l) Zw;have f:=f λq b=>h q (Zv _ b);unfold dS;split
  ·intro q b;rcases Zj.mp b with rfl | b
   ·simp only[Zy,Zc];simp only at e;exact Y8 e
   ·have:=h q (Zv _ b);exact Nat.le_add_right_of_le this
  ·intro q b;rcases Zj.mp b with rfl | b
   ·simp only at e ⊢;exact Nat.le_add_right_of_le e
   ·exact f q b
theorem Sz.add{N:Nat}{d:Fd}(h:Sz N d)(w:Tx)(p:Pl):Sz (N+1) (dS d w p):=⟨by have:=xq d w p;have:=h.1;lia,xu d w p N h.2⟩
noncomputable def adds(n:Nat)(t:Tx)(e:Nat)(a:Vv)(d:Fd):Fd:=a.foldl (λd s=>dS d ((t.drop s).take (e-s)) (n,e)) d
theorem V1(b:T)(n:Nat)(t:Tx)(e:Nat)(he:e<=t.length)(a:Vv):∀(d:Fd)(N:Nat)(z:Vs),(∀s∈a,s<=e)->Sz N d->N+a.length<16777216 →
  ∃f,forL (bg 5) dZ (a.map λ(s:Nat)=>T.int (s:Int)) [some (.pu b),some (.ow (.dct 0 (dT d))),some (.pu (.int n)),some (.pu (.str t)),some (.pu (.int e)),z] =
   some (.nx [some (.pu b),some (.ow (.dct 0 (dT (adds n t e a d)))),some (.pu (.int n)),some (.pu (.str t)),some (.pu (.int e)),f])/\Sz (N+a.length) (adds n t e a d):=by
 induction a with
 |nil=>exact λd N z _ h _=>⟨z,by simp[forL,adds],by simpa[adds] using h⟩
 |cons s a l =>
  intro d N z j h hN;rw[Zk]at hN;have g:s<=e:=j s Zw;have x:cut t (some (s:Int)) (some (e:Int))=(t.drop s).take (e-s):=by
   have:=u0 t s (e-s) (by exact ZE g he)
   rwa [show ((s:Int)+((e-s:Nat):Int))=(e:Int) by lia]at this
  obtain⟨f,v,o⟩:=l (dS d ((t.drop s).take (e-s)) (n,e)) (N+1) (some (.pu (.int s))) (λi u=>j i (Zv _ u)) (h.add _ _) (by lia);refine⟨f,?_,by rw[Zk];rw[show N+(a.length+1)=N+1+a.length by lia];exact o⟩;have bo:dZ [some (.pu b),some (.ow (.dct 0 (dT d))),some (.pu (.int n)),some (.pu (.str t)),some (.pu (.int e)),some (.pu (.int s))] =
    some (.nx [some (.pu b),some (.ow (.dct 0 (dT (dS d ((t.drop s).take (e-s)) (n,e))))),some (.pu (.int n)),some (.pu (.str t)),some (.pu (.int e)),some (.pu (.int s))]):=by
   unfold dZ;rw[wA (d:=d) (w:=(t.drop s).take (e-s)) (p:=(n,e)) (m:=.fr) rfl (by simp[x]) (λc=>by simp[zF,tP,up,G5,fK]) (λq r=>by have:=h.2 q r;lia) (by have:=h.1;lia)];simp
  rw[Zm,cQ rfl bo,v];rfl
noncomputable def iR(n:Nat)(t:Tx)(a:Vv)(d:Fd):Fd:=a.foldl (λd e=>adds n t e (List.range (e+1)) d) d
theorem V0(f:T)(n:Nat)(t:Tx)(C:t.length<=120)(a:Vv):∀(d:Fd)(N:Nat)(g b:Vs),(∀e∈a,e<=t.length)->Sz N d->N+121*a.length<16777216 →
  ∃A B,forL (bg 4) dY (a.map λ(e:Nat)=>T.int (e:Int)) [some (.pu f),some (.ow (.dct 0 (dT d))),some (.pu (.int n)),some (.pu (.str t)),g,b] =
   some (.nx [some (.pu f),some (.ow (.dct 0 (dT (iR n t a d)))),some (.pu (.int n)),some (.pu (.str t)),A,B])/\Sz (N+121*a.length) (iR n t a d):=by
 induction a with
 |nil=>exact λd N g b _ h _=>⟨g,b,by simp[forL,iR],by simpa[iR] using h⟩
 |cons e a u =>
  intro d N g b j h hN;rw[Zk]at hN;have he:e<=t.length:=j e Zw;obtain⟨o,e1,l⟩:=V1 f n t e he (List.range (e+1)) d N b (λs j=>by have:=ZD.mp j;exact YT this) h (by rw[ZO];lia);rw[ZO]at l;have y:Sz (N+121) (adds n t e (List.range (e+1)) d):=⟨by have:=l.1;lia,λq w=>by have:=l.2 q w;lia⟩
  obtain⟨r,p,z,v⟩:=u (adds n t e (List.range (e+1)) d) (N+121) (some (.pu (.int e))) o (λi x=>j i (Zv _ x)) y (by lia);refine⟨r,p,?_,by rw[Zk,show N+121*(a.length+1)=N+121+121*a.length by lia];exact v⟩;have bo:dY [some (.pu f),some (.ow (.dct 0 (dT d))),some (.pu (.int n)),some (.pu (.str t)),some (.pu (.int e)),b] =
    some (.nx [some (.pu f),some (.ow (.dct 0 (dT (adds n t e (List.range (e+1)) d)))),some (.pu (.int n)),some (.pu (.str t)),some (.pu (.int e)),o]):=by
   unfold dY;rw[pQ (pB (m:=.fr) (n:=e+1) rfl (by lia))];exact e1
  rw[Zm,cQ rfl bo,z];rfl
theorem VZ(b:T)(n:Nat)(t:Tx)(l:t.length<=120)(d:Fd)(N:Nat)(j i:Vs)(h:Sz N d)(p:N+14641<16777216):∃f g,c9 [some (.pu b),some (.ow (.dct 0 (dT d))),some (.pu (.int n)),some (.pu (.str t)),j,i] =
   some (.nx [some (.pu b),some (.ow (.dct 0 (dT (iR n t (List.range (t.length+1)) d)))),some (.pu (.int n)),some (.pu (.str t)),f,g])/\Sz (N+14641) (iR n t (List.range (t.length+1)) d):=by
 obtain⟨f,g,e,a⟩:=V0 b n t l (List.range (t.length+1)) d N j i (λe he=>by have:=ZD.mp he;exact YT this) h (by rw[ZO];lia);rw[ZO]at a;refine⟨f,g,?_,⟨by have:=a.1;lia,λq o=>by have:=a.2 q o;lia⟩⟩;unfold c9;rw[pQ (pB (m:=.fr) (n:=t.length+1) rfl (by lia))];exact e
noncomputable def jT:Nat->List Tx->Fd->Fd
 |_,[],d=>d
 |n,t :: l,d=>jT (n+1) l (iR n t (List.range (t.length+1)) d)
theorem VY(g:T)(l:List Tx):∀(n:Nat)(d:Fd)(N:Nat)(f e b a:Vs),(∀t∈l,t.length<=120)->Sz N d->N+14641*l.length<16000000 →
  ∃z A B C,forL (j8 [bg 2,bg 3]) c9 ((l.zipIdx n).map λp=>T.tup [.int p.2,.str p.1]) [some (.pu g),some (.ow (.dct 0 (dT d))),f,e,b,a] =
   some (.nx [some (.pu g),some (.ow (.dct 0 (dT (jT n l d)))),z,A,B,C])/\Sz (N+14641*l.length) (jT n l d):=by
 induction l with
 |nil=>exact λn d N f e b a _ h _=>⟨f,e,b,a,by simp[forL,jT],by simpa[jT] using h⟩
 |cons t l u =>
  intro n d N f e b a i h hN;rw[Zk]at hN;obtain⟨m,j,e1,x⟩:=VZ g n t (i t Zw) d N b a h (by lia);obtain⟨x2,r,q,o,y,v⟩:=u (n+1) (iR n t (List.range (t.length+1)) d) (N+14641) (some (.pu (.int n))) (some (.pu (.str t))) m j (λs w=>i s (Zv _ w)) x (by lia);refine⟨x2,r,q,o,?_,by rw[Zk,show N+14641*(l.length+1)=N+14641+14641*l.length by lia];exact v⟩;rw[W9,Zm,cQ (U1:=[some (.pu g),some (.ow (.dct 0 (dT d))),some (.pu (.int n)),some (.pu (.str t)),b,a]) rfl e1,y];rfl
theorem enum_zip(l:List Tx):∀n:Nat,jc n (l.map T.str)=(l.zipIdx n).map λp=>T.tup [.int p.2,.str p.1]:=by
 induction l with
 |nil=>intro n;rfl
 |cons t l a=>intro n;rw[W9,Zm,Zm,jc,a (n+1)]
noncomputable def found(a:List Tx):Fd:=jT 0 a [([],[])]
theorem xH(d:List Tx)(B:Bk 120 d)(r:d.length<=8):eZ [.lst (d.map T.str)]=some (.fr,.dct 0 (dT (found d)))/\Sz 117129 (found d):=by
 have hlen:∀t∈d,t.length<=120:=λt o=>by
  have h:t.length<=d.flatten.length:=by
   obtain⟨a,b,rfl⟩:=List.append_of_mem o;simp only[Z4,ZI,Zy];lia
  have:=B.n;exact ZE h this
 obtain⟨l,j,i,g,e,m⟩:=VY (.lst (d.map T.str)) d 0 [([],[])] 1 none none none none hlen ⟨by simp,λq f=>by rw[Za.mp f];simp⟩ (by lia);refine⟨?_,⟨by have:=m.1;unfold found;lia,λq f=>by have:=m.2 q f;lia⟩⟩;unfold eZ;refine eA rfl (U:=[some (.pu (.lst (d.map T.str))),none,l,j,i,g]) ?_;refine(show ak _ _ [some (.pu (.lst (d.map T.str))),none,none,none,none,none]=_ from ?_);rw[aS (U1:=[some (.pu (.lst (d.map T.str))),some (.ow (.dct 0 (dT [([],[])]))),none,none,none,none]) (by
  have:mZ 0 [((eC (.str [])),(il ai))] [some (.pu (.lst (d.map T.str))),none,none,none,none,none]=some (.fr,.dct 0 (dT [([],[])])):=rfl;simp[this])]
 have p:eW (j8 [bg 2,bg 3]) (qY (aa 0)) c9 [some (.pu (.lst (d.map T.str))),some (.ow (.dct 0 (dT [([],[])]))),none,none,none,none]=some (.nx [some (.pu (.lst (d.map T.str))),some (.ow (.dct 0 (dT (jT 0 d [([],[])])))),l,j,i,g]):=by
  rw[← enum_zip]at e;simp[-forL,B3];exact e
 rw[aS p];simp[found]
noncomputable def cB(d:Fd):List Tx:=d.map (·.1)
theorem ze(d:Fd)(w:Tx)(p:Pl):cB (dS d w p)=if w∈cB d then cB d else cB d++[w]:=by
 induction d with
 |nil=>simp[cB,dS]
 |cons a d b =>
  obtain⟨x,l⟩:=a;unfold dS;by_cases e:x=w
  ·rw[Zs e];subst e;simp[cB]
  ·rw[Zp e];have:cB ((x,l) :: dS d w p)=x :: cB (dS d w p):=rfl;rw[this,b];have f:¬w=x:=λz=>e z.symm;by_cases m:w∈cB d
   ·rw[Zs m,Zs (by simp only[cB,Zm,Zj];exact .inr m)];rfl
   ·rw[Zp m,Zp (by simp only[cB,Zm,Zj,not_or];exact⟨f,m⟩)];rfl
theorem AL{d:Fd}{w x:Tx}{p:Pl}:x∈cB (dS d w p)↔x∈cB d\/x=w:=by
 rw[ze];by_cases m:w∈cB d
 ·rw[Zs m];constructor
  ·exact .inl
  ·rintro (h | rfl)
   ·exact h
   ·exact m
 ·rw[Zp m];simp
theorem CC{d:Fd}(w:Tx)(p:Pl)(h:(cB d).Nodup):(cB (dS d w p)).Nodup:=by
 rw[ze];by_cases m:w∈cB d
 ·rw[Zs m];exact h
 ·rw[Zp m];exact ZK.mpr ⟨h,by simp,λa f b hb e=>m (by rw[Za]at hb;rw[← hb,← e];exact f)⟩
theorem wN{P:Fd->Prop}(g:∀d w p,P d->P (dS d w p)):∀(l:List Tx)(n:Nat)(d:Fd),P d->P (jT n l d):=by
 have j:∀(n:Nat)(t:Tx)(e:Nat)(b:Vv)(d:Fd),P d->P (adds n t e b d):=by
  intro n t e b
  induction b with
  |nil=>exact λd h=>h
  |cons s b a=>exact λd h=>a _ (g _ _ _ h)
 have i:∀(n:Nat)(t:Tx)(f:Vv)(d:Fd),P d->P (iR n t f d):=by
  intro n t f
  induction f with
  |nil=>exact λd h=>h
  |cons e f a=>exact λd h=>a _ (j n t e _ d h)
 intro l
 induction l with
 |nil=>exact λn d h=>h
 |cons t l a=>exact λn d h=>a (n+1) _ (i n t _ d h)
theorem ya(a:List Tx):(cB (found a)).Nodup:=wN (P:=λd=>(cB d).Nodup) (λd w p h=>CC w p h) a 0 _ (by simp[cB])
theorem xC(n:Nat)(t:Tx)(e:Nat)(x:Tx)(a:Vv):∀d,x∈cB (adds n t e a d)↔x∈cB d\/∃s∈a,x=(t.drop s).take (e-s):=by
 induction a with
 |nil=>intro d;simp[adds]
 |cons s a b =>
  intro d;have:=b (dS d ((t.drop s).take (e-s)) (n,e));rw[show adds n t e (s :: a) d=adds n t e a (dS d ((t.drop s).take (e-s)) (n,e)) from rfl,this,AL];simp[or_assoc]
theorem xS(n:Nat)(t:Tx)(x:Tx)(a:Vv):∀d,x∈cB (iR n t a d)↔x∈cB d\/∃e∈a,∃s∈List.range (e+1),x=(t.drop s).take (e-s):=by
 induction a with
 |nil=>intro d;simp[iR]
 |cons e a b =>
  intro d;rw[show iR n t (e :: a) d=iR n t a (adds n t e (List.range (e+1)) d) from rfl,b,xC,or_assoc];simp only[Zj,exists_eq_or_imp]
theorem sQ(x:Tx)(l:List Tx):∀n d,x∈cB (jT n l d)↔x∈cB d\/∃t∈l,∃e∈List.range (t.length+1),∃s∈List.range (e+1),x=(t.drop s).take (e-s):=by
 induction l with
 |nil=>intro n d;simp[jT]
 |cons t l a =>
  intro n d;rw[show jT n (t :: l) d=jT (n+1) l (iR n t (List.range (t.length+1)) d) from rfl,a,xS,or_assoc];simp only[Zj,exists_eq_or_imp]
theorem rV(f:List Tx)(B:Bk 120 f)(x:Tx)(h:x∈cB (found f)):Az x/\x.length<=120:=by
 unfold found at h;rw[sQ]at h;rcases h with h | ⟨t,g,e,he,s,i,rfl⟩
 ·simp[cB]at h;subst h;exact⟨λc d=>by simp at d,by simp⟩
 ·refine⟨λc d=>B.az t g c (YQ (YX d)),?_⟩;have l:=ZD.mp he;have j:t.length<=f.flatten.length:=by
   obtain⟨a,b,rfl⟩:=List.append_of_mem g;simp only[Z4,ZI,Zy];lia
  have:=B.n;rw[ZC];lia
end T17
end
section
namespace T17
open VS L2
noncomputable def look:Fd->Tx->List Pl
 |[],_=>[]
 | (x,l) :: d,w=>if x=w then l else look d w
theorem sr(d:Fd)(w:Tx)(h:w∈cB d):df (dT d) (.str w)=some (.lst ((look d w).map tP)):=by
 induction d with
 |nil=>simp[cB]at h
 |cons a d b =>
  obtain⟨x,l⟩:=a;rw[show dT ((x,l) :: d)=(T.str x,T.lst (l.map tP)) :: dT d from rfl];unfold df;by_cases e:x=w
  ·rw[Yy,show eqT (T.str x) (T.str w)=true by simp[e]];simp[look,e]
  ·rw[Yy,show eqT (T.str x) (T.str w)=false by simpa using e];have f:w∈cB d:=by
    rcases Zj.mp (show w∈x :: cB d from h) with h | h
    ·exact absurd h.symm e
    ·exact h
   rw[show look ((x,l) :: d) w=look d w by simp[look,e]];exact b f
theorem zD(d:Fd)(w x:Tx)(p:Pl):look (dS d w p) x=if x=w then look d x++[p] else look d x:=by
 induction d with
 |nil =>
  by_cases e:x=w
  ·simp[dS,look,e]
  ·have g:¬w=x:=λz=>e z.symm;simp[dS,look,e,g]
 |cons a d f =>
  obtain⟨y,l⟩:=a;unfold dS;by_cases e:y=w
  ·rw[Zs e];subst e;by_cases e2:y=x
   ·simp[look,e2]
   ·have b:¬x=y:=λz=>e2 z.symm;simp[look,e2,b]
  ·rw[Zp e];by_cases e2:y=x
   ·have b:¬x=w:=λz=>e (e2.trans z);simp[look,e2,b]
   ·rw[show look ((y,l) :: dS d w p) x=look (dS d w p) x by simp[look,e2],show look ((y,l) :: d) x=look d x by simp[look,e2],f]
theorem wU(n:Nat)(t:Tx)(e:Nat)(x:Tx)(a:Vv):∀d,look (adds n t e a d) x=look d x++(a.filter λs=>decide ((t.drop s).take (e-s)=x)).map λ_=>(n,e):=by
 induction a with
 |nil=>intro d;simp[adds]
 |cons s a b =>
  intro d;rw[show adds n t e (s :: a) d=adds n t e a (dS d ((t.drop s).take (e-s)) (n,e)) from rfl,b,zD];by_cases h:x=(t.drop s).take (e-s)
  ·rw[Zs h,Wf (by simpa using h.symm)];simp
  ·rw[Zp h,We (by simpa using λz=>h z.symm)]
theorem oz{P:Nat->Bool}{s0:Nat}:∀{l:Vv},l.Nodup->(∀s∈l,P s=true->s=s0)->l.filter P=if s0∈l/\P s0=true then [s0] else []
 |[],_,_=>by simp
 |a :: l,i,h=>by
  obtain⟨m,j⟩:=ZY.mp i;have f:=oz j λs g=>h s (Zv _ g);by_cases q:P a=true
  ·have e:=h a Zw q;subst e;rw[Wf q,f,Zp λz=>m z.1,Zs ⟨Zw,q⟩]
  ·rw[We q,f];by_cases z:s0∈l/\P s0=true
   ·rw[Zs z,Zs ⟨Zv _ z.1,z.2⟩]
   ·rw[Zp z,Zp];rintro⟨b,d⟩;rcases Zj.mp b with rfl | b
    ·exact q d
    ·exact z ⟨b,d⟩
theorem starts(t x:Tx)(e:Nat)(he:e<=t.length):((List.range (e+1)).filter λs=>decide ((t.drop s).take (e-s)=x)).map (λ_=>())=if x <:+ t.take e then [()] else []:=by
 have cut:∀s,s<=e->(t.drop s).take (e-s)=(t.take e).drop s:=λs d=>by rw[WO]
 have len:∀s,s<=e->((t.take e).drop s).length=e-s:=λs d=>by rw[Z7,ZC];lia
 rw[oz (s0:=e-x.length) Vy λs d g=>by
  have b:=ZD.mp d;have a:=of_decide_eq_true g;rw[cut s (by exact YT b)]at a;have:=len s (by exact YT b);rw[a]at this;omega]
 by_cases h:x <:+ t.take e
 ·have i:x.length<=e:=by have:=h.length_le;rw[ZC]at this;lia
  rw[Zs h,Zs]
  ·rfl
  ·refine⟨ZD.mpr (by omega),decide_eq_true ?_⟩;rw[cut _ (by exact YN _ _)];obtain⟨y,f⟩:=h;have b:(t.take e).length=e:=by rw[ZC];exact YW he
   rw[← f,Zy]at b;rw[← f,show e-x.length=y.length by lia,List.drop_left]
 ·rw[Zp h,Zp]
  ·rfl
  ·rintro⟨b,a⟩;have b:=ZD.mp b;have a:=of_decide_eq_true a;rw[cut _ (by exact YN _ _)]at a;exact h (by rw[← a];exact Vw _ _)
theorem vZ(n:Nat)(t x:Tx)(a:Vv):∀d,(∀e∈a,e<=t.length)->look (iR n t a d) x=look d x++(a.filter λe=>decide (x <:+ t.take e)).map λe=>(n,e):=by
 induction a with
 |nil=>intro d _;simp[iR]
 |cons e a b =>
  intro d h;rw[show iR n t (e :: a) d=iR n t a (adds n t e (List.range (e+1)) d) from rfl,b _ λi f=>h i (Zv _ f),wU];have st:=starts t x e (h e Zw);have:((List.range (e+1)).filter λs=>decide ((t.drop s).take (e-s)=x)).map (λ_=>(n,e))=(if x <:+ t.take e then [()] else []).map λ_=>(n,e):=by
   rw[← st,Yv];rfl
  rw[this];by_cases q:x <:+ t.take e
  ·rw[Zs q,Wf (by simpa using q)];simp
  ·rw[Zp q,We (by simpa using q)];simp
noncomputable def km:Nat->List Tx->List Pl
 |_,[]=>[]
 |n,t :: l=>(List.range (t.length+1)).map (λe=>(n,e))++km (n+1) l
theorem Bd(l:List Tx):∀n p,p∈km n l->n<=p.1:=by
 induction l with
 |nil=>intro n p h;simp[km]at h
 |cons t l a =>
  intro n p h;rcases Ze.mp h with h | h
  ·obtain⟨e,_,rfl⟩:=Yo.mp h;exact Zo _
  ·have:=a (n+1) p h;exact WA this
theorem wc(x:Tx)(l:List Tx):∀n d,look (jT n l d) x=look d x++(km n l).filter λp=>decide (x <:+ (l.getD (p.1-n) []).take p.2):=by
 induction l with
 |nil=>intro n d;simp[jT,km]
 |cons t l a =>
  intro n d;rw[show jT n (t :: l) d=jT (n+1) l (iR n t (List.range (t.length+1)) d) from rfl,a,vZ n t x _ d λe he=>by have:=ZD.mp he;exact YT this,Zd];congr 1;rw[km,List.filter_append,List.filter_map];congr 1
  ·congr 1;apply Wq;intro e _;simp
  ·apply Wq;intro p b;have:=Bd l (n+1) p b;rw[show p.1-n=(p.1-(n+1))+1 by lia,YU]
noncomputable def En(a:List Tx)(x:Tx)(p:Pl):Prop:=x <:+ (a.getD p.1 []).take p.2
noncomputable instance (bk:List Tx) (x:Tx) (p:Pl):Decidable (En bk x p):=inferInstanceAs (Decidable (_ <:+ _))
theorem j9(a:List Tx)(x:Tx):look (found a) x=(km 0 a).filter λp=>decide (En a x p):=by
 unfold found;rw[wc,show look [([],[])] x=[] by unfold look;split<;>rfl,Yg];rfl
theorem rC{bk:List Tx}{x:Tx}{p:Pl}:p∈look (found bk) x↔p∈km 0 bk/\En bk x p:=by
 rw[j9,Xq,decide_eq_true_eq]
theorem look_same{bk:List Tx}{x y:Tx}:look (found bk) x=look (found bk) y ↔ ∀p∈km 0 bk,En bk x p↔En bk y p:=by
 constructor
 ·intro h p a;have b:=rC (bk:=bk) (x:=x) (p:=p);have d:=rC (bk:=bk) (x:=y) (p:=p);rw[h]at b;exact⟨λz=>(d.mp (b.mpr ⟨a,z⟩)).2,λz=>(b.mp (d.mpr ⟨a,z⟩)).2⟩
 ·intro h;rw[j9,j9];apply Wq;intro p a;exact decide_eq_decide.mpr (h p a)
theorem kF(l:List Tx):∀n p,p∈km n l↔n<=p.1/\p.1<n+l.length/\p.2<=(l.getD (p.1-n) []).length:=by
 induction l with
 |nil=>intro n p;simp[km];lia
 |cons t l g =>
  intro n p;obtain⟨i,e⟩:=p;rw[km,Ze,g,Yo];simp only[ZD,Prod.mk.injEq,Zk];constructor
  ·rintro (⟨a,d,f,b⟩ | ⟨d,f,b⟩)
   ·subst f b;simp;exact YT d
   ·refine⟨by exact WA d,by lia,?_⟩;rw[show i-n=(i-(n+1))+1 by lia,YU];exact b
  ·rintro⟨d,f,b⟩;by_cases q:i=n
   ·subst q;simp at b;exact .inl ⟨e,by exact Nat.lt_succ_of_le b,rfl,rfl⟩
   ·rw[show i-n=(i-(n+1))+1 by lia,YU]at b;exact .inr ⟨by lia,by lia,b⟩
theorem Cw{a:List Tx}{x:Tx}:x∈cB (found a)↔x=[]\/∃p∈km 0 a,En a x p:=by
 unfold found;rw[sQ];constructor
 ·rintro (h | ⟨t,j,e,he,s,q,rfl⟩)
  ·left;simpa[cB] using h
  ·right;obtain⟨i,b,rfl⟩:=Ym j;have o:=ZD.mp he;refine⟨(i,e),(kF a 0 (i,e)).mpr ⟨ZR _,by simpa using b,?_⟩,?_⟩
   ·simp[b];exact YT o
   ·show _ <:+ (a.getD i []).take e;rw[Zr,Zq b,Y0,← WO];exact Vw _ _
 ·rintro (h | ⟨⟨i,e⟩,l,h⟩)
  ·left;rw[h];simp[cB]
  ·right;obtain⟨_,n,d⟩:=(kF a 0 (i,e)).mp l;have b:i<a.length:=by simpa using n
   have hg:a.getD i []=a[i]:=by rw[Zr,Zq b,Y0]
   have d:e<=a[i].length:=by simpa[b] using d
   have g:x <:+ a[i].take e:=by rw[← hg];exact h
   have r:x.length<=e:=by have:=g.length_le;rw[ZC]at this;lia
   refine⟨a[i],Yt b,e,ZD.mpr (by exact Nat.lt_succ_of_le d),e-x.length,ZD.mpr (by lia),?_⟩;obtain⟨y,f⟩:=g;have m:(a[i].take e).length=e:=by rw[ZC];exact YW d
   rw[← f,Zy]at m;rw[← WO,← f,show e-x.length=y.length by lia,List.drop_left]
end T17
end
section
namespace AU
section
variable{S:St}{nd:Wd->Option Nat}{wd:List Wd}{P:Wd->Prop}
theorem I.Nd(H:I none S nd wd):∀(z u:Wd){n:Nat},nd (u++z)=some n->∃m,nd u=some m:=by
 intro z
 induction z with
 |nil=>intro u n h;rw[ZQ]at h;exact⟨n,h⟩
 |cons c z a =>
  intro u n h;rw[X0]at h;obtain⟨m,b⟩:=a _ h;exact H.pre b
theorem I.ext(H:I none S nd wd):∀(z x y:Wd){n:Nat},nd x=some n->nd y=some n->nd (x++z)=nd (y++z):=by
 intro z
 induction z with
 |nil=>intro x y n d b;rw[ZQ,ZQ,d,b]
 |cons c z h =>
  intro x y n d b;rw[X0 x,X0 y];have e:nd (x++[c])=nd (y++[c]):=(H.wy d c).symm.trans (H.wy b c);cases a:nd (x++[c]) with
  |some m=>exact h _ _ a (e ▸ a)
  |none =>
   have f:∀u,nd u=none->nd (u++z)=none:=λu j=>by
    cases i:nd (u++z) with
    |none=>rfl
    |some k =>
     obtain⟨m,g⟩:=H.Nd z u i;rw[j]at g;cases g
   rw[f _ a,f _ (e ▸ a)]
theorem I.head(H:I none S nd wd){n:Nat}(g:n<wd.length){x y:Wd}(e:W wd n=x++y):∃m,m<wd.length/\W wd m=x:=by
 have f:=H.top g;have a:=f;rw[e]at a;obtain⟨m,b⟩:=H.Nd y x a;have d:=H.lt b;refine⟨m,d,?_⟩;have:=H.ext y _ _ b (H.top d);rw[a]at this;have s:=(H.sf this.symm).length_le;rw[e,Zy,Zy]at s;exact((H.sf b).eq_of_length_le (by omega)).symm
noncomputable def ends(b:List Wd):List Wd:=b.flatMap λt=>(List.range t.length).map λk=>t.drop k
theorem EC{l:Vv}(a:l.Nodup){k:Nat}(h:k<l.length):l.idxOf l[k]=k:=by
 have b:=Y6.mpr (Yt h);exact(Vx a).mp (Wx b)
end
end AU
end
section
namespace T17
open VS AU
noncomputable abbrev s1(c:Nat):T:=.str [c]
theorem sJ{α:Type}{m n:Md}(f:α->T)(l:List α)(d:α)(h:0<l.length):aA (m,.lst (l.map f)) (n,.int (-1))=some (sub m (f (l.getD (l.length-1) d))):=by
 show ((Iq (l.map f).length (-1)).bind _)=_;have:Iq (l.map f).length (-1)=some (l.length-1):=by
  unfold Iq;rw[Zx,Zp (by decide),Zs (by omega)];congr 1;omega
 rw[this,Zt,ZM,Zr,Zq (by omega)];rfl
noncomputable abbrev Hl(a:List (Nat×Nat)):List (T×T):=a.map λp=>(T.str [p.1],T.int (p.2:Int))
noncomputable abbrev KL(p:Nat×Nat):T:=.tup [.str [p.1],.int (p.2:Int)]
theorem FI(a:List (Nat×Nat)):qS (a.map KL)=some (Hl a):=by
 induction a with
 |nil=>rfl
 |cons w a b =>
  show (if g7 (T.str [w.1])/\G5 (T.int (w.2:Int)) then (qS (a.map KL)).map _ else none)=_;rw[Zs ⟨rfl,rfl⟩,b];rfl
theorem rD:∀(ws acc:List (Nat×Nat)),((acc++ws).map (·.1)).Nodup->(Hl ws).foldl (λd q=>dput d q.1 q.2) (Hl acc)=Hl (acc++ws)
 |[],acc,_=>by rw[ZQ];rfl
 |w :: ws,acc,h=>by
  have f:w.1∉acc.map (·.1):=λz=>by
   rw[Z8,Zm]at h;exact(ZK.mp h).2.2 w.1 z w.1 Zw rfl
  have e:dput (Hl acc) (T.str [w.1]) (T.int (w.2:Int))=Hl (acc++[w]):=by
   unfold dput;rw[Zp (by
    simp only[Xz,not_exists,not_and];intro p b;obtain⟨q,a,rfl⟩:=Yo.mp b;simp only[eqT,beq_iff_eq,List.cons.injEq,and_true];intro z;exact f (Yo.mpr ⟨q,a,z⟩))]
   simp[Hl]
  show (Hl ws).foldl _ (dput (Hl acc) (T.str [w.1]) (T.int (w.2:Int)))=_;rw[e,rD ws (acc++[w]) (by rw[Zd];exact h),Zd];rfl
theorem yH(w:List (Nat×Nat)):(sk w).Nodup:=by
 unfold sk;exact List.Nodup.sublist List.filter_sublist (by decide)
theorem oQ(S:St)(M:Vv)(n:Nat):(steps S M n).map (·.1)=sk (S.wy.getD n []):=by
 unfold steps;rw[Yv];exact List.map_id' _
theorem GY{m:Md}(S:St)(M:Vv)(n:Nat):l5 [(m,JS (steps S M n))]=some (.fr,.dct 0 (Hl (steps S M n))):=by
 show (qS ((steps S M n).map KL)).map _=_;rw[FI,Xs];have:=rD (steps S M n) [] (by rw[Yg,oQ];exact yH _);rw[Yg]at this;exact congrArg (λz=>some (Md.fr,T.dct 0 z)) this
theorem tm(S:St)(M:Vv)(n c:Nat)(e:97<=c/\c<=122):gW (steps S M n) c=(gW (S.wy.getD n []) c).map λm=>M.idxOf m:=by
 have key:∀l:Vv,gW (l.map λc=>(c,M.idxOf ((gW (S.wy.getD n []) c).getD 0))) c=if c∈l then some (M.idxOf ((gW (S.wy.getD n []) c).getD 0)) else none:=by
  intro l
  induction l with
  |nil=>rfl
  |cons a l b =>
   unfold gW at b ⊢;rw[Zm,Yy];by_cases h:a=c
   ·subst h;simp
   ·have:(a==c)=false:=by simpa using h
    rw[this];show (List.map _ l |>.find? _).map _=_;rw[b];simp[YF h]
 unfold steps;rw[key];cases hg:gW (S.wy.getD n []) c with
 |none =>
  rw[Zp λz=>by
   obtain⟨m,d⟩:=lN z;rw[hg]at d;cases d]
  rfl
 |some m =>
  rw[Zs (by
   unfold sk;refine Xq.mpr ⟨List.mem_range'_1.mpr (by omega),by rw[hg];rfl⟩)]
  rfl
theorem lL(S:St)(M:Vv)(n:Nat):(row S M n).2.2.2=steps S M n:=by
 unfold row;split<;>rfl
noncomputable abbrev Lb(l:Vv):T:=.lst (l.map λ(n:Nat)=>T.int (n:Int))
noncomputable abbrev ix(a:List Tx)(m:Nat):Nat:=(au a).idxOf m
noncomputable def vB(v:Nat×Nat):T:=.tup [.int (v.1:Int),.str [v.2]]
noncomputable abbrev Bm:=List (Nat×(Nat×Nat))
noncomputable def bT(m:Bm):List (T×T):=m.map λp=>(T.int (p.1:Int),vB p.2)
noncomputable def o5(m:Bm)(j:Nat)(v:Nat×Nat):Bm:=if j∈m.map (·.1) then m.map (λp=>if p.1=j then (p.1,v) else p) else m++[(j,v)]
theorem pU(a b:Nat):eqT (T.int (a:Int)) (T.int (b:Int))=decide (a=b):=by
 simp only[eqT];by_cases h:a=b
 ·simp[h]
 ·have d:¬(a:Int)=(b:Int):=by omega
  rw[ZG h];exact beq_eq_false_iff_ne.mpr d
theorem AR(m:Bm)(j:Nat)(v:Nat×Nat):dput (bT m) (.int (j:Int)) (vB v)=bT (o5 m j v):=by
 have e:(bT m).any (λp=>eqT p.1 (.int (j:Int)))=decide (j∈m.map (·.1)):=by
  induction m with
  |nil=>rfl
  |cons a m d =>
   rw[show bT (a :: m)=(T.int (a.1:Int),vB a.2) :: bT m from rfl,YH,d,pU,Zm];by_cases q:a.1=j
   ·simp[q]
   ·have b:¬j=a.1:=λz=>q z.symm;simp[q,b]
 unfold dput o5;rw[e];by_cases q:j∈m.map (·.1)
 ·rw[Zs (by simpa using q),Zs q];unfold bT;rw[Yv,Yv];apply X7;intro p _;simp only[Function.comp,pU];by_cases r:p.1=j
  ·simp[r]
  ·simp[r]
 ·rw[Zp (by simpa using q),Zp q];simp[bT]
theorem yq(m:Bm)(j:Nat)(v:Nat×Nat):(o5 m j v).length<=m.length+1:=by
 unfold o5;split<;>simp
theorem pJ(m:Bm)(j:Nat)(v:Nat×Nat)(k:Nat)(h:k∈m.map (·.1)\/k=j):k∈(o5 m j v).map (·.1):=by
 unfold o5;split
 ·rename_i q;have b:k∈m.map (·.1):=h.elim id λz=>z ▸ q;obtain⟨p,a,rfl⟩:=Yo.mp b;refine Yo.mpr ⟨_,Yo.mpr ⟨p,a,rfl⟩,?_⟩;by_cases r:p.1=j
  ·rw[Zs r]
  ·rw[Zp r]
 ·rw[Z8,Ze];exact h.imp id λz=>by simp[z]
theorem xg(m:Bm)(j:Nat)(v:Nat×Nat)(q:Nat×(Nat×Nat))(h:q∈o5 m j v):q∈m\/q=(j,v):=by
 unfold o5 at h;split at h
 ·obtain⟨p,a,rfl⟩:=Yo.mp h;by_cases r:p.1=j
  ·rw[Zs r];right;rw[r]
  ·rw[Zp r];exact .inl a
 ·rcases Ze.mp h with h | h
  ·exact .inl h
  ·exact .inr (Za.mp h)
theorem Gk(m:Bm)(i:Nat)(h:i∈m.map (·.1)):∃v,df (bT m) (.int (i:Int))=some (vB v)/\(i,v)∈m:=by
 induction m with
 |nil=>simp at h
 |cons a m d =>
  obtain⟨j,v⟩:=a;rw[show bT ((j,v) :: m)=(T.int (j:Int),vB v) :: bT m from rfl];unfold df;by_cases q:j=i
  ·subst q;exact⟨v,by rw[Yy,pU];simp,Zw⟩
  ·rw[Yy,pU,ZG q];rw[Zm,Zj]at h;obtain⟨b,f,e⟩:=d (h.resolve_left λz=>q z.symm);exact⟨b,f,Zv _ e⟩
theorem BJ{i:Nat}{k e:Ex}{U:Env}{l:List (T×T)}{kv v:T}{m n:Md}(h:U[i]?=some (some (.ow (.dct 0 l))))(he:e U=some (m,v))(a:k U=some (n,kv))(f:g7 kv=true)(d:G5 v=true)(b:l.length<16777216):mL i k e U=some (.nx (U.set i (some (.ow (.dct 0 (dput l kv v)))))):=by
 unfold mL;rw[he,Zt,h,a];exact Zs ⟨f,d,b⟩
theorem EM{c a b:Ex}{U:Env}{m:Md}{v:Val}(h:c U=some (m,.bl true))(d:a U=some v):Qt c a b U=some v:=by
 show (c U).bind _=_;rw[h];exact d
section
variable{bk:List Tx}{nd:Wd->Option Nat}{wd:List Wd}(H:K (Hd bk) (aR bk) nd wd)(hM:∀x,x∈au bk↔x<(aR bk).lg.length)(h0:(au bk).idxOf 0=0)
include hM
theorem FC{m:Nat}(a:m<(aR bk).lg.length):ix bk m<(tabOf bk).length:=by
 unfold tabOf tab;rw[Zx];exact Y6.mpr ((hM m).mpr a)
theorem l9{m:Nat}(e:m<(aR bk).lg.length){a b:Ex}{U:Env}{n:Md}(g:a U=some (.pu,Ho (tabOf bk)))(f:b U=some (n,.int (ix bk m:Int))):e2 aA a b U=some (.fr,fX (row (aR bk) (au bk) m)):=by
 refine e2v g f ?_;have d:ix bk m<(au bk).length:=Y6.mpr ((hM m).mpr e);unfold Ho tabOf tab;rw[Yv,lr (fX ∘ row (aR bk) (au bk)) (au bk) (ix bk m) 0 d,Zr,Zq d];show some (up .pu (fX (row (aR bk) (au bk) (au bk)[ix bk m])))=_;rw[show (au bk)[ix bk m]=m from Wx _];unfold up;rw[qM];rfl
include H
theorem yk{m:Nat}(a:m<wd.length):(row (aR bk) (au bk) m).2.1=(W wd m).length:=by
 unfold row;rw[← H.i.lg m a];split
 ·rename_i h;by_cases h0:m=0
  ·rw[h0,H.i.lg 0 (by omega),H.i.wz];rfl
  ·obtain⟨r,e,_⟩:=H.i.lk (Z2 h0) a (by simp);rw[h]at e;cases e
 ·rfl
include h0
theorem wk(b:Tx):∀(v p:Tx)(m:Nat)(st:Vv)(f d:Vs),nd p=some m->(nd (p++v)).isSome=true->Az v->st.length+v.length<1000000->∃o h s q,forL (bg 3) pF (v.map s1) [pc (Ho (tabOf bk)),Q1 b,oc (Lb (st++[ix bk m])),f,d]=some (.nx [pc (Ho (tabOf bk)),Q1 b,oc (Lb (o++[ix bk h])),s,q])/\o.length=st.length+v.length/\nd (p++v)=some h:=by
 intro v
 induction v with
 |nil=>exact λp m st f d j _ _ _=>⟨st,m,f,d,rfl,rfl,by rw[ZQ];exact j⟩
 |cons c v A =>
  intro p m st f d j t u D;rw[Zk]at D;have J:m<(aR bk).lg.length:=by rw[← H.i.len];exact H.i.lt j
  obtain⟨L,z⟩:=Yl.mp t;rw[X0]at z t;obtain⟨g,w⟩:=H.i.Nd v (p++[c]) z;have B:e2 aA (aa 2) (Q2 (-1)) [pc (Ho (tabOf bk)),Q1 b,oc (Lb (st++[ix bk m])),pc (s1 c),d]=some (.fr,.int (ix bk m:Int)):=by
   refine e2v (x:=(.bo,Lb (st++[ix bk m]))) (y:=(.fr,.int (-1))) rfl rfl ?_;rw[sJ (λ(n:Nat)=>T.int (n:Int)) (st++[ix bk m]) 0 (by rw[Zy];exact Nat.succ_pos _),Zy,Zc,Xv,iI];rfl
  have F:aH 4 (eN l5 (ae (e2 aA (e2 aA (aa 0) (e2 aA (aa 2) (Q2 (-1)))) (Q2 3)) ai)) [pc (Ho (tabOf bk)),Q1 b,oc (Lb (st++[ix bk m])),pc (s1 c),d]=some (.nx [pc (Ho (tabOf bk)),Q1 b,oc (Lb (st++[ix bk m])),pc (s1 c),pc (He (steps (aR bk) (au bk) m))]):=by
   refine av (m:=.fr) (iC (xv (r:=ai) (x:=(.fr,JS (steps (aR bk) (au bk) m))) (e2v (l9 hM J rfl B) (y:=(.fr,.int 3)) rfl ?_) rfl) (GY _ _ _)) (by decide) (by show 4<5;decide);rw[← lL];show some (up .fr (JS _))=_;unfold up;rw[lW];rfl
  have hg:gW (steps (aR bk) (au bk) m) c=some (ix bk g):=by rw[tm _ _ _ _ (u c Zw),H.i.wy j c,w];rfl
  have ap:=oy (i:=2) (U:=[pc (Ho (tabOf bk)),Q1 b,oc (Lb (st++[ix bk m])),pc (s1 c),pc (He (steps (aR bk) (au bk) m))]) (e:=e2 IK (aa 4) (aa 3)) (l:=(st++[ix bk m]).map λ(n:Nat)=>T.int (n:Int)) rfl (vV (m:=.pu) (n:=.fr) rfl rfl hg) (by rw[Zx,Zy];show st.length+1<16777216;omega);rw[show (st++[ix bk m]).map (λ(n:Nat)=>T.int (n:Int))++[T.int (ix bk g:Int)]=((st++[ix bk m])++[ix bk g]).map λ(n:Nat)=>T.int (n:Int) from by rw[Z8,Z8,Z8];rfl]at ap;obtain⟨o,h,s,q,e,G,E⟩:=A (p++[c]) g (st++[ix bk m]) (pc (s1 c)) (pc (He (steps (aR bk) (au bk) m))) w t (λx C=>u x (Zv _ C)) (by rw[Zy,Zc];omega);refine⟨o,h,s,q,(cQ rfl (sq F (sq (kb (m:=.fr) ?_ rfl) ap))).trans e,by rw[G,Zy,Zc,Zk];omega,by rw[X0];exact E⟩;have:=Cr (U:=[pc (Ho (tabOf bk)),Q1 b,oc (Lb (st++[ix bk m])),pc (s1 c),pc (He (steps (aR bk) (au bk) m))]) (a:=aa 4) (e:=aa 3) (m:=.pu) (n:=.fr) rfl rfl;rw[hg]at this;exact this
theorem AV{w:Tx}{m:Nat}(hw:nd w=some m)(b:Az w)(j:w.length<=1000):iP [Ho (tabOf bk),.str w]=some (.fr,.int (ix bk m:Int)):=by
 obtain⟨st,h,g,f,e,d,a⟩:=wk H hM h0 w w [] 0 [] none none H.i.z (by rw[Yg,hw];rfl) b (by show 0+_<_;omega);rw[Yg,hw]at a;cases a;have hw:qB [Ho (tabOf bk),.str w]=some (.fr,Lb (st++[ix bk m])):=eA rfl (sq (U1:=[pc (Ho (tabOf bk)),Q1 w,oc (Lb [ix bk 0]),none,none]) (by rw[show ix bk 0=0 from h0];rfl) (sq ((eX (m:=.fr) rfl rfl).trans e) rfl));refine eA rfl (sq (av (m:=.fr) (aX (xv (x:=(.pu,Ho (tabOf bk))) rfl (xv (r:=ai) (x:=(.fr,.str w)) rfl rfl)) hw) (by decide) (by show 2<3;decide)) (d5 (EM (m:=.fr) ?_ ?_)))
 ·refine e2v (x:=(.fr,.int ((w.length+1:Nat):Int))) (y:=(.fr,.int ((w.length:Int)+1))) (iC (xv (r:=ai) (x:=(.pu,Lb (st++[ix bk m]))) rfl rfl) ?_) rfl (pY rfl rfl (by simp only[eqT];exact beq_iff_eq.mpr rfl));show some (Md.fr,T.int ((((st++[ix bk m]).map λ(n:Nat)=>T.int (n:Int)).length:Nat):Int))=_;rw[Zx,Zy,d];show some (Md.fr,T.int (((0+w.length+1:Nat)):Int))=_;rw[YB]
 ·refine e2v (x:=(.pu,Lb (st++[ix bk m]))) (y:=(.fr,.int (-1))) rfl rfl ?_;rw[sJ (λ(n:Nat)=>T.int (n:Int)) (st++[ix bk m]) 0 (by rw[Zy];exact Nat.succ_pos _),Zy,Zc,Xv,iI];rfl
end
noncomputable abbrev E5(f:List Tx)(b:Bm)(e d a:Vs):Env:=[pc (Ho (tabOf f)),oc (.dct 0 (bT b)),e,d,a]
noncomputable def tZ(b:List Tx)(a:List Wd)(q:Nat×(Nat×Nat)):Prop:=∃t p,q.1=ix b t/\q.2.1=ix b p/\t<a.length/\p<a.length/\W a t=W a p++[q.2.2]
section
variable{bk:List Tx}{nd:Wd->Option Nat}{wd:List Wd}(H:K (Hd bk) (aR bk) nd wd)(hM:∀x,x∈au bk↔x<(aR bk).lg.length)(hN:(au bk).Nodup)
include H hM
theorem tJ{p c j:Nat}(d:p<wd.length)(h:(c,j)∈steps (aR bk) (au bk) p):∃t,t<wd.length/\j=ix bk t/\nd (W wd p++[c])=some t:=by
 unfold steps at h;obtain⟨g,f,e⟩:=Yo.mp h;obtain⟨rfl,rfl⟩:=XT e;obtain⟨t,b⟩:=lN f;have a:=H.i.wy (H.i.top d) g;rw[b]at a;exact⟨t,H.i.lt a.symm,by rw[b];rfl,a.symm⟩
theorem VO{p t c i:Nat}(d:p<wd.length)(a:t<wd.length)(b:Bm)(e:b.length<16777216):ff (E5 bk b (Q0 (i:Int)) (pc (fX (row (aR bk) (au bk) p))) (pc (KL (c,ix bk t))))=some (.nx (E5 bk (if (W wd t).length=(W wd p).length+1 then o5 b (ix bk t) (i,c) else b) (Q0 (i:Int)) (pc (fX (row (aR bk) (au bk) p))) (pc (KL (c,ix bk t))))):=by
 have lt:∀{x},x<wd.length->x<(aR bk).lg.length:=λh=>by rw[← H.i.len];exact h
 have f:aa 3 (E5 bk b (Q0 (i:Int)) (pc (fX (row (aR bk) (au bk) p))) (pc (KL (c,ix bk t))))=some (.fr,fX (row (aR bk) (au bk) p)):=by
  show some (up .pu (fX _))=_;unfold up;rw[qM];rfl
 have lg:∀{x},x<wd.length->aA (.fr,fX (row (aR bk) (au bk) x)) (.fr,.int 1)=some (.fr,.int ((W wd x).length:Int)):=λh=>by rw[← yk H hM h];rfl
 have cd:e2 oEq (e2 aA (e2 aA (aa 0) (e2 aA (aa 4) (Q2 1))) (Q2 1)) (e2 bK (e2 aA (aa 3) (Q2 1)) (Q2 1)) (E5 bk b (Q0 (i:Int)) (pc (fX (row (aR bk) (au bk) p))) (pc (KL (c,ix bk t))))=some (.fr,.bl (decide ((W wd t).length=(W wd p).length+1))):=by
  refine e2v (e2v (l9 hM (lt a) (n:=.fr) rfl rfl) (y:=(.fr,.int 1)) rfl (lg a)) (y:=(.fr,.int (((W wd p).length+1:Nat):Int))) (e2v (e2v f (y:=(.fr,.int 1)) rfl (lg d)) (y:=(.fr,.int 1)) rfl rfl) ?_;exact pY rfl rfl (pU _ _)
 by_cases q:(W wd t).length=(W wd p).length+1
 ·rw[Zs q];refine MN (cd.trans (by rw[decide_eq_true q])) ((BJ (l:=bT b) (v:=vB (i,c)) (m:=.fr) (n:=.fr) (kv:=.int (ix bk t:Int)) rfl rfl rfl rfl rfl (by rw[bT,Zx];exact e)).trans ?_);rw[AR];rfl
 ·rw[Zp q];exact kb (cd.trans (by rw[ZG q])) rfl
theorem VN{p i:Nat}(o:p<wd.length)(J:i=ix bk p):∀(ws:List (Nat×Nat))(b:Bm)(l:Vs),(∀w∈ws,w∈steps (aR bk) (au bk) p)->(∀q∈b,tZ bk wd q)->b.length+ws.length<1000000->∃d m,forL (bg 4) ff (ws.map KL) (E5 bk b (Q0 (i:Int)) (pc (fX (row (aR bk) (au bk) p))) l)=some (.nx (E5 bk d (Q0 (i:Int)) (pc (fX (row (aR bk) (au bk) p))) m))/\(∀q∈d,tZ bk wd q)/\(∀k∈b.map (·.1),k∈d.map (·.1))/\(∀c t,(c,ix bk t)∈ws->t<wd.length->nd (W wd p++[c])=some t->W wd t=W wd p++[c]->ix bk t∈d.map (·.1))/\d.length<=b.length+ws.length:=by
 intro ws
 induction ws with
 |nil=>exact λb l _ g _=>⟨b,l,rfl,g,λk h=>h,λc t h=>(λh=>nomatch h) h,Zo _⟩
 |cons w ws E =>
  intro b l hw g G;rw[Zk]at G;obtain⟨c,j⟩:=w;obtain⟨t,u,rfl,v⟩:=tJ H hM o (hw _ Zw);have bo:=VO H hM (c:=c) (i:=i) o u b (by omega);obtain⟨a,y⟩:∃a,a=if (W wd t).length=(W wd p).length+1 then o5 b (ix bk t) (i,c) else b:=⟨_,rfl⟩
  rw[← y]at bo;have e1:(∀q∈a,tZ bk wd q)/\(∀k∈b.map (·.1),k∈a.map (·.1))/\(W wd t=W wd p++[c]->ix bk t∈a.map (·.1))/\a.length<=b.length+1:=by
   rw[y];split
   ·rename_i n;refine⟨λq P=>?_,λk f=>pJ b _ _ k (.inl f),λ_=>pJ b _ _ _ (.inr rfl),yq _ _ _⟩;rcases xg b _ _ q P with z | rfl
    ·exact g q z
    ·exact⟨t,p,rfl,J,u,o,((H.i.sf v).eq_of_length (by rw[n,Zy];rfl)).symm⟩
   ·rename_i n;exact⟨g,λk f=>f,λz=>absurd (by rw[z,Zy];rfl) n,XS _⟩
  obtain⟨N,M,L,U⟩:=e1;obtain⟨d,m,e,D,s,C,S⟩:=E a (pc (KL (c,ix bk t))) (λw h=>hw w (Zv _ h)) N (by omega);refine⟨d,m,(cQ rfl bo).trans e,D,λk f=>s k (M k f),λO B F Q r x=>?_,by rw[Zk];omega⟩;rcases Zj.mp F with z | z
  ·obtain⟨A,R⟩:=XT z;subst A;rw[v]at r;cases r;exact s _ (L x)
  ·exact C O B z Q r x
include hN
theorem yo{i:Nat}(a:i<(au bk).length):ix bk (au bk)[i]=i:=EC hN a
theorem VM:∀(r:Vv)(i:Nat)(b:Bm)(j f a:Vs),(au bk).drop i=r->(∀q∈b,tZ bk wd q)->b.length+30*r.length<1000000->(∀x,x∈au bk->x<wd.length)->∃d s o n,forL (j8 [bg 2,bg 3]) ie (jc i ((r.map (row (aR bk) (au bk))).map fX)) (E5 bk b j f a)=some (.nx (E5 bk d s o n))/\(∀q∈d,tZ bk wd q)/\(∀k∈b.map (·.1),k∈d.map (·.1))/\∀p∈r,∀c t,t<wd.length->nd (W wd p++[c])=some t->W wd t=W wd p++[c]->97<=c/\c<=122->ix bk t∈d.map (·.1):=by
 intro r
 induction r with
 |nil=>exact λi b j f a _ g _ _=>⟨b,j,f,a,rfl,g,λk h=>h,λp h=>nomatch h⟩
 |cons p r S =>
  intro i b j f a hd g Y E;rw[Zk]at Y;have B:i<(au bk).length:=Wh λy=>by rw[YV y]at hd;cases hd
  rw[Y2 B]at hd;obtain⟨M,hd2⟩:=List.cons.inj hd;have G:p<wd.length:=E p (by rw[← M];exact Yt B);have hi:i=ix bk p:=by rw[← M];exact(yo H hM hN B).symm
  have U:(steps (aR bk) (au bk) p).length<=26:=by
   unfold steps sk;rw[Zx];exact ZE (Xo _ _) (by decide)
  obtain⟨b1,n,e,g1,g2,g3,g4⟩:=VN H hM G hi (steps (aR bk) (au bk) p) b a (λw h=>h) g (by omega);obtain⟨d,s,o,Vg,e',R,D,Q⟩:=S (i+1) b1 (Q0 (i:Int)) (pc (fX (row (aR bk) (au bk) p))) n hd2 g1 (by omega) E;refine⟨d,s,o,Vg,(cQ (U1:=E5 bk b (Q0 (i:Int)) (pc (fX (row (aR bk) (au bk) p))) a) rfl ((eX (m:=.fr) (l:=(steps (aR bk) (au bk) p).map KL) ?_ rfl).trans e)).trans e',R,λk Z=>D k (g2 k Z),λC Nz c t F v L J=>?_⟩
  ·have er:e2 aA (aa 3) (Q2 3) (E5 bk b (Q0 (i:Int)) (pc (fX (row (aR bk) (au bk) p))) a)=some (.fr,JS (steps (aR bk) (au bk) p)):=by
    refine e2v (x:=(.fr,fX (row (aR bk) (au bk) p))) (y:=(.fr,.int 3)) ?_ rfl ?_
    ·show some (up .pu (fX _))=_;unfold up;rw[qM];rfl
    ·rw[← lL];show some (up .fr (JS _))=_;unfold up;rw[lW];rfl
   show (e2 aA (aa 3) (Q2 3) _).bind _=_;rw[er];rfl
  ·rcases Zj.mp Nz with rfl | z
   ·refine D _ (g3 c t ?_ F v L);have A:=tm (aR bk) (au bk) C c J;rw[H.i.wy (H.i.top G) c,v]at A;unfold gW at A;obtain⟨q,N,u⟩:=Zu.mp A;have:=List.find?_some N;have X:=Wv N;obtain⟨P,O⟩:=q;cases (show P=c by simpa using this);cases (show O=ix bk t from u);exact X
   ·exact Q C z c t F v L J
theorem yR(B:wd.length<=241)(A:(au bk).length=wd.length)(u:∀t,t<wd.length->Az (W wd t)):∃b:Bm,fh [Ho (tabOf bk)]=some (.fr,.dct 0 (bT b))/\(∀q∈b,tZ bk wd q)/\∀t,0<t->t<wd.length->ix bk t∈b.map (·.1):=by
 have l:∀x,x∈au bk->x<wd.length:=λx h=>by rw[H.i.len];exact(hM x).mp h
 obtain⟨b,y,w,v,e,s,_,r⟩:=VM H hM hN (au bk) 0 [] none none none rfl (λq h=>nomatch h) (by show 0+_<_;omega) l;refine⟨b,eA rfl (sq (U1:=E5 bk [] none none none) rfl (sq ((eX (m:=.pu) rfl rfl).trans e) rfl)),s,λt o a=>?_⟩;have j:W wd t≠[]:=λz=>by
  have:=H.i.top a;rw[z,H.i.z]at this;cases this;exact absurd o (YO _)
 obtain⟨x,c,f⟩:∃x c,W wd t=x++[c]:=⟨(W wd t).dropLast,(W wd t).getLast j,(List.dropLast_concat_getLast j).symm⟩
 obtain⟨p,n,d⟩:=H.i.head a f;have g:W wd t=W wd p++[c]:=by rw[d];exact f
 exact r p ((hM p).mpr (by rw[← H.i.len];exact n)) c t a (by rw[← g];exact H.i.top a) g (u t a c (by rw[f];exact ZP _ Zw))
end
theorem nP{a b:Ex}{U:Env}{m n:Md}{i j:Int}(e:a U=some (m,.int i))(d:b U=some (n,.int j))(h:(-4611686018427387904<=i/\i<4611686018427387904)/\-4611686018427387904<=j/\j<4611686018427387904):i7 a b U=some (.fr,rng i (j-i).toNat):=by
 simp only[i7,e,d,Zt,int?];exact Zs h
theorem zW{α:Type}(l:List α)(k:Nat)(h:k<=l.length):cut l (some (k:Int)) none=l.drop k:=by
 have a:clip l.length (k:Int)=k:=by
  unfold clip;rw[Zp (by omega),Wm,YW h]
 show (l.drop (clip l.length (k:Int))).take (l.length-clip l.length (k:Int))=_;rw[a];exact Yr (by rw[Z7];exact Zo _)
theorem qE{a b:Ex}{U:Env}{m n:Md}{t:Tx}{i:Int}{k:Nat}(f:a U=some (m,.str t))(e:b U=some (n,.int i))(d:i=(k:Int))(h:k<=t.length):Lj a (some b) none U=some (.fr,.str (t.drop k)):=by
 unfold Lj vH;dsimp only;rw[f,e,d];show some (Md.fr,T.str (cut t (some (k:Int)) none))=_;rw[zW t k h]
noncomputable def sh(a:List Tx)(t:Nat):Nat:=(row (aR a) (au a) t).1
noncomputable def ws(b:List Tx)(a:List Wd)(t:Nat):List Tx:=(List.range ((W a t).length+1-sh b t)).map λi=>(W a t).drop ((W a t).length-(sh b t+i))
section
variable{bk:List Tx}{nd:Wd->Option Nat}{wd:List Wd}(H:K (Hd bk) (aR bk) nd wd)(hM:∀x,x∈au bk↔x<(aR bk).lg.length)(hN:(au bk).Nodup)(h0:(au bk).idxOf 0=0)(hl:wd.length<=241)(hm:(au bk).length=wd.length)(IG:∀t,t<wd.length->Az (W wd t)/\(W wd t).length<=120)
include H hM
theorem zQ{s t:Nat}(d:s<wd.length)(b:t<wd.length)(h:ix bk s=ix bk t):s=t:=by
 have g:∀{x},x<wd.length->(au bk)[ix bk x]?=some x:=λ{x} a=>by
  have hm:=(hM x).mpr (by rw[← H.i.len];exact a);rw[Zq (Y6.mpr hm),Wx]
 have:=g d;rw[h,g b]at this;exact(Zl this).symm
theorem pP{t:Nat}(a:t<wd.length):sh bk t<=(W wd t).length/\∀y,nd y=some t↔y <:+ W wd t/\sh bk t<=y.length:=by
 unfold sh row;by_cases h:t=0
 ·subst h;rw[H.i.N1,H.i.wz];refine⟨ZR _,λy=>⟨λz=>⟨by rw[H.i.zero z];exact Yh _,ZR _⟩,λz=>by rw[YC.mp z.1];exact H.i.z⟩⟩
 ·obtain⟨m,e,⟨f,_⟩,g,d,b⟩:=H.i.lk (Z2 h) a (by simp);rw[e];show (aR bk).lg.getD m 0+1<=_/\∀y,_↔_/\(aR bk).lg.getD m 0+1<=_;rw[H.i.lg m f];exact⟨d,λy=>⟨λz=>⟨H.i.sf z,(H.i.low (by simp) e z).1⟩,λz=>b y z.1 z.2⟩⟩
theorem jI{t:Nat}(d:t<wd.length){y:Tx}:y∈ws bk wd t↔nd y=some t:=by
 obtain⟨s1,b⟩:=pP H hM d;rw[b];unfold ws;rw[Yo];constructor
 ·rintro⟨i,e,rfl⟩;have:=ZD.mp e;exact⟨Vw _ _,by rw[Z7];omega⟩
 ·rintro⟨a,f⟩;have:=a.length_le;refine⟨y.length-sh bk t,ZD.mpr (by omega),?_⟩;rw[show sh bk t+(y.length-sh bk t)=y.length by omega];exact(List.suffix_iff_eq_drop.mp a).symm
include h0
theorem Ac{b:Bm}(G:∀q∈b,tZ bk wd q)(E:∀t,0<t->t<wd.length->ix bk t∈b.map (·.1)):∀(k t:Nat)(u:Tx)(F:Nat)(a:Vs),(W wd t).length<=k->t<wd.length->k<F->u.length+k<=1000->∃l,fE (e2 KU (aa 1) (Q2 0)) kN F [pc (Ho (tabOf bk)),Q0 (ix bk t:Int),pc (.dct 0 (bT b)),Q1 u,a]=some (.nx [pc (Ho (tabOf bk)),Q0 0,pc (.dct 0 (bT b)),Q1 (W wd t++u),l]):=by
 have cd:∀(t:Nat)(u:Tx)(a:Vs),e2 KU (aa 1) (Q2 0) [pc (Ho (tabOf bk)),Q0 (ix bk t:Int),pc (.dct 0 (bT b)),Q1 u,a]=some (.fr,.bl (!decide (ix bk t=0))):=λt u a=>e2v (x:=(.fr,.int (ix bk t:Int))) (y:=(.fr,.int ((0:Nat):Int))) rfl rfl (sS rfl rfl (pU _ _));have v:0<wd.length:=H.i.lt H.i.z;intro k
 induction k with
 |zero =>
  intro t u F a h f w _;obtain⟨F,rfl⟩:∃j,F=j+1:=⟨F-1,by omega⟩
  have r:W wd t=[]:=List.length_eq_zero_iff.mp (Nat.le_zero.mp h);have d:t=0:=by
   have:=H.i.top f;rw[r,H.i.z]at this;exact(Zl this).symm
  subst d;have c:=cd 0 u a;rw[show ix bk 0=0 from h0]at c ⊢;exact⟨a,by rw[r];exact fI c⟩
 |succ k s =>
  intro t u F a h f w M;obtain⟨F,rfl⟩:∃j,F=j+1:=⟨F-1,by omega⟩
  by_cases d:t=0
  ·subst d;have c:=cd 0 u a;rw[show ix bk 0=0 from h0]at c ⊢;exact⟨a,by rw[H.i.wz];exact fI c⟩
  ·obtain⟨⟨i,c⟩,e1,J⟩:=Gk b (ix bk t) (E t (Z2 d) f);obtain⟨L,p,D,C,B,A,g⟩:=G _ J;cases zQ H hM f B D;cases (show i=ix bk p from C);have g:W wd t=W wd p++[c]:=g;have o:=congrArg List.length g;rw[Zy,Zc]at o;obtain⟨l,e⟩:=s p ([c]++u) F (pc (vB (ix bk p,c))) (by omega) A (by omega) (by rw[Zy,Zc];omega);refine⟨l,(m9 ((cd t u a).trans (by rw[ZG λz=>d (zQ H hM f v (z.trans h0.symm))];rfl)) (sq (av (m:=.fr) (e2v (x:=(.pu,.dct 0 (bT b))) (y:=(.fr,.int (ix bk t:Int))) rfl rfl ?_) (by decide) (by show 4<5;decide)) (sq (av (m:=.fr) (uv (m:=.fr) (n:=.fr) (x:=[c]) (y:=u) rfl rfl (by show 1+_<=_;omega)) (by decide) (by show 3<5;decide)) (av (m:=.fr) (t:=.int (ix bk p:Int)) rfl (by decide) (by show 1<5;decide))))).trans (e.trans (by rw[g,Zd]))⟩;show (if true=true then (df (bT b) _).map (sub .pu) else none)=_;rw[Zs rfl,e1];rfl
include hN hl hm IG
theorem lO{t:Nat}(a:t<wd.length):eD [Ho (tabOf bk),.int (ix bk t:Int)]=some (.fr,.str (W wd t)):=by
 have j:t<(aR bk).lg.length:=by rw[← H.i.len];exact a
 obtain⟨b,e,g,f⟩:=yR H hM hN hl hm λt h=>(IG t h).1;obtain⟨l,d⟩:=Ac H hM h0 g f 120 t [] vX none (IG t a).2 a (by decide) (by decide);rw[ZQ]at d;have r1:sX (xP (aZ bL (ae (aa 0) (ae (aa 1) ai)))) [pc (Ho (tabOf bk)),Q0 (ix bk t:Int),none,none,none]=some (.nx [pc (Ho (tabOf bk)),Q0 (ix bk t:Int),none,none,none]):=by
  show (((aZ bL _ _).map _).map _)=_;rw[aX (xv (x:=(.pu,Ho (tabOf bk))) rfl (xv (r:=ai) (x:=(.fr,.int (ix bk t:Int))) rfl rfl)) (show bL [Ho (tabOf bk),.int (ix bk t:Int)]=some (.fr,.non) from Cs (by rw[Zx];exact FC hM j))];rfl
 exact eA rfl (sq r1 (sq (av (m:=.fr) (aX (xv (r:=ai) (x:=(.pu,Ho (tabOf bk))) rfl rfl) e) (by decide) (by show 2<5;decide)) (sq (U1:=[pc (Ho (tabOf bk)),Q0 (ix bk t:Int),pc (.dct 0 (bT b)),Q1 ([]),none]) rfl (sq d rfl))))
theorem Bj{t:Nat}(a:t<wd.length):kY [Ho (tabOf bk),.int (ix bk t:Int)]=some (.fr,.lst ((ws bk wd t).map .str)):=by
 have b:t<(aR bk).lg.length:=by rw[← H.i.len];exact a
 obtain⟨s1,_⟩:=pP H hM a;have f:=(IG t a).2;have d:e2 aA (e2 aA (aa 0) (aa 1)) (Q2 0) [pc (Ho (tabOf bk)),Q0 (ix bk t:Int),Q1 (W wd t)]=some (.fr,.int (sh bk t:Int)):=e2v (l9 hM b (n:=.fr) rfl rfl) (y:=(.fr,.int 0)) rfl rfl;have r1:e2 bK (e2 aA (e2 aA (aa 0) (aa 1)) (Q2 1)) (Q2 1) [pc (Ho (tabOf bk)),Q0 (ix bk t:Int),Q1 (W wd t)]=some (.fr,.int (((W wd t).length:Int)+1)):=e2v (e2v (l9 hM b (n:=.fr) rfl rfl) (y:=(.fr,.int 1)) (z:=(.fr,.int ((W wd t).length:Int))) rfl (by rw[← yk H hM a];rfl)) (y:=(.fr,.int 1)) rfl rfl;refine eA rfl (sq (av (m:=.fr) (aX (xv (x:=(.pu,Ho (tabOf bk))) rfl (xv (r:=ai) (x:=(.fr,.int (ix bk t:Int))) rfl rfl)) (lO H hM hN h0 hl hm IG a)) (by decide) (by show 2<3;decide)) (d5 ?_));unfold ws;rw[Yv];refine eu (m:=.fr) (λ(i:Nat)=>T.int ((sh bk t:Int)+(i:Int))) _ (List.range ((W wd t).length+1-sh bk t)) ?_ rfl (by rw[ZO];omega) λi e=>⟨_,rfl,?_⟩
 ·refine(nP d r1 (by omega)).trans ?_;rw[show (((W wd t).length:Int)+1-(sh bk t:Int)).toNat=(W wd t).length+1-sh bk t by omega];rfl
 ·have:=ZD.mp e;exact qE (m:=.fr) (n:=.fr) (k:=(W wd t).length-(sh bk t+i)) rfl rfl (by omega) (by omega)
theorem t4{t:Nat}(a:t<wd.length):gw [Ho (tabOf bk),.int (ix bk t:Int)]=some (.fr,.str ((W wd t).drop ((W wd t).length-sh bk t))):=by
 have b:t<(aR bk).lg.length:=by rw[← H.i.len];exact a
 obtain⟨s1,_⟩:=pP H hM a;refine eA rfl (sq (av (m:=.fr) (aX (xv (x:=(.pu,Ho (tabOf bk))) rfl (xv (r:=ai) (x:=(.fr,.int (ix bk t:Int))) rfl rfl)) (lO H hM hN h0 hl hm IG a)) (by decide) (by show 2<3;decide)) (d5 (qE (m:=.fr) (n:=.fr) (i:=((W wd t).length:Int)-(sh bk t:Int)) rfl (e2v (x:=(.fr,.int ((W wd t).length:Int))) (y:=(.fr,.int (sh bk t:Int))) rfl (e2v (l9 hM b (n:=.fr) rfl rfl) (y:=(.fr,.int 0)) rfl rfl) rfl) (by omega) (by omega))))
end
theorem iF{β:Type}{tg:Tg}{body:Sx}(g:β->T)(Inv:List β->Env->Prop)(h:∀t r U,Inv (t :: r) U->∃i a,tg (g t) U=some i/\body i=some (.nx a)/\Inv r a):∀(l:List β)(U:Env),Inv l U->∃b,forL tg body (l.map g) U=some (.nx b)/\Inv [] b
 |[],U,f=>⟨U,rfl,f⟩
 |t :: l,U,f=>by
  obtain⟨i,a,e1,e2,e⟩:=h t l U f;obtain⟨b,j,d⟩:=iF g Inv h l a e;exact⟨b,(cQ e1 e2).trans j,d⟩
theorem iz(l:List Tx):HS 60 (.lst (l.map .str))=true:=by
 show ((l.map T.str).all (HS 59))=true;rw[W4];exact Yk.mpr λ_ _=>rfl
theorem p9(l:List Pl):HS 60 (.lst (l.map tP))=true:=by
 show ((l.map tP).all (HS 59))=true;rw[W4];exact Yk.mpr λ_ _=>rfl
theorem E8{a:List Tx}{p:Tx}(h:Hd a p):p=[]\/∃q∈km 0 a,p=(a.getD q.1 []).take q.2:=by
 rcases h with rfl | ⟨t,b,h⟩
 ·exact .inl rfl
 ·obtain⟨i,d,rfl⟩:=Ym b;have hg:a.getD i []=a[i]:=by rw[Zr,Zq d];rfl
  refine .inr ⟨(i,p.length),(kF a 0 _).mpr ⟨ZR _,by show i<0+a.length;omega,by show p.length<=(a.getD (i-0) []).length;rw[Nat.sub_zero,hg];exact h.length_le⟩,?_⟩;show p=(a.getD i []).take p.length;rw[hg];exact(List.prefix_iff_eq_take.mp h)
theorem Cb{a:List Tx}{q:Pl}(h:q∈km 0 a):Hd a ((a.getD q.1 []).take q.2):=by
 obtain⟨_,b,_⟩:=(kF a 0 q).mp h;rw[YB]at b;refine .inr ⟨a.getD q.1 [],?_,List.take_prefix _ _⟩;rw[Zr,Zq b];exact Yt b
section
variable{bk:List Tx}{nd:Wd->Option Nat}{wd:List Wd}(H:K (Hd bk) (aR bk) nd wd)
include H
theorem uM(y:Tx):y∈cB (found bk)↔(nd y).isSome=true:=by
 rw[Cw,Yl,H.some];constructor
 ·rintro (rfl | ⟨p,a,h⟩)
  ·exact⟨[],H.nil,Yh _⟩
  ·exact⟨_,Cb a,h⟩
 ·rintro⟨p,a,h⟩;rcases E8 a with rfl | ⟨q,b,rfl⟩
  ·exact .inl (YC.mp h)
  ·exact .inr ⟨q,b,h⟩
theorem zV(y:Tx):(df (dT (found bk)) (.str y)).isSome=(nd y).isSome:=by
 rw[Xa,← uM H];constructor
 ·intro h;obtain⟨v,b⟩:=Yl.mp h;unfold df at b;obtain⟨q,d,_⟩:=Zu.mp b;obtain⟨a,f,rfl⟩:=Yo.mp (Wv d);have:=List.find?_some d;have e:a.1=y:=by simpa using this
  exact Yo.mpr ⟨a,f,e⟩
 ·intro h;rw[sr _ _ h];rfl
theorem BB{x y:Tx}{t:Nat}(b:nd x=some t)(a:nd y=some t):look (found bk) x=look (found bk) y:=look_same.mpr λp d=>(H.eq b a).mp rfl _ (Cb d)
end
noncomputable abbrev EI(a:List Tx)(w:List Tx)(k:Nat)(d b:Vs):Env:=[pc (.dct 0 (dT (found a))),pc (.lst (w.map .str)),pc (Ho (tabOf a)),Q0 (k:Int),d,b]
section
variable{bk:List Tx}{nd:Wd->Option Nat}{wd:List Wd}(H:K (Hd bk) (aR bk) nd wd)(hM:∀x,x∈au bk↔x<(aR bk).lg.length)(hN:(au bk).Nodup)(h0:(au bk).idxOf 0=0)(hl:wd.length<=241)(hm:(au bk).length=wd.length)(IG:∀t,t<wd.length->Az (W wd t)/\(W wd t).length<=120)
include H hM hN h0 hl hm IG
theorem GE{t:Nat}(b:t<wd.length):eJ [.dct 0 (dT (found bk)),.lst ((ws bk wd t).map .str),Ho (tabOf bk),.int (ix bk t:Int)]=some (.fr,.bl true):=by
 obtain⟨s1,_⟩:=pP H hM b;have q:=(IG t b).2;have lo:=lO H hM hN h0 hl hm IG b;have so:=t4 H hM hN h0 hl hm IG b;have p:du 1 (bg 0) (i7 (eN bY (ae (aZ gw (ae (aa 2) (ae (aa 3) ai))) ai)) (e2 bK (eN bY (ae (aa 4) ai)) (Q2 1))) none (Lj (aa 5) (some (e2 jU (eN bY (ae (aa 5) ai)) (aa 0))) none) (EI bk (ws bk wd t) (ix bk t) (Q1 (W wd t)) none)=some (.fr,.lst ((ws bk wd t).map .str)):=by
  rw[show (ws bk wd t).map T.str=(List.range ((W wd t).length+1-sh bk t)).map λi=>T.str ((W wd t).drop ((W wd t).length-(sh bk t+i))) from by unfold ws;rw[Yv];rfl];refine eu (m:=.fr) (λ(i:Nat)=>T.int ((sh bk t:Int)+(i:Int))) _ (List.range ((W wd t).length+1-sh bk t)) ?_ rfl (by rw[ZO];omega) λi o=>⟨_,rfl,?_⟩
  ·refine(nP (m:=.fr) (n:=.fr) (i:=(sh bk t:Int)) (j:=((W wd t).length:Int)+1) (iC (xv (r:=ai) (aX (xv (x:=(.pu,Ho (tabOf bk))) rfl (xv (r:=ai) (x:=(.fr,.int (ix bk t:Int))) rfl rfl)) so) rfl) ?_) rfl (by omega)).trans ?_
   ·show some (Md.fr,T.int ((((W wd t).drop ((W wd t).length-sh bk t)).length:Nat):Int))=_;rw[Z7,show (W wd t).length-((W wd t).length-sh bk t)=sh bk t by omega]
   ·rw[show (((W wd t).length:Int)+1-(sh bk t:Int)).toNat=(W wd t).length+1-sh bk t by omega];rfl
  ·have:=ZD.mp o;exact qE (m:=.fr) (n:=.fr) (k:=(W wd t).length-(sh bk t+i)) rfl rfl (by omega) (by omega)
 obtain⟨s,f1,f,rfl,_⟩:=iF (tg:=bg 5) (body:=hJ) T.str (λr U=>∃f,U=EI bk (ws bk wd t) (ix bk t) (Q1 (W wd t)) f/\∀y∈r,nd y=some t) (by
  rintro y r _ ⟨f,rfl,g⟩;have a:=g y Zw;have l:=(H.i.sf a).length_le;have key:∀{u:Tx}{e:Ex},nd u=some t->e (EI bk (ws bk wd t) (ix bk t) (Q1 (W wd t)) (Q1 y))=some (.fr,.str u)->e2 IK (aa 0) e (EI bk (ws bk wd t) (ix bk t) (Q1 (W wd t)) (Q1 y))=some (.pu,.lst ((look (found bk) y).map tP)):=λ{u e} d he=>by
   refine e2v (x:=(.pu,.dct 0 (dT (found bk)))) rfl he ?_;show (if true=true then (df (dT (found bk)) (.str u)).map (sub .pu) else none)=_;rw[Zs rfl,sr _ _ ((uM H u).mpr (by rw[d];rfl)),BB H d a];rfl
  refine⟨_,_,rfl,kb (m:=.fr) (QS (m:=.fr) (n:=.fr) (x:=false) (y:=false) ?_ (QS (m:=.fr) (n:=.fr) (x:=false) (y:=false) (e2v (key a rfl) (key (H.i.top b) rfl) (sS (r:=true) (p9 _) (p9 _) (jw 60 _ (p9 _)))) (e2v (aX (xv (x:=(.pu,Ho (tabOf bk))) rfl (xv (r:=ai) (x:=(.fr,.str y)) rfl rfl)) (AV H hM h0 a (λc h=>(IG t b).1 c ((H.i.sf a).subset h)) (by omega))) (y:=(.fr,.int (ix bk t:Int))) rfl (sS (r:=true) rfl rfl (by simp only[eqT,beq_self_eq_true]))))) rfl,_,rfl,λu d=>g u (Zv _ d)⟩;refine e2v (x:=(.fr,.str y)) (y:=(.pu,.dct 0 (dT (found bk)))) rfl rfl ?_;show some (Md.fr,T.bl (!(df (dT (found bk)) (.str y)).isSome))=_;rw[zV H,a];rfl) (ws bk wd t) (EI bk (ws bk wd t) (ix bk t) (Q1 (W wd t)) none) ⟨none,rfl,λy a=>(jI H hM b).mp a⟩
 exact eA rfl (sq (av (m:=.fr) (aX (xv (x:=(.pu,Ho (tabOf bk))) rfl (xv (r:=ai) (x:=(.fr,.int (ix bk t:Int))) rfl rfl)) lo) (by decide) (by show 4<6;decide)) (sq (U1:=EI bk (ws bk wd t) (ix bk t) (Q1 (W wd t)) none) (kb (m:=.fr) (e2v (x:=(.pu,.lst ((ws bk wd t).map .str))) rfl p (sS (r:=true) (iz _) (iz _) (jw 60 _ (iz _)))) rfl) (sq ((eX (m:=.pu) rfl rfl).trans f1) rfl)))
end
theorem Gr{m n:Md}(u:Tx)(l:List Tx):k8 (m,.str u) (n,.lst (l.map .str))=some (.fr,.bl (decide (u∈l))):=by
 show (if (flat (.str u)&&(l.map T.str).all flat)=true then some (Md.fr,T.bl ((l.map T.str).any λy=>eqT y (.str u))) else none)=_;rw[Zs (by rw[W4];exact Xh.mpr ⟨rfl,Yk.mpr λ_ _=>rfl⟩),List.any_map];congr 3;rw[Xa,Xz,decide_eq_true_iff];constructor
 ·rintro⟨x,a,h⟩;have:x=u:=by simpa using h
  rwa [← this]
 ·exact λh=>⟨u,h,by simp⟩
theorem Fz{m n:Md}(u:Tx)(l:List Tx):cE (m,.str u) (n,.lst (l.map .str))=some (.fr,.bl (!decide (u∈l))):=by
 show (match k8 (m,.str u) (n,.lst (l.map .str)) with | some (_,.bl b)=>some (Md.fr,T.bl (!b)) | _=>none)=_;rw[Gr]
noncomputable def Ke(a:List Tx)(b:List Wd):T:=.lst ((au a).map λt=>.lst ((ws a b t).map .str))
noncomputable abbrev EW(a:List Tx)(g:List Wd)(k:Nat)(f e d b:Vs):Env:=[pc (.dct 0 (dT (found a))),pc (Ke a g),pc (Ho (tabOf a)),Q0 (k:Int),f,e,d,b]
section
variable{bk:List Tx}{nd:Wd->Option Nat}{wd:List Wd}(H:K (Hd bk) (aR bk) nd wd)(hM:∀x,x∈au bk↔x<(aR bk).lg.length)(IG:∀t,t<wd.length->Az (W wd t)/\(W wd t).length<=120)
include H hM
theorem vG{t:Nat}(e:t<wd.length){a b:Ex}{U:Env}{n:Md}(g:a U=some (.pu,Ke bk wd))(f:b U=some (n,.int (ix bk t:Int))):e2 aA a b U=some (.pu,.lst ((ws bk wd t).map .str)):=by
 have d:ix bk t<(au bk).length:=Y6.mpr ((hM t).mpr (by rw[← H.i.len];exact e));refine e2v g f ?_;unfold Ke;rw[lr (λt=>T.lst ((ws bk wd t).map .str)) (au bk) (ix bk t) 0 d,Zr,Zq d];show some (sub .pu (.lst ((ws bk wd (au bk)[ix bk t]).map .str)))=_;rw[show (au bk)[ix bk t]=t from Wx _];rfl
theorem FM{t:Nat}(d:t<wd.length){a b:Ex}{U:Env}{n:Md}(f:a U=some (.pu,Ho (tabOf bk)))(e:b U=some (n,.int (ix bk t:Int))):e2 aA (e2 aA a b) (Q2 3) U=some (.fr,JS (steps (aR bk) (au bk) t)):=by
 refine e2v (l9 hM (by rw[← H.i.len];exact d) f e) (y:=(.fr,.int 3)) rfl ?_;rw[← lL];show some (up .fr (JS _))=_;unfold up;rw[lW];rfl
include IG
theorem Cv{t:Nat}(d:t<wd.length):ja [.dct 0 (dT (found bk)),Ke bk wd,Ho (tabOf bk),.int (ix bk t:Int)]=some (.fr,.bl true):=by
 have O:=(IG t d).2;obtain⟨b,C,A⟩:∃b,nd b=some t/\(ws bk wd t).getD 0 []=b/\0<(ws bk wd t).length:=by
  obtain⟨s1,_⟩:=pP H hM d;have v:0<(ws bk wd t).length:=by unfold ws;rw[Zx,ZO];omega
  refine⟨_,(jI H hM d).mp ?_,rfl,v⟩;rw[Zr,Zq v];exact Yt v
 have F:=(H.i.sf C).length_le;have inner:∀(c j:Nat)(a f:Vs),(c,j)∈steps (aR bk) (au bk) t->∃o,ip (EW bk wd (ix bk t) (pc (s1 c)) (Q0 (j:Int)) a f)=some (.nx (EW bk wd (ix bk t) (pc (s1 c)) (Q0 (j:Int)) o f)):=λc j a f M=>by
  obtain⟨w,D,rfl,L⟩:=tJ H hM d M;obtain⟨N,f1,o,rfl,_⟩:=iF (tg:=bg 6) (body:=j0) T.str (λr U=>∃a,U=EW bk wd (ix bk t) (pc (s1 c)) (Q0 (ix bk w:Int)) a f/\∀y∈r,nd y=some t) (by
   rintro y r _ ⟨a,rfl,l⟩;have q:=l y Zw;have E:=(H.i.sf q).length_le;refine⟨_,_,rfl,kb (m:=.fr) (e2v (uv (m:=.fr) (n:=.fr) (x:=y) (y:=[c]) rfl rfl (by show _+1<=_;omega)) (vG H hM D (n:=.fr) rfl rfl) ((Fz _ _).trans ?_)) rfl,_,rfl,λu G=>l u (Zv _ G)⟩;rw[decide_eq_true ((jI H hM D).mpr (by rw[← H.i.wy q c,H.i.wy (H.i.top d) c];exact L))];rfl) (ws bk wd t) (EW bk wd (ix bk t) (pc (s1 c)) (Q0 (ix bk w:Int)) a f) ⟨a,rfl,λy q=>(jI H hM d).mp q⟩
  refine⟨o,(eX (m:=.pu) ?_ rfl).trans f1⟩;show (e2 aA (aa 1) (aa 3) _).bind _=_;rw[vG H hM d (n:=.fr) rfl rfl];rfl
 obtain⟨N,f1,h,g,a,rfl,_⟩:=iF (tg:=j8 [bg 4,bg 5]) (body:=ip) KL (λr U=>∃h g a,U=EW bk wd (ix bk t) h g a none/\∀p∈r,p∈steps (aR bk) (au bk) t) (by
  rintro⟨c,j⟩ r _ ⟨h,g,a,rfl,l⟩;obtain⟨o,e⟩:=inner c j a none (l _ Zw);exact⟨EW bk wd (ix bk t) (pc (s1 c)) (Q0 (j:Int)) a none,_,rfl,e,_,_,_,rfl,λp s=>l p (Zv _ s)⟩) (steps (aR bk) (au bk) t) (EW bk wd (ix bk t) none none none none) ⟨none,none,none,rfl,λp s=>s⟩
 have B:∀h g a f,gM (e2 aA (e2 aA (aa 2) (aa 3)) (Q2 3)) (EW bk wd (ix bk t) h g a f)=some (.fr,(steps (aR bk) (au bk) t).map KL):=λh g a f=>by
  show (e2 aA (e2 aA (aa 2) (aa 3)) (Q2 3) _).bind _=_;rw[FM H hM d (n:=.fr) rfl rfl];rfl
 have J:(steps (aR bk) (au bk) t).length<=26:=by
  unfold steps sk;rw[Zx];exact ZE (Xo _ _) (by decide)
 have z:=eu (k:=2) (tg:=j8 [bg 0,bg 1]) (it:=gM (e2 aA (e2 aA (aa 2) (aa 3)) (Q2 3))) (elt:=aa 0) (m:=.fr) (U:=EW bk wd (ix bk t) h g a none) KL (λp=>s1 p.1) (steps (aR bk) (au bk) t) (B _ _ _ _) rfl (by omega) λp _=>⟨_,rfl,rfl⟩
 have keys:(steps (aR bk) (au bk) t).map (λp=>s1 p.1)=((List.range' 97 26).filter λc=>(nd (b++[c])).isSome).map s1:=by
  rw[show (steps (aR bk) (au bk) t).map (λp=>s1 p.1)=((steps (aR bk) (au bk) t).map (·.1)).map s1 from by rw[Yv];rfl,oQ];unfold sk;congr 1;refine Wq λc _=>?_;rw[H.i.wy C c]
 rw[keys]at z;refine eA rfl (sq ((eX (m:=.fr) (B none none none none) rfl).trans f1) (sq (av (m:=.fr) z (by decide) (by show 7<8;decide)) (d5 ?_)));refine e2v (x:=(.pu,.lst (((List.range' 97 26).filter λc=>(nd (b++[c])).isSome).map s1))) (y:=(.fr,.lst (((List.range' 97 26).filter λc=>(nd (b++[c])).isSome).map s1))) ?_ (qU (k:=1) (tg:=bg 0) (it:=gM (eC (.str (List.range' 97 26)))) (m:=.fr) s1 (λc=>(nd (b++[c])).isSome) s1 (List.range' 97 26) rfl rfl (by decide) λc _=>⟨_,(.fr,.bl (nd (b++[c])).isSome),rfl,?_,rfl,λ_=>rfl⟩) ?_
 ·rfl
 ·refine e2v (uv (m:=.fr) (n:=.fr) (x:=b) (y:=[c]) (e2v (vG H hM d (n:=.fr) rfl rfl) (y:=(.fr,.int ((0:Nat):Int))) rfl ?_) rfl (by show _+1<=_;omega)) (y:=(.pu,.dct 0 (dT (found bk)))) rfl ?_
  ·rw[lr T.str (ws bk wd t) 0 [] A.2,A.1];rfl
  ·show some (Md.fr,T.bl (df (dT (found bk)) (.str (b++[c]))).isSome)=_;rw[zV H]
 ·have hd:HS 60 (.lst (((List.range' 97 26).filter λc=>(nd (b++[c])).isSome).map s1))=true:=by
   show (List.map s1 _).all (HS 59)=true;rw[W4];exact Yk.mpr λ_ _=>rfl
  exact pY hd hd (jw 60 _ hd)
end
theorem Fo{d e:Nat}{b:Sx}{a:Vp}{v:Val}(f:a.length=d)(h:∃U,b (a.map (λt=>some (.pu t))++List.replicate (e-d) none)=some (.rt v U)):fn d e b a=some v:=by
 obtain⟨U,h⟩:=h;exact eA f h
theorem mJ{a b:Sx}{U U1:Env}{v:Val}(h:a U=some (.nx U1))(q:∃z,b U1=some (.rt v z)):∃z,ak a b U=some (.rt v z):=by
 obtain⟨z,q⟩:=q;exact⟨z,(aS h).trans q⟩
theorem wH{α:Type}(F:Nat->α)(l:Vv):(List.range l.length).map (λk=>F (l.getD k 0))=l.map F:=by
 refine List.ext_getElem (by rw[Zx,Zx,ZO]) λi b a=>?_;rw[List.getElem_map,List.getElem_map,List.getElem_range];rw[Zx]at a;rw[Zr,Zq a];rfl
noncomputable abbrev EU(g:Vu)(a:List Tx)(f e d b:Vs):Env:=[pc (.scr g),pc (.lst (a.map .str)),pc (.dct 0 (dT (found a))),pc (Ho (tabOf a)),f,e,d,b]
section
variable{bk:List Tx}{nd:Wd->Option Nat}{wd:List Wd}(H:K (Hd bk) (aR bk) nd wd)(hM:∀x,x∈au bk↔x<(aR bk).lg.length)(hN:(au bk).Nodup)
include H hM hN
theorem yt{t:Nat}(f:t<wd.length):(ws bk wd t).Nodup:=by
 obtain⟨s1,_⟩:=pP H hM f;unfold ws;refine List.Pairwise.map _ (λa b d e=>?_) (List.Pairwise.and_mem.mp Vy);have h:=ZD.mp d.1;have g:=ZD.mp d.2.1;have:=congrArg List.length e;rw[Z7,Z7]at this;exact d.2.2 (by omega)
theorem zo(d:∀x∈au bk,x<wd.length):((au bk).flatMap (ws bk wd)).Perm (cB (found bk)):=by
 refine(List.perm_ext_iff_of_nodup ?_ (ya bk)).mpr λy=>?_
 ·have:∀l:Vv,l.Nodup->(∀x∈l,x<wd.length)->(l.flatMap (ws bk wd)).Nodup:=by
   intro l
   induction l with
   |nil=>exact λ_ _=>YG
   |cons t l m =>
    intro h d;obtain⟨p,o⟩:=ZY.mp h;rw[List.flatMap_cons];refine ZK.mpr ⟨yt H hM hN (d t Zw),m o λx q=>d x (Zv _ q),λa n b hb e=>?_⟩;subst e;obtain⟨j,g,hb⟩:=List.mem_flatMap.mp hb;have:=(jI H hM (d t Zw)).mp n;rw[(jI H hM (d j (Zv _ g))).mp hb]at this;cases this;exact p g
  exact this _ hN d
 ·rw[uM H,Yl,List.mem_flatMap];constructor
  ·rintro⟨t,f,h⟩;exact⟨t,(jI H hM (d t f)).mp h⟩
  ·rintro⟨t,h⟩;have f:=H.i.lt h;exact⟨t,(hM t).mpr (by rw[← H.i.len];exact f),(jI H hM f).mpr h⟩
end
theorem yQ(e:Vu):xx [.scr e]=some (.fr,.bl true):=by
 obtain⟨bk,e1,B,O⟩:=Dn e;have L:L6 bk:=⟨O,by unfold fi;rw[← List.length_flatten];exact B.n,B.az⟩
 obtain⟨II,_⟩:=xH bk B O;obtain⟨_,nd,d,H,G,_,j,F,N,hN⟩:=L.k;have p:∀x∈au bk,x<d.length:=λx h=>by rw[H.i.len];exact(j x).mp h
 have w:∀t,t<d.length->Az (W d t)/\(W d t).length<=120:=λt z=>rV bk B _ ((uM H _).mpr (by rw[H.i.top z];rfl));have A:(tabOf bk).length=(au bk).length:=by unfold tabOf tab;rw[Zx]
 have Dl:∀{o l f g},eN bY (ae (aa 3) ai) (EU e bk o l f g)=some (.fr,.int ((au bk).length:Int)):=λ{o l f g}=>iC (xv (r:=ai) (x:=(.pu,Ho (tabOf bk))) rfl rfl) (by
  show some (Md.fr,T.int ((((tabOf bk).map fX).length:Nat):Int))=_;rw[Zx,A])
 have P:∀{o l f g},cq (eN bY (ae (aa 3) ai)) (EU e bk o l f g)=some (.fr,(List.range (au bk).length).map λ(k:Nat)=>T.int (k:Int)):=λ{o l f g}=>by rw[kz Dl (by omega),Wm,oC]
 have at_:∀k,k<(au bk).length->(au bk).getD k 0<d.length/\ix bk ((au bk).getD k 0)=k:=λk q=>by
  rw[Zr,Zq q];exact⟨p _ (Yt q),yo H j hN q⟩
 have c4:du 1 (bg 0) (cq (eN bY (ae (aa 3) ai))) none (aZ kY (ae (aa 4) (ae (aa 0) ai))) (EU e bk none none none none)=some (.fr,Ke bk d):=by
  unfold Ke;rw[← wH];refine eu (m:=.fr) (λ(k:Nat)=>T.int (k:Int)) _ (List.range (au bk).length) P rfl (by rw[ZO];omega) λk q=>⟨_,rfl,?_⟩
  obtain⟨s,v⟩:=at_ k (ZD.mp q)
  have:=Bj H j hN N G F w s;rw[v]at this;exact aX (xv (x:=(.pu,Ho (tabOf bk))) rfl (xv (r:=ai) (x:=(.fr,.int (k:Int))) rfl rfl)) this
 have wl:∀t,t<d.length->(ws bk d t).length<=121:=λt z=>by
  unfold ws;rw[Zx,ZO];have:=(w t z).2;omega
 obtain⟨U',f1,acc,f,rfl,J,_⟩:=iF (tg:=bg 6) (body:=rX) (λt=>T.lst ((ws bk d t).map .str)) (λr U=>∃(acc:List Tx)(f:Vs),U=EU e bk (pc (Ke bk d)) (pc (.lst (acc.map .str))) f none/\acc++r.flatMap (ws bk d)=(au bk).flatMap (ws bk d)/\(∀t∈r,t<d.length)/\acc.length+121*r.length<=30000) (by
  rintro t r _ ⟨acc,f,rfl,h1,M,Z⟩;rw[Zk]at Z;have:=wl t (M t Zw);refine⟨EU e bk (pc (Ke bk d)) (pc (.lst (acc.map .str))) (pc (.lst ((ws bk d t).map .str))) none,_,rfl,av (m:=.fr) (t:=.lst ((acc++ws bk d t).map .str)) (e2v (x:=(.pu,.lst (acc.map .str))) (y:=(.pu,.lst ((ws bk d t).map .str))) rfl rfl ?_) (by decide) (by show 5<8;decide),acc++ws bk d t,_,rfl,by rw[← h1,List.flatMap_cons,Zd],λx p=>M x (Zv _ p),by rw[Zy];omega⟩;show JA _ (acc.map T.str++(ws bk d t).map T.str)=_;rw[← Z8,qz (by rw[Zx,Zy];omega),Zs (lh T.str (λ_=>rfl) _)]) (au bk) (EU e bk (pc (Ke bk d)) (pc (.lst (([]:List Tx).map .str))) none none) ⟨[],none,rfl,rfl,p,by show 0+_<=_;omega⟩
 rw[List.flatMap_nil,ZQ]at J;subst J;have VG:cP ((au bk).flatMap (ws bk d))=cP (cB (found bk)):=lS ((hV _).trans (zo H j hN p)) (mf _);have VI:eN kj (ae (aa 5) ai) (EU e bk (pc (Ke bk d)) (pc (.lst (((au bk).flatMap (ws bk d)).map .str))) f none)=some (.fr,.lst ((cP ((au bk).flatMap (ws bk d))).map .str)):=iC (xv (r:=ai) (x:=(.pu,.lst (((au bk).flatMap (ws bk d)).map .str))) rfl rfl) (by
  have:=strs_map id ((au bk).flatMap (ws bk d));rw[WQ]at this;show (strs? (((au bk).flatMap (ws bk d)).map T.str)).map _=_;rw[show ((au bk).flatMap (ws bk d)).map T.str=((au bk).flatMap (ws bk d)).map (λx=>T.str (id x)) from rfl,this];rfl)
 have VH:eN kj (ae (aa 2) ai) (EU e bk (pc (Ke bk d)) (pc (.lst (((au bk).flatMap (ws bk d)).map .str))) f none)=some (.fr,.lst ((cP (cB (found bk))).map .str)):=iC (xv (r:=ai) (x:=(.pu,.dct 0 (dT (found bk)))) rfl rfl) (by
  have:=strs_map id (cB (found bk));rw[WQ]at this;show (strs? ((dT (found bk)).map (·.1))).bind _=_;rw[show (dT (found bk)).map (·.1)=(cB (found bk)).map (λx=>T.str (id x)) from by unfold dT cB;rw[Yv,Yv];rfl,this,Zt];refine Zs (Yk.mpr λy S=>?_);obtain⟨Q,y2⟩:=rV bk B y S;unfold Ov;rw[ZS];refine⟨decide_eq_true (by show y.length<=16777216;omega),Yk.mpr λc Y=>decide_eq_true ?_⟩;have:=(Q c Y).2;omega)
 obtain⟨U2,f2,g,rfl,_⟩:=iF (tg:=bg 7) (body:=rJ) (λ(k:Nat)=>T.int (k:Int)) (λr U=>∃g,U=EU e bk (pc (Ke bk d)) (pc (.lst (((au bk).flatMap (ws bk d)).map .str))) f g/\∀k∈r,k<(au bk).length) (by
  rintro k r _ ⟨g,rfl,E⟩;obtain⟨s,v⟩:=at_ k (E k Zw)
  have D:=GE H j hN N G F w s;have C:=Cv H j w s;have R:=vG H j s (U:=EU e bk (pc (Ke bk d)) (pc (.lst (((au bk).flatMap (ws bk d)).map .str))) f (Q0 (k:Int))) (a:=aa 4) (b:=aa 7) (n:=.fr) rfl (by rw[v];rfl);rw[v]at D C;exact⟨_,_,rfl,kb (m:=.fr) (QS (m:=.fr) (n:=.fr) (x:=false) (y:=false) (p8 (m:=.fr) (aX (xv (x:=(.pu,.dct 0 (dT (found bk)))) rfl (xv R (xv (x:=(.pu,Ho (tabOf bk))) rfl (xv (r:=ai) (x:=(.fr,.int (k:Int))) rfl rfl)))) D)) (p8 (m:=.fr) (aX (xv (x:=(.pu,.dct 0 (dT (found bk)))) rfl (xv (x:=(.pu,Ke bk d)) rfl (xv (x:=(.pu,Ho (tabOf bk))) rfl (xv (r:=ai) (x:=(.fr,.int (k:Int))) rfl rfl)))) C))) rfl,_,rfl,λu X=>E u (Zv _ X)⟩) (List.range (au bk).length) (EU e bk (pc (Ke bk d)) (pc (.lst (((au bk).flatMap (ws bk d)).map .str))) f none) ⟨none,rfl,λk h=>ZD.mp h⟩
 refine Fo rfl (mJ (av (m:=.fr) (aX (xv (x:=(.fr,.scr e)) rfl (xv (r:=ai) (x:=(.fr,.int 24)) rfl rfl)) e1) (by decide) (by show 1<8;decide)) (mJ (av (m:=.fr) (aX (xv (r:=ai) (x:=(.pu,.lst (bk.map .str))) rfl rfl) II) (by decide) (by show 2<8;decide)) (mJ (U1:=EU e bk none none none none) (av (m:=.fr) (AD L (m:=.fr) (iC (xv (r:=ai) (x:=(.pu,.lst (bk.map .str))) rfl rfl) ?_)) (by decide) (by show 3<8;decide)) (mJ (av (m:=.fr) c4 (by decide) (by show 4<8;decide)) (mJ (U1:=EU e bk (pc (Ke bk d)) (pc (.lst [])) none none) rfl (mJ ((eX (m:=.pu) rfl rfl).trans f1) (mJ (kb (m:=.fr) (e2v VI VH ?_) rfl) (mJ ((eX (m:=.fr) P rfl).trans f2) ⟨_,rfl⟩))))))))
 ·show JA .pu (bk.map T.str)=_;rw[qz (by rw[Zx];omega),Zs (lh T.str (λ_=>rfl) bk)]
 ·rw[VG];exact sS (r:=true) (iz _) (iz _) (jw 60 _ (iz _))
end T17
end
section
namespace T17
open PySem PySem.Spec PyProof.Rows L2 VS
theorem qv{G:Gx}{X:Cx}{x:Str}{p:Pos}(i:Nat)(a:X.N[i]?=some x:=by exact rfl)(b:JG X.env.scope x:=by exact Or.inl rfl)(c:K3 x:=by rfl)(d:K4 x:=by rfl):PV G X (.Name x p) (aa i):=bC i a b c d
theorem Q3{α:Sort _}{x:α}{b:Prop}:x=x∨b:=.inl rfl
abbrev Q4:List Str:=["_law_cell_here"]
abbrev Q5:List Str:=["_law_found", "_law_all_words", "_law_table", "_law_k"]
abbrev Q6:List Str:=["_law_found", "_law_some", "_law_table", "_law_k"]
abbrev Q7:List Str:=["_law_k", "_law_cell_here", "_law_start", "_law_step"]
abbrev Q8:List Str:=["_law_k", "_law_script", "_law_book_here", "_law_found", "_law_table", "_law_all_words", "_law_met", "_law_some", "-8"]
abbrev Q9:List Str:=["_law_script", "_law_k"]
abbrev Qa:List Str:=["_law_script", "_law_most"]
abbrev Qb:List Str:=["_law_sign", "_law_found", "_law_all_words", "_law_table", "_law_k", "-5", "_law_there", "_law_word", "_law_signs_here"]
abbrev Qc:List Str:=["_law_sign", "_law_there", "_law_found", "_law_all_words", "_law_table", "_law_k", "-6", "-7", "_law_word", "_law_signs_here"]
abbrev Qd:List Str:=["_law_size", "_law_found", "_law_some", "_law_table", "_law_k", "_law_long", "_law_word"]
abbrev Qe:List Str:=["book", "number"]
abbrev Qf:List Str:=["self", "head", "sign"]
abbrev Qg:List Str:=["self", "head", "word"]
abbrev Qh:List Str:=["self", "long", "link", "ways"]
abbrev Qi:List Str:=["self", "node", "numbers"]
abbrev Qj:List Str:=["self", "node", "sign"]
abbrev Qk:List Str:=["self", "text", "word"]
abbrev Ql:List Str:=["self"]
abbrev Qm:List Str:=["sign", "self", "node", "numbers", "link", "ways", "steps"]
abbrev Qn:List Str:=["table", "stand"]
abbrev Qo:List Str:=["table", "word"]
noncomputable def top(i:Nat):Stmt:=PySem.Challenge.pw_allparts_k17_whole_each_part_has_a_stand.main.body.getD i (.Pass ⟨0,0,0,0⟩)
structure HU(mg:X9):Prop where
 NU:mg "bool" = none
 LJ:mg "dict" = none
 IJ:mg "enumerate" = none
 Ph:mg "int" = none
 Im:mg "isinstance" = none
 G1:mg "len" = none
 NT:mg "list" = none
 M0:mg "min" = none
 G8:mg "range" = none
 Il:mg "sorted" = none
 Pg:mg "sum" = none
 Mu:mg "tuple" = none
 JF:∃t,mg "MOST_SIGNS" = some (.int 120 t)
 JE:∃t,mg "MOST_TEXTS" = some (.int 8 t)
noncomputable abbrev MH:List Str:=["  ", "longs", "links", "ways", "texts", "heads", "nodes"]
noncomputable abbrev gX(K:Xf)(C D:Addr):Gx:=LW MH K C D
theorem gJ{K:Xf}{C D:Addr}{m:Me}:jV ((LW MH K C D).at m):=AM (by decide +kernel) (by decide +kernel)
structure HF(K:Xf)(mg:X9)(C D:Addr):Prop where
 xt:IB K C
 Ly:mg "Nodes" = some (.ref C)
 Hy:bh K C "longs"
 Hz:bh K C "links"
 HD:bh K C "ways"
 Hw:bh K C "texts"
 HA:bh K C "heads"
 Hx:bh K C "nodes"
 GZ:IB K D
 Kh:mg "Machine" = some (.ref D)
 Hh:bh K D "longs"
 Hi:bh K D "links"
 Hq:bh K D "ways"
 Hf:bh K D "texts"
 Hj:bh K D "heads"
 Hg:bh K D "nodes"
theorem fO{K:Xf}{a:X9}{C D:Addr}{m:Me}(O:HF K a C D):HY ((LW MH K C D).at m) K 1 "longs" := v9 rfl O.xt O.GZ O.Hy O.Hh
theorem fQ{K:Xf}{a:X9}{C D:Addr}{m:Me}(O:HF K a C D):HY ((LW MH K C D).at m) K 2 "links" := v9 rfl O.xt O.GZ O.Hz O.Hi
theorem fg{K:Xf}{a:X9}{C D:Addr}{m:Me}(O:HF K a C D):HY ((LW MH K C D).at m) K 3 "ways" := v9 rfl O.xt O.GZ O.HD O.Hq
theorem fR{K:Xf}{a:X9}{C D:Addr}{m:Me}(O:HF K a C D):HY ((LW MH K C D).at m) K 4 "texts" := v9 rfl O.xt O.GZ O.Hw O.Hf
theorem kB{K:Xf}{a:X9}{C D:Addr}{m:Me}(O:HF K a C D):HY ((LW MH K C D).at m) K 5 "heads" := v9 rfl O.xt O.GZ O.HA O.Hj
theorem ou{K:Xf}{a:X9}{C D:Addr}{m:Me}(O:HF K a C D):HY ((LW MH K C D).at m) K 6 "nodes" := v9 rfl O.xt O.GZ O.Hx O.Hg
section
variable(P:Program)(w:World)(base:Heap){K:Xf}{mg:X9}{C D:Addr}
noncomputable abbrev fT:Stmt:=inClass (top 22) 1
theorem lE:jj Ql Ql (aj fT):=by constructor<;>first | rfl | decide +kernel
theorem da{f:Addr}{d:FuncData}(F:G2 K "begin" "Machine.begin" fT f d)(a:Meth K D "begin" f)(B:HU mg)(O:HF K mg C D) :
  MtAt P w K mg base 1 (gX K C D) 1 "begin" Ql [] bE:=mD F a O.GZ (iw (by decide +kernel) (by decide +kernel)) lE rfl rfl (λ_ _ _ _ _ _ e b=>by obtain⟨_,rfl⟩:=L2.mY b;rfl) λ_ _ _ _ _ _ _ g =>
  (af (cn (zz (dm B.G1 (ab (w_fld gJ (fR O) (qv 0)) ag)) (vC B.JE rfl rfl)) (aq qh) bI)
  (af (p5 gJ (fW 4 (fR O) (bR 0)) (ab (lM (by decide +kernel) (by decide)) ag))
  (af (p5 gJ (fW 5 (kB O) (bR 0)) (ab ah ag))
  (aq (bt (w_sub (dm B.G1 (ab (w_fld gJ (fR O) (qv 0)) ag)) ah))))))
noncomputable abbrev fD:Stmt:=inClass (top 20) 1
theorem lu:jj Qh Qh (aj fD):=by constructor<;>first | rfl | decide +kernel
theorem aT{f:Addr}{d:FuncData}(F:G2 K "new_node" "Nodes.new_node" fD f d)(a:Meth K C "new_node" f)(B:HU mg)(O:HF K mg C D) :
  MtAt P w K mg base 1 (gX K C D) 0 "new_node" Qh [false,false,true] aM:=mD F a O.xt (iw (by decide +kernel) (by decide +kernel)) lu rfl rfl (λ_ _ _ _ _ _ e b=>by obtain⟨_,_,_,_,rfl⟩:=L2.DM b;rfl) λ_ _ _ _ _ _ _ g =>
  (af (p5 gJ (fW 1 (fO O) (bR 0)) (ab (qv 1) ag))
  (af (p5 gJ (fW 2 (fQ O) (bR 0)) (ab (qv 2) ag))
  (af (BW gJ (fW 3 (fg O) (bR 0)) rfl rfl Q3 rfl rfl rfl rfl rfl rfl rfl rfl)
  (aq (bt (w_sub (dm B.G1 (ab (w_fld gJ (fO O) (qv 0)) ag)) ah))))))
noncomputable abbrev cz:Stmt:=inClass (top 20) 4
theorem bq:jj ["self", "node", "sign", "old", "long", "half"] Qj (aj cz):=by constructor<;>first | rfl | decide +kernel
theorem aY{f:Addr}{e:FuncData}(F:G2 K "node_just_behind" "Nodes.node_just_behind" cz f e)(b:Meth K C "node_just_behind" f)(B:HU mg)(O:HF K mg C D)(g:MtAt P w K mg base 1 (gX K C D) 0 "new_node" Qh [false,false,true] aM) :
  MtAt P w K mg base 2 (gX K C D) 0 "node_just_behind" Qj [false,false] aw:=mD F b O.xt (iw (by decide +kernel) (by decide +kernel)) bq rfl rfl (λ_ _ _ _ _ _ h d=>by obtain⟨_,_,_,rfl⟩:=L2.wt d;rfl) λ_ _ _ _ _ _ _ a =>
  (af (ar (qy a (aP (w_fld gJ (fg O) (qv 0)) (qv 1) (λ_ _=>rfl)) (qv 2) (λ_ _=>rfl)) bq.nd rfl Q3)
  (af (ar (w_add (aP (w_fld gJ (fO O) (qv 0)) (qv 1) (λ_ _=>rfl)) ah) bq.nd rfl Q3)
  (af (cn (pL a (aP (w_fld gJ (fO O) (qv 0)) (qv 3) (λ_ _=>rfl)) (qv 4)) (aq (dA 3 rfl (Or.inl rfl) rfl rfl)) bI)
  (af (p6 (i5 gJ g.at a (by decide) (bR 0) (ab (qv 4) (ab (aP (w_fld gJ (fQ O) (qv 0)) (qv 3) (λ_ _=>rfl)) (ab (AS B.LJ (ab (aP (w_fld gJ (fg O) (qv 0)) (qv 3) (λ_ _=>rfl)) ag) rfl rfl) ag)))) bq.nd rfl Q3 rfl Q3)
  (af (ly gJ a (fW 2 (fQ O) (bR 0)) (qv 3) (qv 5))
  (af (jK Z6 (KI.ME (lA (nA (qv 1)) (nB (pL a (w_get a (aP (w_fld gJ (fg O) (qv 0)) (qv 1) (λ_ _=>rfl)) (qv 2) rfl rfl rfl rfl) (qv 3)))))
  (af (ly gJ a (BZ a (fW 3 (fg O) (bR 0)) (qv 1) (λ_ _=>rfl) rfl) (qv 2) (qv 5))
  (aq (ar (aP (w_fld gJ (fQ O) (qv 0)) (qv 1) (λ_ _=>rfl)) bq.nd rfl Q3))))
  (aq (dA 5 rfl (Or.inl rfl) rfl rfl))))))))
noncomputable abbrev dR:Stmt:=inClass (top 20) 3
theorem cw:jj ["self", "head", "sign", "fresh", "node"] Qf (aj dR):=by constructor<;>first | rfl | decide +kernel
theorem bO{f:Addr}{g:FuncData}(F:G2 K "head_behind" "Nodes.head_behind" dR f g)(d:Meth K C "head_behind" f)(B:HU mg)(O:HF K mg C D)(h:MtAt P w K mg base 1 (gX K C D) 0 "new_node" Qh [false,false,true] aM)(b:MtAt P w K mg base 2 (gX K C D) 0 "node_just_behind" Qj [false,false] aw) :
  MtAt P w K mg base 3 (gX K C D) 0 "head_behind" Qf [false,false] bN:=mD F d O.xt (iw (by decide +kernel) (by decide +kernel)) cw rfl rfl (λ_ _ _ _ _ _ i e=>by obtain⟨_,_,_,rfl⟩:=L2.wt e;rfl) λ_ _ _ _ _ _ _ a =>
  (af (cn (B9 a (qv 2) (aP (w_fld gJ (fg O) (qv 0)) (qv 1) (λ_ _=>rfl)) (by with_unfolding_all rfl) rfl) (aq (BK (i5 gJ b.at a (by decide) (bR 0) (ab (qv 1) (ab (qv 2) ag))))) bI)
  (af (p6 (i5 gJ h.at a (by decide) (bR 0) (ab (w_add (aP (w_fld gJ (fO O) (qv 0)) (qv 1) (λ_ _=>rfl)) ah) (ab ah (ab uE ag)))) cw.nd rfl Q3 rfl Q3)
  (af (ar (qv 1) cw.nd rfl Q3)
  (af (jK Z6 (KI.ME (lA (nA (qv 4)) (nB (ot a (qv 2) (aP (w_fld gJ (fg O) (qv 0)) (qv 4) (λ_ _=>rfl)) (by with_unfolding_all rfl)))))
  (af (ly gJ a (BZ a (fW 3 (fg O) (bR 0)) (qv 4) (λ_ _=>rfl) rfl) (qv 2) (qv 3))
  (aq (ar (aP (w_fld gJ (fQ O) (qv 0)) (qv 4) (λ_ _=>rfl)) cw.nd rfl Q3))))
  (af (cn (nA (qv 4)) (aq (uW gJ a (fW 2 (fQ O) (bR 0)) (qv 3) (i5 gJ b.at a (by decide) (bR 0) (ab (qv 4) (ab (qv 2) ag))) (λ_=>rfl) rfl rfl rfl)) bI)
  (aq (dA 3 rfl (Or.inl rfl) rfl rfl)))))))
noncomputable abbrev d4:Stmt:=inClass (top 20) 2
theorem dQ:jj ["self", "head", "word", "sign"] Qg (aj d4):=by constructor<;>first | rfl | decide +kernel
theorem bW{f:Addr}{e:FuncData}(F:G2 K "head_grown" "Nodes.head_grown" d4 f e)(b:Meth K C "head_grown" f)(B:HU mg)(O:HF K mg C D)(g:MtAt P w K mg base 3 (gX K C D) 0 "head_behind" Qf [false,false] bN) :
  MtAt P w K mg base 4 (gX K C D) 0 "head_grown" Qg [false,false] aW:=mD F b O.xt (iw (by decide +kernel) (by decide +kernel)) dQ rfl rfl (λ_ _ _ _ _ _ h d=>by obtain⟨_,_,_,rfl⟩:=L2.wt d;rfl) λ_ _ _ _ _ _ _ a =>
  (af (cj Z6 rfl (dF (qv 2)) (aK 3 dQ.nd rfl Q3 Q3)
  (aq (p6 (i5 gJ g.at a (by decide) (bR 0) (ab (qv 1) (ab (qv 3) ag))) dQ.nd rfl Q3 rfl Q3)))
  (aq (dA 1 rfl (Or.inl rfl) rfl rfl)))
noncomputable abbrev j6:Stmt:=top 8
theorem sA:jj ["thing"] ["thing"] (aj j6):=by constructor<;>first | rfl | decide +kernel
theorem dz{m:Me}{f:Addr}{d:FuncData}(F:G2 K "is_whole" "is_whole" j6 f d)(a:mg "is_whole" = some (.ref f))(B:HU mg)(O:HF K mg C D) :
  FnAt P w K mg base 1 "is_whole" ["thing"] ((gX K C D).at m) gI:=eY F a sA rfl rfl (λ_ _ _ _ _ _ e b=>by obtain⟨_,rfl⟩:=L2.mY b;rfl) λ_ _ _ _ _ _ g =>
  (aq (bt (Eu (w_is .int B.Im B.Ph (qv 0)) (Da (Ea (w_is .bool B.Im B.NU (qv 0)))))))
noncomputable abbrev fB:Stmt:=top 9
theorem kR:jj Qe Qe (aj fB):=by constructor<;>first | rfl | decide +kernel
theorem cJ{m:Me}{f:Addr}{e:FuncData}(F:G2 K "refuse_no_text" "refuse_no_text" fB f e)(b:mg "refuse_no_text" = some (.ref f))(B:HU mg)(O:HF K mg C D)(g:∀m,FnAt P w K mg base 1 "is_whole" ["thing"] ((gX K C D).at m) gI) :
  FnAt P w K mg base 2 "refuse_no_text" Qe ((gX K C D).at m) bz:=eY F b kR rfl rfl (λ_ _ _ _ _ _ h d=>by obtain⟨_,_,rfl⟩:=L2.d7 d;rfl) λ_ _ _ _ _ _ a =>
  (aq (cn (KI.ME (oI (jR (ni (bw (g _) a (ab (qv 1) ag) (by decide) rfl rfl))) (qJ (jR (ju ah (qv 1) (dm B.G1 (ab (qv 0) ag)) (by with_unfolding_all rfl)))))) (aq qh) bI))
noncomputable abbrev j7:Stmt:=top 10
theorem su:jj ["book"] ["book"] (aj j7):=by constructor<;>first | rfl | decide +kernel
theorem gP{m:Me}{f:Addr}{d:FuncData}(F:G2 K "signs_in" "signs_in" j7 f d)(a:mg "signs_in" = some (.ref f))(B:HU mg)(O:HF K mg C D) :
  FnAt P w K mg base 1 "signs_in" ["book"] ((gX K C D).at m) gT:=eY F a su rfl rfl (λ_ _ _ _ _ _ e b=>by obtain⟨_,rfl⟩:=L2.mY b;rfl) λ_ _ _ _ _ _ g =>
  (aq (bt (w_sum B.Pg (ab (kQ 1 ["text", "book"] rfl (dF (qv 0)) (fF) (λ_ _ _ _ _=>(aK 0 (show List.Nodup (["text", "book"]:List Str) from by decide +kernel) rfl Q3 (Or.inr rfl))) (λ_ _ _ _ _=>(dm B.G1 (ab (qv 0) ag))) rfl rfl (by decide)) ag))))
noncomputable abbrev gR:Stmt:=inClass (top 22) 2
theorem mU:jj Qk Qk (aj gR):=by constructor<;>first | rfl | decide +kernel
theorem dy{f:Addr}{g:FuncData}(F:G2 K "grow" "Machine.grow" gR f g)(b:Meth K D "grow" f)(B:HU mg)(O:HF K mg C D)(i:MtAt P w K mg base 4 (gX K C D) 0 "head_grown" Qg [false,false] aW)(h:∀m,FnAt P w K mg base 2 "refuse_no_text" Qe ((gX K C D).at m) bz)(e:∀m,FnAt P w K mg base 1 "signs_in" ["book"] ((gX K C D).at m) gT) :
  MtAt P w K mg base 5 (gX K C D) 1 "grow" Qk [false,false] bD:=mD F b O.GZ (iw (by decide +kernel) (by decide +kernel)) mU rfl rfl (λ_ _ _ _ _ _ j d=>by obtain⟨_,_,_,rfl⟩:=L2.wt d;rfl) λ_ _ _ _ _ _ _ a =>
  (af (zS (bw (h _) a (ab (w_fld gJ (fR O) (qv 0)) (ab (qv 1) ag)) (by decide) rfl rfl) rfl)
  (af (cn (uS (w_add (bw (e _) a (ab (w_fld gJ (fR O) (qv 0)) ag) (by decide) rfl rfl) (dm B.G1 (ab (qv 2) ag))) (vC B.JF rfl rfl)) (aq qh) bI)
  (af (uW gJ a (fW 5 (kB O) (bR 0)) (qv 1) (i5 gJ i.at a (by decide) (fW 6 (ou O) (bR 0)) (ab (aP (w_fld gJ (kB O) (qv 0)) (qv 1) (λ_ _=>rfl)) (ab (qv 2) ag))) (λ_=>rfl) rfl rfl rfl)
  (aq (ly gJ a (fW 4 (fR O) (bR 0)) (qv 1) (w_add (aP (w_fld gJ (fR O) (qv 0)) (qv 1) (λ_ _=>rfl)) (qv 2)))))))
noncomputable abbrev ft:Stmt:=inClass (top 20) 0
theorem kK:jj Ql Ql (aj ft):=by constructor<;>first | rfl | decide +kernel
theorem cG{f:Addr}{e:FuncData}(F:G2 K "__init__" "Nodes.__init__" ft f e)(b:Mk K C f)(B:HU mg)(O:HF K mg C D)(g:MtAt P w K mg base 1 (gX K C D) 0 "new_node" Qh [false,false,true] aM) :
  InAt P w K mg base 2 (gX K C D) 0 0 "Nodes" Ql dG:=DL F b O.Ly kK rfl rfl (λ_ _ _ _ _ _ h d=>by obtain⟨_,rfl⟩:=L2.mY d;rfl) λ_ _ _ _ _ _ _ a =>
  (af (lI 0 1 gJ (fO O) (eV ag))
  (af (lI 0 2 gJ (fQ O) (eV ag))
  (af (lI 0 3 gJ (fg O) (eV ag))
  (aq (sM (i5 gJ g.at a (by decide) (bR 0) (ab ah (ab ui (ab uE ag)))) rfl)))))
noncomputable abbrev b9:Stmt:=inClass (top 22) 0
theorem gq:jj ["self", "book", "text"] ["self", "book"] (aj b9):=by constructor<;>first | rfl | decide +kernel
theorem bZ{f:Addr}{h:FuncData}(F:K7 K "__init__" "Machine.__init__" b9 f h)(e:Mk K D f)(B:HU mg)(O:HF K mg C D)(j:MtAt P w K mg base 1 (gX K C D) 1 "begin" Ql [] bE)(i:MtAt P w K mg base 5 (gX K C D) 1 "grow" Qk [false,false] bD)(l:InAt P w K mg base 2 (gX K C D) 0 0 "Nodes" Ql dG) :
  InAt P w K mg base 6 (gX K C D) 1 1 "Machine" ["self", "book"] ba:=Bt F e O.Kh gq rfl rfl (λ_ _ _ _ _ _ _ _ _ _ m X d b g=>by obtain⟨_,_,rfl⟩:=L2.d7 g;exact PySem.W.binds_K X rfl d b rfl rfl) λ_ _ _ _ _ _ _ a =>
  (af (lI 0 4 gJ (fR O) (eV ag))
  (af (lI 0 5 gJ (kB O) (eV ag))
  (af (lI 0 6 gJ (ou O) (AO l.at a (by decide) rfl rfl))
  (aq (cn (nA (qv 1)) (aq (cj Z6 rfl (dF (qv 1)) (aK 2 gq.nd rfl Q3 Q3)
  (aq (sM (Dg i.at a (by decide) rfl Q3 rfl rfl (zp gJ j.at a (by decide) (bR 0) rfl) (ab (qv 2) ag) rfl rfl rfl) rfl)))) bI)))))
noncomputable abbrev cK:Stmt:=inClass (top 20) 6
theorem aN:jj ["self", "numbers", "met", "done", "ways", "sign"] Ql (aj cK):=by constructor<;>first | rfl | decide +kernel
theorem bx{m:Me}{f:Addr}{e:FuncData}(F:G2 K "numbers_by_node" "Nodes.numbers_by_node" cK f e)(b:Meth K C "numbers_by_node" f)(B:HU mg)(O:HF K mg C D) :
  MpAt P w K mg base 1 ((gX K C D).at m) 0 "numbers_by_node" Ql aL:=qf F b O.xt (iw (by decide +kernel) (by decide +kernel)) aN rfl rfl (λ_ _ _ _ _ _ g d=>by obtain⟨_,rfl⟩:=L2.mY d;rfl) λ_ _ _ _ _ _ a =>
  (af (hZ Dd aN.nd rfl Q3)
  (af (hZ (eV (ab ah ag)) aN.nd rfl Q3)
  (af (ar ah aN.nd rfl Q3)
  (af (jK Z6 (hU ug zP kP (qv 3) (dm B.G1 (ab (qv 2) ag)) (ka _))
  (af (ar (aP (w_fld gJ (fg O) (qv 0)) (aP (qv 2) (qv 3) (λ_ _=>rfl)) (λ_ _=>rfl)) aN.nd rfl Q3)
  (af (cj Z6 rfl (dF (uG B.Il (ab (qv 4) ag))) (aK 5 aN.nd rfl Q3 Q3)
  (aq (cn (ot a (qy a (qv 4) (qv 5) (λ_ _=>rfl)) (qv 1) (by with_unfolding_all rfl)) (af (xo 1 a (qy a (qv 4) (qv 5) (λ_ _=>rfl)) (dm B.G1 (ab (qv 2) ag)) rfl Q3 rfl rfl (λ_=>rfl) rfl rfl rfl)
  (aq (jF 2 (ab (qy a (qv 4) (qv 5) (λ_ _=>rfl)) ag) rfl rfl Q3 rfl rfl))) bI)))
  (aq (ar (w_add (qv 3) ah) aN.nd rfl Q3)))))
  (uN 2 (aq (dA 1 rfl (Or.inl rfl) rfl rfl)))))))
noncomputable abbrev gS:Stmt:=inClass (top 20) 7
theorem d3:jj ["self", "node", "numbers", "link", "ways", "steps"] Qi (aj gS):=by constructor<;>first | rfl | decide +kernel
theorem dD{m:Me}{f:Addr}{e:FuncData}(F:G2 K "row_of" "Nodes.row_of" gS f e)(b:Meth K C "row_of" f)(B:HU mg)(O:HF K mg C D) :
  MpAt P w K mg base 1 ((gX K C D).at m) 0 "row_of" Qi b7:=qf F b O.xt (iw (by decide +kernel) (by decide +kernel)) d3 rfl rfl (λ_ _ _ _ _ _ g d=>by obtain⟨_,_,_,rfl⟩:=L2.wt d;rfl) λ_ _ _ _ _ _ a =>
  (af (ar (aP (w_fld gJ (fQ O) (qv 0)) (qv 1) (λ_ _=>rfl)) d3.nd rfl Q3)
  (af (ar (aP (w_fld gJ (fg O) (qv 0)) (qv 1) (λ_ _=>rfl)) d3.nd rfl (Or.inr rfl))
  (af (ar (BE B.Mu (ab (kQ 1 Qm rfl (dF (uG B.Il (ab (bC 4 rfl (Or.inr Q3) rfl rfl) ag))) (fF) (λ_ _ _ _ _=>(aK 0 (show List.Nodup Qm from by decide +kernel) rfl Q3 (Or.inr rfl))) (λ_ _ _ _ _=>(nL (ab (qv 0) (ab (Cc a (bC 3 rfl (Or.inr Q3) rfl rfl) (qy a (bC 5 rfl (Or.inr Q3) rfl rfl) (qv 0) (λ_ _=>rfl)) (λ_ _=>rfl) rfl) ag)))) rfl rfl (by decide)) ag)) d3.nd rfl Q3)
  (af (cn (Dw (qv 3)) (aq (bt (nL (ab ah (ab ah (ab ui (ab (qv 5) ag))))))) bI)
  (aq (bt (nL (ab (w_add (aP (w_fld gJ (fO O) (qv 0)) (qv 3) (λ_ _=>rfl)) ah) (ab (aP (w_fld gJ (fO O) (qv 0)) (qv 1) (λ_ _=>rfl)) (ab (Cc a (bC 2 rfl (Or.inr Q3) rfl rfl) (qv 3) (λ_ _=>rfl) rfl) (ab (qv 5) ag)))))))))))
noncomputable abbrev ik:Stmt:=inClass (top 20) 5
theorem jH:jj ["self", "numbers"] Ql (aj ik):=by constructor<;>first | rfl | decide +kernel
theorem dX{m:Me}{f:Addr}{e:FuncData}(F:G2 K "table" "Nodes.table" ik f e)(b:Meth K C "table" f)(B:HU mg)(O:HF K mg C D)(h:∀m,MpAt P w K mg base 1 ((gX K C D).at m) 0 "numbers_by_node" Ql aL)(g:∀m,MpAt P w K mg base 1 ((gX K C D).at m) 0 "row_of" Qi b7) :
  MpAt P w K mg base 2 ((gX K C D).at m) 0 "table" Ql dU:=qf F b O.xt (iw (by decide +kernel) (by decide +kernel)) jH rfl rfl (λ_ _ _ _ _ _ i d=>by obtain⟨_,rfl⟩:=L2.mY d;rfl) λ_ _ _ _ _ _ a =>
  (af (hZ (oO (h _) a (by decide) (bC 0 rfl (Or.inr Q3) rfl rfl) rfl) jH.nd rfl (Or.inr rfl))
  (aq (DS 1 ["node", "self", "numbers"] rfl rfl (Or.inr Q3) rfl rfl (fF) (λ_ _ _ _ _=>(aK 0 (show List.Nodup (["node", "self", "numbers"]:List Str) from by decide +kernel) rfl Q3 (Or.inr rfl))) (λ_ _ _ _ _=>(AF (g _) a (by decide) (bC 1 rfl (Or.inr Q3) rfl rfl) (ab (qv 0) (ab (bC 2 rfl (Or.inr Q3) rfl rfl) ag)) rfl rfl rfl)) rfl rfl (by decide) (λ_=>rfl))))
noncomputable abbrev fZ:Stmt:=inClass (top 22) 4
theorem mh:jj Ql Ql (aj fZ):=by constructor<;>first | rfl | decide +kernel
theorem dh{m:Me}{f:Addr}{e:FuncData}(F:G2 K "table" "Machine.table" fZ f e)(b:Meth K D "table" f)(B:HU mg)(O:HF K mg C D)(g:∀m,MpAt P w K mg base 2 ((gX K C D).at m) 0 "table" Ql dU) :
  MpAt P w K mg base 3 ((gX K C D).at m) 1 "table" Ql cp:=qf F b O.GZ (iw (by decide +kernel) (by decide +kernel)) mh rfl rfl (λ_ _ _ _ _ _ h d=>by obtain⟨_,rfl⟩:=L2.mY d;rfl) λ_ _ _ _ _ _ a =>
  (aq (bt (oO (g _) a (by decide) (w_fld gJ (ou O) (qv 0)) rfl)))
noncomputable abbrev jB:Stmt:=top 26
theorem iV:jj ["_law_cell_here", "_law_start", "_law_step"] Q4 (aj jB):=by constructor<;>first | rfl | decide +kernel
theorem cM{m:Me}{f:Addr}{d:FuncData}(F:G2 K "_law_signs" "_law_signs" jB f d)(a:mg "_law_signs" = some (.ref f))(B:HU mg)(O:HF K mg C D) :
  FnAt P w K mg base 1 "_law_signs" Q4 ((gX K C D).at m) dE:=eY F a iV rfl rfl (λ_ _ _ _ _ _ e b=>by obtain⟨_,rfl⟩:=L2.mY b;rfl) λ_ _ _ _ _ _ g =>
  (af (ar (w_mod (qv 0) ah) iV.nd rfl (Or.inr rfl))
  (af (ar (aP (eV (ab ah (ab ah (ab ah (ab ah (ab ah ag)))))) (w_mod (iO (qv 0) ah) ah) (λ_ _=>rfl)) iV.nd rfl (Or.inr rfl))
  (aq (bt (kQ 1 Q7 rfl (cT ah rfl B.G8) (fF) (λ_ _ _ _ _=>(aK 0 (show List.Nodup Q7 from by decide +kernel) rfl Q3 (Or.inr rfl))) (λ_ _ _ _ _=>(aP (lM (by decide +kernel) (by decide)) (w_mod (w_add (bC 2 rfl (Or.inr Q3) rfl rfl) (w_mul (bC 3 rfl (Or.inr Q3) rfl rfl) (qv 0))) ah) (λ_ _=>rfl))) rfl rfl (by decide))))))
noncomputable abbrev fU:Stmt:=top 27
theorem aG:jj ["_law_cell_here", "_law_signs_here", "_law_some", "_law_many", "_law_room", "_law_book_here", "_law_k", "_law_size", "_law_text", "_law_j"] Q4 (aj fU):=by constructor<;>first | rfl | decide +kernel
theorem c8{m:Me}{f:Addr}{e:FuncData}(F:G2 K "_law_by_digits" "_law_by_digits" fU f e)(b:mg "_law_by_digits" = some (.ref f))(B:HU mg)(O:HF K mg C D)(g:∀m,FnAt P w K mg base 1 "_law_signs" Q4 ((gX K C D).at m) dE) :
  FnAt P w K mg base 2 "_law_by_digits" Q4 ((gX K C D).at m) cX:=eY F b aG rfl rfl (λ_ _ _ _ _ _ h d=>by obtain⟨_,rfl⟩:=L2.mY d;rfl) λ_ _ _ _ _ _ a =>
  (af (ar (bw (g _) a (ab (qv 0) ag) (by decide) rfl rfl) aG.nd rfl Q3)
  (af (ar (aP (eV (ab ah (ab ah (ab ah (ab ah (ab ah (ab ah (ab ah (ab ah ag))))))))) (w_mod (iO (qv 0) ah) ah) (λ_ _=>rfl)) aG.nd rfl Q3)
  (af (ar (w_mod (iO (qv 0) ah) ah) aG.nd rfl Q3)
  (af (ar (iO (qv 0) ah) aG.nd rfl Q3)
  (af (ar ah aG.nd rfl Q3)
  (af (hZ (eV ag) aG.nd rfl Q3)
  (af (cj Z6 rfl (cT (qv 3) rfl B.G8) (aK 6 aG.nd rfl Q3 Q3)
  (af (ar (xK B.M0 (ab (qv 4) (ab (w_mod (qv 0) ah) ag))) aG.nd rfl Q3)
  (af (ar (iO (qv 0) ah) aG.nd rfl Q3)
  (af (ar (w_sub (qv 4) (qv 7)) aG.nd rfl Q3)
  (af (ar (lM (by decide +kernel) (by decide)) aG.nd rfl Q3)
  (af (cj Z6 rfl (cT (qv 7) rfl B.G8) (aK 9 aG.nd rfl Q3 Q3)
  (af (ar (w_add (qv 8) (aP (qv 1) (w_mod (qv 0) (qv 2)) (λ_ _=>rfl))) aG.nd rfl Q3)
  (aq (ar (iO (qv 0) (qv 2)) aG.nd rfl Q3))))
  (aq (jF 5 (ab (qv 8) ag) rfl rfl Q3 rfl rfl))))))))
  (aq (dA 5 rfl (Or.inl rfl) rfl rfl)))))))))
noncomputable abbrev jA:Stmt:=top 25
theorem dJ:jj ["_law_script", "_law_k", "_law_cell_here", "_law_number"] Q9 (aj jA):=by constructor<;>first | rfl | decide +kernel
theorem br{m:Me}{f:Addr}{d:FuncData}(F:G2 K "_law_mixed" "_law_mixed" jA f d)(a:mg "_law_mixed" = some (.ref f))(B:HU mg)(O:HF K mg C D) :
  FnAt P w K mg base 1 "_law_mixed" Q9 ((gX K C D).at m) aQ:=eY F a dJ rfl rfl (λ_ _ _ _ _ _ e b=>by obtain⟨_,_,rfl⟩:=L2.d7 b;rfl) λ_ _ _ _ _ _ g =>
  (af (ar ah dJ.nd rfl Q3)
  (af (cn (uS (dm B.G1 (ab (qv 0) ag)) ah) (aq (ar (aP (qv 0) (w_mod (qv 1) (dm B.G1 (ab (qv 0) ag))) (λ_ _=>rfl)) dJ.nd rfl Q3)) bI)
  (af (ar (w_mod (w_mul (w_add (w_add (w_mod (qv 2) ah) (w_mul ah (qv 1))) ah) ah) ah) dJ.nd rfl Q3)
  (af (ar (w_mod (w_mul (qv 3) (qv 3)) ah) dJ.nd rfl Q3)
  (af (ar (w_mod (w_mul (w_add (qv 3) (qv 1)) ah) ah) dJ.nd rfl Q3)
  (aq (bt (iO (w_mod (w_mul (qv 3) (qv 3)) ah) ah))))))))
noncomputable abbrev gg:Stmt:=top 28
theorem aF:jj ["_law_script", "_law_most", "_law_signs_here", "_law_some", "_law_room", "_law_book_here", "_law_k", "_law_size", "_law_back", "_law_text", "_law_j", "_law_number"] Qa (aj gg):=by constructor<;>first | rfl | decide +kernel
theorem cY{m:Me}{f:Addr}{g:FuncData}(F:G2 K "_law_by_mixing" "_law_by_mixing" gg f g)(d:mg "_law_by_mixing" = some (.ref f))(B:HU mg)(O:HF K mg C D)(b:∀m,FnAt P w K mg base 1 "_law_mixed" Q9 ((gX K C D).at m) aQ)(h:∀m,FnAt P w K mg base 1 "_law_signs" Q4 ((gX K C D).at m) dE) :
  FnAt P w K mg base 2 "_law_by_mixing" Qa ((gX K C D).at m) c6:=eY F d aF rfl rfl (λ_ _ _ _ _ _ i e=>by obtain⟨_,_,rfl⟩:=L2.d7 e;rfl) λ_ _ _ _ _ _ a =>
  (af (ar (bw (h _) a (ab (bw (b _) a (ab (qv 0) (ab ah ag)) (by decide) rfl rfl) ag) (by decide) rfl rfl) aF.nd rfl Q3)
  (af (ar (aP (eV (ab ah (ab ah (ab ah (ab ah (ab ah (ab ah (ab ah (ab ah ag))))))))) (w_mod (bw (b _) a (ab (qv 0) (ab ah ag)) (by decide) rfl rfl) ah) (λ_ _=>rfl)) aF.nd rfl Q3)
  (af (ar (qv 1) aF.nd rfl Q3)
  (af (hZ (eV ag) aF.nd rfl Q3)
  (af (cj Z6 rfl (cT (w_mod (bw (b _) a (ab (qv 0) (ab ah ag)) (by decide) rfl rfl) ah) rfl B.G8) (aK 6 aF.nd rfl Q3 Q3)
  (af (ar (xK B.M0 (ab (qv 4) (ab (w_mod (bw (b _) a (ab (qv 0) (ab (w_add (w_mul ah (qv 6)) ah) ag)) (by decide) rfl rfl) (w_add (qv 1) ah)) ag))) aF.nd rfl Q3)
  (af (ar (w_sub (qv 4) (qv 7)) aF.nd rfl Q3)
  (af (ar (w_add ah (w_mod (bw (b _) a (ab (qv 0) (ab (w_add (w_mul ah (qv 6)) ah) ag)) (by decide) rfl rfl) ah)) aF.nd rfl Q3)
  (af (ar (lM (by decide +kernel) (by decide)) aF.nd rfl Q3)
  (af (cj Z6 rfl (cT (qv 7) rfl B.G8) (aK 10 aF.nd rfl Q3 Q3)
  (af (ar (bw (b _) a (ab (qv 0) (ab (w_add (w_add (w_mul ah (qv 6)) ah) (qv 10)) ag)) (by decide) rfl rfl) aF.nd rfl Q3)
  (aq (cn (KI.ME (lA (zz (dm B.G1 (ab (qv 9) ag)) (qv 8)) (nB (uS (w_mod (qv 11) ah) ah)))) (aq (ar (w_add (qv 9) (aP (qv 9) (w_sub (dm B.G1 (ab (qv 9) ag)) (qv 8)) (λ_ _=>rfl))) aF.nd rfl Q3)) (aq (ar (w_add (qv 9) (aP (qv 2) (w_mod (iO (qv 11) ah) (qv 3)) (λ_ _=>rfl))) aF.nd rfl Q3))))))
  (af (jF 5 (ab (qv 9) ag) rfl rfl Q3 rfl rfl)
  (aq (cn (KI.ME (lA (uS (qv 7) ah) (lA (pL a (w_mod (bw (b _) a (ab (qv 0) (ab (w_add (w_mul ah (qv 6)) ah) ag)) (by decide) rfl rfl) ah) ah) (nB (zz (qv 4) ah))))) (af (jF 5 (ab (iy (qv 9) (fM ah) (fM ah)) ag) rfl rfl Q3 rfl rfl)
  (aq (ar (w_sub (qv 4) ah) aF.nd rfl Q3))) bI)))))))))
  (uN 5 (aq (bt (iy (qv 5) kT (fM ah))))))))))
noncomputable abbrev ki:Stmt:=top 24
theorem tu:jj Q9 Q9 (aj ki):=by constructor<;>first | rfl | decide +kernel
theorem fz{m:Me}{f:Addr}{d:FuncData}(F:G2 K "_law_cell" "_law_cell" ki f d)(a:mg "_law_cell" = some (.ref f))(B:HU mg)(O:HF K mg C D) :
  FnAt P w K mg base 1 "_law_cell" Q9 ((gX K C D).at m) fA:=eY F a tu rfl rfl (λ_ _ _ _ _ _ e b=>by obtain⟨_,_,rfl⟩:=L2.d7 b;rfl) λ_ _ _ _ _ _ g =>
  (af (cn (hU ug zP kP (qv 1) (dm B.G1 (ab (qv 0) ag)) (ka _)) (aq (bt (aP (qv 0) (qv 1) (λ_ _=>rfl)))) bI)
  (aq (bt ah)))
noncomputable abbrev j4:Stmt:=top 29
theorem tM:jj Qa Qa (aj j4):=by constructor<;>first | rfl | decide +kernel
theorem gv{m:Me}{f:Addr}{g:FuncData}(F:G2 K "_law_book" "_law_book" j4 f g)(d:mg "_law_book" = some (.ref f))(B:HU mg)(O:HF K mg C D)(i:∀m,FnAt P w K mg base 2 "_law_by_digits" Q4 ((gX K C D).at m) cX)(h:∀m,FnAt P w K mg base 2 "_law_by_mixing" Qa ((gX K C D).at m) c6)(b:∀m,FnAt P w K mg base 1 "_law_cell" Q9 ((gX K C D).at m) fA)(j:∀m,FnAt P w K mg base 1 "_law_mixed" Q9 ((gX K C D).at m) aQ) :
  FnAt P w K mg base 3 "_law_book" Qa ((gX K C D).at m) gO:=eY F d tM rfl rfl (λ_ _ _ _ _ _ l e=>by obtain⟨_,_,rfl⟩:=L2.d7 e;rfl) λ_ _ _ _ _ _ a =>
  (af (cn (pL a (w_mod (bw (b _) a (ab (qv 0) (ab ah ag)) (by decide) rfl rfl) ah) ah) (aq (bt (bw (i _) a (ab (iO (bw (b _) a (ab (qv 0) (ab ah ag)) (by decide) rfl rfl) ah) ag) (by decide) rfl rfl))) bI)
  (aq (bt (bw (h _) a (ab (qv 0) (ab (aP (eV (ab ah (ab ah (ab ah (ab (qv 1) ag))))) (w_mod (bw (j _) a (ab (qv 0) (ab ah ag)) (by decide) rfl rfl) ah) (λ_ _=>rfl)) ag)) (by decide) rfl rfl))))
noncomputable abbrev eK:Stmt:=top 17
theorem ko:jj Qn Qn (aj eK):=by constructor<;>first | rfl | decide +kernel
theorem cx{m:Me}{f:Addr}{e:FuncData}(F:G2 K "refuse_no_stand" "refuse_no_stand" eK f e)(b:mg "refuse_no_stand" = some (.ref f))(B:HU mg)(O:HF K mg C D)(g:∀m,FnAt P w K mg base 1 "is_whole" ["thing"] ((gX K C D).at m) gI) :
  FnAt P w K mg base 2 "refuse_no_stand" Qn ((gX K C D).at m) bL:=eY F b ko rfl rfl (λ_ _ _ _ _ _ h d=>by obtain⟨_,_,rfl⟩:=L2.d7 d;rfl) λ_ _ _ _ _ _ a =>
  (aq (cn (KI.ME (oI (jR (ni (bw (g _) a (ab (qv 1) ag) (by decide) rfl rfl))) (qJ (jR (ju ah (qv 1) (dm B.G1 (ab (qv 0) ag)) (by with_unfolding_all rfl)))))) (aq qh) bI))
noncomputable abbrev gL:Stmt:=top 18
theorem dc:jj ["table", "before", "number", "row", "way"] ["table"] (aj gL):=by constructor<;>first | rfl | decide +kernel
theorem dr{m:Me}{f:Addr}{e:FuncData}(F:G2 K "steps_before" "steps_before" gL f e)(b:mg "steps_before" = some (.ref f))(B:HU mg)(O:HF K mg C D) :
  FnAt P w K mg base 1 "steps_before" ["table"] ((gX K C D).at m) fh:=eY F b dc rfl rfl (λ_ _ _ _ _ _ g d=>by obtain⟨_,rfl⟩:=L2.mY d;rfl) λ_ _ _ _ _ _ a =>
  (af (hZ uE dc.nd rfl Q3)
  (af (cj Z6 rfl (sP (qv 0) rfl B.IJ) (nq rfl (d9 (aK 2 dc.nd rfl Q3 Q3) (d9 (aK 3 dc.nd rfl Q3 Q3) kJ)))
  (aq (cj Z6 rfl (dF (aP (qv 3) ah (λ_ _=>rfl))) (aK 4 dc.nd rfl Q3 Q3)
  (aq (cn (pL a (aP (aP (qv 0) (aP (qv 4) ah (λ_ _=>rfl)) (λ_ _=>rfl)) ah (λ_ _=>rfl)) (w_add (aP (qv 3) ah (λ_ _=>rfl)) ah)) (aq (xo 1 a (aP (qv 4) ah (λ_ _=>rfl)) (nL (ab (qv 2) (ab (aP (qv 4) ah (λ_ _=>rfl)) ag))) rfl Q3 rfl rfl (λ_=>rfl) rfl rfl rfl)) bI)))))
  (aq (dA 1 rfl (Or.inl rfl) rfl rfl))))
noncomputable abbrev lH:Stmt:=top 14
theorem fu:jj ["table", "stand", "before", "word", "step"] Qn (aj lH):=by constructor<;>first | rfl | decide +kernel
theorem cH{m:Me}{f:Addr}{e:FuncData}(F:G2 K "longest" "longest" lH f e)(b:mg "longest" = some (.ref f))(B:HU mg)(O:HF K mg C D)(h:∀m,FnAt P w K mg base 2 "refuse_no_stand" Qn ((gX K C D).at m) bL)(g:∀m,FnAt P w K mg base 1 "steps_before" ["table"] ((gX K C D).at m) fh) :
  FnAt P w K mg base 3 "longest" Qn ((gX K C D).at m) eD:=eY F b fu rfl rfl (λ_ _ _ _ _ _ i d=>by obtain⟨_,_,rfl⟩:=L2.d7 d;rfl) λ_ _ _ _ _ _ a =>
  (af (zS (bw (h _) a (ab (qv 0) (ab (qv 1) ag)) (by decide) rfl rfl) rfl)
  (af (ar (bw (g _) a (ab (qv 0) ag) (by decide) rfl rfl) fu.nd rfl Q3)
  (af (ar (lM (by decide +kernel) (by decide)) fu.nd rfl Q3)
  (af (jK Z6 (rP a (qv 1) ah)
  (af (ar (qy a (qv 2) (qv 1) (λ_ _=>rfl)) fu.nd rfl Q3)
  (af (ar (w_add (aP (qv 4) ah (λ_ _=>rfl)) (qv 3)) fu.nd rfl Q3)
  (aq (ar (aP (qv 4) ah (λ_ _=>rfl)) fu.nd rfl Q3)))))
  (aq (dA 3 rfl (Or.inl rfl) rfl rfl))))))
noncomputable abbrev j5:Stmt:=top 15
theorem mP:jj ["table", "stand", "word"] Qn (aj j5):=by constructor<;>first | rfl | decide +kernel
theorem gE{m:Me}{f:Addr}{e:FuncData}(F:G2 K "shortest" "shortest" j5 f e)(b:mg "shortest" = some (.ref f))(B:HU mg)(O:HF K mg C D)(g:∀m,FnAt P w K mg base 3 "longest" Qn ((gX K C D).at m) eD) :
  FnAt P w K mg base 4 "shortest" Qn ((gX K C D).at m) gw:=eY F b mP rfl rfl (λ_ _ _ _ _ _ h d=>by obtain⟨_,_,rfl⟩:=L2.d7 d;rfl) λ_ _ _ _ _ _ a =>
  (af (ar (bw (g _) a (ab (qv 0) (ab (qv 1) ag)) (by decide) rfl rfl) mP.nd rfl Q3)
  (aq (bt (iy (qv 2) (fM (w_sub (dm B.G1 (ab (qv 2) ag)) (aP (aP (qv 0) (qv 1) (λ_ _=>rfl)) ah (λ_ _=>rfl)))) kT))))
noncomputable abbrev ud:Stmt:=top 12
theorem ng:jj ["table", "word", "stands", "sign", "ways"] Qo (aj ud):=by constructor<;>first | rfl | decide +kernel
theorem oK{m:Me}{f:Addr}{e:FuncData}(F:G2 K "walk" "walk" ud f e)(b:mg "walk" = some (.ref f))(B:HU mg)(O:HF K mg C D) :
  FnAt P w K mg base 1 "walk" Qo ((gX K C D).at m) qB:=eY F b ng rfl rfl (λ_ _ _ _ _ _ g d=>by obtain⟨_,_,rfl⟩:=L2.d7 d;rfl) λ_ _ _ _ _ _ a =>
  (af (hZ (eV (ab ah ag)) ng.nd rfl Q3)
  (af (cj Z6 rfl (dF (qv 1)) (aK 3 ng.nd rfl Q3 Q3)
  (af (ar (Ad B.LJ (ab (aP (aP (qv 0) (aP (qv 2) Ci (λ_ _=>rfl)) (λ_ _=>rfl)) ah (λ_ _=>rfl)) ag)) ng.nd rfl Q3)
  (af (cn (ot a (qv 3) (qv 4) (by with_unfolding_all rfl)) (aq (dA 2 rfl (Or.inl rfl) rfl rfl)) bI)
  (aq (jF 2 (ab (qy a (qv 4) (qv 3) (λ_ _=>rfl)) ag) rfl rfl Q3 rfl rfl)))))
  (aq (dA 2 rfl (Or.inl rfl) rfl rfl))))
noncomputable abbrev ky:Stmt:=top 13
theorem mK:jj ["table", "word", "stands"] Qo (aj ky):=by constructor<;>first | rfl | decide +kernel
theorem gF{m:Me}{f:Addr}{g:FuncData}(F:G2 K "stand_of" "stand_of" ky f g)(d:mg "stand_of" = some (.ref f))(B:HU mg)(O:HF K mg C D)(b:∀m,FnAt P w K mg base 1 "walk" Qo ((gX K C D).at m) qB) :
  FnAt P w K mg base 2 "stand_of" Qo ((gX K C D).at m) iP:=eY F d mK rfl rfl (λ_ _ _ _ _ _ h e=>by obtain⟨_,_,rfl⟩:=L2.d7 e;rfl) λ_ _ _ _ _ _ a =>
  (af (ar (bw (b _) a (ab (qv 0) (ab (qv 1) ag)) (by decide) rfl rfl) mK.nd rfl Q3)
  (aq (bt (Gg (pL a (dm B.G1 (ab (qv 2) ag)) (w_add (dm B.G1 (ab (qv 1) ag)) ah)) (aP (qv 2) Ci (λ_ _=>rfl)) ui))))
noncomputable abbrev gU:Stmt:=top 32
theorem gf:jj ["_law_found", "_law_some", "_law_table", "_law_k", "_law_long", "_law_word"] Q6 (aj gU):=by constructor<;>first | rfl | decide +kernel
theorem dB{m:Me}{f:Addr}{h:FuncData}(F:G2 K "_law_is_stand" "_law_is_stand" gU f h)(b:mg "_law_is_stand" = some (.ref f))(B:HU mg)(O:HF K mg C D)(i:∀m,FnAt P w K mg base 3 "longest" Qn ((gX K C D).at m) eD)(g:∀m,FnAt P w K mg base 4 "shortest" Qn ((gX K C D).at m) gw)(e:∀m,FnAt P w K mg base 2 "stand_of" Qo ((gX K C D).at m) iP) :
  FnAt P w K mg base 5 "_law_is_stand" Q6 ((gX K C D).at m) eJ:=eY F b gf rfl rfl (λ_ _ _ _ _ _ j d=>by obtain⟨_,_,_,_,rfl⟩:=L2.DM d;rfl) λ_ _ _ _ _ _ a =>
  (af (ar (bw (i _) a (ab (qv 2) (ab (qv 3) ag)) (by decide) rfl rfl) gf.nd rfl (Or.inr rfl))
  (af (cn (rP a (qv 1) (kQ 1 Qd rfl (oP (dm B.G1 (ab (bw (g _) a (ab (qv 2) (ab (qv 3) ag)) (by decide) rfl rfl) ag)) (w_add (dm B.G1 (ab (bC 4 rfl (Or.inr Q3) rfl rfl) ag)) ah) rfl B.G8) (fF) (λ_ _ _ _ _=>(aK 0 (show List.Nodup Qd from by decide +kernel) rfl Q3 (Or.inr rfl))) (λ_ _ _ _ _=>(iy (bC 5 rfl (Or.inr Q3) rfl rfl) (fM (w_sub (dm B.G1 (ab (bC 5 rfl (Or.inr Q3) rfl rfl) ag)) (qv 0))) kT)) rfl rfl (by decide))) (aq (bt nZ)) bI)
  (af (cj Z6 rfl (dF (qv 1)) (aK 5 gf.nd rfl Q3 Q3)
  (aq (cn (KI.ME (oI (ot a (qv 5) (qv 0) (by with_unfolding_all rfl)) (oI (rP a (qy a (qv 0) (qv 5) (λ_ _=>rfl)) (qy a (qv 0) (bC 4 rfl (Or.inr Q3) rfl rfl) (λ_ _=>rfl))) (qJ (rP a (bw (e _) a (ab (qv 2) (ab (qv 5) ag)) (by decide) rfl rfl) (qv 3)))))) (aq (bt nZ)) bI)))
  (aq (bt nZ)))))
noncomputable abbrev kg:Stmt:=top 33
theorem fN:jj ["_law_found", "_law_all_words", "_law_table", "_law_k", "_law_sign", "_law_there", "_law_word", "_law_signs_here"] Q5 (aj kg):=by constructor<;>first | rfl | decide +kernel
theorem gH{m:Me}{f:Addr}{e:FuncData}(F:G2 K "_law_lead" "_law_lead" kg f e)(b:mg "_law_lead" = some (.ref f))(B:HU mg)(O:HF K mg C D) :
  FnAt P w K mg base 1 "_law_lead" Q5 ((gX K C D).at m) ja:=eY F b fN rfl rfl (λ_ _ _ _ _ _ g d=>by obtain⟨_,_,_,_,rfl⟩:=L2.DM d;rfl) λ_ _ _ _ _ _ a =>
  (af (cj Z6 rfl (dF (aP (aP (qv 2) (bC 3 rfl (Or.inr Q3) rfl rfl) (λ_ _=>rfl)) ah (λ_ _=>rfl))) (nq rfl (d9 (aK 4 fN.nd rfl Q3 Q3) (d9 (aK 5 fN.nd rfl Q3 Q3) kJ)))
  (aq (cj Z6 rfl (dF (aP (bC 1 rfl (Or.inr Q3) rfl rfl) (bC 3 rfl (Or.inr Q3) rfl rfl) (λ_ _=>rfl))) (aK 6 fN.nd rfl Q3 Q3)
  (aq (cn (ot a (w_add (qv 6) (qv 4)) (aP (bC 1 rfl (Or.inr Q3) rfl rfl) (qv 5) (λ_ _=>rfl)) (by with_unfolding_all rfl)) (aq (bt nZ)) bI)))))
  (af (sj 2 Qc (λ_ _ _ h=>vI h) rfl (dF (aP (aP (qv 2) (bC 3 rfl (Or.inr Q3) rfl rfl) (λ_ _=>rfl)) ah (λ_ _=>rfl))) (xE (fF) (fF)) (λ_ _ _ _ _=>(nq rfl (d9 (aK 0 (show List.Nodup Qc from by decide +kernel) rfl Q3 (Or.inr rfl)) (d9 (aK 1 (show List.Nodup Qc from by decide +kernel) rfl Q3 (Or.inr rfl)) kJ)))) (λ_ _ _ _ _=>(qv 0)) fN.nd rfl Q3 rfl rfl (by decide))
  (aq (bt (DO (xF a.units) Cf (qv 7) (wu 1 Qb rfl (dF (lM (by decide +kernel) (by decide))) (fF) (λ_ _ _ _ _=>(aK 0 (show List.Nodup Qb from by decide +kernel) rfl Q3 (Or.inr rfl))) (λ_ _ _ _ _=>(B9 a (w_add (aP (aP (bC 2 rfl (Or.inr Q3) rfl rfl) (bC 4 rfl (Or.inr Q3) rfl rfl) (λ_ _=>rfl)) ah (λ_ _=>rfl)) (qv 0)) (bC 1 rfl (Or.inr Q3) rfl rfl) (by with_unfolding_all rfl) rfl)) (λ_ _ _ _ _=>(qv 0)) rfl rfl (by decide)) (ka _))))))
noncomputable abbrev i8:Stmt:=top 30
theorem di:jj ["_law_book_here", "_law_found", "_law_number", "_law_text", "_law_end", "_law_start"] ["_law_book_here"] (aj i8):=by constructor<;>first | rfl | decide +kernel
theorem eO{m:Me}{f:Addr}{d:FuncData}(F:G2 K "_law_places" "_law_places" i8 f d)(a:mg "_law_places" = some (.ref f))(B:HU mg)(O:HF K mg C D) :
  FnAt P w K mg base 1 "_law_places" ["_law_book_here"] ((gX K C D).at m) eZ:=eY F a di rfl rfl (λ_ _ _ _ _ _ e b=>by obtain⟨_,rfl⟩:=L2.mY b;rfl) λ_ _ _ _ _ _ g =>
  (af (hZ (AZ (by decide +kernel) (by decide)) di.nd rfl Q3)
  (af (cj Z6 rfl (sP (qv 0) rfl B.IJ) (nq rfl (d9 (aK 2 di.nd rfl Q3 Q3) (d9 (aK 3 di.nd rfl Q3 Q3) kJ)))
  (aq (cj Z6 rfl (cT (w_add (dm B.G1 (ab (qv 3) ag)) ah) rfl B.G8) (aK 4 di.nd rfl Q3 Q3)
  (aq (cj Z6 rfl (cT (w_add (qv 4) ah) rfl B.G8) (aK 5 di.nd rfl Q3 Q3)
  (aq (zK gJ 1 (iy (qv 3) (fM (qv 5)) (fM (qv 4))) (ab (nL (ab (qv 2) (ab (qv 4) ag))) ag)  rfl rfl Q3 rfl rfl rfl rfl rfl rfl rfl rfl rfl rfl rfl rfl rfl rfl)))))))
  (aq (dA 1 rfl (Or.inl rfl) rfl rfl))))
noncomputable abbrev qi:Stmt:=top 16
theorem rQ:jj ["table", "stand", "word"] Qn (aj qi):=by constructor<;>first | rfl | decide +kernel
theorem kA{m:Me}{f:Addr}{e:FuncData}(F:G2 K "words" "words" qi f e)(b:mg "words" = some (.ref f))(B:HU mg)(O:HF K mg C D)(g:∀m,FnAt P w K mg base 3 "longest" Qn ((gX K C D).at m) eD) :
  FnAt P w K mg base 4 "words" Qn ((gX K C D).at m) kY:=eY F b rQ rfl rfl (λ_ _ _ _ _ _ h d=>by obtain⟨_,_,rfl⟩:=L2.d7 d;rfl) λ_ _ _ _ _ _ a =>
  (af (ar (bw (g _) a (ab (qv 0) (ab (qv 1) ag)) (by decide) rfl rfl) rQ.nd rfl (Or.inr rfl))
  (aq (bt (kQ 1 ["long", "table", "stand", "word"] rfl (oP (aP (aP (qv 0) (qv 1) (λ_ _=>rfl)) ah (λ_ _=>rfl)) (w_add (aP (aP (qv 0) (qv 1) (λ_ _=>rfl)) ah (λ_ _=>rfl)) ah) rfl B.G8) (fF) (λ_ _ _ _ _=>(aK 0 (show List.Nodup (["long", "table", "stand", "word"]:List Str) from by decide +kernel) rfl Q3 (Or.inr rfl))) (λ_ _ _ _ _=>(iy (bC 3 rfl (Or.inr Q3) rfl rfl) (fM (w_sub (dm B.G1 (ab (bC 3 rfl (Or.inr Q3) rfl rfl) ag)) (qv 0))) kT)) rfl rfl (by decide)))))
noncomputable abbrev kC:Stmt:=top 34
theorem i9:jj ["_law_script", "_law_book_here", "_law_found", "_law_table", "_law_all_words", "_law_met", "_law_some", "_law_k"] ["_law_script"] (aj kC):=by constructor<;>first | rfl | decide +kernel
theorem CT{m:Me}{f:Addr}{b:FuncData}(F:G2 K "law" "law" kC f b)(B:HU mg)(O:HF K mg C D)(n:InAt P w K mg base 6 (gX K C D) 1 1 "Machine" ["self", "book"] ba)(j:∀m,MpAt P w K mg base 3 ((gX K C D).at m) 1 "table" Ql cp)(e:∀m,FnAt P w K mg base 3 "_law_book" Qa ((gX K C D).at m) gO)(l:∀m,FnAt P w K mg base 5 "_law_is_stand" Q6 ((gX K C D).at m) eJ)(g:∀m,FnAt P w K mg base 1 "_law_lead" Q5 ((gX K C D).at m) ja)(i:∀m,FnAt P w K mg base 1 "_law_places" ["_law_book_here"] ((gX K C D).at m) eZ)(d:∀m,FnAt P w K mg base 4 "words" Qn ((gX K C D).at m) kY) :
  FnOk P w K mg base HJ 8 f b ["_law_script"] (Kb ((gX K C D).at m) xx):=Sk F i9 rfl rfl λ_ _ _ _ _ _ a =>
  (af (ar (bw (e _) a (ab (qv 0) (ab ah ag)) (by decide) rfl rfl) i9.nd rfl Q3)
  (af (ar (bw (i _) a (ab (qv 1) ag) (by decide) rfl rfl) i9.nd rfl Q3)
  (af (ar (oO (j _) a (by decide) (D3 n.at a (by decide) (ab (Aj B.NT (ab (qv 1) ag)) ag) EH rfl rfl rfl rfl) rfl) i9.nd rfl (Or.inr rfl))
  (af (sj 1 Q8 (λ_ _ _ h=>vI h) rfl (cT (dm B.G1 (ab (bC 3 rfl (Or.inr Q3) rfl rfl) ag)) rfl B.G8) (fF) (λ_ _ _ _ _=>(aK 0 (show List.Nodup Q8 from by decide +kernel) rfl Q3 (Or.inr rfl))) (λ_ _ _ _ _=>(bw (d _) a (ab (bC 4 rfl (Or.inr Q3) rfl rfl) (ab (qv 0) ag)) (by decide) rfl rfl)) i9.nd rfl Q3 rfl rfl (by decide))
  (af (ar (eV ag) i9.nd rfl Q3)
  (af (cj Z6 rfl (dF (qv 4)) (aK 6 i9.nd rfl Q3 Q3)
  (aq (ar (w_add (qv 5) (qv 6)) i9.nd rfl Q3)))
  (af (cn (rP a (tK B.Il (ab (qv 5) ag)) (tK B.Il (ab (qv 2) ag))) (aq (bt nZ)) bI)
  (af (cj Z6 rfl (cT (dm B.G1 (ab (bC 3 rfl (Or.inr Q3) rfl rfl) ag)) rfl B.G8) (aK 7 i9.nd rfl Q3 Q3)
  (aq (cn (KI.ME (oI (jR (ni (bw (l _) a (ab (qv 2) (ab (aP (qv 4) (qv 7) (λ_ _=>rfl)) (ab (bC 3 rfl (Or.inr Q3) rfl rfl) (ab (qv 7) ag)))) (by decide) rfl rfl))) (qJ (jR (ni (bw (g _) a (ab (qv 2) (ab (qv 4) (ab (bC 3 rfl (Or.inr Q3) rfl rfl) (ab (qv 7) ag)))) (by decide) rfl rfl)))))) (aq (bt nZ)) bI)))
  (aq (bt nZ))))))))))
end
noncomputable abbrev gN(K:Xf)(x:Str)(f:Addr):Prop:=PySem.W.nsIn K mainGlobals x=some (some (.ref f))
noncomputable abbrev gZ(K:Xf)(x:Str):Prop:=PySem.W.nsIn K mainGlobals x=some none
theorem all_mk{l:PySem.W.OpenLaw}{w:World}{K:Xf}{h:Heap}{a:X9}{fa C D f0 f1 f2 f3 f4 f5 f6 f7 f8 f9 SO UW UU UT US UR UQ UP UO UN UM UL UK UJ UI UH UG UE UD UC UB SN:Addr}(X:K.In h)(G:h.Ns mainGlobals a)(n:a "law" = some (.ref fa)){QY S9 QX Pm:Option Addr}{QI QH:Array (Wt)}{Ra Rt S4 QO Pd S5 QZ OQ Pa OF NS Pb:Value}(RN:∀ns:Vu,xx [.scr ns]=some (.fr,.bl true))(a0:Meth K D "begin" f0){A:FuncData}(F0:G2 K "begin" "Machine.begin" fT f0 A)(a1:Meth K C "new_node" f1){z:FuncData}(F1:G2 K "new_node" "Nodes.new_node" fD f1 z)(a2:Meth K C "node_just_behind" f2){y:FuncData}(F2:G2 K "node_just_behind" "Nodes.node_just_behind" cz f2 y)(a3:Meth K C "head_behind" f3){x:FuncData}(F3:G2 K "head_behind" "Nodes.head_behind" dR f3 x)(a4:Meth K C "head_grown" f4){u:FuncData}(F4:G2 K "head_grown" "Nodes.head_grown" d4 f4 u)(a5:gN K "is_whole" f5){t:FuncData}(F5:G2 K "is_whole" "is_whole" j6 f5 t)(a6:gN K "refuse_no_text" f6){r:FuncData}(F6:G2 K "refuse_no_text" "refuse_no_text" fB f6 r)(a7:gN K "signs_in" f7){q:FuncData}(F7:G2 K "signs_in" "signs_in" j7 f7 q)(a8:Meth K D "grow" f8){p:FuncData}(F8:G2 K "grow" "Machine.grow" gR f8 p)(a9:Mk K C f9){o:FuncData}(F9:G2 K "__init__" "Nodes.__init__" ft f9 o){b:Addr}{OH:Obj}{Rh:Nat}(a10:Mk K D SO)(g:K.lookup SO=some ⟨Ra,QY,.func (PySem.W.fnOf "__init__" "Machine.__init__" (dk b9) (bu b9) (aj b9) (.ref b) Rt S4 QO S9 Pd S5),QI⟩)(H:PySem.W.codeIn K Pd "Machine.__init__" = true)(j:PySem.W.keepIn K (.ref SO)=true)(VE:K.lookup b=some OH)(Vm:OH.data=.seq #[.none] Rh)(a11:Meth K C "numbers_by_node" UW){SM:FuncData}(F11:G2 K "numbers_by_node" "Nodes.numbers_by_node" cK UW SM)(a12:Meth K C "row_of" UU){SK:FuncData}(F12:G2 K "row_of" "Nodes.row_of" gS UU SK)(a13:Meth K C "table" UT){SJ:FuncData}(F13:G2 K "table" "Nodes.table" ik UT SJ)(a14:Meth K D "table" US){SI:FuncData}(F14:G2 K "table" "Machine.table" fZ US SI)(a15:gN K "_law_signs" UR){SH:FuncData}(F15:G2 K "_law_signs" "_law_signs" jB UR SH)(a16:gN K "_law_by_digits" UQ){SG:FuncData}(F16:G2 K "_law_by_digits" "_law_by_digits" fU UQ SG)(a17:gN K "_law_mixed" UP){SF:FuncData}(F17:G2 K "_law_mixed" "_law_mixed" jA UP SF)(a18:gN K "_law_by_mixing" UO){SE:FuncData}(F18:G2 K "_law_by_mixing" "_law_by_mixing" gg UO SE)(a19:gN K "_law_cell" UN){SD:FuncData}(F19:G2 K "_law_cell" "_law_cell" ki UN SD)(a20:gN K "_law_book" UM){SA:FuncData}(F20:G2 K "_law_book" "_law_book" j4 UM SA)(Z:gN K "refuse_no_stand" UL){Sy:FuncData}(F21:G2 K "refuse_no_stand" "refuse_no_stand" eK UL Sy)(Y:gN K "steps_before" UK){Sw:FuncData}(F22:G2 K "steps_before" "steps_before" gL UK Sw)(U:gN K "longest" UJ){Sv:FuncData}(F23:G2 K "longest" "longest" lH UJ Sv)(S:gN K "shortest" UI){Su:FuncData}(F24:G2 K "shortest" "shortest" j5 UI Su)(R:gN K "walk" UH){Ss:FuncData}(F25:G2 K "walk" "walk" ud UH Ss)(Q:gN K "stand_of" UG){Sr:FuncData}(F26:G2 K "stand_of" "stand_of" ky UG Sr)(P:gN K "_law_is_stand" UE){Sq:FuncData}(F27:G2 K "_law_is_stand" "_law_is_stand" gU UE Sq)(N:gN K "_law_lead" UD){So:FuncData}(F28:G2 K "_law_lead" "_law_lead" kg UD So)(M:gN K "_law_places" UC){Sn:FuncData}(F29:G2 K "_law_places" "_law_places" i8 UC Sn)(L:gN K "words" UB){Sl:FuncData}(F30:G2 K "words" "words" qi UB Sl)(J:gN K "law" SN)(f:K.lookup SN=some ⟨QZ,QX,.func (PySem.W.fnOf "law" "law" (dk kC) (bu kC) (aj kC) .none OQ Pa OF Pm NS Pb),QH⟩)(E:PySem.W.codeIn K NS "law" = true)(i:PySem.W.keepIn K (.ref SN)=true)(M7:gZ K "bool")(M6:gZ K "dict")(JM:gZ K "enumerate")(Oi:gZ K "int")(Jt:gZ K "isinstance")(Oh:gZ K "len")(M5:gZ K "list")(Og:gZ K "min")(L8:gZ K "range")(Lm:gZ K "sorted")(Of:gZ K "sum")(L7:gZ K "tuple"){Jx:Tok}(Jv:PySem.W.nsIn K mainGlobals "MOST_SIGNS" = some (some (.int 120 Jx))){Jw:Tok}(Ju:PySem.W.nsIn K mainGlobals "MOST_TEXTS" = some (some (.int 8 Jw)))(w_Nodes:gN K "Nodes" C)(xt:IB K C)(Hy:bh K C "longs")(Hz:bh K C "links")(HD:bh K C "ways")(Hw:bh K C "texts")(HA:bh K C "heads")(Hx:bh K C "nodes")(w_Machine:gN K "Machine" D)(GZ:IB K D)(Hh:bh K D "longs")(Hi:bh K D "links")(Hq:bh K D "ways")(Hf:bh K D "texts")(Hj:bh K D "heads")(Hg:bh K D "nodes")
  : ∃fd:FuncData,(∀(s:Shared)(v:Value),BindsTo s fd ⟨[v],[]⟩ [("_law_script",v)])/\∀base:Heap,K.In base->base.Ns mainGlobals a->FnOk l.prog w K a base HJ 8 fa fd ["_law_script"] (Kb (O4 K) AE):=by
 have e:=n.symm.trans (Z9 X G J);cases e;have B:HU a:=⟨Ye X G M7,Ye X G M6,Ye X G JM,Ye X G Oi,Ye X G Jt,Ye X G Oh,Ye X G M5,Ye X G Og,Ye X G L8,Ye X G Lm,Ye X G Of,Ye X G L7,⟨_,Z9 X G Jv⟩,⟨_,Z9 X G Ju⟩⟩
 have O:HF K a C D:=⟨xt,Z9 X G w_Nodes,Hy,Hz,HD,Hw,HA,Hx,GZ,Z9 X G w_Machine,Hh,Hi,Hq,Hf,Hj,Hg⟩
 refine⟨PySem.W.fnOf "law" "law" (dk kC) (bu kC) (aj kC) .none OQ Pa OF Pm NS Pb,λs v=>.of_eq rfl,λbase _ _=>?_⟩;have da:=da l.prog w base F0 a0 B O;have aT:=aT l.prog w base F1 a1 B O;have aY:=aY l.prog w base F2 a2 B O aT;have bO:=bO l.prog w base F3 a3 B O aT aY;have bW:=bW l.prog w base F4 a4 B O bO;have dz:=λm=>dz (m:=m) l.prog w base F5 (Z9 X G a5) B O;have cJ:=λm=>cJ (m:=m) l.prog w base F6 (Z9 X G a6) B O dz;have gP:=λm=>gP (m:=m) l.prog w base F7 (Z9 X G a7) B O;have dy:=dy l.prog w base F8 a8 B O bW cJ gP;have cG:=cG l.prog w base F9 a9 B O aT;have bZ:=bZ l.prog w base ⟨⟨_,_,_,_,_,_,_,_,_,_,_,_,rfl,g,H,VE,Vm⟩,j⟩ a10 B O da dy cG;have bx:=λm=>bx (m:=m) l.prog w base F11 a11 B O;have dD:=λm=>dD (m:=m) l.prog w base F12 a12 B O;have dX:=λm=>dX (m:=m) l.prog w base F13 a13 B O bx dD;have dh:=λm=>dh (m:=m) l.prog w base F14 a14 B O dX;have cM:=λm=>cM (m:=m) l.prog w base F15 (Z9 X G a15) B O;have c8:=λm=>c8 (m:=m) l.prog w base F16 (Z9 X G a16) B O cM;have br:=λm=>br (m:=m) l.prog w base F17 (Z9 X G a17) B O;have cY:=λm=>cY (m:=m) l.prog w base F18 (Z9 X G a18) B O br cM;have fz:=λm=>fz (m:=m) l.prog w base F19 (Z9 X G a19) B O;have gv:=λm=>gv (m:=m) l.prog w base F20 (Z9 X G a20) B O c8 cY fz br;have cx:=λm=>cx (m:=m) l.prog w base F21 (Z9 X G Z) B O dz;have dr:=λm=>dr (m:=m) l.prog w base F22 (Z9 X G Y) B O;have cH:=λm=>cH (m:=m) l.prog w base F23 (Z9 X G U) B O cx dr;have gE:=λm=>gE (m:=m) l.prog w base F24 (Z9 X G S) B O cH;have oK:=λm=>oK (m:=m) l.prog w base F25 (Z9 X G R) B O;have gF:=λm=>gF (m:=m) l.prog w base F26 (Z9 X G Q) B O oK;have dB:=λm=>dB (m:=m) l.prog w base F27 (Z9 X G P) B O cH gE gF;have gH:=λm=>gH (m:=m) l.prog w base F28 (Z9 X G N) B O;have eO:=λm=>eO (m:=m) l.prog w base F29 (Z9 X G M) B O;have kA:=λm=>kA (m:=m) l.prog w base F30 (Z9 X G L) B O cH;exact BN rfl (CT l.prog w base (m:=λ_=>none) (yw (st:=kC) f E i) B O bZ dh gv dB gH eO kA) RN
end T17
open PySem PySem.W PyProof.Rows PySem.W.X PySem.W.ZRun
set_option maxRecDepth 100000 in
set_option maxHeartbeats 0 in
theorem PySem.Challenge.cw_allparts_k17_whole_each_part_has_a_stand_holds : PySem.Challenge.rw_allparts_k17_whole_each_part_has_a_stand.Holds := by
 w_on;o_law;z_head;(case hw=>w_witness2)
 k_fill
 intro w s₀ s₁ mg mb G y fa o pm cd doc dV kV ho hd hcd hD hmg hg args vals as L hpre hlay hrd hwl hlo
 z_open y L KX ZH ZN ZT
 clear ZH ZN ZT;refine VS.zR (l:=PySem.Challenge.rw_allparts_k17_whole_each_part_has_a_stand) (k:=8) (x := "_law_script") (g:=VS.AE) rfl rfl ⟨rfl,by decide,by decide⟩ (fun _=>rfl) ?F w s₀ s₁ mg mb G KX fa o pm cd doc dV kV ho hd hcd hD hmg hg args vals as hpre hlay hrd hwl hlo
 case F =>
  intro w mg fa h KX G hmg;apply T17.all_mk KX G hmg T17.yQ
  (case w_Nodes=>unfold T17.gN;k_is)
  (case w_Machine=>unfold T17.gN;k_is)
  all_goals first | (refine' L2.yw ?l ?c ?k;(case l=>k_is);(case c=>k_is);(case k=>k_is)) | (refine' ⟨?l,?c,?k⟩;(case l=>k_is);(case c=>k_is);(case k=>k_is)) | (refine' ⟨?l,?c,?k,?d⟩;(case l=>k_is);(case c=>k_is);(case k=>k_is);(case d=>k_is)) | (unfold T17.gN;k_is) | (unfold T17.gZ;k_is) | (unfold L2.bh;k_is) | k_is | exact rfl
end
