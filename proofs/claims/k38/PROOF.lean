import PyProof.Rows.All
import Wide.All
import OpenK.AllK
import Wide.FinOn
import Lean
import PyProof.EqAt
import PyProof.EqKinds
import PyProof.TupleCall
import PyProof.Rows.SortShellK
import PyProof.Rows.SortStr
import PyProof.Rows.SortWalk
import PyProof.StrBlockH
import PyProof.StrLawsIn
import PyProof.Rows.SetFrom
import PyProof.CollectWalk
import KE.KDictSum
import PyProof.ListStr
import PyProof.SeqI3
import PyProof.Rows.CallKwBuiltin
import PyProof.ListRange
import PyProof.AttrMissSeq
import PyProof.DictUpdate
import PyProof.DictList
import PyProof.ListNew
import PyProof.FactsAll.dict_1
import PyProof.SliceList
import PyProof.WalkInts
import PyProof.StationsW
import OpenK.KOwn
import KE.KTryMore
import PyProof.NsDelKeeps
import PyProof.ExcArgsOwn
import PyProof.ExcAttrAll.Exception
import OpenK.KDescr
import KE.KIsAll
import PyProof.ExcBaseAll.ValueError
import PyProof.StrBlock
import PyProof.StrCalls
import PyProof.StrLawsOccR
import KE.KDictOf
import PyProof.Rows.Range3
import PySem.Challenge.RW_allparts_k38_full_up_to
set_option bootstrap.genMatcherCode false
set_option compiler.extract_closed false
namespace PySem.W.Fast
def tw417391624334705574:True:=⟨⟩
def tw6222485449902929405:True:=⟨⟩
def tw14549948679326676739:True:=⟨⟩
def tw2347102755960143365:True:=⟨⟩
def tw7926320640762581596:True:=⟨⟩
def tw17360841143105104776:True:=⟨⟩
def tw10187058551127606762:True:=⟨⟩
def tw15774481360847903789:True:=⟨⟩
def tw5448630155622443650:True:=⟨⟩
def tw15280771770551515881:True:=⟨⟩
def tw320090467224610127:True:=⟨⟩
def tw9607294721345844696:True:=⟨⟩
def tw1710146091216621076:True:=⟨⟩
def tw14155463567596066471:True:=⟨⟩
def tw9320942979789857428:True:=⟨⟩
def tw6480640833687037113:True:=⟨⟩
def tw2811101055387713055:True:=⟨⟩
def tw16023996915697785043:True:=⟨⟩
def tw18267265421581088513:True:=⟨⟩
def tw7447113241452962919:True:=⟨⟩
def tw12800828192542809483:True:=⟨⟩
def tw1342922426696279924:True:=⟨⟩
def tw12747101875899880042:True:=⟨⟩
def tw5152068218718598876:True:=⟨⟩
def tw4258925646555908596:True:=⟨⟩
def tw6781405679500702586:True:=⟨⟩
def tw57470237476138198:True:=⟨⟩
def tw5621313750026665053:True:=⟨⟩
def tw8268897157391758438:True:=⟨⟩
def tw1679422120709583778:True:=⟨⟩
def tw6721277619790808812:True:=⟨⟩
def tw9825076193982233191:True:=⟨⟩
def tw16600603545043683061:True:=⟨⟩
def tw9100718788962029953:True:=⟨⟩
def tw15237906889846452019:True:=⟨⟩
def tw3443894656618975863:True:=⟨⟩
def tw16715814032932399606:True:=⟨⟩
def tw3938317430551102393:True:=⟨⟩
def tw9488253403296468898:True:=⟨⟩
def tw14517651969545635340:True:=⟨⟩
def tw9425309770829837081:True:=⟨⟩
def tw15655818298762766103:True:=⟨⟩
def tw4912029664910206062:True:=⟨⟩
def tw9094928723628329951:True:=⟨⟩
def tw2599234226640981057:True:=⟨⟩
def tw933411346460828439:True:=⟨⟩
def tw1987916181133883805:True:=⟨⟩
def tw8879426763767320396:True:=⟨⟩
def tw10151027105962300272:True:=⟨⟩
def tw5873820833097564491:True:=⟨⟩
def tw13119278430727226633:True:=⟨⟩
def tw17033985523071743178:True:=⟨⟩
def tw12551795913348858532:True:=⟨⟩
def tw14313523375516071610:True:=⟨⟩
def tw11742145536459553262:True:=⟨⟩
def tw14372660036216008004:True:=⟨⟩
def tw17607642067801457177:True:=⟨⟩
def tw10220342254949772174:True:=⟨⟩
def tw13497377099544002699:True:=⟨⟩
def tw77459527931747389:True:=⟨⟩
def tw17057694397473095142:True:=⟨⟩
def tw6437884903968734740:True:=⟨⟩
def tw4858734661102527062:True:=⟨⟩
def tw6470864125182927561:True:=⟨⟩
def tw3575097222632631937:True:=⟨⟩
def tw8062803492388663279:True:=⟨⟩
def tw7754125693637886511:True:=⟨⟩
def tw1967982984639521244:True:=⟨⟩
def tw6975879480255498517:True:=⟨⟩
def tw3321814034487679808:True:=⟨⟩
def tw6165582672004290185:True:=⟨⟩
def tw4117562307786239689:True:=⟨⟩
def tw2132502178185126681:True:=⟨⟩
def tw7518907676966007162:True:=⟨⟩
def tw17311854202067046106:True:=⟨⟩
def tw6256424348381095429:True:=⟨⟩
def tw14953380376219790532:True:=⟨⟩
def tw15860854130821831824:True:=⟨⟩
def tw16474123849137476733:True:=⟨⟩
def tw7030040294198280226:True:=⟨⟩
def tw8241428134297089236:True:=⟨⟩
def tw1020132811641195784:True:=⟨⟩
def tw13362066969180321144:True:=⟨⟩
def tw11949419540935540877:True:=⟨⟩
def tw6223359296636885645:True:=⟨⟩
def tw1189521473705156582:True:=⟨⟩
def tw3577708310555685561:True:=⟨⟩
def tw4358176978250075495:True:=⟨⟩
def tw11871424133966574042:True:=⟨⟩
def tw11304945982567280673:True:=⟨⟩
def tw12301220383905754742:True:=⟨⟩
def tw13658133494791229713:True:=⟨⟩
def tw17766178543001572486:True:=⟨⟩
def tw10045158234874086223:True:=⟨⟩
def tw3922941229755765515:True:=⟨⟩
def tw14800605405319103074:True:=⟨⟩
def tw12301098712585375974:True:=⟨⟩
def tw109225422026163383:True:=⟨⟩
def tw15507002893006340809:True:=⟨⟩
def tw14391975692656404548:True:=⟨⟩
def tw17993921294233112072:True:=⟨⟩
def tw16161212774633114375:True:=⟨⟩
def tw15908641650067828546:True:=⟨⟩
def tw4632342309757295441:True:=⟨⟩
def tw15974059615411104042:True:=⟨⟩
def tw4010805164640349026:True:=⟨⟩
def tw218049798857774619:True:=⟨⟩
def tw14535736661725657084:True:=⟨⟩
def tw9890983929713101653:True:=⟨⟩
def tw9879508980510303950:True:=⟨⟩
def tw9795844685872309143:True:=⟨⟩
def tw8925615391339985768:True:=⟨⟩
def tw8830246137135932441:True:=⟨⟩
def tw8520896845544760893:True:=⟨⟩
def tw8509820687537152137:True:=⟨⟩
def tw6213483855097940841:True:=⟨⟩
def tw6156710692286177909:True:=⟨⟩
def tw5992236678673274159:True:=⟨⟩
def tw5575484999238373377:True:=⟨⟩
def tw5330412659567886195:True:=⟨⟩
def tw479962523821510182:True:=⟨⟩
def tw4275453807569661233:True:=⟨⟩
def tw3257235983040954367:True:=⟨⟩
def tw3191240616062421998:True:=⟨⟩
def tw2866547820072349646:True:=⟨⟩
def tw2635292167193702131:True:=⟨⟩
def tw17641147626998003860:True:=⟨⟩
def tw17596202774873676763:True:=⟨⟩
def tw17402929693386580624:True:=⟨⟩
def tw1740076014889270076:True:=⟨⟩
def tw16911477097557865988:True:=⟨⟩
def tw15860783950875567718:True:=⟨⟩
def tw1582211038187940496:True:=⟨⟩
def tw15668083592813257748:True:=⟨⟩
def tw15361430646736735455:True:=⟨⟩
def tw13980767326026450988:True:=⟨⟩
def tw13777796383396893752:True:=⟨⟩
def tw13571618236723698569:True:=⟨⟩
def tw13493406293596738489:True:=⟨⟩
def tw13114417022898010436:True:=⟨⟩
def tw129534667120975818:True:=⟨⟩
def tw12024778870166011161:True:=⟨⟩
def tw11558523210934596767:True:=⟨⟩
def tw11065544602487973024:True:=⟨⟩
def tw10440300368996558608:True:=⟨⟩
end PySem.W.Fast
open Option renaming some->Y, none->O
open Bool renaming true->L, false->B
theorem M.{u}{α:Sort u}{a:α}:a=a:=rfl
open PySem renaming Shared->GM, model->IR, sizeLine->KB, Addr->KF, Value->KM, wpAny->On, starEach->Pi, FuncData->Pv, Program->P3, Around->Re, keywordEach->SL, compareOp->UF, Heap->UV, World->XAA, attributeBase->XAB, foldedSetIterable->XAC
open PyProof.Rows renaming Keyed->PP, SortSt->SC, pendingOf->SZ
set_option linter.all false
set_option maxRecDepth 100000
set_option Elab.async false
set_option maxHeartbeats 4000000
abbrev Yt:=PySem.Value->PySem.Shared->Prop
abbrev Yr:=List (PySem.Addr×PySem.Obj)
abbrev X8:=List (List PySem.Addr)
abbrev Wy:=PySem.W.Frag
abbrev Wi:=PySem.Str->Option PySem.Value
abbrev Wf:=List PySem.Addr
abbrev Vy:=List PySem.Value
abbrev Vx:=Option PySem.Value
abbrev Vt:=List Nat
abbrev Vr:=List Int
abbrev Vg:=List (List (List Nat))
abbrev Zo:=@if_pos
abbrev Zm:=@if_neg
abbrev ZR:=@decide_eq_false
abbrev IJ:=@beq_eq_false_iff_ne
open Option renaming bind_eq_some_iff->Zz,map_eq_some_iff->Zy,bind_some->Zs,isSome_iff_exists->Yf,isSome_map->YA,getD_some->X9
open PySem renaming wpAny_bind->Zx,wpAny_pure->Zl,wpAny_holding->YN,wpAny_mono->YB,codeAny_builtin->Y5,wpAny_call_entry->Y8,wpAny_setState_of->Xr,wpAny_newObj_type->Xq,wpAny_setField->Xf,wpAny_passesOwn->XX,mem_of_lookup->XO,plainId_quiet->XD,tupleKind_room_in1->X4,sizeLine_eq->X5,wpAny_truthy_bool->Ww,fits_of_scanBound->Wv,codeAny_mono->Wu,builtinLookup_eq_fast->Wk,wpAny_askSetting->Wj,wpAny_typeNameOfWhole_keyiter->Wg,wpAny_Call_Name_kw->WX,wpAny_pyIter_slot->WO,wpAny_rule->W0,wpAny_execs_nil->W9,typeLookup_type->Vz,isSubtype_type->Vs
open List renaming length_append->Zw,mem_cons_of_mem->Zv,mem_cons_self->Zu,length_map->Zt,getD_eq_getElem?_getD->Zr,getElem?_eq_getElem->Zq,mem_singleton->Zk,mem_append->Zi,mem_cons->Zh,length_cons->Zg,map_cons->Ze,append_assoc->Zd,nodup_cons->ZZ,getElem?_eq_some_iff->ZW,getElem?_map->ZV,size_toArray->ZQ,zip_cons_cons->ZO,nodup_append->ZM,mem_append_right->ZL,append_nil->ZK,length_range->ZF,flatten_cons->ZE,pairwise_append->Jf,mem_map->Hq,getElem?_eq_none->JH,length_take->IH,getElem?_append_left->KQ,nodup_nil->Iv,length_singleton->JV,length_drop->Yz,getElem_mem->Yy,map_append->Yx,flatten_append->Yw,find?_cons->Yv,take_of_length_le->Yu,getElem?_append_right->Ys,map_map->Yq,length_set->Yn,suffix_refl->Ym,mem_append_left->Yj,sublist_cons_self->Yh,getElem_of_mem->Ye,mem_range->Yc,mem_of_getElem?->Yb,getElem?_set_ne->Ya,nil_append->YY,length_zip->YX,lookup_cons->YW,drop_eq_nil_of_le->YV,getElem?_eq_none_iff->YU,take_append_drop->YR,mem_filter->YO,mem_of_mem_take->YM,all_eq_true->YL,pairwise_iff_getElem->YG,drop_eq_getElem_cons->YF,perm_append_comm->YE,mem_of_mem_drop->YC,getElem?_replicate->Y1,foldl_cons->Y3,any_cons->Y4,sublist_append_right->Y9,getElem?_zip_eq_some->Xz,suffix_nil->Xw,getD_cons_succ->Xs,not_mem_nil->Xo,mem_reverse->Xn,cons_append->Xm,any_eq_true->Xl,drop_of_length_le->Xi,length_replicate->Xc,getElem_take->Xa,getElem_drop->XZ,replicate_succ->XM,sum_cons->XH,find?_eq_none->XF,length_eq_zero_iff->XE,getElem?_set_self->XA,ext_getElem?->X0,drop_zero->X1,length_filter_le->X6,cons_lt_cons_iff->X7,drop_append->Wz,all_cons->Wx,take_append_of_le_length->Wt,eq_nil_of_length_eq_zero->Wr,nil_suffix->Wo,length_range'->Wc,pairwise_map->WZ,sublist_append_left->WY,getElem?_cons_succ->WV,map_nil->WT,flatten_singleton->WR,length_nil->WN,set_getElem_self->WK,cons_prefix_cons->WJ,take_left->WE,drop_drop->WD,map_congr_left->W4,flatMap_append->W5,filter_sublist->W6,filterMap_cons->W7,pairwise_cons->Vv,findIdx?_cons->Vu,map_set->Vk,getElem?_set->Vj,flatMap_cons->Vi,mem_flatten->Vd,mem_flatMap->Vc,map_fst_zip->Vb
open Nat renaming le_refl->Zp,ne_of_lt->Za,lt_of_lt_of_le->ZP,le_of_not_lt->ZJ,le_add_right->ZI,zero_le->ZG,le_of_lt->ZD,le_trans->ZA,pos_of_ne_zero->II,lt_succ_self->Yp,lt_succ_of_lt->Yo,min_eq_left->YH,lt_irrefl->YD,add_sub_cancel_left->Y0,succ_le_succ->Y6,sub_le->Xu,le_succ->Xj,le_add_left->Xe,lt_of_succ_lt->Xb,zero_add->XS,le_of_not_le->XR,le_of_eq->XQ,ne_of_gt->XB,le_antisymm->Wp,lt_or_ge->Wh,add_sub_cancel->We,le_of_lt_succ->Wa,min_eq_right->WW,lt_trans->WU,mul_le_mul_right->WG,lt_of_le_of_lt->Vw,succ_mul->Vq,sub_pos_of_lt->Vp,mul_comm->Vo,le_succ_of_le->Vn,add_sub_of_le->Vm,add_comm->Vl
open PySem.Heap renaming get?_push_of_some->Zn,get?_push_size->ZY,lt_size->ZS,get?_update_self->Yl,size_push->YT,get?_update_other->YS,get?_push_ne->Xk,size_update->WC
open Option.some renaming inj->Zj
open PyProof.Rows renaming wpS_pure->Zf,wpS_bind->ZX,wpS_forRange->Yg,wpS_mono->Xv,wpS_modify->Wm,wpS_get->WI
open Array renaming getElem_mem->Zc,getElem?_toList->ZC,length_toList->I0,toList_append->Yd,getElem?_eq_getElem->Xy,perm_iff_toList_perm->XU,toList_push->X2,getElem?_eq_none->X3,toList_extract->Wq,toList_reverse->WA
open Bool renaming false_ne_true->Zb,and_eq_true->ZU,false_eq_true->Xh,eq_iff_iff->XG,and_eq_true_iff->WB
open PySem.PassesOwn renaming never->Yk
open PySem.W renaming mg_none_of->Yi,mg_of->YZ,kia_one->YQ,plainGet_of->W3
open Ne renaming symm->YK
open List.Perm renaming refl->YJ
open PySem.Around renaming under_plainId->YI
open Int renaming toNat_natCast->Y2,emod_lt_of_pos->Y7,emod_nonneg->Xd
open PySem.F renaming plainAttrs_list->Xp,slot_dict_keyiterator_next->XW,type_list_append->XJ,slot_list_append->XI,slot_tuple_getattribute->WQ,slot_dict_get->WM
open PySem.Heap.SameBut renaming update->Xg
open List.Sublist renaming refl->XY,append->W8
open PySem.Paired renaming length->XC
open Prod.mk renaming inj->Wb
open PyProof.Rows.F renaming plain_set_update_loop->Vh
open PySem.Value renaming isStrOf_shape->Ve
section
namespace L2
def ku{G:Prop}(h:∀P:Prop,(G->P)->P):G:=h G id
end L2
namespace VS
noncomputable abbrev Tx:=Vt
inductive T where
 |non | bl (b:Bool) | int (i:Int) | str (s:Tx) | scr (ns:Vr)
 |tup (l:List T) | lst (l:List T) | dct (kd:Nat) (l:List (T×T)) | obj (c:Nat) (fs:List (Nat×T))
 deriving Inhabited
abbrev V1:=List T
noncomputable def dJ:Nat:=16777216
mutual
@[simp] noncomputable def Gu:T->Bool
 |.lst _=>B
 |.dct _ _=>B
 |.obj _ _=>B
 |.tup l=>dm l
 |_=>L
@[simp] noncomputable def dm:V1->Bool
 |[]=>L
 |t :: r=>Gu t&&dm r
end
mutual
@[simp] noncomputable def eqT:T->T->Bool
 |.non,.non=>L
 |.bl a,.bl b=>a==b
 |.bl a,.int i=>(if a then 1 else 0)==i
 |.int i,.bl a=>i==(if a then 1 else 0)
 |.int i,.int j=>i==j
 |.str s,.str t=>s==t
 |.tup a,.tup b=>zC a b
 |.lst a,.lst b=>zC a b
 |_,_=>B
@[simp] noncomputable def zC:V1->V1->Bool
 |[],[]=>L
 |a :: d,b :: bs=>eqT a b&&zC d bs
 |_,_=>B
end
@[simp] noncomputable def HJ:Nat->T->Bool
 |_,.non=>L
 |_,.bl _=>L
 |_,.int _=>L
 |_,.str _=>L
 |n+1,.tup l=>l.all (HJ n)
 |n+1,.lst l=>l.all (HJ n)
 |_,_=>B
inductive Md where | fr | pu | bo
 deriving DecidableEq,Inhabited
@[simp] noncomputable def Md.join:Md->Md->Md
 |.bo,_=>.bo
 |_,.bo=>.bo
 |.pu,_=>.pu
 |_,.pu=>.pu
 |.fr,.fr=>.fr
inductive Cell where | pu (t:T) | ow (t:T)
 deriving Inhabited
abbrev Vf:=Option Cell
noncomputable abbrev Env:=List (Vf)
noncomputable abbrev Val:=Md×T
abbrev V0:=Option Val
abbrev Va:=List Val
noncomputable abbrev Ex:=Env->V0
noncomputable abbrev GY:=Env->Option (Va)
@[simp] noncomputable def up(m:Md)(t:T):Val:=(if Gu t then .fr else m,t)
@[simp] noncomputable def m8:T->Bool
 |.lst _=>L
 |.dct _ _=>L
 |.obj _ _=>L
 |_=>B
@[simp] noncomputable def cellOf:Val->Vf
 | (.fr,t)=>Y (if m8 t then .ow t else .pu t)
 | (.pu,t)=>Y (.pu t)
 | (.bo,_)=>O
inductive Out where | nx (U:Env) | rt (v:Val) (U:Env) | bk (U:Env) | ct (U:Env)
noncomputable abbrev Sx:=Env->Option Out
@[simp] noncomputable def eC(t:T)(_:Env):V0:=Y (.fr,t)
noncomputable abbrev Q3(i:Int):Ex:=eC (.int i)
@[simp] noncomputable def aa(i:Nat)(U:Env):V0:=match U[i]? with
 |some (some (.pu t))=>Y (up .pu t)
 |some (some (.ow t))=>Y (.bo,t)
 |_=>O
@[simp] noncomputable def e1(f:Val->V0)(a:Ex)(U:Env):V0:=(a U).bind f
@[simp] noncomputable def e2(f:Val->Val->V0)(a b:Ex)(U:Env):V0:=(a U).bind λx=>(b U).bind λy=>f x y
@[simp] noncomputable def ak(_:Env):Option (Va):=Y []
@[simp] noncomputable def ab(a:Ex)(r:GY)(U:Env):Option (Va):=(a U).bind λx=>(r U).bind λxs=>Y (x :: xs)
@[simp] noncomputable def eN(f:Va->V0)(a:GY)(U:Env):V0:=(a U).bind f
@[simp] noncomputable def cn:Va->Md
 |[]=>.fr
 |v :: r=>v.1.join (cn r)
@[simp] noncomputable def trees(l:Va):V1:=l.map (·.2)
noncomputable def Ji(m:Md)(l:V1):V0:=if l.length<=dJ then Y (if dm l then .fr else m,.lst l) else O
@[simp] noncomputable def eX(a:GY)(U:Env):V0:=(a U).bind λl=>Ji (cn l) (trees l)
noncomputable def qI(l:Va):V0:=if l.length<=dJ then Y (up (cn l) (.tup (trees l))) else O
@[simp] noncomputable def nH(a:GY)(U:Env):V0:=(a U).bind qI
noncomputable def dput(l:List (T×T))(k v:T):List (T×T):=if l.any (λp=>eqT p.1 k) then l.map (λp=>if eqT p.1 k then (p.1,v) else p) else l++[(k,v)]
noncomputable def iz:T->Bool
 |.int _=>L
 |.str _=>L
 |_=>B
noncomputable def keyOk:Nat->T->Bool
 |0,t=>iz t
 |1,.tup l=>l.all iz
 |_,_=>B
noncomputable def pairs:List (Ex×Ex)->Env->Option (List (Val×Val))
 |[],_=>Y []
 | (a,b) :: r,U=>(a U).bind λx=>(b U).bind λy=>(pairs r U).map ((x,y) :: ·)
noncomputable def qR(a:Nat)(b:List (Ex×Ex))(U:Env):V0:=(pairs b U).bind λl=>if l.all (λp=>keyOk a p.1.2)/\l.length<=15 then
 Y (cn (l.map (·.2)),.dct a (l.foldl (λd p=>dput d p.1.2 p.2.2) [])) else O
@[simp] noncomputable def KW:T->Option Bool
 |.bl b=>Y b
 |.int i=>Y (i != 0)
 |.str s=>Y (!s.isEmpty)
 |.lst l=>Y (!l.isEmpty)
 |.tup l=>Y (!l.isEmpty)
 |.dct 0 l=>Y (!l.isEmpty)
 |.non=>Y B
 |_=>O
@[simp] noncomputable def j5(a b:Ex)(U:Env):V0:=(a U).bind λx=>match x.2 with
 |.bl true=>b U
 |.bl false=>Y (.fr,.bl B)
 |_=>O
@[simp] noncomputable def MW(a b:Ex)(U:Env):V0:=(a U).bind λx=>match x.2 with
 |.bl true=>Y (.fr,.bl L)
 |.bl false=>b U
 |_=>O
@[simp] noncomputable def wa(a:Ex)(U:Env):V0:=(a U).bind λx=>match x.2 with
 |.bl b=>Y (.fr,.bl (!b))
 |_=>O
@[simp] noncomputable def Nh:T->Bool
 |.non=>L
 |_=>B
@[simp] noncomputable def Be(a:Ex)(U:Env):V0:=(a U).bind λx=>Y (.fr,.bl (Nh x.2))
@[simp] noncomputable def gF(a:Ex)(U:Env):V0:=(a U).bind λx=>Y (.fr,.bl (!Nh x.2))
@[simp] noncomputable def g6(f g:Val->Val->V0)(a b c:Ex)(U:Env):V0:=(a U).bind λx=>(b U).bind λy=>(f x y).bind λr=>match r.2 with
 |.bl true=>(c U).bind λz=>g y z
 |.bl false=>Y (.fr,.bl B)
 |_=>O
@[simp] noncomputable def int?:T->Option Int
 |.int i=>Y i
 |_=>O
noncomputable def ba:Val->Val->V0
 | (_,.int i),(_,.int j)=>Y (.fr,.int (i+j))
 | (_,.str s),(_,.str t)=>if s.length+t.length<=dJ then Y (.fr,.str (s++t)) else O
 | (m,.lst s),(n,.lst t)=>Ji (m.join n) (s++t)
 |_,_=>O
@[simp] noncomputable def qQ:Val->Val->V0
 | (_,.int i),(_,.int j)=>Y (.fr,.int (i-j))
 |_,_=>O
noncomputable def M8:Int:=4611686018427387904
noncomputable def O4:Int:=18446744073709551616
noncomputable def fg:Val->Val->V0
 | (_,.int i),(_,.int j)=>if (-O4<i/\i<O4)\/(-O4<j/\j<O4) then Y (.fr,.int (i*j)) else O
 |_,_=>O
noncomputable def vg:Val->Val->V0
 | (_,.str s),(_,.int j)=>if s.length*j.toNat<=dJ/\-M8<=j/\j<M8 then Y (.fr,.str (List.replicate j.toNat s).flatten) else O
 |_,_=>O
noncomputable def jo:Val->Val->V0
 | (_,.int i),(_,.int j)=>if 0<j/\j<1073741824 then Y (.fr,.int (i/j)) else O
 |_,_=>O
noncomputable def oMod:Val->Val->V0
 | (_,.int i),(_,.int j)=>if 0<j then Y (.fr,.int (i%j)) else O
 |_,_=>O
noncomputable def La:Tx->Tx->Bool
 |[],[]=>B
 |[],_ :: _=>L
 |_ :: _,[]=>B
 |a :: d,b :: bs=>if a<b then L else if b<a then B else La d bs
@[simp] noncomputable def oLt:Val->Val->V0
 | (_,.int i),(_,.int j)=>Y (.fr,.bl (decide (i<j)))
 | (_,.str s),(_,.str t)=>Y (.fr,.bl (La s t))
 |_,_=>O
@[simp] noncomputable def Lu(a b:Val):V0:=oLt b a
@[simp] noncomputable def oEq(a b:Val):V0:=if HJ 60 a.2/\HJ 60 b.2 then Y (.fr,.bl (eqT a.2 b.2)) else O
@[simp] noncomputable def K8(a b:Val):V0:=if HJ 60 a.2/\HJ 60 b.2 then Y (.fr,.bl (!eqT a.2 b.2)) else O
noncomputable def eT(l:List (T×T))(k:T):Option T:=(l.find? λp=>eqT p.1 k).map (·.2)
noncomputable def Hf(n:Nat)(i:Int):Option Nat:=if 0<=i then (if i<n then Y i.toNat else O) else (if 0<=i+n then Y (i+n).toNat else O)
@[simp] noncomputable def sub(m:Md)(t:T):Val:=up m t
@[simp] noncomputable def aH:Val->Val->V0
 | (m,.lst l),(_,.int i)=>(Hf l.length i).bind λk=>(l[k]?).map (sub m)
 | (m,.tup l),(_,.int i)=>(Hf l.length i).bind λk=>(l[k]?).map (sub m)
 | (_,.scr l),(_,.int i)=>(Hf l.length i).bind λk=>(l[k]?).map λn=>(.fr,.int n)
 | (_,.str l),(_,.int i)=>(Hf l.length i).bind λk=>(l[k]?).map λn=>(.fr,.str [n])
 |_,_=>O
noncomputable def clip(n:Nat)(i:Int):Nat:=if i<0 then (i+n).toNat else min i.toNat n
noncomputable def cut{α:Type}(l:List α)(a b:Option Int):List α :=
 let lo:=match a with | none=>0 | some i=>clip l.length i
 let d:=match b with | none=>l.length | some i=>clip l.length i
 (l.drop lo).take (d-lo)
@[simp] noncomputable def Su(v:Val)(a b:Option Int):V0:=match v with
 | (_,.str s)=>Y (.fr,.str (cut s a b))
 | (m,.lst l)=>Ji m (cut l a b)
 |_=>O
@[simp] noncomputable def rG(c:Option Ex)(U:Env):Option (Option Int):=match c with
 |none=>Y O
 |some e=>(e U).bind λy=>(int? y.2).map Y
@[simp] noncomputable def KI(a:Ex)(b d:Option Ex)(U:Env):V0:=(a U).bind λx=>(rG b U).bind λl=>(rG d U).bind λh=>Su x l h
@[simp] noncomputable def FT:T->Option Nat
 |.lst l=>Y l.length
 |.tup l=>Y l.length
 |.str l=>Y l.length
 |.scr l=>Y l.length
 |.dct 0 l=>Y l.length
 |_=>O
@[simp] noncomputable def cA:Va->V0
 |[x]=>(FT x.2).map λn=>(.fr,.int n)
 |_=>O
noncomputable def mF:V1->Option (Vr)
 |[]=>Y []
 |.int i :: r=>(mF r).map (i :: ·)
 |_=>O
noncomputable def strs?:V1->Option (List Tx)
 |[]=>Y []
 |.str i :: r=>(strs? r).map (i :: ·)
 |_=>O
noncomputable def yw:Va->V0
 |[(_,.lst l)]=>(mF l).bind λa=>Y (.fr,.int a.sum)
 |_=>O
@[simp] noncomputable def BJ:Va->V0
 |[(m,.lst l)]=>Ji m l
 |[(m,.tup l)]=>Ji m l
 |_=>O
noncomputable def jQ:Va->V0
 |[(m,.lst l)]=>if l.length<=dJ then Y (up m (.tup l)) else O
 |_=>O
noncomputable def nr(x:Tx):List Tx->List Tx
 |[]=>[x]
 |y :: r=>if La y x then y :: nr x r else x :: y :: r
noncomputable def cK(l:List Tx):List Tx:=l.foldr nr []
noncomputable def dedup:List Tx->List Tx
 |[]=>[]
 |x :: r=>x :: (dedup r).filter (· ≠ x)
inductive Ty where | int | str | bool | list | tuple | dict
@[simp] noncomputable def rC:Ty->T->Bool
 |.int,.int _=>L
 |.int,.bl _=>L
 |.bool,.bl _=>L
 |.str,.str _=>L
 |.list,.lst _=>L
 |.tuple,.tup _=>L
 |.dict,.dct _ _=>L
 |_,_=>B
@[simp] noncomputable def uM:T->Bool
 |.obj _ _=>B
 |.scr _=>B
 |.dct 0 _=>L
 |.dct 1 _=>L
 |.dct _ _=>B
 |_=>L
@[simp] noncomputable def OG(t:Ty)(a:Ex)(U:Env):V0:=(a U).bind λx=>if uM x.2 then Y (.fr,.bl (rC t x.2)) else O
noncomputable def total:List Tx->Nat
 |[]=>0
 |x :: r=>x.length+total r
noncomputable def c6(a:Tx):List Tx->Tx
 |[]=>[]
 |[x]=>x
 |x :: r=>x++a++c6 a r
noncomputable def iq:Val->Va->V0
 | (_,.str sep),[(_,.lst l)]=>(strs? l).bind λa=>if total a+a.length*sep.length<=dJ then Y (.fr,.str (c6 sep a)) else O
 |_,_=>O
@[simp] noncomputable def eM(f:Val->Va->V0)(o:Ex)(b:GY)(U:Env):V0:=(o U).bind λx=>(b U).bind λa=>f x a
noncomputable abbrev Fn:=V1->V0
@[simp] noncomputable def b6(g:Fn)(b:GY)(U:Env):V0:=(b U).bind λa=>(g (trees a)).bind λr=>match r with
 | (.fr,t)=>Y (.fr,t)
 | (_,t)=>Y ((Md.pu).join (cn a),t)
noncomputable abbrev Jb:=Env->Option (Md×V1)
@[simp] noncomputable def C2:Val->Option (Md×V1)
 | (m,.lst l)=>Y (m,l)
 | (m,.tup l)=>Y (m,l)
 | (_,.str l)=>Y (.fr,l.map λc=>.str [c])
 |_=>O
@[simp] noncomputable def eU(a:Ex)(U:Env):Option (Md×V1):=(a U).bind C2
noncomputable def rng(a:Int)(n:Nat):V1:=(List.range n).map λ(k:Nat)=>T.int (a+k)
noncomputable def cH(a:Ex)(U:Env):Option (Md×V1):=(a U).bind λx=>(int? x.2).bind λj=>if -M8<=j/\j<M8 then Y (.fr,rng 0 j.toNat) else O
noncomputable abbrev Tg:=T->Env->Option Env
@[simp] noncomputable def bF(i:Nat)(t:T)(U:Env):Option Env:=if i<U.length then Y (U.set i (Y (.pu t))) else O
@[simp] noncomputable def Ph(m:Md)(l:V1):Bool:=match m with
 |.bo=>dm l
 |_=>L
noncomputable def js(e:Tg)(a:Option Ex)(d:Ex)(U:Env):V1->Option (Va)
 |[]=>Y []
 |t :: r=>(e t U).bind λf=>(match a with | none=>some true | some c=>(c f).bind λx=>KW x.2).bind λb =>
  if b then (d f).bind λv=>(js e a d U r).map (v :: ·) else js e a d U r
noncomputable def cY(k:Nat)(e:Tg)(f:Jb)(a:Option Ex)(b:Ex)(U:Env):V0:=(f U).bind λ(m,l)=>if Ph m l then
 (js e a b (List.replicate k O++U) l).bind λd=>Ji (cn d) (trees d) else O
@[simp] noncomputable def cT(U:Env):Option Out:=Y (.nx U)
@[simp] noncomputable def aq(a b:Sx)(U:Env):Option Out:=(a U).bind λo=>match o with
 |.nx d=>b d
 |o=>Y o
@[simp] noncomputable def iC(i:Nat)(e:Ex)(U:Env):Option Out:=(e U).bind λv=>(cellOf v).bind λc=>if i<U.length then Y (.nx (U.set i (Y c))) else O
@[simp] noncomputable def aQ(i:Nat)(e:Ex)(U:Env):Option Out:=(e U).bind λv=>match v.1 with
 |.bo=>O
 |_=>if i<U.length then Y (.nx (U.set i (Y (.pu v.2)))) else O
@[simp] noncomputable def eW(e:Ex)(U:Env):Option Out:=(e U).bind λv=>Y (.rt (match v.1 with | .bo=>.pu | m=>m,v.2) U)
@[simp] noncomputable def eY(i:Nat)(U:Env):Option Out:=match U[i]? with
 |some (some (.ow t))=>Y (.rt (.fr,t) (U.set i O))
 |some (some (.pu t))=>Y (.rt (up .pu t) U)
 |_=>O
@[simp] noncomputable def Hb(c:Ex)(a b:Sx)(U:Env):Option Out:=(c U).bind λx=>(KW x.2).bind λt=>if t then a U else b U
noncomputable def forL(d:Tg)(a:Sx):V1->Env->Option Out
 |[],U=>Y (.nx U)
 |t :: r,U=>(d t U).bind λe=>(a e).bind λo=>match o with
  |.nx b=>forL d a r b
  |.ct b=>forL d a r b
  |.bk b=>Y (.nx b)
  |.rt v b=>Y (.rt v b)
@[simp] noncomputable def Sr:Md->Bool
 |.bo=>B
 |_=>L
@[simp] noncomputable def ig(b:Tg)(d:Jb)(a:Sx)(U:Env):Option Out:=(d U).bind λ(m,l)=>if Sr m then forL b a l U else O
noncomputable def dq(c:Ex)(a:Sx):Nat->Env->Option Out
 |0,_=>O
 |n+1,U=>(c U).bind λx=>(KW x.2).bind λt=>if t then (a U).bind λo=>match o with
  |.nx b=>dq c a n b
  |.ct b=>dq c a n b
  |.bk b=>Y (.nx b)
  |.rt v b=>Y (.rt v b)
  else Y (.nx U)
noncomputable def vy:Nat:=1000000
noncomputable def kI(c:Ex)(a:Sx)(U:Env):Option Out:=dq c a vy U
@[simp] noncomputable def om(i:Nat)(U:Env):Option Out:=match U[i]? with
 |some (some (.ow t))=>Y (.nx (U.set i (Y (.pu t))))
 |some (some (.pu _))=>Y (.nx U)
 |_=>O
inductive Ja where | fld (k:Nat) | ix (e:Ex) | un
inductive Ky where | fld (k:Nat) | at (t:T) | un
@[simp] noncomputable def keys:List Ja->Env->Option (List Ky)
 |[],_=>Y []
 |.fld k :: r,U=>(keys r U).map (.fld k :: ·)
 |.ix e :: r,U=>(e U).bind λx=>(keys r U).map (.at x.2 :: ·)
 |.un :: r,U=>(keys r U).map (.un :: ·)
noncomputable def Gi(a:List (Nat×T))(k:Nat):Option T:=a.lookup k
noncomputable def FU(a:List (Nat×T))(k:Nat)(v:T):List (Nat×T):=if a.any (λp=>p.1==k) then a.map (λp=>if p.1==k then (p.1,v) else p) else a++[(k,v)]
@[simp] noncomputable def yf{α:Type}(f:T->Option (T×α)):List Ky->T->Option (T×α)
 |[],t=>f t
 |.fld k :: r,.obj c fs=>(Gi fs k).bind λx=>(yf f r x).map λ(y,a)=>(.obj c (FU fs k y),a)
 |.at (.int i) :: r,.lst l=>(Hf l.length i).bind λj=>(l[j]?).bind λx=>(yf f r x).map λ(y,a)=>(.lst (l.set j y),a)
 |.at k :: r,.dct d l=>(eT l k).bind λx=>(yf f r x).map λ(y,a)=>(.dct d (dput l k y),a)
 |_,_=>O
noncomputable abbrev Xx:=Env->Option (Val×Env)
@[simp] noncomputable def kH(i:Nat)(a:List Ja)(f:T->Va->Option (T×Val))(g:GY)(U:Env):Option (Val×Env):=match U[i]? with
 |some (some (.ow t))=>(keys a U).bind λe=>(g U).bind λb=>(yf (λx=>f x b) e t).map λ(d,v)=>(v,U.set i (Y (.ow d)))
 |_=>O
@[simp] noncomputable def fit(v:Val):Option T:=match v.1 with
 |.fr=>Y v.2
 |_=>O
noncomputable def aT:T->Va->Option (T×Val)
 |.lst l,[v]=>(fit v).bind λt=>if l.length<dJ then Y (.lst (l++[t]),(.fr,.non)) else O
 |_,_=>O
noncomputable def fj:T->Va->Option (T×Val)
 |.lst l,[v]=>(fit v).bind λt=>match t with
  |.lst r=>if l.length+r.length<=dJ then Y (.lst (l++r),(.fr,.non)) else O
  |_=>O
 |_,_=>O
@[simp] noncomputable def sX(x:Xx)(U:Env):Option Out:=(x U).map λr=>.nx r.2
@[simp] noncomputable def fn(d e:Nat)(a:Sx):Fn:=λb=>if b.length=d then
 (a (b.map (λt=>Y (.pu t))++List.replicate (e-d) O)).bind λo=>match o with
  |.rt v _=>Y v
  |.nx _=>Y (.fr,.non)
  |_=>O else O
def jZ{m n:Md}{s t:Tx}(h:s.length+t.length<=16777216):ba (m,.str s) (n,.str t)=Y (.fr,.str (s++t)):=Zo h
def jL{m n:Md}{i j:Int}(h:-18446744073709551616<i/\i<18446744073709551616):fg (m,.int i) (n,.int j)=Y (.fr,.int (i*j)):=Zo (.inl h)
def j6{m n:Md}{i j:Int}(h:0<j/\j<1073741824):jo (m,.int i) (n,.int j)=Y (.fr,.int (i/j)):=Zo h
def fh{m n:Md}{i j:Int}(h:0<j):oMod (m,.int i) (n,.int j)=Y (.fr,.int (i%j)):=Zo h
def fK{l:V1}{t:T}(h:l.length<16777216):aT (.lst l) [(.fr,t)]=Y (.lst (l++[t]),(.fr,.non)):=by
 simp only[aT,fit,Zs];exact Zo h
def tY{l r:V1}(h:l.length+r.length<=16777216):fj (.lst l) [(.fr,.lst r)]=Y (.lst (l++r),(.fr,.non)):=by
 simp only[fj,fit,Zs];exact Zo h
def fC{a:Ex}{U:Env}{m:Md}{j:Int}(e:a U=Y (m,.int j))(h:-4611686018427387904<=j/\j<4611686018427387904):cH a U=Y (.fr,rng 0 j.toNat):=by
 simp only[cH,e,Zs,int?];exact Zo h
def sy{m:Md}{l:V1}(h:l.length<=16777216):Ji m l=Y (if dm l then .fr else m,.lst l):=Zo h
def fR{b:Tg}{a:Sx}{t:T}{r:V1}{U U1 d:Env}(f:b t U=Y U1)(e:a U1=Y (.nx d)):forL b a (t :: r) U=forL b a r d:=by
 simp[forL,f,e]
def Ai{b:Tg}{a:Sx}{t:T}{r:V1}{U e d:Env}{v:Val}(g:b t U=Y e)(f:a e=Y (.rt v d)):forL b a (t :: r) U=Y (.rt v d):=by
 simp[forL,g,f]
theorem strs_map{α:Type}(f:α->Tx):∀l:List α,strs? (l.map λx=>T.str (f x))=Y (l.map f)
 |[]=>rfl
 |a :: r=>by simp[strs?,strs_map f r]
theorem ints_map{α:Type}(f:α->Int):∀l:List α,mF (l.map λx=>T.int (f x))=Y (l.map f)
 |[]=>rfl
 |a :: r=>by simp[mF,ints_map f r]
theorem mf:∀a:List Tx,c6 [] a=a.flatten
 |[]=>rfl
 |[x]=>by simp[c6]
 |x :: y :: r=>by
  have:=mf (y :: r);simp[c6]at this ⊢;exact this
theorem mH:∀a:List Tx,total a=a.flatten.length
 |[]=>rfl
 |x :: r=>by simp[total,mH r]
def kX{m n:Md}{l:V1}{a:List Tx}(e:strs? l=Y a)(b:a.flatten.length<=16777216):iq (m,.str []) [(n,.lst l)]=Y (.fr,.str a.flatten):=by
 simp only[iq,Zs,e,mf];refine Zo ?_;rw[mH];show _<=16777216;simpa using b
def cR{α:Type}(l:List α):(l.map λx=>[x]).flatten=l:=by
 induction l with
 |nil=>rfl
 |cons a r b=>rw[Ze,ZE,b];rfl
def iZ(n:Nat):rng 0 n=(List.range n).map λ(k:Nat)=>T.int (k:Int):=by
 unfold rng;simp
theorem jT{α:Type}(f:α->T)(h:∀x,Gu (f x)=L):∀l:List α,dm (l.map f)=L
 |[]=>rfl
 |a :: r=>by simp[h,jT f h r]
theorem oA{α:Type}{i:Tg}{d:Ex}{U:Env}(g:α->T)(f:α->Val):∀l:List α,(∀a∈l,∃e,i (g a) U=Y e/\d e=Y (f a))->js i O d U (l.map g)=Y (l.map f)
 |[],_=>rfl
 |a :: r,h=>by
  obtain⟨e,m,j⟩:=h a Zu;simp[js,m,j,oA g f r λb hb=>h b (Zv _ hb)]
theorem ki{α:Type}{j:Tg}{c d:Ex}{U:Env}(g:α->T)(p:α->Bool)(f:α->Val):∀l:List α,(∀a∈l,∃i x,j (g a) U=Y i/\c i=Y x/\KW x.2=Y (p a)/\(p a=L->d i=Y (f a))) →
  js j (Y c) d U (l.map g)=Y ((l.filter p).map f)
 |[],_=>rfl
 |a :: r,h=>by
  obtain⟨i,x,q,o,n,s⟩:=h a Zu;have m:=ki (c:=c) g p f r λb hb=>h b (Zv _ hb);cases e:p a with
  |true=>simp[-KW,js,q,o,n,e,s e,m]
  |false=>simp[-KW,js,q,o,n,e,m]
theorem mO{α:Type}(f:α->T):∀l:List α,cn (l.map λa=>(Md.fr,f a))=.fr
 |[]=>rfl
 |a :: r=>by simp[mO f r]
def oE{α:Type}(f:α->Val)(l:List α):trees (l.map f)=l.map λa=>(f a).2:=by simp
def gH{α:Type}{k:Nat}{tg:Tg}{it:Jb}{elt:Ex}{U:Env}{m:Md}(g:α->T)(f:α->T)(l:List α)(i:it U=Y (m,l.map g))(e:Ph m (l.map g)=L)(d:l.length<=16777216)(h:∀a∈l,∃b,tg (g a) (List.replicate k O++U)=Y b/\elt b=Y (.fr,f a)):cY k tg it O elt U=Y (.fr,.lst (l.map f)):=by
 simp only[cY,i,Zs];rw[Zo e,oA g (λa=>(Md.fr,f a)) l h];simp only[Zs,mO,oE];rw[sy (by rw[Zt];exact d)];simp
def kz{α:Type}{k:Nat}{tg:Tg}{it:Jb}{c elt:Ex}{U:Env}{m:Md}(g:α->T)(p:α->Bool)(f:α->T)(l:List α)(i:it U=Y (m,l.map g))(e:Ph m (l.map g)=L)(d:l.length<=16777216)(h:∀a∈l,∃b x,tg (g a) (List.replicate k O++U)=Y b/\c b=Y x/\KW x.2=Y (p a)/\(p a=L->elt b=Y (.fr,f a))):cY k tg it (Y c) elt U=Y (.fr,.lst ((l.filter p).map f)):=by
 simp only[cY,i,Zs];rw[Zo e,ki g p (λa=>(Md.fr,f a)) l h];simp only[Zs,mO,oE];rw[sy (by rw[Zt];exact ZA (X6 _ _) d)];simp
end VS
end
section
namespace L2
open PySem PySem.Spec PyProof.Rows
noncomputable abbrev Key:=Sum Int Str
noncomputable def lB:Key->KM->Bool
 |.inl k,v=>Value.isInt k v
 |.inr x,v=>Value.isStrOf x v
noncomputable def Ea(w:XAA):Key->Int
 |.inl k=>hashInt k
 |.inr x=>hashStr w x
theorem bI:∀{k:Key}{v:KM},lB k v=L->(∃i t,k=Sum.inl i/\v=Value.int i t)\/(∃x t,k=Sum.inr x/\v=Value.str x t)
 |.inl i,v,h=>by
  obtain⟨t,e⟩:=Value.isInt_shape (k:=i) (v:=v) h;exact .inl ⟨i,t,rfl,e⟩
 |.inr x,v,h=>by
  obtain⟨t,e⟩:=Ve (x:=x) (v:=v) h;exact .inr ⟨x,t,rfl,e⟩
def vO(i:Int)(t:Tok):lB (.inl i) (.int i t)=L:=by simp[lB,Value.isInt]
def wc(x:Str)(t:Tok):lB (.inr x) (.str x t)=L:=by simp[lB,Value.isStrOf]
def CO(a b:Int):decide ((Sum.inl a:Key)=Sum.inl b)=(a==b):=by
 by_cases e:a=b
 ·subst e;simp
 ·have h:¬(Sum.inl a:Key)=Sum.inl b:=λq=>e (Sum.inl.inj q);rw[ZR h];exact(IJ.mpr e).symm
def CL(a b:Str):decide ((Sum.inr a:Key)=Sum.inr b)=decide (a=b):=by
 by_cases e:a=b
 ·subst e;simp
 ·have h:¬(Sum.inr a:Key)=Sum.inr b:=λq=>e (Sum.inr.inj q);rw[ZR h,ZR e]
def DQ(a:Int)(b:Str):decide ((Sum.inl a:Key)=Sum.inr b)=B:=ZR (λq=>nomatch q)
def Ce(a:Str)(b:Int):decide ((Sum.inr a:Key)=Sum.inl b)=B:=ZR (λq=>nomatch q)
noncomputable def aN(d:P3)(w:XAA):PySem.KeyKind d w Key where
 is:=lB
 hash:=Ea w
 inj:=λv a b l hb=>by
  rcases bI l with⟨i,t,rfl,rfl⟩ | ⟨x,t,rfl,rfl⟩
  ·rcases bI hb with⟨j,u,rfl,e⟩ | ⟨y,u,rfl,e⟩
   ·injection e with e1 _;rw[e1]
   ·exact nomatch e
  ·rcases bI hb with⟨j,u,rfl,e⟩ | ⟨y,u,rfl,e⟩
   ·exact nomatch e
   ·injection e with e1 _;rw[e1]
 byValue:=λk v h=>by
  rcases bI h with⟨i,t,rfl,rfl⟩ | ⟨x,t,rfl,rfl⟩<;>rfl
 pyHash:=λf h=>by
  rcases bI f with⟨i,t,rfl,rfl⟩ | ⟨x,t,rfl,rfl⟩
  ·exact wpAny_pyHash_int h
  ·exact wpAny_pyHash_str h
 eqBool:=λg f h=>by
  rcases bI g with⟨i,t,rfl,rfl⟩ | ⟨x,t,rfl,rfl⟩
  ·rcases bI f with⟨j,u,rfl,rfl⟩ | ⟨y,u,rfl,rfl⟩
   ·rw[CO]at h;exact wpAny_eqBool_int h
   ·rw[DQ]at h;exact SeqAt.EqAt.int_str i t y u _ _ _ _ h
  ·rcases bI f with⟨j,u,rfl,rfl⟩ | ⟨y,u,rfl,rfl⟩
   ·rw[Ce]at h;exact SeqAt.EqAt.str_int x t j u _ _ _ _ h
   ·rw[CL]at h;exact wpAny_eqBool_str h
 «strs» := λk x t v h=>by
  rcases bI h with⟨i,u,rfl,e⟩ | ⟨y,u,rfl,e⟩
  ·exact nomatch e
  ·injection e with e1 _
   subst e1;cases v<;>rfl
def qJ(a:P3)(w:XAA)(i:Int)(t:Tok):(aN a w).is (.inl i) (.int i t)=L:=vO i t
def rJ(a:P3)(w:XAA)(x:Str)(t:Tok):(aN a w).is (.inr x) (.str x t)=L:=wc x t
inductive V where
 |non | bl (b:Bool) | int (i:Int) | str (x:Str) | byt (b:Array UInt8) | flt (b:UInt64) | ref (a:KF) | ty (n:String)
 deriving DecidableEq
noncomputable def RelV:V->KM->Prop
 |.non,u=>u=Value.none
 |.bl b,u=>u=Value.bool b
 |.int i,u=>∃t,u=Value.int i t
 |.str x,u=>∃t,u=Value.str x t
 |.byt b,u=>∃t,u=Value.bytes b t
 |.flt b,u=>∃t,u=Value.float b t
 |.ref a,u=>u=Value.ref a
 |.ty n,u=>u=Value.type n
noncomputable abbrev aP:List V->Vy->Prop:=Paired RelV
theorem aP.length{xs:List V}{a:Vy}(r:aP xs a):xs.length=a.length:=XC r
theorem aP.get:∀{a:List V}{b:Vy}{i:Nat}{x:V},aP a b->a[i]?=Y x->∃u,b[i]?=Y u/\RelV x u
 |_,_,_,_,.nil,e=>by simp at e
 |_,_,0,_,.cons r _,e=>by simp at e;subst e;exact⟨_,rfl,r⟩
 |_,_,i+1,x,.cons _ t,e=>by
  obtain⟨u,f,d⟩:=aP.get (i:=i) (x:=x) t (by simpa using e);exact⟨u,by simpa using f,d⟩
theorem aP.set{x:V}{u:KM}(r:RelV x u):∀{a:List V}{b:Vy}(i:Nat),aP a b->aP (a.set i x) (b.set i u)
 |_,_,_,.nil=>.nil
 |_,_,0,.cons _ t=>.cons r t
 |_,_,i+1,.cons q t=>.cons q (aP.set r i t)
theorem aP.append:∀{b a:List V}{d ws:Vy},aP b d->aP a ws->aP (b++a) (d++ws)
 |_,_,_,_,.nil,s=>s
 |_,_,_,_,.cons r t,s=>.cons r (aP.append t s)
theorem aP.take:∀{a:List V}{b:Vy}(n:Nat),aP a b->aP (a.take n) (b.take n)
 |_,_,0,_=>.nil
 |_,_,_+1,.nil=>.nil
 |_,_,n+1,.cons r t=>.cons r (aP.take n t)
theorem aP.drop:∀{a:List V}{b:Vy}(n:Nat),aP a b->aP (a.drop n) (b.drop n)
 |_,_,0,r=>r
 |_,_,_+1,.nil=>.nil
 |_,_,n+1,.cons _ t=>aP.drop n t
def aP.none_of:∀{a:List V}{b:Vy}{i:Nat},aP a b->a[i]?=O->b[i]?=O:=λ{a b i} r e=>by
 have f:=r.length;have d:a.length<=i:=YU.mp e;exact YU.mpr (by lia)
noncomputable def iA:Option V->Vx->Prop
 |some v,some u=>RelV v u
 |none,none=>True
 |_,_=>False
noncomputable def KV{κ:Type}:List (κ×V)->List (κ×KM)->Prop:=Paired λ(p:κ×V) (q:κ×KM)=>p.1=q.1/\RelV p.2 q.2
noncomputable def kV:Key->V
 |.inl i=>.int i
 |.inr x=>.str x
inductive HO where
 |lst (xs:List V)
 |tup (xs:List V)
 |dK (gV:List (Key×V)) | dT (gV:List (List Key×V))
 |set (S:Int->Bool) (n:Nat)
 |ins (C dx:KF) (fs:List (Str×V))
 |own (x:KF)
 |xd (fs:List (Str×V))
 |met (f x:KF)
 |rng (lo hi:Int)
 |frz (o:Obj) (u:HO)
 |tbl (ps:Array KM)
 |ext (φ:XAA->UV->Prop)
noncomputable abbrev Hp:=KF->Option HO
noncomputable def upd(H:Hp)(a:KF)(o:HO):Hp:=λb=>if b=a then Y o else H b
def aw{H:Hp}{a:KF}{o:HO}:upd H a o a=Y o:=by unfold upd;rw[Zo M]
def aF{H:Hp}{a b:KF}{o:HO}(h:b≠a):upd H a o b=H b:=by unfold upd;rw[Zm h]
def A9{H:Hp}{a:KF}{o u:HO}:upd (upd H a o) a u=upd H a u:=by
 funext b;unfold upd;split<;>rfl
def Fg{H:Hp}{a b:KF}{o u:HO}(h:H a=Y o)(f:H b=Y u)(d:o≠u):a≠b:=by
 intro e;subst e;rw[h]at f;exact d (Zj f)
def dX{H:Hp}{a b:KF}{o:HO}(h:H a=Y o)(d:H b=O):a≠b:=by
 intro e;subst e;rw[h]at d;cases d
noncomputable def Mc(h:UV)(a:KF):Prop:=∀o,h.get? a=Y o->o.dict=O
def Mc.new(h:UV)(a:Array KM):Mc (h.push { cls:=.type "tuple",data:=.seq a }) h.objs.size:=λo e=>by
 rw[ZY _ M]at e;cases e;rfl
def Mc.of{h:UV}{a:KF}{o:Obj}(e:h.get? a=Y o)(d:o.dict=O):Mc h a:=λf b=>by
 rw[e]at b;cases b;exact d
section
variable(P:P3)(w:XAA)
noncomputable def bx(H:Hp)(h:UV)(a:KF):HO->Prop
 |.lst b=>b.length<=KB/\∃(e:Vy)(n:Nat),aP b e/\h.get? a=Y { cls:=.type "list",data:=.seq e.toArray n }
 |.tup b=>b.length<=KB/\∃e:Vy,aP b e/\Mc h a/\IsTup h a e.toArray
 |.dK g=>g.length<=KB/\(a==sysModules)=B/\∃j,KV g j/\h.DictOf (aN P w) a j
 |.dT g=>g.length<=KB/\(a==sysModules)=B/\∃b:List (List Key×KF×KM),
   Paired (λ(p:List Key×V) (q:List Key×KF×KM)=>p.1=q.1/\H q.2.1=Y (.tup (p.1.map kV))/\RelV p.2 q.2.2) g b ∧
   ∃o r y,h.get? a=Y o/\o.ExactDict/\o.data=.dict r y/\r.toList=b.map (entryOfKey (tupleKind (aN P w)))/\(b.map (·.1)).Nodup
 |.set S n=>h.SetOf (intKind P w) a S n
 |.ins C i fs=>H i=Y (.own a)/\fs.length<=1000/\i≠a/\h.get? a=Y (PySem.W.instObj C i) ∧
   ∃d,h.Ns1 i d/\(∀f,iA (fs.lookup f) (d f))/\PySem.Within d (fs.map (·.1))
 |.own _=>∃o,h.get? a=Y o
 |.xd fs=>∃d,h.Ns1 a d/\∀f,iA (fs.lookup f) (d f)
 |.rng lo s=>∃t u v,h.get? a=Y { cls:=.type "range",data:=.fields #[.int lo t,.int s u,.int 1 v] }
 |.frz o u=>h.get? a=Y o/\bx H h a u
 |.tbl ps=>h.get? a=Y { cls:=.none,data:=.fields ps }
 |.met f x=>h.get? a=Y (PySem.W.methodObj (.ref f) (.ref x))
 |.ext φ=>φ w h/\(∃o,h.get? a=Y o)/\∀m l:UV,φ w m->(∀o,m.get? a=Y o->l.get? a=Y o)->φ w l
noncomputable def Hj(H:Hp)(h:UV):Prop:=∀a o,H a=Y o->bx P w H h a o
end
section
variable{P:P3}{w:XAA}{H H':Hp}{h h':UV}{a:KF}{o:HO}
theorem bx.lt(x:bx P w H h a o):a<h.objs.size:=by
 cases o with
 |lst b=>obtain⟨_,_,_,_,e⟩:=x;exact ZS e
 |tup b=>obtain⟨_,_,_,_,p⟩:=x;exact p.lt
 |dK d=>obtain⟨_,_,_,_,o,_,_,e,_⟩:=x;exact ZS e
 |dT d=>obtain⟨_,_,_,_,o,_,_,e,_⟩:=x;exact ZS e
 |set S n=>obtain⟨o,_,_,_,e,_⟩:=x;exact ZS e
 |ins C i fs=>obtain⟨_,_,_,e,_⟩:=x;exact ZS e
 |own y=>obtain⟨_,e⟩:=x;exact ZS e
 |xd fs=>obtain⟨_,⟨_,_,_,e,_⟩,_⟩:=x;exact ZS e
 |rng lo g=>obtain⟨_,_,_,e⟩:=x;exact ZS e
 |frz ob u=>obtain⟨e,_⟩:=x;exact ZS e
 |tbl ps=>exact ZS (show h.get? a=Y _ from x)
 |met f y=>exact ZS (show h.get? a=Y _ from x)
 |ext φ=>obtain⟨_,⟨_,e⟩,_⟩:=x;exact ZS e
theorem Paired.Lw{α β:Type}{F G:α->β->Prop}:∀{e:List α}{d:List β},Paired F e d->(∀a b,F a b->G a b)->Paired G e d
 |_,_,.nil,_=>.nil
 |_,_,.cons r t,f=>.cons (f _ _ r) (Paired.Lw t f)
def bx.Kj(x:bx P w H h a o)(k:∀b u,(b=a\/H b=Y (.own a))->h.get? b=Y u->h'.get? b=Y u)(G:∀b,H b=Y (.own a)->H' b=Y (.own a))(F:∀b l,H b=Y (.tup l)->H' b=Y (.tup l)):bx P w H' h' a o:=by
 induction o with
 |lst l=>obtain⟨z,m,n,r,e⟩:=x;exact⟨z,m,n,r,k _ _ (.inl M) e⟩
 |tup l=>obtain⟨z,m,r,nd,g,e,c⟩:=x;exact⟨z,m,r,Mc.of (k _ _ (.inl M) e) (nd _ e),g,k _ _ (.inl M) e,c⟩
 |dK J=>obtain⟨z,y,D,r,g,i,j,e,c⟩:=x;exact⟨z,y,D,r,g,i,j,k _ _ (.inl M) e,c⟩
 |dT J =>
  obtain⟨z,y,l,r,g,i,j,e,c⟩:=x;exact⟨z,y,l,Paired.Lw r λp q z=>⟨z.1,F _ _ z.2.1,z.2.2⟩,g,i,j,k _ _ (.inl M) e,c⟩
 |set S n=>obtain⟨g,i,j,t,e,c⟩:=x;exact⟨g,i,j,t,k _ _ (.inl M) e,c⟩
 |ins C Q fs =>
  obtain⟨d,z,ne,e,A,⟨s,i,j,e2,c⟩,r⟩:=x;exact⟨G _ d,z,ne,k _ _ (.inl M) e,A,⟨s,i,j,k _ _ (.inr d) e2,c⟩,r⟩
 |own y=>obtain⟨g,e⟩:=x;exact⟨g,k _ _ (.inl M) e⟩
 |xd fs=>obtain⟨A,⟨s,i,j,e,c⟩,r⟩:=x;exact⟨A,⟨s,i,j,k _ _ (.inl M) e,c⟩,r⟩
 |rng lo N=>obtain⟨t,u,v,e⟩:=x;exact⟨t,u,v,k _ _ (.inl M) e⟩
 |frz g u E=>obtain⟨e,q⟩:=x;exact⟨k _ _ (.inl M) e,E q⟩
 |tbl ps =>
  have e:h.get? a=Y { cls:=.none,data:=.fields ps }:=x;show h'.get? a=Y { cls:=.none,data:=.fields ps };exact k a _ (.inl M) e
 |met f y =>
  have e:h.get? a=Y (PySem.W.methodObj (.ref f) (.ref y)):=x;show h'.get? a=Y (PySem.W.methodObj (.ref f) (.ref y));exact k a _ (.inl M) e
 |ext φ=>obtain⟨p,⟨o,e⟩,st⟩:=x;exact⟨st _ _ p λo q=>k _ _ (.inl M) q,⟨o,k _ _ (.inl M) e⟩,st⟩
theorem Hj.lt(x:Hj P w H h)(e:H a=Y o):a<h.objs.size:=(x a o e).lt
def Hj.fresh(x:Hj P w H h)(e:h.objs.size<=a):H a=O:=by
 cases q:H a with
 |none=>rfl
 |some u=>exact absurd (ZP (x.lt q) e) (YD _)
def Hj.kept(x:Hj P w H h)(k:∀b u,h.get? b=Y u->h'.get? b=Y u):Hj P w H h':=λa o e =>
 (x a o e).Kj (λb u _ q=>k b u q) (λ_ q=>q) λ_ _ q=>q
def Hj.laid(x:Hj P w H h)(k:∀b u,h.get? b=Y u->h'.get? b=Y u)(g:h.objs.size<=a)(d:bx P w (upd H a o) h' a o):Hj P w (upd H a o) h':=λb u e=>by
 have f:=x.fresh g;by_cases hb:b=a
 ·subst hb;rw[aw]at e;cases e;exact d
 ·rw[aF hb]at e;exact(x b u e).Kj (λc v _ q=>k c v q) (λc q=>by rw[aF (dX q f)];exact q) λc i q=>by rw[aF (dX q f)];exact q
end
noncomputable def Rd(H:Hp)(a:KF)(u:HO):Prop:=H a=Y u\/∃o,H a=Y (.frz o u)
def Rd.ok{P:P3}{w:XAA}{H:Hp}{h:UV}{a:KF}{u:HO}(r:Rd H a u)(x:Hj P w H h):bx P w H h a u:=by
 rcases r with r | ⟨o,r⟩
 ·exact x a u r
 ·obtain⟨_,q⟩:=x a _ r;exact q
noncomputable def Gw:Option HO->Prop
 |some (.lst _)=>True
 |some (.dK _)=>True
 |some (.dT _)=>True
 |some (.set _ _)=>True
 |some (.ins _ _ _)=>True
 |some (.ext _)=>True
 |_=>False
section
variable{P:P3}{w:XAA}{H:Hp}{h h':UV}{x e:KF}{o':HO}
def Hj.write(n:Hj P w H h)(d:Gw (H x))(l:e=x\/H e=Y (.own x))(k:∀b u,b≠e->h.get? b=Y u->h'.get? b=Y u)(s:∃u,h'.get? e=Y u)(i:bx P w (upd H x o') h' x o'):Hj P w (upd H x o') h':=λb u q=>by
 have m:∀c y,H c=Y (.own y)->c≠x:=λc y r z=>by subst z;rw[r]at d;exact d
 have p:∀c a,H c=Y (.tup a)->c≠x:=λc a r z=>by subst z;rw[r]at d;exact d
 by_cases hb:b=x
 ·subst hb;rw[aw]at q;cases q;exact i
 ·rw[aF hb]at q;by_cases g:b=e
  ·have j:H b=Y (.own x):=by
    rcases l with z | z
    ·exact absurd (g.trans z) hb
    ·rw[g];exact z
   rw[q]at j;cases j;obtain⟨v,o⟩:=s;exact⟨v,by rw[g];exact o⟩
  ·refine(n b u q).Kj (λc v f r=>k c v ?_ r) (λc r=>by rw[aF (m c b r)];exact r) λc a r=>by rw[aF (p c a r)];exact r
   rcases f with rfl | f
   ·exact g
   ·rintro rfl;rcases l with z | z
    ·exact m c b f z
    ·rw[f]at z;cases z;exact hb M
end
structure Un(fs ex:Wf)(H H':Hp)(h h':UV):Prop where
 keep:∀b o,h.get? b=some o->H b=none->b∉fs->b∉ex->h'.get? b=some o
 slot:∀b o,h.get? b=some o->H b=none->b∈fs->b∉ex->∃sl,h'.get? b=some { o with slots:=sl }
 free:∀b o,h.get? b=some o->H b=none->b∉ex->H' b=none
 there:∀b o,h.get? b=some o->b∉ex->∃o',h'.get? b=some o'
 IM:∀b xs,H b=some (.tup xs)->H' b=some (.tup xs)
 IC:∀b o u,H b=some (.frz o u)->H' b=some (.frz o u)
 IS:∀b ps,H b=some (.tbl ps)->∃more,H' b=some (.tbl (ps++more))
section
variable{fs Il ex ex':Wf}{H H1 H2:Hp}{h h1 h2 h':UV}{a x e:KF}{o:HO}
def Un.any(u:Un fs ex H H1 h h1){b:KF}{d:Obj}(q:h.get? b=Y d)(n:H b=O)(f:b∉ex):∃g,h1.get? b=Y { d with slots:=g }:=by
 by_cases hb:b∈fs
 ·exact u.slot b d q n hb f
 ·exact⟨d.slots,u.keep b d q n hb f⟩
def Un.kept(k:∀b u,h.get? b=Y u->h'.get? b=Y u):Un fs ex H H h h' :=
 ⟨λb d q _ _ _=>k b d q,λb d q _ _ _=>⟨d.slots,k b d q⟩,λ_ _ _ n _=>n,λb d q _=>⟨d,k b d q⟩,λ_ _ q=>q,λ_ _ _ q=>q,λ_ ps q=>⟨#[],by rw[q];simp⟩⟩
def Un.refl:Un fs ex H H h h:=Un.kept λ_ _ q=>q
def Un.laid(k:∀b u,h.get? b=Y u->h'.get? b=Y u)(g:h.objs.size<=a)(d:H a=O):Un fs ex H (upd H a o) h h' where
 keep:=λb u q _ _ _=>k b u q
 slot:=λb u q _ _ _=>⟨u.slots,k b u q⟩
 free:=λb u q n _=>by rw[aF (Za (ZP (ZS q) g))];exact n
 there:=λb u q _=>⟨u,k b u q⟩
 IM:=λb f q=>by rw[aF (dX q d)];exact q
 IC:=λb u f q=>by rw[aF (dX q d)];exact q
 IS:=λb ps q=>⟨#[],by rw[aF (dX q d),q];simp⟩
def Un.write(d:Gw (H x))(l:e=x\/H e=Y (.own x))(k:∀b u,b≠e->h.get? b=Y u->h'.get? b=Y u)(m:∃u,h'.get? e=Y u):Un fs ex H (upd H x o) h h':=by
 have g:∀b,H b=O->b≠x:=λb n z=>by subst z;rw[n]at d;exact d
 have hb:∀b,H b=O->b≠e:=λb n z=>by
  subst z;rcases l with r | r
  ·exact g b n r
  ·rw[n]at r;cases r
 have f:∀b u,H b=Y u->¬Gw (Y u)->b≠x:=λb u q nm z=>by subst z;rw[q]at d;exact nm d
 refine⟨λb u q n _ _=>k b u (hb b n) q,λb u q n _ _=>⟨u.slots,k b u (hb b n) q⟩,λb u q n _=>by rw[aF (g b n)];exact n,λb u q _=>?_,
  λb j q=>by rw[aF (f b _ q λz=>z)];exact q,λb u j q=>by rw[aF (f b _ q λz=>z)];exact q,λb ps q=>⟨#[],by rw[aF (f b _ q λz=>z),q];simp⟩⟩
 by_cases i:b=e
 ·subst i;exact m
 ·exact⟨u,k b u i q⟩
end
noncomputable def O7(h:UV)(H:Hp):Wf:=(List.range h.objs.size).filter λa=>(H a).isSome
noncomputable def qj(h:UV)(H:Hp):Heap:=PySem.W.hideAll h (O7 h H)
def we(h:UV)(H:Hp):(qj h H).objs.size=h.objs.size:=PySem.W.hideAll_size _ _
def xG{h:UV}{H:Hp}{b:KF}{o:Obj}(e:h.get? b=Y o)(n:H b=O):(qj h H).get? b=Y o :=
 PySem.W.hideAll_get _ e λa=>by
  have q:(H b).isSome=L:=(YO.mp a).2;rw[n]at q;simp at q
def Bf{h:UV}{H:Hp}{b:KF}{o:Obj}(e:(qj h H).get? b=Y o):h.get? b=Y o/\H b=O:=by
 have a:h.get? b=Y o:=PySem.W.of_hideAll (O7 h H) e;refine⟨a,?_⟩;cases q:H b with
 |none=>rfl
 |some x =>
  have d:b∈O7 h H:=YO.mpr ⟨Yc.mpr (ZS a),by simp[q]⟩;have z:(qj h H).get? b=O:=PySem.W.hideAll_none (O7 h H) d;rw[z]at e;cases e
noncomputable def Ap(g h:UV)(L:KF):Yr:=(List.range h.objs.size).filterMap λa=>if a=L\/(g.get? a).isSome=true then O else (h.get? a).map λo=>(a,o)
noncomputable def rest(g h:UV)(L d:KF):Yr:=(Ap g h L).filter λp=>decide (p.1≠d)
structure Mod(K:Wy)(mg:Wi)(base:UV):Prop where
 Pm:K.In base
 glob:base.Ns mainGlobals mg
 blt:∃mb,base.Ns builtinsNs mb/\∀x:Str,x ≠ "__name__" → mb x=bootBuiltins x
 nolimit:base.NoLimit
structure Cx where
 prog:P3
 w:XAA
 K:Wy
 mg:Wi
 base:UV
 A:Re
 N:List Str
 s₀:GM
 H₀:Hp
 env:Env
 outer:List Env
 stack:List Env
 ex:Wf
 fn:Str->Bool
 calm:Bool
 pn:Yr
 xe:Yt
abbrev K1(e:Expr)(l:List Expr)(X:Cx):Prop:=Pi (e :: l) X.env=(B,eval e X.env) :: Pi l X.env
abbrev K2(p:Pos)(l:List Expr)(X:Cx):Prop:=(backTo p (Pi l X.env)).any (·.1)=B
abbrev K3(x:Str):Prop:=(x==("__debug__" : Str))=B
abbrev K4(x:Str):Prop:=(x==("__classdict__" : Str))=B
noncomputable def Hl(l:List Env):Wf:=l.filterMap (·.frame)
noncomputable abbrev Cx.fs(X:Cx):Wf:=Hl X.outer
noncomputable def Ic(a:Scope)(x:Str):Prop:=a.names.lookup x=Y .local\/a.names.lookup x=Y .cell\/a.names.lookup x=Y .free
noncomputable def Loc(a:Scope)(x:Str):Prop:=a.names.lookup x=Y .local\/a.names.lookup x=Y .cell
noncomputable def Look(a:Env)(h:UV)(m:Wi)(x:Str)(u:KM):Prop :=
 (a.kindOf x=Y .local/\m x=Y u)\/((a.kindOf x=Y .cell\/a.kindOf x=Y .free)/\∃c,a.cells.lookup x=Y c/\h.IsCell c (Y u))
structure Cx.Ok(X:Cx):Prop where
 mod:Mod X.K X.mg X.base
 kind:X.env.scope.kind=.function
 glob:X.env.globals=mainGlobals
 blt:X.env.builtins=builtinsNs
 above:X.s₀.heap.objs.size<=X.env.locals
 inj:∀x y c,X.env.cells.lookup x=some c->X.env.cells.lookup y=some c->x=y
 has:∀x,(X.env.kindOf x=some .cell\/X.env.kindOf x=some .free)->∃c,X.env.cells.lookup x=some c
 ON:∀x c,X.fn x=true->X.env.cells.lookup x=some c->X.s₀.heap.objs.size<=c
 hd:X.calm=true->X.A.handled=none
 frames:X.A.frames=some X.stack
 Pb:X.stack=X.outer\/(X.stack=X.env :: X.outer/\X.env.frame=some X.env.locals)
 TV:∀b∈X.ex,b≠X.env.locals/\∀x c,X.env.cells.lookup x=some c->c≠b
 bs:∀b o,X.base.get? b=some o->X.s₀.heap.get? b=some o/\X.H₀ b=none
 LG:X.base.objs.size<=X.s₀.heap.objs.size
 Ko:∀b o,X.base.get? b=some o->b∉X.ex
 LD:∀b∈X.ex,b∉X.fs
 HC:X.s₀.heap.FunFrames X.base X.outer
 MT:∀b∈X.fs,X.H₀ b=none
structure Inv(X:Cx)(pins:Yr)(J:List (Option V))(H:Hp)(s:GM):Prop where
 ok:X.Ok
 os:s.os=X.s₀.os
 bare:AllBare s.gens
 base:Un X.fs X.ex X.H₀ H X.s₀.heap s.heap
 loc:∃m,s.heap.Ns X.env.locals m/\∀(i:Nat)(x:Str)(v:V),X.N[i]?=some x->J[i]?=some (some v)->Ic X.env.scope x->∃u,RelV v u/\Look X.env s.heap m x u
 cell:∀x c,X.env.cells.lookup x=some c->∃v,s.heap.IsCell c v
 free:H X.env.locals=none
 Ha:∀x c,X.env.cells.lookup x=some c->H c=none
 pin:∀p∈X.pn++pins,s.heap.get? p.1=some p.2/\H p.1=none/\p.1≠X.env.locals/\p.1∉X.fs/\∀v,p.2.data ≠ .cell v
 Gq:Hj X.prog X.w H s.heap
 len:J.length=X.N.length
section
variable{X:Cx}{pins:Yr}{J:List (Option V)}{H H':Hp}{s:GM}{h':UV}
def Cx.Ok.QA(a:X.Ok){b:KF}{o:Obj}(e:X.base.get? b=Y o):b∉X.fs:=λhb=>by
 have:=(a.HC.mem hb).1;rw[e]at this;cases this
theorem Inv.bs(I:Inv X pins J H s):∀b o,X.base.get? b=Y o->s.heap.get? b=Y o/\H b=O:=λb o e =>
 ⟨I.base.keep b o (I.ok.bs b o e).1 (I.ok.bs b o e).2 (I.ok.QA e) (I.ok.Ko b o e),I.base.free b o (I.ok.bs b o e).1 (I.ok.bs b o e).2 (I.ok.Ko b o e)⟩
def Inv.bk(I:Inv X pins J H s):∀b o,X.base.get? b=Y o->s.heap.get? b=Y o:=λb o e=>(I.bs b o e).1
theorem Inv.mod(I:Inv X pins J H s):Mod X.K X.mg X.base:=I.ok.mod
def Inv.HB(I:Inv X pins J H s):X.K.In s.heap:=I.ok.mod.Pm.keeps I.bk
theorem Inv.lt(I:Inv X pins J H s):X.env.locals<s.heap.objs.size:=let ⟨_,a,_⟩:=I.loc;a.lt
def Inv.sz(I:Inv X pins J H s):X.s₀.heap.objs.size<=s.heap.objs.size:=ZA I.ok.above (ZD I.lt)
def Inv.Qz(I:Inv X pins J H s){a:KF}(h:s.heap.objs.size<=a):a∉X.fs:=λhb=>by
 obtain⟨_,o,b,_⟩:=I.ok.HC.mem hb;exact absurd (ZP (ZS b) (ZA I.sz h)) (YD _)
def Inv.MY(I:Inv X pins J H s):∀x c,X.env.cells.lookup x=Y c->c≠X.env.locals:=λx c e z=>by
 obtain⟨v,o,a,hd⟩:=I.cell x c e;obtain⟨m,⟨f,g,h,d,b,_⟩,_⟩:=I.loc;rw[z,d]at a;cases a;rw[b]at hd;cases hd
theorem Inv.HC(I:Inv X pins J H s):s.heap.FunFrames X.base X.outer:=by
 have all:∀(l:List Env),(∀b∈Hl l,b∈X.fs)->X.s₀.heap.FunFrames X.base l->s.heap.FunFrames X.base l:=by
  intro l
  induction l with
  |nil=>intro _ _;trivial
  |cons env r g =>
   intro f m;obtain⟨n,⟨L,o,a,j,i,hd⟩,h⟩:=m;have d:L∈X.fs:=f L (by unfold Hl;rw[W7,a];exact Zu);obtain⟨p,e⟩:=I.base.slot L o i (I.ok.MT L d) d λz=>I.ok.LD L z d;exact⟨n,⟨L,_,a,j,e,hd⟩,g (λb hb=>f b (by unfold Hl;rw[W7,a];exact Zv _ hb)) h⟩
 exact all X.outer (λ_ hb=>hb) I.ok.HC
theorem Inv.stack(I:Inv X pins J H s):s.heap.FunFrames X.base X.stack:=by
 rcases I.ok.Pb with e | ⟨e,b⟩
 ·rw[e];exact I.HC
 ·rw[e];obtain⟨m,a,_⟩:=I.loc;refine .cons (by rw[I.ok.kind];decide) b a ?_ I.HC;exact Heap.get?_none_of_le (ZA I.ok.LG I.ok.above)
def Inv.Iz(I:Inv X pins J H s):∀b∈Hl X.stack,b∈X.env.locals :: X.fs:=λb hb=>by
 rcases I.ok.Pb with e | ⟨e,a⟩
 ·rw[e]at hb;exact Zv _ hb
 ·rw[e]at hb;unfold Hl at hb;rw[W7,a]at hb;exact hb
def Inv.Jy(I:Inv X pins J H s):∀b∈Hl X.stack,H b=O:=λb hb=>by
 rcases Zh.mp (I.Iz b hb) with e | hb
 ·rw[e];exact I.free
 ·obtain⟨_,o,a,_⟩:=I.ok.HC.mem hb;exact I.base.free b o a (I.ok.MT b hb) λz=>I.ok.LD b z hb
def Inv.step{g':Array GenState}{R:Nat}{d':Drawn}{ch:Wf}(I:Inv X pins J H s)(D:∀b∈ch,(b∈X.ex\/X.s₀.heap.objs.size<=b)/\b≠X.env.locals/\(∀x c,X.env.cells.lookup x=Y c->c≠b)/\∀p∈X.pn++pins,p.1≠b)(g:∀b o,b≠X.env.locals->b∉X.fs->b∉ch->s.heap.get? b=Y o->H b=O->h'.get? b=Y o)(j:∀b o,b≠X.env.locals->b∈X.fs->b∉ch->s.heap.get? b=Y o->H b=O->∃F,h'.get? b=Y { o with slots:=F })(f:∀b o,b∉ch->s.heap.get? b=some o->H b=none->H' b=none)(t:∀b o,b∉ch->s.heap.get? b=Y o->∃A,h'.get? b=Y A)(IM:∀b h,H b=Y (.tup h)->H' b=Y (.tup h))(IC:∀b o u,H b=Y (.frz o u)->H' b=Y (.frz o u))(IS:∀b ps,H b=Y (.tbl ps)->∃more,H' b=Y (.tbl (ps++more)))(S:∀m,s.heap.Ns X.env.locals m->h'.Ns X.env.locals m)(Gq:Hj X.prog X.w H' h')(hg:AllBare g') :
  Inv X pins J H' { s with heap:=h',gens:=g',drawn:=d',toks:=R }:=by
 have Q:∀b o,X.s₀.heap.get? b=Y o->b≠X.env.locals:=λb o e=>Za (ZP (ZS e) I.ok.above);have E:∀b o,X.s₀.heap.get? b=Y o->b∉X.ex->b∉ch:=λb o e a hb=>by
  rcases (D b hb).1 with z | z
  ·exact a z
  ·exact absurd (ZP (ZS e) z) (YD _)
 have cellK:∀x c,X.env.cells.lookup x=Y c->∀v,s.heap.IsCell c v->h'.IsCell c v:=λx c e v ⟨o,y,hd⟩=>by
  have C:c∉ch:=λz=>(D c z).2.2.1 x c e M;by_cases P:c∈X.fs
  ·obtain⟨F,q⟩:=j c o (I.MY x c e) P C y (I.Ha x c e);exact⟨_,q,hd⟩
  ·exact⟨o,g c o (I.MY x c e) P C y (I.Ha x c e),hd⟩
 refine⟨I.ok,I.os,hg,⟨λb o e n hb a=>?_,λb o e n hb a=>?_,λb o e n a=>?_,λb o e a=>?_,λb h e=>IM b h (I.base.IM b h e),λb o h e=>IC b o h (I.base.IC b o h e),λb ps e=>?_⟩,?_,λx c e=>?_,?_,λx c e=>?_,λp N=>?_,Gq,I.len⟩
 ·exact g b o (Q b o e) hb (E b o e a) (I.base.keep b o e n hb a) (I.base.free b o e n a)
 ·obtain⟨F,e1⟩:=I.base.slot b o e n hb a;obtain⟨UC,e2⟩:=j b _ (Q b o e) hb (E b o e a) e1 (I.base.free b o e n a);exact⟨UC,e2⟩
 ·obtain⟨A,e1⟩:=I.base.there b o e a;exact f b A (E b o e a) e1 (I.base.free b o e n a)
 ·obtain⟨A,e1⟩:=I.base.there b o e a;exact t b A (E b o e a) e1
 ·obtain⟨Z,e1⟩:=I.base.IS b ps e;obtain⟨U,e2⟩:=IS b _ e1;exact⟨Z++U,by rw[e2,Array.append_assoc]⟩
 ·obtain⟨m,hn,hl⟩:=I.loc;refine⟨m,S m hn,λi x v e1 e2 e3=>?_⟩;obtain⟨u,r,l⟩:=hl i x v e1 e2 e3;refine⟨u,r,?_⟩;rcases l with l | ⟨k,c,e,z⟩
  ·exact .inl l
  ·exact .inr ⟨k,c,e,cellK x c e _ z⟩
 ·obtain⟨v,z⟩:=I.cell x c e;exact⟨v,cellK x c e v z⟩
 ·obtain⟨m,⟨o,_,_,y,_⟩,_⟩:=I.loc;exact f _ o (λz=>(D _ z).2.1 M) y I.free
 ·obtain⟨v,o,y,hd⟩:=I.cell x c e;exact f c o (λz=>(D c z).2.2.1 x c e M) y (I.Ha x c e)
 ·obtain⟨e,n,ne,G,d⟩:=I.pin p N;have C:p.1∉ch:=λz=>(D p.1 z).2.2.2 p N M;exact⟨g p.1 p.2 ne G C e n,f p.1 p.2 C e n,ne,G,d⟩
def Inv.un{t':Nat}(I:Inv X pins J H s)(u:Un X.fs [] H H' s.heap h')(l:Hj X.prog X.w H' h'):Inv X pins J H' { s with heap:=h',toks:=t' }:=by
 obtain⟨m,⟨o,v,x,a,r⟩,_⟩:=id I.loc;obtain⟨p,h⟩:=u.any a I.free (by simp);exact I.step (g':=s.gens) (d':=s.drawn) (ch:=[]) (λ_ z=>nomatch z) (λb o _ hb _ e n=>u.keep b o e n hb (by simp)) (λb o _ hb _ e n=>u.slot b o e n hb (by simp)) (λb o _ e n=>u.free b o e n (by simp)) (λb o _ e=>u.there b o e (by simp)) u.IM u.IC u.IS (λt g=>by
  obtain⟨q,j,i,d,f⟩:=g;rw[a]at d;cases d;exact⟨_,j,i,h,f⟩) l I.bare
def Inv.call{g':Array GenState}{t':Nat}{d':Drawn}{ch:Wf}(I:Inv X pins J H s)(u:Un (Hl X.stack) ch H H' s.heap h')(v:Hj X.prog X.w H' h')(l:AllBare g')(g:∀b∈ch,(b∈X.ex\/X.s₀.heap.objs.size<=b)/\b≠X.env.locals/\(∀x c,X.env.cells.lookup x=Y c->c≠b)/\∀p∈X.pn++pins,p.1≠b) :
  Inv X pins J H' { s with heap:=h',gens:=g',drawn:=d',toks:=t' }:=by
 obtain⟨m,⟨o,D,E,f,r⟩,_⟩:=id I.loc;obtain⟨y,d⟩:=u.any f I.free λz=>(g _ z).2.1 M;exact I.step (ch:=ch) g (λb o d hb a e n=>u.keep b o e n (λz=>(Zh.mp (I.Iz b z)).elim d hb) a) (λb o _ _ a e n=>u.any e n a) (λb o a e n=>u.free b o e n a) (λb o a e=>u.there b o e a) u.IM u.IC u.IS (λC j=>by
  obtain⟨A,t,q,h,i⟩:=j;rw[f]at h;cases h;exact⟨_,t,q,d,i⟩) v l
def Inv.turned{t':Nat}{it:KF}(I:Inv X pins J H s)(k:∀b o,b≠it->s.heap.get? b=Y o->h'.get? b=Y o)(h:H it=O)(d:it≠X.env.locals)(t:it∈X.ex\/X.s₀.heap.objs.size<=it)(l:∀x c,X.env.cells.lookup x=Y c->c≠it)(j:∀p∈X.pn++pins,p.1≠it):Inv X pins J H { s with heap:=h',toks:=t' }:=by
 have f:∀b u,H b=Y u->b≠it:=λb u e z=>by rw[z,h]at e;cases e
 refine I.step (g':=s.gens) (d':=s.drawn) (ch:=[it]) (λb hb=>?_) (λb o _ _ a e _=>k b o (λz=>a (by simp[z])) e) (λb o _ _ a e _=>⟨o.slots,k b o (λz=>a (by simp[z])) e⟩) (λ_ _ _ _ n=>n)
  (λb o a e=>⟨o,k b o (λz=>a (by simp[z])) e⟩) (λ_ _ e=>e) (λ_ _ _ e=>e) (λb ps e=>⟨#[],by rw[e];simp⟩) (λm i=>?_) (λb u e=>?_) I.bare
 ·have e:b=it:=by simpa using hb
  subst e;exact⟨t,d,l,j⟩
 ·obtain⟨o,w,y,g,r⟩:=i;exact⟨o,w,y,k _ o (YK d) g,r⟩
 ·refine(I.Gq b u e).Kj (λc v a q=>k c v ?_ q) (λ_ q=>q) λ_ _ q=>q;rcases a with z | z
  ·rw[z];exact f b u e
  ·exact f c _ z
def Inv.tok(I:Inv X pins J H s)(t:Nat):Inv X pins J H { s with toks:=t }:=I.un (h':=s.heap) (t':=t) Un.refl I.Gq
theorem Inv.kept{t':Nat}(I:Inv X pins J H s)(k:∀b u,s.heap.get? b=Y u->h'.get? b=Y u):Inv X pins J H { s with heap:=h',toks:=t' }:=I.un (Un.kept k) (I.Gq.kept k)
theorem Inv.laid{a:KF}{o:HO}{t':Nat}(I:Inv X pins J H s)(k:∀b u,s.heap.get? b=Y u->h'.get? b=Y u)(e:s.heap.objs.size<=a)(d:bx X.prog X.w (upd H a o) h' a o) :
  Inv X pins J (upd H a o) { s with heap:=h',toks:=t' }:=I.un (Un.laid k e (I.Gq.fresh e)) (I.Gq.laid k e d)
theorem Inv.write{x e:KF}{o:HO}{g:Nat}(I:Inv X pins J H s)(d:Gw (H x))(he:e=x\/H e=Y (.own x))(k:∀b u,b≠e->s.heap.get? b=Y u->h'.get? b=Y u)(f:∃u,h'.get? e=Y u)(a:bx X.prog X.w (upd H x o) h' x o):Inv X pins J (upd H x o) { s with heap:=h',toks:=g }:=I.un (Un.write d he k f) (I.Gq.write d he k f a)
def Inv.Jz{a:Yr}(I:Inv X pins J H s)(h:∀p∈a,s.heap.get? p.1=Y p.2/\H p.1=O/\p.1≠X.env.locals/\p.1∉X.fs/\∀v,p.2.data ≠ .cell v):Inv X a J H s :=
 ⟨I.ok,I.os,I.bare,I.base,I.loc,I.cell,I.free,I.Ha,λp b=>(Zi.mp b).elim (λz=>I.pin p (Yj _ z)) (h p),I.Gq,I.len⟩
def rX{N:List Str}(d:N.Nodup){i j:Nat}{x:Str}(a:N[i]?=Y x)(b:N[j]?=Y x):i=j:=by
 obtain⟨f,e1⟩:=ZW.mp a;obtain⟨e,e2⟩:=ZW.mp b;exact(List.getElem_inj d).mp (e1.trans e2.symm)
def wA{Mq0:Model}{A:Re}{E:Yt}{i:Nat}{x:Str}{v:V}{u:KM}{Q:Unit->GM->Prop}(I:Inv X pins J H s)(hN:X.N.Nodup)(D:X.N[i]?=Y x)(l:Loc X.env.scope x)(r:RelV v u)(h:∀S,Inv X pins (J.set i (Y v)) H S->(∃a,Heap.SameBut a s.heap S.heap/\(a=X.env.locals\/X.env.cells.lookup x=Y a))->Q () S)(hf:X.fn x=L\/X.env.scope.names.lookup x=Y .local:=by first | exact .inl rfl | exact .inr rfl | assumption):On Mq0 A (storeName X.env x u) Q E s:=by
 obtain⟨m,hn,hl⟩:=id I.loc;have Ro:(X.env.scope.kind == .class||(X.env.scope.kind == .module&&X.env.locals != X.env.globals))=B:=by rw[I.ok.kind];rfl
 have Tc:i<J.length:=by rw[I.len];exact(ZW.mp D).1
 have MY:=I.MY;have tracked:∀{a:KF}{h':UV},(∃o,s.heap.get? a=Y o/\H a=O)->Heap.SameBut a s.heap h'->Hj X.prog X.w H h':=λ{a h'} ha f b ob e=>by
  obtain⟨_,_,LZ⟩:=ha;refine(I.Gq b ob e).Kj (λc F g q=>(f.2 c ?_).trans q) (λ_ q=>q) λ_ _ q=>q;rintro rfl;rcases g with rfl | g
  ·rw[LZ]at e;cases e
  ·rw[LZ]at g;cases g
 rcases l with t | t
 ·refine wpAny_storeName_local t hn (λh' V3 f=>?_) Ro;obtain⟨oL,_,_,Lz,_⟩:=id hn;refine h _ ⟨I.ok,I.os,I.bare,⟨λb o e n hb l=>?_,λb o e n hb l=>?_,I.base.free,λb o e l=>?_,I.base.IM,I.base.IC,I.base.IS⟩,⟨_,V3,λj y M e1 e2 e3=>?_⟩,λy c e=>?_,I.free,I.Ha,λp hp=>?_,tracked ⟨oL,Lz,I.free⟩ f,by simpa using I.len⟩ ⟨_,f,.inl rfl⟩
  ·exact(f.2 b (Za (ZP (ZS e) I.ok.above))).trans (I.base.keep b o e n hb l)
  ·obtain⟨R,e1⟩:=I.base.slot b o e n hb l;exact⟨R,(f.2 b (Za (ZP (ZS e) I.ok.above))).trans e1⟩
  ·obtain⟨Z,e1⟩:=I.base.there b o e l;exact⟨Z,(f.2 b (Za (ZP (ZS e) I.ok.above))).trans e1⟩
  ·by_cases C:j=i
   ·subst C;rw[D]at e1;cases e1;rw[XA Tc]at e2;cases e2;exact⟨u,r,.inl ⟨t,by simp⟩⟩
   ·rw[Ya (YK C)]at e2;obtain⟨P,U,q⟩:=hl j y M e1 e2 e3;refine⟨P,U,?_⟩;rcases q with⟨k,e⟩ | ⟨k,c,e,z⟩
    ·refine .inl ⟨k,?_⟩;have:y≠x:=λe=>C (rX hN e1 (e ▸ D));simp[this,e]
    ·exact .inr ⟨k,c,e,z.sameBut f (MY y c e)⟩
  ·obtain⟨F,z⟩:=I.cell y c e;exact⟨F,z.sameBut f (MY y c e)⟩
  ·obtain⟨e,n,ne,nf,d⟩:=I.pin p hp;exact⟨(f.2 p.1 ne).trans e,n,ne,nf,d⟩
 ·have Rl:X.fn x=L:=by
   rcases hf with z | z
   ·exact z
   ·rw[z]at t;cases t
  obtain⟨c,g⟩:=I.ok.has x (.inl t);obtain⟨F,z⟩:=I.cell x c g;refine wpAny_storeName_cell I.ok.kind t g z (λh' Ib f=>?_);obtain⟨oc,S4,QW⟩:=id z;refine h { s with heap:=h' } ⟨I.ok,I.os,I.bare,⟨λb o e n hb l=>?_,λb o e n hb l=>?_,I.base.free,λb o e l=>?_,I.base.IM,I.base.IC,I.base.IS⟩,⟨m,hn.sameBut f (YK (MY x c g)),λj y M e1 e2 e3=>?_⟩,λy G e=>?_,I.free,I.Ha,λp hp=>?_,tracked ⟨oc,S4,I.Ha x c g⟩ f,by simpa using I.len⟩ ⟨c,f,.inr g⟩
  ·exact(f.2 b (Za (ZP (ZS e) (I.ok.ON x c Rl g)))).trans (I.base.keep b o e n hb l)
  ·obtain⟨R,e1⟩:=I.base.slot b o e n hb l;exact⟨R,(f.2 b (Za (ZP (ZS e) (I.ok.ON x c Rl g)))).trans e1⟩
  ·obtain⟨Z,e1⟩:=I.base.there b o e l;exact⟨Z,(f.2 b (Za (ZP (ZS e) (I.ok.ON x c Rl g)))).trans e1⟩
  ·by_cases C:j=i
   ·subst C;rw[D]at e1;cases e1;rw[XA Tc]at e2;cases e2;exact⟨u,r,.inr ⟨.inl t,c,g,Ib⟩⟩
   ·rw[Ya (YK C)]at e2;obtain⟨P,U,q⟩:=hl j y M e1 e2 e3;refine⟨P,U,?_⟩;rcases q with q | ⟨k,G,e,z'⟩
    ·exact .inl q
    ·refine .inr ⟨k,G,e,z'.sameBut f ?_⟩;rintro rfl;exact C (rX hN e1 (I.ok.inj _ _ _ e g ▸ D))
  ·by_cases Tj:G=c
   ·subst Tj;exact⟨_,Ib⟩
   ·obtain⟨w2,z2⟩:=I.cell y G e;exact⟨w2,z2.sameBut f Tj⟩
  ·obtain⟨e,n,ne,nf,d⟩:=I.pin p hp;refine⟨(f.2 p.1 ?_).trans e,n,ne,nf,d⟩;intro q;rw[q,S4]at e;have q':oc=p.2:=Zj e;exact d F (by rw[← q'];exact QW)
def rP{b:Model}{A:Re}{E:Yt}{i:Nat}{x:Str}{v:V}{u:KM}{Q:Unit->GM->Prop}(I:Inv X pins J H s)(g:X.N.Nodup)(e:X.N[i]?=Y x)(d:Loc X.env.scope x)(r:RelV v u)(h:∀a,Inv X pins (J.set i (Y v)) H a->Q () a)(f:X.fn x=L\/X.env.scope.names.lookup x=Y .local:=by first | exact .inl rfl | exact .inr rfl | assumption):On b A (storeName X.env x u) Q E s :=
 wA I g e d r (λa j _=>h a j) f
def Inv.OM{a:GM}{ch:Wf}(I:Inv X pins J H s)(f:a.os=s.os)(u:Un (Hl X.stack) ch H H' s.heap a.heap)(i:Hj X.prog X.w H' a.heap)(g:AllBare a.gens)(h:∀b∈ch,(b∈X.ex\/X.s₀.heap.objs.size<=b)/\b≠X.env.locals/\(∀x c,X.env.cells.lookup x=Y c->c≠b)/\∀p∈X.pn++pins,p.1≠b):Inv X pins J H' a:=by
 obtain⟨h',g',d',t',d⟩:=a;have e:d=s.os:=f;subst e;exact I.call (g':=g') (t':=t') (d':=d') u i g h
end
noncomputable abbrev XK:=KM->Option KF->Hp->Prop
noncomputable abbrev St:=List (Option V)
noncomputable abbrev VK:=V->Hp->Prop
noncomputable abbrev TE:=St->Hp->VK->Prop
noncomputable abbrev TT:=St->Hp->(Bool->Hp->Prop)->Prop
noncomputable abbrev TA:=St->Hp->(List V->Hp->Prop)->Prop
structure Ends where
 nx:St->Hp->Prop
 rt:VK
 bk:St->Hp->Prop:=λ_ _=>False
 ct:St->Hp->Prop:=λ_ _=>False
noncomputable abbrev TS:=Ends->St->Hp->Prop
noncomputable def EP(X:Cx)(a:Yr)(J:St)(Q:VK)(u:KM)(d:GM):Prop:=∃v b,Inv X a J b d/\RelV v u/\Q v b
noncomputable def TP(X:Cx)(a:Yr)(J:St)(Q:Bool->Hp->Prop)(b:Bool)(e:GM):Prop:=∃d,Inv X a J d e/\Q b d
noncomputable def AP(X:Cx)(a:Yr)(J:St)(Q:List V->Hp->Prop)(e:Vy)(f:GM):Prop:=∃b d,Inv X a J d f/\aP b e/\Q b d
noncomputable def SP(X:Cx)(a:Yr)(D:Ends)(f:Flow)(e:GM):Prop :=
 match f with
 |.next=>∃d b,Inv X a d b e/\D.nx d b
 |.brk=>∃d b,Inv X a d b e/\D.bk d b
 |.cont=>∃d b,Inv X a d b e/\D.ct d b
 |.ret u=>∃v d b,Inv X a d b e/\RelV v u/\D.rt v b
noncomputable def PE(X:Cx)(e:Expr)(t:TE):Prop :=
 ∀(a:Yr)(s:GM)(J:St)(H:Hp)(Q:VK),Inv X a J H s->t J H Q->On (IR X.prog X.w) X.A (eval e X.env) (EP X a J Q) X.xe s
noncomputable def PT(X:Cx)(e:Expr)(t:TT):Prop :=
 ∀(a:Yr)(s:GM)(J:St)(H:Hp)(Q:Bool->Hp->Prop),Inv X a J H s->t J H Q->On (IR X.prog X.w) X.A (isTrue e X.env (eval e X.env)) (TP X a J Q) X.xe s
noncomputable def PW(X:Cx)(e:Expr)(t:TT):Prop :=
 ∀(whole:Sem KM)(a:Yr)(s:GM)(J:St)(H:Hp)(Q:Bool->Hp->Prop),Inv X a J H s->t J H Q->On (IR X.prog X.w) X.A (isTrue e X.env whole) (TP X a J Q) X.xe s
def PW.pt{X:Cx}{e:Expr}{t:TT}(h:PW X e t):PT X e t:=h _
noncomputable def PA(X:Cx)(b:List Expr)(t:TA):Prop :=
 ∀(pos:Pos)(a:Yr)(s:GM)(J:St)(H:Hp)(Q:List V->Hp->Prop),Inv X a J H s->t J H Q->On (IR X.prog X.w) X.A (spliced (backTo pos (Pi b X.env))) (AP X a J Q) X.xe s
noncomputable def PS(X:Cx)(b:Stmt)(t:TS):Prop :=
 ∀(a:Yr)(s:GM)(J:St)(H:Hp)(D:Ends),Inv X a J H s->t D J H->On (IR X.prog X.w) X.A (exec b X.env) (SP X a D) X.xe s
noncomputable def Io(X:Cx)(b:List Stmt)(t:TS):Prop :=
 ∀(a:Yr)(s:GM)(J:St)(H:Hp)(D:Ends),Inv X a J H s->t D J H->On (IR X.prog X.w) X.A (execs b X.env) (SP X a D) X.xe s
def thn{α:Type}{t:Sem α}{Q b:α->GM->Prop}{M:Model}{A:Re}{E:Yt}{s:GM}(h:On M A t Q E s)(d:∀a s,Q a s->b a s):On M A t b E s:=YB h d λ_ _ x=>x
section
variable{X:Cx}
noncomputable def Fe(i:Nat):TE:=λJ H Q=>∃v,J[i]?=Y (Y v)/\Q v H
noncomputable def tC(v:V):TE:=λ_ H Q=>Q v H
def dP{i:Nat}{x:Str}{d:Pos}(w:X.N[i]?=Y x)(o:Ic X.env.scope x)(f:K3 x:=by decide)(g:K4 x:=by decide):PE X (.Name x d) (Fe i):=by
 intro b s J H Q I h;obtain⟨v,e,h⟩:=h;obtain⟨m,p,t⟩:=I.loc;obtain⟨u,r,l⟩:=t i x v w e o;have fin:EP X b J Q u s:=⟨v,H,I,r,h⟩
 rcases l with⟨a,q⟩ | ⟨a,c,j,n⟩
 ·exact wpAny_Name (wpAny_loadName_local I.ok.kind a p q fin) f
 ·rcases a with a | a
  ·exact wpAny_Name (wpAny_loadName_cell I.ok.kind a j n fin) f
  ·exact wpAny_Name (wpAny_loadName_free I.ok.kind a j n fin g) f
def p6{i j pos}:PE X (.Constant (.int i) j pos) (tC (.int i)):=λ_ _ _ H _ I h=>wpAny_Constant_int ⟨.int i,H,I.tok _,⟨_,rfl⟩,h⟩
def Ec{b j pos}:PE X (.Constant (.bool b) j pos) (tC (.bl b)):=λ_ _ _ H _ I h=>Constant_bool ⟨.bl b,H,I,rfl,h⟩
def Cm{j pos}:PE X (.Constant .none j pos) (tC .non):=λ_ _ _ H _ I h=>Constant_none ⟨.non,H,I,rfl,h⟩
def DE{x j pos}:PE X (.Constant (.str x) j pos) (tC (.str x)):=λ_ _ _ H _ I h=>Calls.Constant_str ⟨.str x,H,I.tok _,⟨_,rfl⟩,h⟩
noncomputable def Gl(X:Cx)(x:Str):Prop:=X.env.kindOf x=Y .globalImplicit
def uY{E:Yt}{a:Yr}{s:GM}{J:St}{H:Hp}{x:Str}{u:KM}{b:Pos}{Q:Yt}(I:Inv X a J H s)(e:Gl X x)(d:X.mg x=Y u)(h:Q u s)(f:K3 x:=by decide):On (IR X.prog X.w) X.A (eval (.Name x b) X.env) Q E s :=
 Calls.Name_function_global I.ok.kind e (Calls.loadGlobal_global (by rw[I.ok.glob];exact I.mod.glob.keeps I.bk) d h) f
def pI{E:Yt}{a:Yr}{s:GM}{J:St}{H:Hp}{x:Str}{u:KM}{b:Pos}{Q:Yt}(I:Inv X a J H s)(g:Gl X x)(f:X.mg x=O)(d:bootBuiltins x=Y u)(h:Q u s)(e:x ≠ "__name__" := by decide)(i:K3 x:=by decide):On (IR X.prog X.w) X.A (eval (.Name x b) X.env) Q E s:=by
 obtain⟨m,l,j⟩:=I.mod.blt;exact Calls.Name_function_global I.ok.kind g (Calls.loadGlobal_builtin (by rw[I.ok.glob];exact I.mod.glob.keeps I.bk) f (by rw[I.ok.blt];exact l.keeps I.bk) ((j x e).trans d) h) i
def Aj{x:Str}{v:V}{u:KM}{a:Pos}(f:Gl X x)(e:X.mg x=O)(b:bootBuiltins x=Y u)(r:RelV v u)(d:x ≠ "__name__" := by decide)(g:K3 x:=by decide):PE X (.Name x a) (tC v) :=
 λ_ _ _ H _ I h=>pI I f e b ⟨v,H,I,r,h⟩ d g
variable{a b:Expr}{ta tb:TE}{pos:Pos}
noncomputable def PC(X:Cx)(g:CmpOp)(a b:Expr)(t:TE):Prop :=
 ∀(d:Yr)(s:GM)(J:St)(H:Hp)(Q:VK),Inv X d J H s->t J H Q →
  On (IR X.prog X.w) X.A (eval a X.env) (λv f=>On (IR X.prog X.w) X.A (eval b X.env) (λu e=>On (IR X.prog X.w) X.A (UF g v u) (EP X d J Q) X.xe e) X.xe f) X.xe s
def xR(b:Expr){d:CmpOp}(h:d ≠ .In)(e:d ≠ .NotIn):behindInMarks d b=B:=by
 have e1:(d==CmpOp.In)=B:=by cases d<;>first | rfl | exact absurd M h
 have e2:(d==CmpOp.NotIn)=B:=by cases d<;>first | rfl | exact absurd M e
 cases b<;>simp[behindInMarks,e1,e2]
noncomputable def Gj(ta:TE):TE:=λJ H Q=>ta J H λx d=>Q (.bl (decide (x=.non))) d
noncomputable def E3(ta:TE):TE:=λJ H Q=>ta J H λx d=>Q (.bl (!decide (x=.non))) d
def RelV.IU{x:V}{v:KM}(r:RelV x v):(v==Value.none)=decide (x=.non):=by
 cases x with
 |non=>cases r;rfl
 |bl _=>cases r;rfl
 |int _=>obtain⟨t,rfl⟩:=r;rfl
 |str _=>obtain⟨t,rfl⟩:=r;rfl
 |byt _=>obtain⟨t,rfl⟩:=r;rfl
 |flt _=>obtain⟨t,rfl⟩:=r;rfl
 |ref _=>cases r;rfl
 |ty _=>cases r;rfl
def CF{j pos'}(f:PE X a ta):PC X .Is a (.Constant .none j pos') (Gj ta):=by
 intro d s J H Q I h;refine thn (f d s J H _ I h) λv s1 ⟨x,i,g,r1,e⟩=>?_;exact Constant_none (is_none_gen ⟨.bl _,i,g,by rw[r1.IU];rfl,e⟩)
def zV{j pos'}(f:PE X a ta):PC X .IsNot a (.Constant .none j pos') (E3 ta):=by
 intro d s J H Q I h;refine thn (f d s J H _ I h) λv s1 ⟨x,i,g,r1,e⟩=>?_;exact Constant_none (isnot_none_gen ⟨.bl _,i,g,by rw[r1.IU];rfl,e⟩)
noncomputable def tB(t:TE):TT:=λJ H Q=>t J H λx d=>∃c,x=.bl c/\Q c d
def wL{f:CmpOp}{t:TE}(h:PC X f a b t)(g:behindInMarks f b=B:=by first | exact xR _ (by decide) (by decide) | rfl):PT X (.Compare a [f] [b] pos) (tB t):=by
 intro e s J H Q I hw;refine wpAny_isTrue_Compare1 (thn (h e s J H _ I hw) λv s1 g=>thn g λu o j=>thn j λc n ⟨x,m,l,r1,i⟩=>?_) g;obtain⟨d,rfl,q⟩:=i;cases r1;exact Ww ⟨m,l,q⟩
variable{tA Pa:TT}{rest:List Expr}
noncomputable def Gk(t u:TT):TT:=λJ H Q=>t J H λc d=>if c=L then u J d Q else Q B d
noncomputable def Uu(t u:TT):TT:=λJ H Q=>t J H λc d=>if c=L then Q L d else u J d Q
noncomputable def Gg(t:TT):TT:=λJ H Q=>t J H λc d=>Q (!c) d
def jU(f:PT X a tA):PW X (.BoolOp .And [a] pos) tA:=by
 intro g d s J H Q I h;refine isTrue_and (thn (f d s J H Q I h) λc s1 e=>?_);cases c with
 |true=>exact isTrue_and_nil e
 |false=>exact e
def CY(f:PT X a tA):PW X (.BoolOp .Or [a] pos) tA:=by
 intro g d s J H Q I h;refine isTrue_or (thn (f d s J H Q I h) λc s1 e=>?_);cases c with
 |false=>exact isTrue_or_nil e
 |true=>exact e
def x4(l:PT X a tA)(j:PW X (.BoolOp .And (b :: rest) pos) Pa):PW X (.BoolOp .And (a :: b :: rest) pos) (Gk tA Pa):=by
 intro i d s J H Q I h;refine isTrue_and (thn (l d s J H _ I h) λc s1 ⟨g,f,e⟩=>?_);cases c with
 |true=>exact j i d s1 J g Q f e
 |false=>exact⟨g,f,e⟩
def Et(l:PT X a tA)(j:PW X (.BoolOp .Or (b :: rest) pos) Pa):PW X (.BoolOp .Or (a :: b :: rest) pos) (Uu tA Pa):=by
 intro i d s J H Q I h;refine isTrue_or (thn (l d s J H _ I h) λc s1 ⟨g,f,e⟩=>?_);cases c with
 |true=>exact⟨g,f,e⟩
 |false=>exact j i d s1 J g Q f e
def Ci(e:PT X a tA):PT X (.UnaryOp .Not a pos) (Gg tA):=by
 intro d s J H Q I h;exact isTrue_not (e d s J H (λc f=>Q (!c) f) I h)
end
noncomputable def GL(K:Wy)(H:Hp)(a:KF)(d:List V):Prop :=
 Rd H a (.lst d) ∨
  ∃(o:Obj)(b:Array KM)(n:Nat),K.lookup a=Y o/\o.cls=.type "list" ∧ o.dict=O/\o.data=.seq b n/\b.size<=KB/\aP d b.toList
noncomputable def Hi(K:Wy)(H:Hp)(a:KF)(d:List V):Prop :=
 Rd H a (.tup d) ∨
  ∃(o:Obj)(b:Array KM)(n:Nat),K.lookup a=Y o/\o.cls=.type "tuple" ∧ o.data=.seq b n/\b.size<=KB/\aP d b.toList
noncomputable def FN:KM->Option V
 |.none=>Y .non
 |.bool b=>Y (.bl b)
 |.int i _=>Y (.int i)
 |.str x _=>Y (.str x)
 |.bytes b _=>Y (.byt b)
 |.float b _=>Y (.flt b)
 |.ref a=>Y (.ref a)
 |.type n=>Y (.ty n)
 |_=>O
def RelV.abs{x:V}{u:KM}(r:RelV x u):FN u=Y x:=by
 cases x with
 |non=>cases r;rfl
 |bl _=>cases r;rfl
 |int _=>obtain⟨t,rfl⟩:=r;rfl
 |str _=>obtain⟨t,rfl⟩:=r;rfl
 |byt _=>obtain⟨t,rfl⟩:=r;rfl
 |flt _=>obtain⟨t,rfl⟩:=r;rfl
 |ref _=>cases r;rfl
 |ty _=>cases r;rfl
def RelV.inj{x y:V}{u:KM}(r:RelV x u)(q:RelV y u):x=y:=Zj (r.abs.symm.trans q.abs)
theorem aP.inj:∀{b a:List V}{d:Vy},aP b d->aP a d->b=a
 |_,_,_,.nil,.nil=>rfl
 |_,_,_,.cons r t,.cons f e=>by rw[r.inj f,aP.inj t e]
section
variable{X:Cx}{pins:Yr}{J:St}{H:Hp}{s:GM}{a:KF}{xs ys:List V}
def GL.of{K:Wy}(h:H a=Y (.lst xs)):GL K H a xs:=.inl (.inl h)
def Hi.of{K:Wy}(h:H a=Y (.tup xs)):Hi K H a xs:=.inl (.inl h)
def Inv.list(I:Inv X pins J H s)(h:GL X.K H a xs):∃b:Vy,aP xs b/\PlainL s.heap a b.toArray/\xs.length<=sizeLine:=by
 rcases h with h | ⟨o,b,n,f,g,hd,d,i,r⟩
 ·obtain⟨z,b,n,r,e⟩:=h.ok I.Gq;exact⟨b,r,⟨_,n,e,rfl,rfl,rfl⟩,z⟩
 ·refine⟨b.toList,r,⟨o,n,I.HB a o f,g,hd,by simpa using d⟩,?_⟩;have e:=r.length;simp only[I0]at e;lia
def Inv.tuple(I:Inv X pins J H s)(h:Hi X.K H a xs):∃b:Vy,aP xs b/\IsTup s.heap a b.toArray/\xs.length<=sizeLine:=by
 rcases h with h | ⟨o,b,n,f,g,d,i,r⟩
 ·obtain⟨z,b,r,_,p⟩:=h.ok I.Gq;exact⟨b,r,p,z⟩
 ·refine⟨b.toList,r,⟨o,I.HB a o f,g,n,by simpa using d⟩,?_⟩;have e:=r.length;simp only[I0]at e;lia
def Inv.Ku(I:Inv X pins J H s)(h:GL X.K H a xs)(l:GL X.K H a ys):xs=ys:=by
 obtain⟨j,r,⟨o,n,e,_,_,d⟩,_⟩:=I.list h;obtain⟨b,i,⟨m,p,f,_,_,g⟩,_⟩:=I.list l;rw[e]at f;cases f;rw[d]at g;injection g with d1 _
 have:j=b:=by simpa using congrArg Array.toList d1
 subst this;exact r.inj i
def Inv.JK(I:Inv X pins J H s)(h:Hi X.K H a xs)(l:Hi X.K H a ys):xs=ys:=by
 obtain⟨j,r,⟨o,e,_,n,d⟩,_⟩:=I.tuple h;obtain⟨b,i,⟨m,f,_,p,g⟩,_⟩:=I.tuple l;rw[e]at f;cases f;rw[d]at g;injection g with d1 _
 have:j=b:=by simpa using congrArg Array.toList d1
 subst this;exact r.inj i
end
noncomputable abbrev Cx.Ig(X:Cx)(E:Yt):Cx:={ X with xe:=E }
noncomputable abbrev Cx.JA(X:Cx):Cx:=X.Ig λ_ _=>False
theorem Cx.Ok.Ig{X:Cx}(a:X.Ok)(E:Yt):(X.Ig E).Ok :=
 ⟨a.mod,a.kind,a.glob,a.blt,a.above,a.inj,a.has,a.ON,a.hd,a.frames,a.Pb,a.TV,a.bs,a.LG,a.Ko,a.LD,a.HC,a.MT⟩
def Cx.Ok.G9{X:Cx}{E:Yt}(a:(X.Ig E).Ok):X.Ok :=
 ⟨a.mod,a.kind,a.glob,a.blt,a.above,a.inj,a.has,a.ON,a.hd,a.frames,a.Pb,a.TV,a.bs,a.LG,a.Ko,a.LD,a.HC,a.MT⟩
section
variable{X:Cx}{pins:Yr}{J:St}{H:Hp}{s:GM}{E:Yt}
theorem Inv.Ig(I:Inv X pins J H s)(E:Yt):Inv (X.Ig E) pins J H s:=⟨I.ok.Ig E,I.os,I.bare,I.base,I.loc,I.cell,I.free,I.Ha,I.pin,I.Gq,I.len⟩
theorem Inv.G9(I:Inv (X.Ig E) pins J H s):Inv X pins J H s:=⟨I.ok.G9,I.os,I.bare,I.base,I.loc,I.cell,I.free,I.Ha,I.pin,I.Gq,I.len⟩
theorem SP.G9{D:Ends}{f:Flow}{d:GM}(h:SP (X.Ig E) pins D f d):SP X pins D f d:=by
 cases f with
 |next=>obtain⟨a,b,I,q⟩:=h;exact⟨a,b,I.G9,q⟩
 |brk=>obtain⟨a,b,I,q⟩:=h;exact⟨a,b,I.G9,q⟩
 |cont=>obtain⟨a,b,I,q⟩:=h;exact⟨a,b,I.G9,q⟩
 |ret u=>obtain⟨v,a,b,I,r,q⟩:=h;exact⟨v,a,b,I.G9,r,q⟩
theorem Io.JA{a:List Stmt}{t:TS}(h:Io X.JA a t):Io X a t:=λpins s J H D I hw =>
 YB (h pins s J H D (I.Ig _) hw) (λ_ _ q=>q.G9) λ_ _ z=>False.elim z
end
section
variable{X:Cx}{st:Stmt}{rest:List Stmt}{t u:TS}{e:Expr}{te:TE}{pos:Pos}
noncomputable def FB:TS:=λD J H=>D.nx J H
noncomputable def FO(t u:TS):TS:=λD J H=>t { D with nx:=u D } J H
def Ar:Io X [] FB:=λ_ _ J H _ I h=>W9 ⟨J,H,I,h⟩
def zv(d:PS X st t)(b:Io X rest u):Io X (st :: rest) (FO t u):=by
 intro a s J H D I h;refine wpAny_execs_cons (thn (d a s J H { D with nx:=u D } I h) λf s1 q=>?_);cases f with
 |next =>
  obtain⟨g,j,i,q⟩:=q;exact b a s1 g j D i q
 |ret v=>exact q
 |brk=>exact q
 |cont=>exact q
def au(b:PS X st t):Io X [st] t:=by
 intro a s J H D I h;refine wpAny_execs_cons (thn (b a s J H D I h) λf s1 q=>?_);cases f with
 |next=>exact W9 q
 |ret v=>exact q
 |brk=>exact q
 |cont=>exact q
def Inv.quiet{a:Yr}{J:St}{H:Hp}{s:GM}(I:Inv X a J H s):interactive X.env=B:=by simp[interactive,I.ok.kind]
noncomputable def Ew(a:TE):TS:=λD J H=>a J H λ_ b=>D.nx J b
def jS(f:PE X e te)(d:swapsWith e O pos.line X.env=pure B:=by rfl):PS X (.Expr e pos) (Ew te):=by
 intro a s J H D I h;exact wpAny_Expr_any (thn (f a s J H _ I h) λv s1 ⟨x,i,g,r1,b⟩=>⟨J,i,g,b⟩) I.quiet d
noncomputable def Gd(a:TE):TS:=λD J H=>a J H D.rt
def pU(d:PE X e te):PS X (.Return (Y e) pos) (Gd te):=by
 intro a s J H D I h;exact wpAny_Return_some (thn (d a s J H _ I h) λv s1 ⟨x,g,f,r1,b⟩=>⟨x,J,g,f,r1,b⟩)
noncomputable def Ge(c:TT)(t u:TS):TS:=λD J H=>c J H λb a=>if b=L then t D J a else u D J a
def BW{c:Expr}{a b:List Stmt}{g:TT}(m:PT X c g)(o:Io X a t)(n:Io X b u):PS X (.If c a b pos) (Ge g t u):=by
 intro f s J H D I h;refine wpAny_If (thn (m f s J H _ I h) λd s1 ⟨l,j,i⟩=>?_);cases d with
 |true=>exact o f s1 J l D j i
 |false=>exact n f s1 J l D j i
end
noncomputable abbrev TG:=V->St->Hp->(St->Hp->Prop)->Prop
noncomputable def PG(X:Cx)(a:Expr)(t:TG):Prop :=
 ∀(b:Yr)(s:GM)(J:St)(H:Hp)(v:V)(u:KM)(Q:St->Hp->Prop),Inv X b J H s->RelV v u->t v J H Q →
  On (IR X.prog X.w) X.A (assign a X.env u) (λ_ f=>∃d e,Inv X b d e f/\Q d e) X.xe s
noncomputable abbrev Bq:=V->V->V->Hp->(Hp->Prop)->Prop
noncomputable def CM(X:Cx)(t:Bq):Prop :=
 ∀(a:Yr)(s:GM)(J:St)(H:Hp)(o i v:V)(ov iv u:KM)(Q:Hp->Prop),Inv X a J H s->RelV o ov->RelV i iv->RelV v u->t o i v H Q →
  On (IR X.prog X.w) X.A (setItem ov iv u) (λ_ d=>∃b,Inv X a J b d/\Q b) X.xe s
section
variable{X:Cx}{pos:Pos}
noncomputable def vv(i:Nat):TG:=λv J H Q=>Q (J.set i (Y v)) H
def vc{i:Nat}{x:Str}(f:X.N.Nodup)(d:X.N[i]?=Y x)(b:Loc X.env.scope x)(e:X.fn x=L\/X.env.scope.names.lookup x=Y .local:=by first | exact .inl M | exact .inr M | assumption):PG X (.Name x pos) (vv i):=by
 intro a s J H v u Q I r h;exact wpAny_assign_Name (rP I f d b r (λj g=>⟨_,H,g,h⟩) e)
noncomputable def D6(a b:TE)(t:Bq):TG:=λv J H Q=>a J H λo f=>b J f λi e=>t o i v e λd=>Q J d
def sQ{o i:Expr}{b d:TE}{t:Bq}(m:PE X o b)(n:PE X i d)(l:CM X t)(p:∀v,assign (.Subscript o i pos) X.env v=(do
   let ov ← holding [v] (eval o X.env)
   let iv ← holding [v,ov] (eval i X.env)
   standAt pos
   holding [v,ov,iv] (setItem ov iv v)
   release [v,ov,iv] []):=by intro _;rfl):PG X (.Subscript o i pos) (D6 b d t):=by
 intro a s J H v u Q I r h;rw[p];refine Zx (YN (thn (m a s J H _ I h) λov s1 ⟨x,D,z,r1,j⟩=>?_));refine Zx (YN (thn (n a s1 J D _ z j) λiv e ⟨y,C,w,r2,g⟩=>?_));refine Zx (wpAny_standAt (Zx (YN (thn (l a e J C x y v ov iv u _ w r1 r2 r g) λ_ E ⟨A,q,f⟩=>?_))));exact wpAny_release ⟨J,A,q,f⟩
noncomputable def FF(a:TE)(g:TG):TS:=λD J H=>a J H λx b=>g x J b D.nx
def tJ{b e:Expr}{d:TE}{g:TG}(l:PE X e d)(j:PG X b g)(i:swapsWithSole [b] e pos.line X.env=pure B:=by rfl)(hw:swappedStores [b] e X.env=pure O:=by rfl)(m:(assignEach [b] X.env).map (·.2)=[assign b X.env]:=by rfl):PS X (.Assign [b] e pos) (FF d g):=by
 intro a s J H D I h;refine wpAny_Assign_stores (thn (l a s J H _ I h) λv s1 ⟨x,o,n,r1,f⟩=>?_) i hw;rw[m];exact thn (j a s1 J o x v _ n r1 f) λ_ p q=>q
def kK{i:Nat}{x:Str}{e:Expr}{d:TE}{a:Pos}(o:X.N.Nodup)(l:X.N[i]?=Y x)(g:Loc X.env.scope x)(n:PE X e d)(j:swapsWith e (Y (.Name x a)) pos.line X.env=pure B:=by rfl)(m:X.fn x=L\/X.env.scope.names.lookup x=Y .local:=by first | exact .inl M | exact .inr M | assumption) :
  PS X (.Assign [.Name x a] e pos) (FF d (vv i)):=by
 intro b s J H D I h;refine wpAny_Assign_Name (thn (n b s J H _ I h) λv s1 ⟨y,r,q,r1,f⟩=>?_) j;exact rP q o l g r1 (λt p=>⟨_,r,p,f⟩) m
end
section
variable{X:Cx}{pos:Pos}
noncomputable def CB(c:TT)(g:TS):TS:=λD J H=>∃W:Nat->St->Hp->Prop,(∃m,W m J H)/\∀m J H,W m J H →
 c J H λb e=>if b=L then ∃N:St->Hp->Prop,(∀d f,N d f->∃a,a<m/\W a d f)/\g { D with nx:=N,ct:=N,bk:=D.nx } J e else D.nx J e
def zc{c:Expr}{d:List Stmt}{t:TT}{u:TS}(x:PassesOwn (IR X.prog X.w) X.A X.env X.xe)(U:PT X c t)(Z:Io X d u):PS X (.While c d [] pos) (CB t u):=by
 intro a s J H D I h;obtain⟨W,⟨S,P⟩,turn⟩:=h;refine wpAny_While (codeAny_whileLoop (λn R=>∃y F,Inv X a y F R/\W n y F) ?_ S ⟨J,H,I,P⟩);rintro n s1 ⟨l,E,I1,G⟩;refine XX x (thn (U a s1 l E _ I1 (turn n l E G)) λb Q ⟨C,z,j⟩=>?_);cases b with
 |true =>
  obtain⟨N,hN,j⟩:=j;rw[Zo M];refine XX x (thn (Z a Q l C _ z j) λf s3 i=>?_);cases f with
  |next =>
   obtain⟨e,g,r,o⟩:=i;obtain⟨p,q,m⟩:=hN e g o;exact⟨p,q,e,g,r,m⟩
  |cont =>
   obtain⟨e,g,r,o⟩:=i;obtain⟨p,q,m⟩:=hN e g o;exact⟨p,q,e,g,r,m⟩
  |brk=>exact i
  |ret v=>exact i
 |false =>
  rw[Zm Zb];exact W9 ⟨l,C,z,j⟩
end
structure It where
 go:Nat->Hp->Prop
 O5:Nat->Hp->V->Hp->Prop
 stop:Nat->Hp->Prop
noncomputable def oh(X:Cx)(a:Yr)(H:Hp)(b:KF):Prop :=
 H b=O/\b≠X.env.locals/\b∉X.fs/\(b∈X.ex\/X.s₀.heap.objs.size<=b)/\(∀x c,X.env.cells.lookup x=Y c->c≠b)/\∀p∈X.pn++a,p.1≠b
def Inv.LC{X:Cx}{a:Yr}{J:St}{H f:Hp}{s:GM}{b:KF}(I:Inv X a J H s)(d:s.heap.objs.size<=b)(h:f b=O):oh X a f b:=by
 refine⟨h,XB (ZP I.lt d),I.Qz d,.inr (ZA I.sz d),λx c e z=>?_,λp g z=>?_⟩
 ·obtain⟨v,q⟩:=I.cell x c e;exact absurd (ZP q.lt (by rw[z];exact d)) (YD _)
 ·exact absurd (ZP (ZS (I.pin p g).1) (by rw[z];exact d)) (YD _)
structure Turn(P:P3)(w:XAA)(K:Wy)(tg:Expr)(Jq:It)(fp:Wf)(it:KF)(tn:Nat->UV->Prop):Prop where
 mem:it∈fp
 obj:∀i h,tn i h->∀b∈fp,∃o,h.get? b=some o/\∀v,o.data ≠ .cell v
 keep:∀i h h',tn i h->(∀b∈fp,∀o,h.get? b=some o->h'.get? b=some o)->tn i h'
 item:∀(X:Cx),X.prog=P->X.w=w->X.K=K->X.calm=true->∀(i:Nat)(pins:Yr)(s:GM)(J:St)(H:Hp)(E:Yt),Inv X pins J H s->(∀b∈fp,oh X pins H b)->tn i s.heap->Jq.go i H →
  On (IR P w) X.A (pyNext (.ref it)) (λr s1=>∃u,r=some u ∧
   On (IR P w) X.A (letOwnedTupleGo tg (.ref it) u) (λ_ s2=>∃x H',Inv X pins J H' s2/\RelV x u/\Jq.O5 i H x H'/\tn (i+1) s2.heap/\∀b∈fp,H' b=none) E s1) E s
 done:∀(X:Cx),X.prog=P->X.w=w->X.K=K->X.calm=true->∀(i:Nat)(pins:Yr)(s:GM)(J:St)(H:Hp)(E:Yt),Inv X pins J H s->(∀b∈fp,oh X pins H b)->tn i s.heap->Jq.stop i H →
  On (IR P w) X.A (pyNext (.ref it)) (λr s1=>r=none/\Inv X pins J H s1) E s
 self:∀(A:Re)(i:Nat)(s:GM)(Q:Yt)(E:Yt),tn i s.heap->Q (.ref it) s->On (IR P w) A (pyIter (.ref it)) Q E s
noncomputable abbrev TI:=St->Hp->(It->Hp->Prop)->Prop
noncomputable def T4(X:Cx)(a:Yr)(J:St)(h:Expr)(R:It->Hp->Prop)(i:KM)(f:GM):Prop :=
 ∃(it:KF)(fp:Wf)(e:Nat->UV->Prop)(g:It)(d:Hp),i=.ref it/\Inv X a J d f/\Turn X.prog X.w X.K h g fp it e/\e 0 f.heap/\(∀b∈fp,oh X a d b)/\R g d
noncomputable def PI(X:Cx)(e b:Expr)(d:TI):Prop :=
 ∀(a:Yr)(s:GM)(J:St)(H:Hp)(R:It->Hp->Prop),Inv X a J H s->d J H R →
  On (IR X.prog X.w) X.A (eval b X.env) (λv s1=>On (IR X.prog X.w) X.A (pyIter v) (T4 X a J e R) X.xe s1) X.xe s
def rB{M:Model}{A:Re}{E:Yt}{s:GM}{d:Expr}{e:KF}{u:KM}{o:Obj}{n:String}{b:Array KM}{Q:Unit->GM->Prop}(f:s.heap.get? e=Y o)(j:o.cls=.type n)(i:o.data=.fields b)(g:["enumerate", "zip", "dict_itemiterator", "dict_reverseitemiterator", "odict_iterator", "itertools.zip_longest", "itertools.pairwise"].contains n=B)(a:Q () s):On M A (letOwnedTupleGo d (.ref e) u) Q E s:=by
 unfold letOwnedTupleGo;cases d<;>first
  |exact Zl a
  | (cases u<;>first
    |exact Zl a
    | (refine Zx (wpAny_load f ?_)
       rw[j,i];show On M A (if (["enumerate", "zip", "dict_itemiterator", "dict_reverseitemiterator", "odict_iterator", "itertools.zip_longest", "itertools.pairwise"].contains n&&b[0]? == Y (rawInt _))=L then _ else _) Q E s;rw[Zm (by intro h;rw[g,Bool.false_and]at h;cases h)];exact Zl a))
noncomputable def R7(K:Wy)(a:KF):It :=
 ⟨λi H=>∃b x,GL K H a b/\b[i]?=Y x,λi H x d=>d=H/\∀b,GL K H a b->b[i]?=Y x,λi H=>∃b,GL K H a b/\b.length<=i⟩
noncomputable def R6(K:Wy)(a:KF):It :=
 ⟨λi H=>∃b x,Hi K H a b/\b[i]?=Y x,λi H x d=>d=H/\∀b,Hi K H a b->b[i]?=Y x,λi H=>∃b,Hi K H a b/\b.length<=i⟩
noncomputable def PR(a:Int)(n:Nat):It:=⟨λi _=>i<n,λi H x b=>b=H/\x=.int (a+i),λi _=>n<=i⟩
def vH{P:P3}{w:XAA}{K:Wy}{N:Expr}(a g:KF):Turn P w K N (R7 K a) [g] g (λi h=>h.IsListIter g a i) where
 mem:=by simp
 obj:=λi h st b hb=>by
  have e:b=g:=by simpa using hb
  subst e;obtain⟨o,e,c,d⟩:=st;exact⟨o,e,λv z=>by rw[d]at z;cases z⟩
 keep:=λi h m st k=>st.at λo e=>k g (by simp) o e
 item:=by
  intro X r hw t F i f s J H E I l st hg;subst r hw t;obtain⟨M,x,j,q⟩:=hg;obtain⟨R,n,p,S⟩:=I.list j;obtain⟨u,Z,Q⟩:=n.get q;obtain⟨D,f1,f2,C,A,y⟩:=l g (by simp);refine wpAny_pyNext_list_item st p.isList (x:=u) (by simpa using Z) λm G sb=>?_;have I1:Inv X f J H { s with heap:=m }:=I.turned (t':=s.toks) (λb o hb e=>(sb.2 b hb).trans e) D f1 C A y;obtain⟨o,e,c,d⟩:=id G;exact⟨u,rfl,rB (s:={ s with heap:=m }) e c d (by decide) ⟨x,H,I1,Q,⟨rfl,λys U=>by rw[I.Ku U j];exact q⟩,G,λb hb=>(l b hb).1⟩⟩
 done:=by
  intro X r hw t F i f s J H E I l st hg;subst r hw t;obtain⟨M,j,q⟩:=hg;obtain⟨R,n,p,S⟩:=I.list j;obtain⟨D,f1,f2,C,A,y⟩:=l g (by simp);have hl:=n.length;exact wpAny_pyNext_list_end (I.ok.hd F) st p.isList (by simp;lia) λm eb=>⟨rfl,I.turned (t':=s.toks) (λb o hb e=>eb b o hb e) D f1 C A y⟩
 self:=λ_ _ _ _ _ st h=>wpAny_pyIter_listiter st h
def t4{P:P3}{w:XAA}{K:Wy}{Q:Expr}(a g:KF):Turn P w K Q (R6 K a) [g] g (λi h=>h.IsTupleIter g a i) where
 mem:=by simp
 obj:=λi h st b hb=>by
  have e:b=g:=by simpa using hb
  subst e;obtain⟨o,e,c,d⟩:=st;exact⟨o,e,λv z=>by rw[d]at z;cases z⟩
 keep:=λi h m st k=>st.at λo e=>k g (by simp) o e
 item:=by
  intro X t hw y G i f s J H E I l st hg;subst t hw y;obtain⟨N,x,j,r⟩:=hg;obtain⟨q,n,p,S⟩:=I.tuple j;obtain⟨u,Z,R⟩:=n.get r;obtain⟨F,f1,f2,D,C,A⟩:=l g (by simp);refine wpAny_pyNext_tuple_item st (show s.heap.IsTuple a q.toArray from p) (x:=u) (by simpa using Z) λm M sb=>?_;have I1:Inv X f J H { s with heap:=m }:=I.turned (t':=s.toks) (λb o hb e=>(sb.2 b hb).trans e) F f1 D C A;obtain⟨o,e,c,d⟩:=id M;exact⟨u,rfl,rB (s:={ s with heap:=m }) e c d (by decide) ⟨x,H,I1,R,⟨rfl,λys U=>by rw[I.JK U j];exact r⟩,M,λb hb=>(l b hb).1⟩⟩
 done:=by
  intro X t hw y G i f s J H E I l st hg;subst t hw y;obtain⟨N,j,r⟩:=hg;obtain⟨q,n,p,S⟩:=I.tuple j;obtain⟨F,f1,f2,D,C,A⟩:=l g (by simp);have hl:=n.length;exact wpAny_pyNext_tuple_end (I.ok.hd G) st (show s.heap.IsTuple a q.toArray from p) (by simp;lia) λm eb=>⟨rfl,I.turned (t':=s.toks) (λb o hb e=>eb b o hb e) F f1 D C A⟩
 self:=λ_ _ _ _ _ st h=>wpAny_pyIter_tupleiter st h
def tR{P:P3}{w:XAA}{K:Wy}{D:Expr}(d:KF)(f:Int)(n:Nat):Turn P w K D (PR f n) [d] d (λi h=>IsRangeIter h d (f+(i:Nat)*1) ((n:Int)-(i:Nat)) 1) where
 mem:=by simp
 obj:=λi h st b hb=>by
  have e:b=d:=by simpa using hb
  subst e;exact⟨_,st,λv z=>by
   have C:Data.fields _=Data.cell v:=z;cases C⟩
 keep:=λi h j st k=>k d (by simp) _ st
 item:=by
  intro X m hw p l i a s J H E I g st hg;subst m hw p;obtain⟨x,f1,f2,u,r,q⟩:=g d (by simp);have W:=Walks.range (prog:=X.prog) (w:=X.w) (I.ok.hd l) d f 1 n;refine W.item i s _ _ hg st λv j y G A F=>?_;obtain⟨t,rfl⟩:=G;have Q:Inv X a J H { s with heap:=j,toks:=y }:=I.turned (λb o hb e=>F b o (by simpa using hb) e) x f1 u r q;refine⟨_,rfl,rB (s:={ s with heap:=j,toks:=y }) (n := "range_iterator") A M M (by decide) ⟨.int (f+i),H,Q,⟨t,?_⟩,⟨rfl,rfl⟩,A,λb hb=>(g b hb).1⟩⟩;rw[Int.mul_one]
 done:=by
  intro X m hw p l i a s J H E I g st hg;subst m hw p;obtain⟨x,f1,f2,u,r,q⟩:=g d (by simp);exact wpAny_pyNext_range_end (I.ok.hd l) st (by have:n<=i:=hg;lia) λj N=>⟨rfl,I.turned (t':=s.toks) (λb o hb e=>N b o hb e) x f1 u r q⟩
 self:=λ_ _ _ _ _ st h=>wpAny_pyIter_rangeiter st h
section
variable{X:Cx}{tg:Expr}
def zm{f:Yr}{J:St}{H:Hp}{s:GM}{R:It->Hp->Prop}{E:Yt}{a d:Int}{t u v:Tok}{g:Nat}(I:Inv X f J H s)(m:-(2 ^ 62)<=a)(l:a<2 ^ 62)(j:-(2 ^ 62)<=d)(i:d<2 ^ 62)(q:R (PR a (d-a).toNat) H):On (IR X.prog X.w) X.A (pyIter (.ref s.heap.objs.size)) (T4 X f J tg R) E { s with heap:=s.heap.push { cls:=.type "range",data:=.fields #[.int a t,.int d u,.int 1 v] },toks:=g }:=by
 refine wpAny_pyIter_range (IsRange.new ..) (small_one m l j i) ?_;have h:Inv X f J H { s with heap:=s.heap.push { cls:=.type "range",data:=.fields #[.int a t,.int d u,.int 1 v] },toks:=g }:=I.kept λb o e=>Zn _ e;refine⟨(s.heap.push { cls:=.type "range",data:=.fields #[.int a t,.int d u,.int 1 v] }).objs.size,[(s.heap.push { cls:=.type "range",data:=.fields #[.int a t,.int d u,.int 1 v] }).objs.size],_,_,H,rfl,
  h.kept (t':=g) λb o e=>Zn _ e,tR _ a (d-a).toNat,?_,λb hb=>?_,q⟩
 ·have e1:a+((0:Nat):Int)*1=a:=by simp
  have e2:(((d-a).toNat:Nat):Int)-((0:Nat):Int)=Builtin.Range.rangeSize a d 1:=by rw[rangeSize_one];split<;>lia
  show IsRangeIter _ _ (a+((0:Nat):Int)*1) ((((d-a).toNat:Nat):Int)-((0:Nat):Int)) 1;rw[e1,e2];exact ZY _ M
 ·have e:b=(s.heap.push { cls:=.type "range",data:=.fields #[.int a t,.int d u,.int 1 v] }).objs.size:=by simpa using hb
  subst e;exact h.LC (Zp _) (h.Gq.fresh (Zp _))
noncomputable def B4(ta:TA):TI:=λJ H R=>ta J H λa b=>∃j:Int,a=[.int j]/\-(2 ^ 62)<=j/\j<2 ^ 62/\R (PR 0 j.toNat) b
def oq{a:Expr}{g:TA}{p b:Pos}(o:Gl X "range")(n:X.mg "range" = O)(u:PA X [a] g)(m:Pi [a] X.env=[(B,eval a X.env)]:=by rfl):PI X tg (.Call (.Name "range" p) [a] [] b) (B4 g):=by
 intro d s J H R I h;refine Call_ (pI I o n boot_range (PyProof.Rows.callWith_type1 (thn (u b d s J H _ I h) λx s1 ⟨w,y,v,r1,f⟩=>?_) m M));obtain⟨j,e,f,l,q⟩:=f;subst e;cases r1 with
 |cons r i =>
  cases i;obtain⟨t,rfl⟩:=r;exact call_range_1 (zm v (by lia) (by lia) f l (by simpa using q))
noncomputable def EF(f:TI)(g:TG)(h:TS):TS:=λD J H=>f J H λb n=>∃W:Nat->Nat->St->Hp->Prop,(∃m,W 0 m J n)/\∀i m J H,W i m J H →
 (b.stop i H/\D.nx J H)\/(b.go i H/\∃N:St->Hp->Prop,(∀e a,N e a->∃d,d<m/\W (i+1) d e a)/\∀x a,b.O5 i H x a->g x J a λj l=>h { D with nx:=N,ct:=N,bk:=D.nx } j l)
noncomputable def nh(a:Wf)(h:UV):Yr:=a.filterMap λb=>(h.get? b).map λo=>(b,o)
def h9{a:Wf}{h:UV}{b:KF}{o:Obj}(d:b∈a)(e:h.get? b=Y o):(b,o)∈nh a h:=List.mem_filterMap.mpr ⟨b,d,by rw[e];rfl⟩
def wq{a:Wf}{h:UV}{p:KF×Obj}(d:p∈nh a h):p.1∈a/\h.get? p.1=Y p.2:=by
 obtain⟨b,hb,e⟩:=List.mem_filterMap.mp d;cases q:h.get? b with
 |none=>rw[q]at e;cases e
 |some o =>
  rw[q]at e;have f:(b,o)=p:=Zj e;subst f;exact⟨hb,q⟩
def Inv.pinned{a:Yr}{J:St}{H:Hp}{s:GM}{f:Wf}(I:Inv X a J H s)(j:∀b∈f,oh X a H b)(i:∀b∈f,∃o,s.heap.get? b=Y o/\∀v,o.data ≠ .cell v):Inv X (a++nh f s.heap) J H s :=
 I.Jz λp h=>(Zi.mp h).elim (λz=>I.pin p (ZL _ z)) λz=>by
  obtain⟨hb,e⟩:=wq z;obtain⟨l,f1,f2,_⟩:=j p.1 hb;obtain⟨o,g,d⟩:=i p.1 hb;rw[e]at g;cases g;exact⟨e,l,f1,f2,d⟩
def Inv.Hk{a b:Yr}{J:St}{H:Hp}{s:GM}(I:Inv X (a++b) J H s):Inv X a J H s:=I.Jz λp d=>I.pin p (ZL _ (Yj _ d))
def Ct{j:Expr}{C:List Stmt}{wi:TI}{g:TG}{tb:TS}{S:Pos}(F:PassesOwn (IR X.prog X.w) X.A X.env X.xe)(hc:X.calm=L)(hi:PI X tg j wi)(hg:PG X tg g)(l:Io X C tb)(hs:∀x,XAC j X.env x=pure x:=by intro _;rfl):PS X (.For tg j C [] S) (EF wi g tb):=by
 intro a s J H D I h;refine wpAny_For (thn (hi a s J H _ I h) λv s1 h1=>thn h1 λQM s2 h2=>?_) hs;obtain⟨it,fp,tn,Jq,H2,e,I2,T,G5,f2,W,⟨m0,w0⟩,turn⟩:=h2;subst e;have Jg:∀{y:Hp},(∀b∈fp,y b=O)->∀b∈fp,oh X a y b:=λhn b l=>⟨hn b l,(f2 b l).2⟩
 refine codeAny_forLoop_any (λn s'=>∃i P y,Inv X a P y s'/\tn i s'.heap/\(∀b∈fp,y b=O)/\W i n P y) ?_ m0 ⟨0,J,H2,I2,G5,λb l=>(f2 b l).1,w0⟩;rintro n s3 ⟨i,G,Q,I3,IA,Ox,w3⟩;rcases turn i n G Q w3 with⟨stop,qn⟩ | ⟨go,N,hN,step⟩
 ·refine XX F (thn (T.done X M M M hc i a s3 G Q X.xe I3 (Jg Ox) IA stop) λr s4 ⟨U,I4⟩=>?_);subst U;exact W9 ⟨G,Q,I4,qn⟩
 ·refine XX F (thn (T.item X M M M hc i a s3 G Q X.xe I3 (Jg Ox) IA go) λr s4 ⟨u,U,h4⟩=>?_);subst U;refine XX F (thn h4 λ_ s5 ⟨x,H5,I5,r5,y5,Z,RE⟩=>?_);have R9:=I5.pinned (Jg RE) (T.obj _ _ Z);refine XX F (thn (hg _ s5 G H5 x u _ R9 r5 (step x H5 y5)) λ_ s6 ⟨J6,H6,I6,q6⟩=>?_);refine XX F (thn (l _ s6 J6 H6 _ I6 q6) λf R z=>?_);have again:∀{p:St}{t:Hp},Inv X (a++nh fp s5.heap) p t R->N p t->∃m,m<n/\∃i P y,Inv X a P y R/\tn i R.heap/\(∀b∈fp,y b=O)/\W i m P y:=λ{p t} q E=>by
   obtain⟨m',hm,w7⟩:=hN p t E;refine⟨m',hm,i+1,p,t,q.Hk,T.keep _ _ _ Z λb l o e=>(q.pin (b,o) (ZL _ (ZL _ (h9 l e)))).1,λb l=>?_,w7⟩;obtain⟨o,e,d⟩:=T.obj _ _ Z b l;exact(q.pin (b,o) (ZL _ (ZL _ (h9 l e)))).2.1
  cases f with
  |next=>obtain⟨p,t,q,E⟩:=z;exact again q E
  |cont=>obtain⟨p,t,q,E⟩:=z;exact again q E
  |brk=>obtain⟨p,t,q,z⟩:=z;exact⟨p,t,q.Hk,z⟩
  |ret v=>obtain⟨x7,p,t,q,r7,z⟩:=z;exact⟨x7,p,t,q.Hk,r7,z⟩
end
noncomputable abbrev R2:=V->V->Hp->VK->Prop
noncomputable def OpR(X:Cx)(f:KM->KM->Sem KM)(r:R2):Prop :=
 ∀(a:Yr)(s:GM)(J:St)(H:Hp)(x y:V)(v u:KM)(Q:VK),Inv X a J H s->RelV x v->RelV y u->r x y H Q →
  On (IR X.prog X.w) X.A (f v u) (EP X a J Q) X.xe s
noncomputable def UnR(X:Cx)(f:KM->Sem KM)(r:V->Hp->VK->Prop):Prop :=
 ∀(a:Yr)(s:GM)(J:St)(H:Hp)(x:V)(v:KM)(Q:VK),Inv X a J H s->RelV x v->r x H Q →
  On (IR X.prog X.w) X.A (f v) (EP X a J Q) X.xe s
noncomputable def di(X:Cx)(f:KM)(r:List V->Hp->VK->Prop):Prop :=
 ∀(a:Yr)(s:GM)(J:St)(H:Hp)(b:List V)(d:Vy)(Q:VK),Inv X a J H s->aP b d->r b H Q →
  On (IR X.prog X.w) X.A (call f d) (EP X a J Q) X.xe s
noncomputable def Gh(X:Cx)(r:V->Hp->(Bool->Hp->Prop)->Prop):Prop :=
 ∀(a:Yr)(s:GM)(J:St)(H:Hp)(x:V)(v:KM)(Q:Bool->Hp->Prop),Inv X a J H s->RelV x v->r x H Q →
  On (IR X.prog X.w) X.A (truthy v) (TP X a J Q) X.xe s
noncomputable def Nc(r:R2)(ta a:TE):TE:=λJ H Q=>ta J H λx d=>a J d λy b=>r x y b Q
noncomputable def Us(r:V->Hp->VK->Prop)(ta:TE):TE:=λJ H Q=>ta J H λx a=>r x a Q
noncomputable def rI(C:Int->Int->Prop)(g:Int->Int->V):R2:=λx y H Q=>∃i j,x=.int i/\y=.int j/\C i j/\Q (g i j) H
noncomputable def K6(g:Int->Int->V):R2:=λx y H Q=>∃i j,x=.int i/\y=.int j/\Q (g i j) H
noncomputable def rU(g:Int->V):V->Hp->VK->Prop:=λx H Q=>∃i,x=.int i/\Q (g i) H
section
variable{X:Cx}{a b c:Expr}{ta tb tc:TE}{pos:Pos}
def CP(q:PE X a ta)(p:PE X b tb){d:Yr}{s:GM}{J:St}{H:Hp}{R:V->V->Hp->Prop}(I:Inv X d J H s)(h:ta J H λx i=>tb J i λy e=>R x y e){Q:Yt}{f:KM->KM->Sem KM}(o:∀v u g x y e,Inv X d J e g->RelV x v->RelV y u->R x y e->On (IR X.prog X.w) X.A (f v u) Q X.xe g) :
  On (IR X.prog X.w) X.A (eval a X.env) (λv l=>On (IR X.prog X.w) X.A (eval b X.env) (λu j=>On (IR X.prog X.w) X.A (f v u) Q X.xe j) X.xe l) X.xe s:=by
 refine thn (q d s J H _ I h) λv s1 ⟨x,i,t,r1,n⟩=>?_;refine thn (p d s1 J i _ t n) λu g ⟨y,e,r,r2,m⟩=>?_;exact o v u g x y e r r1 r2 m
def zD{e:Operator}{r:R2}(j:OpR X (binaryOp e) r)(m:PE X a ta)(l:PE X b tb):PE X (.BinOp a e b pos) (Nc r ta tb):=by
 intro d s J H Q I h;exact wpAny_BinOp (CP m l I h λv u f x y o n i g q=>j d f J o x y v u Q n i g q)
def Fh{e:UnaryOp}{r:V->Hp->VK->Prop}(g:UnR X (unaryOp e) r)(i:PE X a ta):PE X (.UnaryOp e a pos) (Us r ta):=by
 intro d s J H Q I h;exact UnaryOp_ (thn (i d s J H _ I h) λv s1 ⟨x,l,j,r1,f⟩=>g d s1 J l x v Q j r1 f)
def Qs{f:KM->KM->Sem KM}{C:Int->Int->Prop}{g:Int->Int->Int}(d:∀(i j:Int)(t u:Tok)(s:GM)(Q:Yt)(E:Yt),C i j->Q (.int (g i j) s.toks) { s with toks:=s.toks+1 }->On (IR X.prog X.w) X.A (f (.int i t) (.int j u)) Q E s) :
  OpR X f (rI C λi j=>.int (g i j)):=by
 intro e s J H x y v u Q I n m h;obtain⟨i,j,rfl,rfl,o,q⟩:=h;obtain⟨t,rfl⟩:=n;obtain⟨l,rfl⟩:=m;exact d i j t l s _ _ o ⟨.int (g i j),H,I.tok _,⟨_,rfl⟩,q⟩
def EJ{f:KM->KM->Sem KM}{g:Int->Int->Int}(d:∀(i j:Int)(t u:Tok)(s:GM)(Q:Yt)(E:Yt),Q (.int (g i j) s.toks) { s with toks:=s.toks+1 }->On (IR X.prog X.w) X.A (f (.int i t) (.int j u)) Q E s) :
  OpR X f (K6 λi j=>.int (g i j)):=by
 intro e s J H x y v u Q I n m h;obtain⟨i,j,rfl,rfl,q⟩:=h;obtain⟨t,rfl⟩:=n;obtain⟨l,rfl⟩:=m;exact d i j t l s _ _ ⟨.int (g i j),H,I.tok _,⟨_,rfl⟩,q⟩
def E5{f:KM->KM->Sem KM}{g:Int->Int->Bool}(d:∀(i j:Int)(t u:Tok)(s:GM)(Q:Yt)(E:Yt),Q (.bool (g i j)) s->On (IR X.prog X.w) X.A (f (.int i t) (.int j u)) Q E s) :
  OpR X f (K6 λi j=>.bl (g i j)):=by
 intro e s J H x y v u Q I n m h;obtain⟨i,j,rfl,rfl,q⟩:=h;obtain⟨t,rfl⟩:=n;obtain⟨l,rfl⟩:=m;exact d i j t l s _ _ ⟨.bl (g i j),H,I,rfl,q⟩
noncomputable def Eu(i j:Int):Prop:=0<j/\j<1073741824
noncomputable def Bv(i j:Int):Prop:=(-(2 ^ 64)<i/\i<2 ^ 64)\/(-(2 ^ 64)<j/\j<2 ^ 64)
def Bv.ok{i j:Int}(h:Bv i j):IntMulOk i j:=by
 rcases h with⟨e,d⟩ | ⟨e,d⟩
 ·exact .of_left (intBits_le_64 e d)
 ·exact .of_right (intBits_le_64 e d)
def CA:OpR X (binaryOp .Add) (K6 λi j=>.int (i+j)):=EJ λ_ _ _ _ _ _ _ q=>add_int q
def qr:OpR X (binaryOp .Sub) (K6 λi j=>.int (i-j)):=EJ λ_ _ _ _ _ _ _ q=>sub_int q
def D3:OpR X (binaryOp .Mult) (rI Bv λi j=>.int (i*j)):=Qs λ_ _ _ _ _ _ _ d q=>mul_int q d.ok
def lV:OpR X (binaryOp .FloorDiv) (rI Eu λi j=>.int (i/j)):=Qs λi j _ _ _ _ _ d q=>by
 have f:(0:Int)<j:=d.1;have e:j<1073741824:=d.2;exact floordiv_int (by lia) (by rw[Int.fdiv_eq_ediv_of_nonneg i (by lia)];exact q) (.inl (PyProof.noPylong_small (by omega)))
def De:OpR X (binaryOp .Mod) (rI (λ_ j=>0<j) λi j=>.int (i%j)):=Qs λi j _ _ _ _ _ d q=>by
 have e:(0:Int)<j:=d;exact mod_int' (by lia) (by rw[Int.fmod_eq_emod_of_nonneg i (by lia)];exact q)
def Um{f:KM->Sem KM}{g:Int->Int}(d:∀(i:Int)(t:Tok)(s:GM)(Q:Yt)(E:Yt),Q (.int (g i) s.toks) { s with toks:=s.toks+1 }->On (IR X.prog X.w) X.A (f (.int i t)) Q E s) :
  UnR X f (rU λi=>.int (g i)):=by
 intro e s J H x v Q I j h;obtain⟨i,rfl,q⟩:=h;obtain⟨t,rfl⟩:=j;exact d i t s _ _ ⟨.int (g i),H,I.tok _,⟨_,rfl⟩,q⟩
def DS:UnR X (unaryOp .USub) (rU λi=>.int (-i)):=Um λ_ _ _ _ _ q=>neg_int q
end
section
variable{X:Cx}{a b c:Expr}{ta tb tc:TE}{pos:Pos}
def CG{d:Yr}{J:St}{H:Hp}{s:GM}{Q:VK}{k f:Bool}(I:Inv X d J H s)(q:Q (.bl k) H)(e:k=f):EP X d J Q (.bool f) s:=by
 subst e;exact⟨.bl k,H,I,rfl,q⟩
def Ep:OpR X (UF .Lt) (K6 λi j=>.bl (decide (i<j))):=E5 λ_ _ _ _ _ _ _ q=>lt_int q
def Ej:OpR X (UF .Gt) (K6 λi j=>.bl (decide (j<i))):=E5 λ_ _ _ _ _ _ _ q=>gt_int q
def wB:OpR X (UF .Lt) (λx y H Q=>∃i j,x=.str i/\y=.str j/\Q (.bl (decide (i.cps.toList<j.cps.toList))) H):=by
 intro d s J H x y v u Q I f e h;obtain⟨i,j,rfl,rfl,q⟩:=h;obtain⟨t,rfl⟩:=f;obtain⟨g,rfl⟩:=e;exact lt_str (CG I q M)
def OpR.or{f:KM->KM->Sem KM}{r i:R2}(h:OpR X f r)(j:OpR X f i):OpR X f (λx y H Q=>r x y H Q\/i x y H Q):=by
 intro d s J H x y v u Q I g e q;rcases q with q | q
 ·exact h d s J H x y v u Q I g e q
 ·exact j d s J H x y v u Q I g e q
def g7(b:Expr){d:CmpOp}(h:d ≠ .In:=by decide)(e:d ≠ .NotIn:=by decide):behindInMarks d b=B:=by
 have e1:(d==CmpOp.In)=B:=by cases d<;>first | rfl | exact absurd M h
 have e2:(d==CmpOp.NotIn)=B:=by cases d<;>first | rfl | exact absurd M e
 cases b<;>simp[behindInMarks,e1,e2]
def Bn{e:CmpOp}{r:R2}(j:OpR X (UF e) r)(n:PE X a ta)(m:PE X b tb)(l:behindInMarks e b=B):PE X (.Compare a [e] [b] pos) (Nc r ta tb):=by
 intro d s J H Q I h;exact wpAny_Compare1 (CP n m I h λv u f x y p o i g q=>j d f J p x y v u Q o i g q) l
noncomputable def wK(t:TE):TT:=λJ H Q=>t J H λx d=>∃k,x=.bl k/\Q k d
def vi{f:CmpOp}{r:R2}(n:OpR X (UF f) r)(q:PE X a ta)(p:PE X b tb)(o:behindInMarks f b=B):PT X (.Compare a [f] [b] pos) (wK (Nc r ta tb)):=by
 intro d s J H Q I h;refine wpAny_isTrue_Compare1 (thn (q d s J H _ I h) λv s1 ⟨x,E,A,r1,m⟩=>thn (p d s1 J E _ A m) λu g ⟨y,D,w,r2,l⟩ =>
  thn (n d g J D x y v u _ w r1 r2 l) λc F ⟨z,C,t,i,k,e,j⟩=>?_) o
 subst e;cases i;exact Ww ⟨C,t,j⟩
noncomputable def zr(r h:R2)(ta g f:TE):TE:=λJ H Q=>ta J H λx l=>g J l λy j=>r x y j λz d=>∃k,z=.bl k ∧
 (if k=L then f J d λe i=>h y e i Q else Q (.bl B) d)
def xj{g i:CmpOp}{r j:R2}(P:OpR X (UF g) r)(JO:OpR X (UF i) j)(Z:PE X a ta)(U:PE X b tb)(S:PE X c tc)(R:lastMarks [g,i] [b,c]=B:=by with_unfolding_all rfl):PT X (.Compare a [g,i] [b,c] pos) (wK (zr r j ta tb tc)):=by
 intro f s J H Q I h;refine isTrue_chain (thn (Z f s J H _ I h) λv s1 ⟨x,H1,I1,r1,M⟩=>test_link (thn (U f s1 J H1 _ I1 M) λu w ⟨y,H2,I2,r2,G⟩ =>
  thn (P f w J H2 x y v u _ I2 r1 r2 G) λd t ⟨z,n,m,D,k,e,l⟩=>?_)) R
 subst e;cases D;refine Ww ?_;cases k with
 |false =>
  obtain⟨k',e',N⟩:=l;cases e';exact ite_ff ⟨n,m,N⟩
 |true =>
  refine ite_tt (test_last (thn (S f t J n _ m l) λp q ⟨o,H4,I4,C,F⟩=>thn (JO f q J H4 y o u p _ I4 r2 C F) λd' s5 ⟨z2,H5,I5,A,k2,e2,E⟩=>?_));subst e2;cases A;exact Ww ⟨H5,I5,E⟩
noncomputable def CN(K:Wy)(x:V)(H:Hp)(k:Bool):Prop :=
 match x with
 |.non=>k=B
 |.bl b=>k=b
 |.int i=>k=(i != 0)
 |.str y=>y.length<=KB/\k=((y.length:Int) != 0)
 |.byt y=>y.size<=KB/\k=((y.size:Int) != 0)
 |.ref p=>(∃d,GL K H p d/\k=!d.isEmpty)\/(∃d,Hi K H p d/\k=!d.isEmpty)\/∃e,H p=Y (.dK e)/\k=!e.isEmpty
 |_=>False
def sG{κ:Type}{e:List (κ×V)}{d:List (κ×KM)}(r:KV e d):(!d.isEmpty)=!e.isEmpty:=by
 cases r<;>rfl
def nL{d:List V}{e:Vy}(r:aP d e):(!e.toArray.isEmpty)=!d.isEmpty:=by
 cases r<;>simp
def kA:(KB:Nat)<2 ^ 63:=by rw[X5];decide
def Cv:Gh X (λx H Q=>∃k,CN X.K x H k/\Q k H):=by
 intro o s J H x v Q I g h;obtain⟨k,e,q⟩:=h;have E:=kA;have D:KB=16777216:=X5;cases x with
 |non =>
  cases g;have d:k=B:=e;subst d;exact truthy_none ⟨H,I,q⟩
 |bl b =>
  cases g;have d:k=b:=e;subst d;exact Ww ⟨H,I,q⟩
 |int i =>
  obtain⟨t,rfl⟩:=g;have d:k=(i != 0):=e;subst d;exact PySem.P.truthy_int ⟨H,I,q⟩
 |str y =>
  obtain⟨t,rfl⟩:=g;obtain⟨A,d⟩:y.length<=KB/\k=((y.length:Int) != 0):=e;subst d;exact PySem.P.truthy_str (by lia) ⟨H,I.tok _,q⟩
 |byt y =>
  obtain⟨t,rfl⟩:=g;obtain⟨A,d⟩:y.size<=KB/\k=((y.size:Int) != 0):=e;subst d;exact PySem.W.truthy_bytes (by lia) ⟨H,I.tok _,q⟩
 |ref p =>
  cases g;have d:(∃f,GL X.K H p f/\k=!f.isEmpty)\/(∃f,Hi X.K H p f/\k=!f.isEmpty)\/∃j,H p=Y (.dK j)/\k=!j.isEmpty:=e;rcases d with⟨f,l,d⟩ | ⟨f,l,d⟩ | ⟨j,l,d⟩
  ·subst d;obtain⟨z,r,pl,u⟩:=I.list l;have hlen:=r.length;exact wpAny_truthy_list pl.isList (by simp only[ZQ];lia) ⟨H,I.tok _,by rw[nL r];exact q⟩
  ·subst d;obtain⟨z,r,pl,u⟩:=I.tuple l;have hlen:=r.length;exact truthy_tuple pl (by simp only[ZQ];lia) ⟨H,I.tok _,by rw[nL r];exact q⟩
  ·subst d;obtain⟨u,C,n,r,m⟩:j.length<=KB/\(p==sysModules)=B/\∃n,KV j n/\s.heap.DictOf (aN X.prog X.w) p n:=I.Gq p _ l;have hlen:j.length=n.length:=XC r;exact wpAny_truthy_dict C m (by lia) ⟨H,I.tok _,by rw[sG r];exact q⟩
 |_=>exact(show False from e).elim
def zi(i:PE X a ta)(g:∀whole,isTrue a X.env whole=(do let v ← whole;standAt a.pos;holding [v] (truthy v))) :
  PT X a (λJ H Q=>ta J H λx e=>∃k,CN X.K x e k/\Q k e):=by
 intro d s J H Q I h;exact isTrue_plain (thn (i d s J H _ I h) λv s1 ⟨x,l,j,r1,f⟩=>Cv d s1 J l x v Q j r1 f) (g _)
def sH:OpR X (binaryOp .Add) (λx y H Q=>∃i j,x=.str i/\y=.str j/\i.length+j.length<=KB/\Q (.str (i++j)) H):=by
 intro d s J H x y v u Q I g f h;obtain⟨i,j,rfl,rfl,l,q⟩:=h;obtain⟨t,rfl⟩:=g;obtain⟨e,rfl⟩:=f;exact add_str (λe m=>⟨.str (i++j),H,I.tok _,⟨_,rfl⟩,q⟩) l
def vals1{x:V}{d:Vy}(r:aP [x] d):∃u,d=[u]/\RelV x u:=by
 cases r with
 |cons r1 r2=>cases r2;exact⟨_,rfl,r1⟩
def vals2{x y:V}{e:Vy}(r:aP [x,y] e):∃u d,e=[u,d]/\RelV x u/\RelV y d:=by
 cases r with
 |cons r1 r2 =>
  cases r2 with
  |cons g f=>cases f;exact⟨_,_,rfl,r1,g⟩
noncomputable def EN(K:Wy)(x:V)(H:Hp)(n:Nat):Prop :=
 match x with
 |.str y=>y.length<=KB/\n=y.length
 |.byt y=>y.size<=KB/\n=y.size
 |.ref p=>(∃d,GL K H p d/\n=d.length)\/∃d,Hi K H p d/\n=d.length
 |_=>False
def wZ:di X (.builtin "len") (λd H Q=>∃x n,d=[x]/\EN X.K x H n/\Q (.int n) H):=by
 intro l s J H d w Q I r h;obtain⟨x,n,rfl,e,q⟩:=h;obtain⟨u,rfl,g⟩:=vals1 r;have A:=kA;have z:KB=16777216:=X5;cases x with
 |str y =>
  obtain⟨t,rfl⟩:=g;obtain⟨v,f⟩:y.length<=KB/\n=y.length:=e;subst f;exact len_str (by lia) ⟨.int _,H,I.tok _,⟨_,rfl⟩,q⟩
 |byt y =>
  obtain⟨t,rfl⟩:=g;obtain⟨v,f⟩:y.size<=KB/\n=y.size:=e;subst f;exact PySem.W.len_bytes (by lia) ⟨.int _,H,I.tok _,⟨_,rfl⟩,q⟩
 |ref p =>
  cases g;have f:(∃d,GL X.K H p d/\n=d.length)\/∃d,Hi X.K H p d/\n=d.length:=e;rcases f with⟨d,j,f⟩ | ⟨d,j,f⟩
  ·subst f;obtain⟨m,i,pl,o⟩:=I.list j;have hlen:=i.length;exact Calls.call_len_list pl.isList (by simp only[ZQ];lia) ⟨.int d.length,H,I.tok _,⟨_,by simp only[ZQ];rw[hlen]⟩,q⟩
  ·subst f;obtain⟨m,i,pl,o⟩:=I.tuple j;have hlen:=i.length;exact len_tuple pl (by simp only[ZQ];lia) ⟨.int d.length,H,I.tok _,⟨_,by simp only[ZQ];rw[hlen]⟩,q⟩
 |_=>exact(show False from e).elim
end
structure Jw(h:UV)(x dx C:KF)(mA:Wi):Prop where
 obj:h.get? x=some (PySem.W.instObj C dx)
 ns:h.Ns1 dx mA
 ne:dx≠x
def v9{h:UV}{g:KF}{d:Wi}(n:h.Ns1 g d):∃b,h.get? g=Y b/\∀name,PySem.W.lookIn name b=Y (d name):=by
 obtain⟨o,f,s,j,hd,m,_,l⟩:=n;refine⟨o,j,λname=>?_⟩;have e:=l name;unfold nsFind findBy at e;rw[← Array.find?_toList]at e;unfold PySem.W.lookIn;rw[hd];dsimp only;split
 ·rename_i y q;rw[q]at e;exact congrArg Y e
 ·rename_i q;rw[q]at e;have a:f.toList.any (·.refKey)=B:=by
   rw[List.any_eq_false];intro y i;obtain⟨z,t,r⟩:=m y (Array.mem_toList_iff.mp i);simp[DictEntry.refKey,r]
  have p:¬f.toList.any (·.refKey)=L:=by rw[a];exact Zb
  rw[Zm p];exact congrArg Y e
def Jw.look{h:UV}{x d C:KF}{b:Wi}(I:Jw h x d C b):∃a,PySem.W.InstAt h x (PySem.W.instObj C d) C (Y a)/\∀name,PySem.W.lookIn name a=Y (b name) :=
 let ⟨a,e,f⟩:=v9 I.ns
 ⟨a,⟨I.obj,rfl,rfl,e⟩,f⟩
section
variable{prog:P3}{w:XAA}{A:Re}{E:Yt}{s:GM}{K:Wy}{x dx C f:KF}{mA:Wi}{name:Str}{v:KM}
def get_map{a:Bool}{Q:Yt}(X:K.In s.heap)(I:Jw s.heap x dx C mA)(g:PySem.W.plainGet K C name=L)(e:PySem.W.hasDictIn K C=L)(i:PySem.W.findIn K (.ref C) name=Y O)(b:mA name=Y v)(j:PySem.W.handedIn v=L)(h:Q v { s with toks:=s.toks+1 }) :
  On (IR prog w) A (getAttr (.ref x) name a) Q E s:=by
 obtain⟨m,l,d⟩:=I.look;exact PySem.W.get_value X l (W3 g).1 (PySem.W.findObj_own e i M (by rw[d,b])) j h
def yn{b:Sem Bool}{Q:KM×Vy->GM->Prop}(X:K.In s.heap)(I:Jw s.heap x dx C mA)(a:PySem.W.plainGet K C name=L)(j:PySem.W.findIn K (.ref C) name=Y (Y (.ref f)))(g:PySem.W.isFn K (.ref f)=L)(e:mA name=O)(h:Q (.ref f,[.ref x]) s) :
  On (IR prog w) A (getMethod (.ref x) name b) Q E s:=by
 obtain⟨d,l,i⟩:=I.look;exact PySem.W.method_fn X l (W3 a).1 (W3 a).2 j (beq_iff_eq.mp g) (by show (PySem.W.lookIn name d).map (·.isSome)=Y B;rw[i,e];rfl) h
def zG{j:List Str}{Q:Unit->GM->Prop}(X:K.In s.heap)(I:Jw s.heap x dx C mA)(q:PySem.W.findIn K (.ref C) "__setattr__" = Y (Y (.builtin "object.__setattr__")))(t:PySem.W.plainOver K C=L)(p:PySem.W.takerIn K C name=Y O)(u:PySem.W.hasDictIn K C=L)(hw:PySem.Within mA j)(e:j.length<=KB)(h:∀d,Jw d x dx C (λy=>if y=name then Y v else mA y)->Heap.SameBut dx s.heap d->Q () { s with heap:=d,toks:=s.toks+2 }) :
  On (IR prog w) A (setAttr (.ref x) name v) Q E s:=by
 obtain⟨J,n,N⟩:=I.look;refine PySem.W.set_plain X n q (PySem.W.osa_open (s:={ s with toks:=s.toks+1 }) (r:=none) X n t p λb=>?_);obtain⟨cd,z,H⟩:=PySem.W.any_some u;have o:s.heap.get? x=Y ⟨.ref C,Y dx,.plain,#[]⟩:=I.obj;refine Zx (Zl (Zx (Zx (wpAny_loadPart o (Zx (PySem.W.Looks.here (s:={ s with toks:=s.toks+1 }) (PySem.W.looks_clsIn X z) ?_))))));rw[H];refine Zl (a:=Y dx) (Zx (Zl (Zx ?_)));refine wpAny_nsSet1 (s:={ s with toks:=s.toks+1 }) I.ns λd l m=>?_;obtain⟨M,D,F,G,g,i⟩:=l.count (PySem.Within.cons name v hw);refine Zx (wpAny_lookBehind G (by rw[g];exact pastItsLine_dict (ZA i (by rw[Zg];exact Y6 e))) ?_);exact Zl (h _ ⟨(m.2 _ (YK I.ne)).trans I.obj,l,I.ne⟩ m)
def yR{R:Result->GM->Prop}{a:Vy}{b:List (Str×KM)}(X:K.In s.heap)(e:PySem.W.makesIn K C=L)(i:PySem.W.findIn K (.ref C) "__init__" = Y (Y (.ref f)))(j:PySem.W.typeIn K (.ref f)=Y (.type "function"))(h:codeAny (IR prog w) (A.under (.builtin "type.__call__" ⟨.ref C :: a,b⟩)) (.call (.ref f) ⟨.ref (s.heap.objs.size+1) :: a,b⟩) (PySem.W.InitBack (s.heap.objs.size+1) R)
   { s with heap:=(s.heap.push PySem.W.emptyDict).push (PySem.W.instObj C s.heap.objs.size) }) :
  codeAny (IR prog w) A (.call (.ref C) ⟨a,b⟩) R s:=by
 obtain⟨l,g,d,t,os⟩:=s;exact PySem.W.make_core (PySem.W.makes_of X e) (PySem.W.looks_findIn X i) (λself=>PySem.W.bind_fn X self j) (.inl M) h
end
noncomputable def iy(f:Str)(v:V):List (Str×V)->List (Str×V)
 |[]=>[(f,v)]
 | (g,x) :: r=>if g=f then (g,v) :: r else (g,x) :: iy f v r
theorem lF(f g:Str)(v:V):∀fs:List (Str×V),(iy f v fs).lookup g=if g=f then Y v else fs.lookup g
 |[]=>by
  show List.lookup g [(f,v)]=_;by_cases h:g=f
  ·have hb:(g==f)=L:=beq_iff_eq.mpr h;simp only[List.lookup,hb,Zo h]
  ·have hb:(g==f)=B:=IJ.mpr h;simp only[List.lookup,hb,Zm h]
 | (k,x) :: r=>by
  have b:=lF f g v r;rw[show iy f v ((k,x) :: r)=(if k=f then (k,v) :: r else (k,x) :: iy f v r) from rfl];by_cases a:k=f
  ·rw[Zo a];by_cases h:g=k
   ·have hb:(g==k)=L:=beq_iff_eq.mpr h;simp only[List.lookup,hb,Zo (h.trans a)]
   ·have hb:(g==k)=B:=IJ.mpr h;simp only[List.lookup,hb,Zm (λe:g=f=>h (e.trans a.symm))]
  ·rw[Zm a];by_cases h:g=k
   ·have hb:(g==k)=L:=beq_iff_eq.mpr h;simp only[List.lookup,hb,Zm (λe:g=f=>a (h.symm.trans e))]
   ·have hb:(g==k)=B:=IJ.mpr h;simp only[List.lookup,hb];exact b
theorem kY(f:Str)(v:V):∀fs:List (Str×V),f∈(iy f v fs).map (·.1)/\∀g,g∈fs.map (·.1)->g∈(iy f v fs).map (·.1)
 |[]=>⟨by simp[iy],λg h=>by simp at h⟩
 | (k,x) :: r=>by
  obtain⟨d,b⟩:=kY f v r;rw[show iy f v ((k,x) :: r)=(if k=f then (k,v) :: r else (k,x) :: iy f v r) from rfl];by_cases a:k=f
  ·rw[Zo a];subst a;exact⟨by simp,λg h=>by simpa using h⟩
  ·rw[Zm a];refine⟨?_,λg h=>?_⟩
   ·rw[Ze];exact Zv _ d
   ·rw[Ze]at h ⊢;rcases Zh.mp h with e | e
    ·exact Zh.mpr (.inl e)
    ·exact Zv _ (b g e)
theorem lu(f:Str)(v:V):∀fs:List (Str×V),(iy f v fs).length<=fs.length+1
 |[]=>by simp[iy]
 | (k,x) :: r=>by
  have b:=lu f v r;rw[show iy f v ((k,x) :: r)=(if k=f then (k,v) :: r else (k,x) :: iy f v r) from rfl];by_cases a:k=f
  ·rw[Zo a,Zg,Zg];exact ZI _ _
  ·rw[Zm a,Zg,Zg];exact Y6 b
def iA.some_of{v:V}{o:Vx}(r:iA (Y v) o):∃u,o=Y u/\RelV v u:=by
 cases o with
 |none=>exact(show False from r).elim
 |some u=>exact⟨u,rfl,r⟩
def iA.none_of{o:Vx}(r:iA O o):o=O:=by
 cases o with
 |none=>rfl
 |some u=>exact(show False from r).elim
def vE{v:V}{u:KM}(r:RelV v u):PySem.W.handedIn u=L:=by
 cases v with
 |non=>cases (show u=Value.none from r);rfl
 |bl b=>cases (show u=Value.bool b from r);rfl
 |int i=>obtain⟨t,e⟩:=(show ∃t,u=Value.int i t from r);cases e;rfl
 |str x=>obtain⟨t,e⟩:=(show ∃t,u=Value.str x t from r);cases e;rfl
 |byt b=>obtain⟨t,e⟩:=(show ∃t,u=Value.bytes b t from r);cases e;rfl
 |flt b=>obtain⟨t,e⟩:=(show ∃t,u=Value.float b t from r);cases e;rfl
 |ref a=>cases (show u=Value.ref a from r);rfl
 |ty n=>cases (show u=Value.type n from r);rfl
section
variable{P:P3}{w:XAA}{H H':Hp}{h h':UV}{a C dx:KF}{fs Il:List (Str×V)}
def l7(i:Hj P w H h)(e:H a=Y (.ins C dx fs)):∃b,Jw h a dx C b/\(∀f,iA (fs.lookup f) (b f))/\PySem.Within b (fs.map (·.1))/\fs.length<=1000/\H dx=Y (.own a):=by
 obtain⟨d,z,ne,g,b,n,r,q⟩:=(show bx P w H h a (.ins C dx fs) from i a _ e)
 exact⟨b,⟨g,n,ne⟩,r,q,z,d⟩
end
structure HX(K:Wy)(C:KF):Prop where
 pg:PySem.W.plainGet K C Str.empty=true
 hd:PySem.W.hasDictIn K C=true
 po:PySem.W.plainOver K C=true
 sa:PySem.W.findIn K (.ref C) "__setattr__" = some (some (.builtin "object.__setattr__"))
def HX.get{K:Wy}{C:KF}(c:HX K C)(f:Str):PySem.W.plainGet K C f=L:=c.pg
noncomputable def cI(K:Wy)(C:KF)(f:Str):Prop:=PySem.W.findIn K (.ref C) f=Y O
def cI.NG{K:Wy}{C:KF}{f:Str}(n:cI K C f):PySem.W.takerIn K C f=Y O:=by
 unfold PySem.W.takerIn;rw[show PySem.W.findIn K (.ref C) f=Y O from n];rfl
structure Meth(K:Wy)(C:KF)(m:Str)(f:KF):Prop where
 at_:PySem.W.findIn K (.ref C) m=some (some (.ref f))
 fn:PySem.W.isFn K (.ref f)=true
 kp:PySem.W.keepIn K (.ref f)=true
section
variable{X:Cx}{pins:Yr}{J:St}{H:Hp}{s:GM}{a C dx:KF}{fs:List (Str×V)}{f:Str}{v:V}{A:Re}{E:Yt}
def su{b:Bool}{Q:Yt}(I:Inv X pins J H s)(e:H a=Y (.ins C dx fs))(c:HX X.K C)(n:cI X.K C f)(l:fs.lookup f=Y v)(h:∀u d,Inv X pins J H d->RelV v u->Q u d):On (IR X.prog X.w) A (getAttr (.ref a) f b) Q E s:=by
 obtain⟨i,O,r,_,_,_⟩:=l7 I.Gq e;obtain⟨u,j,g⟩:=iA.some_of (v:=v) (o:=i f) (by rw[← l];exact r f);exact get_map I.HB O (c.get f) c.hd n j (vE g) (h u _ (I.tok _) g)
def mY{m:Str}{g:KF}{b:Sem Bool}{Q:KM×Vy->GM->Prop}(I:Inv X pins J H s)(e:H a=Y (.ins C dx fs))(c:HX X.K C)(k:Meth X.K C m g)(l:fs.lookup m=none)(h:Q (.ref g,[.ref a]) s):On (IR X.prog X.w) A (getMethod (.ref a) m b) Q E s:=by
 obtain⟨d,O,r,_,_,_⟩:=l7 I.Gq e;have i:d m=none:=iA.none_of (by rw[← l];exact r m);exact yn I.HB O (c.get m) k.at_ k.fn i h
def tD{y:V}{u:KM}{Q:Unit->GM->Prop}(I:Inv X pins J H s)(e:H a=Y (.ins C dx fs))(c:HX X.K C)(n:cI X.K C f)(G:fs.length<1000)(p:RelV y u)(h:∀j,Inv X pins J (upd H a (.ins C dx (iy f y fs))) j->Q () j):On (IR X.prog X.w) A (setAttr (.ref a) f u) Q E s:=by
 obtain⟨l,O,r,i,_,m⟩:=l7 I.Gq e;have t:(fs.map (·.1)).length<=sizeLine:=by rw[Zt,X5];lia
 refine zG I.HB O c.sa c.po n.NG c.hd i t λD d sb=>h _ ?_;have hd:∃o,D.get? dx=Y o:=let ⟨o,_,_,F,_⟩:=d.ns;⟨o,F⟩
 refine I.write (x:=a) (e:=dx) (by rw[e];exact True.intro) (.inr m) (λb q hb z=>(sb.2 b hb).trans z) hd ?_;refine⟨by rw[aF O.ne];exact m,?_,O.ne,d.obj,_,d.ns,λg=>?_,λg hg=>?_⟩
 ·have:=lu f y fs;lia
 ·show iA ((iy f y fs).lookup g) (if g=f then Y u else l g);rw[lF];by_cases q:g=f
  ·rw[Zo q,Zo q];exact p
  ·rw[Zm q,Zm q];exact r g
 ·by_cases q:g=f
  ·rw[q];exact(kY f y fs).1
  ·refine(kY f y fs).2 g (i g λz=>hg ?_);show (if g=f then Y u else l g)=none;rw[Zm q];exact z
def Inv.made(I:Inv X pins J H s):Inv X pins J (upd (upd H s.heap.objs.size (.own (s.heap.objs.size+1))) (s.heap.objs.size+1) (.ins C s.heap.objs.size []))
  { s with heap:=(s.heap.push PySem.W.emptyDict).push (PySem.W.instObj C s.heap.objs.size) }:=by
 have e1:(s.heap.push PySem.W.emptyDict).get? s.heap.objs.size=Y PySem.W.emptyDict:=ZY s.heap M;have e2:((s.heap.push PySem.W.emptyDict).push (PySem.W.instObj C s.heap.objs.size)).get? (s.heap.objs.size+1)=Y (PySem.W.instObj C s.heap.objs.size):=by
  have:=ZY (s.heap.push PySem.W.emptyDict) (o:=PySem.W.instObj C s.heap.objs.size) M
  rwa [YT]at this
 have h:(s.heap.push PySem.W.emptyDict).Ns s.heap.objs.size (λ_=>O):=⟨PySem.W.emptyDict,#[],_,e1,rfl,(λe g=>absurd g (by simp)),λ_=>rfl⟩
 have i:=I.laid (a:=s.heap.objs.size) (o:=.own (s.heap.objs.size+1)) (h':=s.heap.push PySem.W.emptyDict) (t':=s.toks) (λb u q=>Zn _ q) (Zp _) ⟨_,e1⟩;refine i.laid (a:=s.heap.objs.size+1) (o:=.ins C s.heap.objs.size []) (t':=s.toks) (λb u q=>Zn _ q) (XQ (YT _ _)) ?_;have ne:s.heap.objs.size≠s.heap.objs.size+1:=Za (Yp _);refine⟨by rw[aF ne,aw],ZG _,ne,e2,λ_=>O,(Heap.Ns1.of_empty h).at λo q=>Zn _ q,λ_=>True.intro,λy d=>absurd M d⟩
def Bg{b:P3}{w:XAA}{d:Env}{e:Expr}{f:Str}{g:Pos}{s:GM}{Q:Yt}(j:XAB e f d (eval e d)=eval e d)(h:On (IR b w) A (eval e d) (λo i=>On (IR b w) A (getAttr o f L) Q E i) E s):On (IR b w) A (eval (.Attribute e f g) d) Q E s :=
 Attribute_any_ h (by rw[arm_eval_Attribute,j])
end
noncomputable def FY(K:Wy)(ta:TE)(f:Str):TE:=λJ H Q=>ta J H λx b=>∃a C d fs v,x=.ref a/\b a=Y (.ins C d fs)/\HX K C/\cI K C f/\fs.lookup f=Y v/\Q v b
noncomputable def FL(K:Wy)(ta e:TE)(f:Str):TS:=λD J H=>e J H λy g=>ta J g λx d=>∃a C b fs,x=.ref a/\d a=Y (.ins C b fs)/\HX K C/\cI K C f/\fs.length<1000 ∧
 D.nx J (upd d a (.ins C b (iy f y fs)))
section
variable{X:Cx}{o e value:Expr}{f:Str}{pos pos' Uq:Pos}{ta tv:TE}
def yh(i:PE X e ta)(j:XAB e f X.env (eval e X.env)=eval e X.env):PE X (.Attribute e f pos) (FY X.K ta f):=by
 intro b s J H Q I h;refine Bg j (thn (i b s J H _ I h) λu s1 ⟨x,t,r,d,a,C,z,fs,v,ex,m,c,n,l,q⟩=>?_);subst ex;obtain rfl:u=Value.ref a:=d;exact su r m c n l λw y p g=>⟨v,t,p,g,q⟩
def CC(p:PE X o ta)(j:PE X value tv)(m:swapsWith value (Y (.Attribute o f pos')) pos.line X.env=pure B):PS X (.Assign [.Attribute o f pos'] value pos) (FL X.K ta tv f):=by
 intro b s J H D I h;refine plainObj_wpAny_Assign_Attribute (thn (j b s J H _ I h) λu s1 ⟨y,z,w,d,q⟩=>thn (p b s1 J z _ w q) λov E ⟨x,G,v,g,a,C,F,fs,ex,r,c,n,l,i⟩=>?_) m;subst ex;obtain rfl:ov=Value.ref a:=g;exact tD v r c n l d λA t=>⟨J,_,t,i⟩
end
section
variable{X:Cx}{pins:Yr}{J:St}{H:Hp}{s:GM}{A:Re}{E:Yt}{Q:Yt}{c:KM}{b:Bool}
inductive Hn(K:Wy)(H:Hp):V->KM->Prop where
 |non:Hn K H .non (.type "NoneType")
 |bl (x:Bool):Hn K H (.bl x) (.type "bool")
 |int (i:Int):Hn K H (.int i) (.type "int")
 |str (x:Str):Hn K H (.str x) (.type "str")
 |flt (x:UInt64):Hn K H (.flt x) (.type "float")
 |lst {a:KF} {xs:List V} (e:H a=some (.lst xs)):Hn K H (.ref a) (.type "list")
 |frz {a:KF} {o:Obj} {xs:List V} (e:H a=some (.frz o (.lst xs))):Hn K H (.ref a) (.type "list")
 |tup {a:KF} {xs:List V} (e:H a=some (.tup xs)):Hn K H (.ref a) (.type "tuple")
 |dK {a:KF} {gV:List (Key×V)} (e:H a=some (.dK gV)):Hn K H (.ref a) (.type "dict")
 |dT {a:KF} {gV:List (List Key×V)} (e:H a=some (.dT gV)):Hn K H (.ref a) (.type "dict")
 |ins {a C dx:KF} {fs:List (Str×V)} (e:H a=some (.ins C dx fs)) (cl:HX K C) (ha:PySem.W.findIn K (.ref C) "__class__" = some (some (.builtin "object.__class__")))
   (hn:PySem.W.specialIn K (.builtin "object.__class__") "__get__" = some (some (.builtin "getset_descriptor.__get__"))) (SQ:PySem.W.takesIn K (.builtin "object.__class__")=some true)
   (hm:PySem.W.mroIn K C (.type "object")=some true):Hn K H (.ref a) (.ref C)
def wC{x:V}{u t:KM}(I:Inv X pins J H s)(d:RelV x u)(r:Hn X.K H x t)(e:PySem.W.kitOne X.K t c=Y b)(h:∀v,Q (.bool b) { s with toks:=v }) :
  On (IR X.prog X.w) A (call (.builtin "isinstance") [u,c]) Q E s:=by
 cases r with
 |non=>cases (show u=Value.none from d);exact YQ PySem.W.kitx_none I.HB True.intro e (λz=>nomatch z) h
 |bl y=>cases (show u=Value.bool y from d);exact YQ PySem.W.kitx_bool I.HB True.intro e (λz=>nomatch z) h
 |int i=>obtain⟨t,q⟩:=(show ∃t,u=Value.int i t from d);cases q;exact YQ PySem.W.kitx_int I.HB True.intro e (λz=>nomatch z) h
 |str y=>obtain⟨t,q⟩:=(show ∃t,u=Value.str y t from d);cases q;exact YQ PySem.W.kitx_str I.HB True.intro e (λz=>nomatch z) h
 |flt y=>obtain⟨t,q⟩:=(show ∃t,u=Value.float y t from d);cases q;exact YQ PySem.W.kitx_float I.HB True.intro e (λz=>nomatch z) h
 |@lst a j f =>
  cases (show u=Value.ref a from d);obtain⟨_,_,n,_,g⟩:=(show bx X.prog X.w H s.heap a (.lst j) from I.Gq a _ f)
  exact YQ PySem.W.kitx_list I.HB ⟨_,g,rfl⟩ e (λz=>nomatch z) h
 |@frz a D j f =>
  cases (show u=Value.ref a from d);obtain⟨_,_,_,n,_,g⟩:=(show bx X.prog X.w H s.heap a (.frz D (.lst j)) from I.Gq a _ f)
  exact YQ PySem.W.kitx_list I.HB ⟨_,g,rfl⟩ e (λz=>nomatch z) h
 |@tup a j f =>
  cases (show u=Value.ref a from d);obtain⟨_,_,_,_,p⟩:=(show bx X.prog X.w H s.heap a (.tup j) from I.Gq a _ f)
  obtain⟨o,g,l,_⟩:=p;exact YQ PySem.W.kitx_tuple I.HB ⟨o,g,l⟩ e (λz=>nomatch z) h
 |@dK a m f =>
  cases (show u=Value.ref a from d);obtain⟨_,_,U,_,p⟩:=(show bx X.prog X.w H s.heap a (.dK m) from I.Gq a _ f)
  obtain⟨o,N,P,g,l,_⟩:=p;exact YQ PySem.W.kitx_dict I.HB ⟨o,g,l.1⟩ e (λz=>nomatch z) h
 |@dT a m f =>
  cases (show u=Value.ref a from d);obtain⟨_,_,j,_,o,N,P,g,l,_⟩:=(show bx X.prog X.w H s.heap a (.dT m) from I.Gq a _ f)
  exact YQ PySem.W.kitx_dict I.HB ⟨o,g,l.1⟩ e (λz=>nomatch z) h
 |@ins a C dx fs f cl M F R G =>
  cases (show u=Value.ref a from d);obtain⟨mA,O,_⟩:=l7 I.Gq f;obtain⟨Z,S,_⟩:=O.look;exact YQ (PySem.W.kitx_own (cl.get _) cl.hd M F R G) I.HB S e (λz=>nomatch z) h
end
structure Gn(k:Nat)(A:Re):Prop where
 hd:A.handled=none
 dp:A.depth+3*k+5<recursionLimit
 un:A.units+16*k+200<cLine
def Gn.mono{j k:Nat}{A:Re}(r:Gn k A)(h:j<=k):Gn j A:=⟨r.hd,by have:=r.dp;lia,by have:=r.un;lia⟩
theorem Gn.deeper{k:Nat}{A:Re}(r:Gn (k+1) A)(a:Env):Gn k (A.deeper a) :=
 ⟨r.hd,by have:=r.dp;show A.depth+1+3*k+5<_;lia,by have:=r.un;show A.units+3+16*k+200<_;lia⟩
def sT{A:Re}{C:KF}{a:Vy}{b:List (Str×KM)}:(A.under (.builtin "type.__call__" ⟨.ref C :: a,b⟩)).depth=A.depth+1:=by
 first | rfl | simp[Around.under,Code.weight,Code.isCreation,Code.isGuard,Code.isCaller,Code.frames,Code.isFrame,guardIds]
def sR{A:Re}{C:KF}{a:Vy}{b:List (Str×KM)}:(A.under (.builtin "type.__call__" ⟨.ref C :: a,b⟩)).units=A.units+1:=by
 first | rfl | simp[Around.under,Code.cUnits,Code.frames,Code.isFrame]
def Gn.make{k:Nat}{A:Re}(r:Gn (k+1) A)(C:KF)(a:Vy)(b:List (Str×KM)):Gn k (A.under (.builtin "type.__call__" ⟨.ref C :: a,b⟩)) :=
 ⟨r.hd,by have:=r.dp;rw[sT];lia,by have:=r.un;rw[sR];lia⟩
theorem Gn.depth{k:Nat}{A:Re}(r:Gn k A):A.depth<recursionLimit:=by have:=r.dp;lia
theorem Gn.units{k:Nat}{A:Re}(r:Gn k A):A.units+64<cLine:=by have:=r.un;lia
noncomputable def wg:TA:=λ_ H Q=>Q [] H
noncomputable def BU(ta:TE)(b:TA):TA:=λJ H Q=>ta J H λx e=>b J e λa d=>Q (x :: a) d
section
variable{X:Cx}{e:Expr}{es:List Expr}{te:TE}{t:TA}{pos:Pos}
def fI:PA X [] wg:=λ_ _ _ _ H Q I h=>Calls.spliced_nil ⟨[],H,I,.nil,h⟩
def cX(j:PE X e te)(i:PA X es t)(g:K1 e es X:=by rfl):PA X (e :: es) (BU te t):=by
 intro pos a s J H Q I h;rw[g];show On _ _ (spliced ((B,eval e X.env) :: backTo pos (Pi es X.env))) _ _ s;refine Calls.spliced_cons (thn (j a s J H _ I h) λu s1 ⟨x,o,m,r1,f⟩=>?_);exact thn (i pos a s1 J o _ m f) λp q ⟨b,n,l,r2,d⟩=>⟨x :: b,n,l,.cons r1 r2,d⟩
noncomputable def Gm(t:TA):TE:=λJ H Q=>t J H λa b=>a.length<=KB/\∀p,b p=O->Q (.ref p) (upd b p (.tup a))
noncomputable def FZ(t:TA):TE:=λJ H Q=>t J H λa b=>a.length<=KB/\∀p,b p=O->Q (.ref p) (upd b p (.lst a))
def D1{x1}(h:PA X es t):PE X (.Tuple es x1 pos) (Gm t):=by
 intro a s J H Q I j;refine wpAny_Tuple_spliced (thn (h pos a s J H _ I j) λi s1 ⟨g,f,d,r,z,q⟩=>⟨by rw[← r.length];exact z,?_⟩);have l:f s1.heap.objs.size=O:=d.Gq.fresh (Zp _);refine⟨.ref s1.heap.objs.size,upd f s1.heap.objs.size (.tup g),d.laid (t':=s1.toks) (λb u e=>Zn _ e) (Zp _) ?_,rfl,q _ l⟩;exact⟨z,i,r,Mc.of (ZY _ M) M,⟨_,ZY _ M,rfl,_,rfl⟩⟩
def sv(h:PA X es t):PE X (.List es pos) (FZ t):=by
 intro a s J H Q I j;refine wpAny_List_spliced (thn (h pos a s J H _ I j) λi s1 ⟨g,f,d,r,z,q⟩=>⟨by rw[← r.length];exact z,?_⟩);have l:f s1.heap.objs.size=O:=d.Gq.fresh (Zp _);refine⟨.ref s1.heap.objs.size,upd f s1.heap.objs.size (.lst g),d.laid (t':=s1.toks) (λb u e=>Zn _ e) (Zp _) ?_,rfl,q _ l⟩;exact⟨z,i,0,r,ZY _ M⟩
end
noncomputable abbrev Sp:=List V->Hp->VK->XK->Prop
noncomputable abbrev Kd:=List Env->Hp->GM->XK->Yt
structure Env0(P:P3)(w:XAA)(K:Wy)(mg:Wi)(base:UV)(A:Re)(outer:List Env)(s:GM)(H:Hp):Prop where
 frames:A.frames=some outer
 mod:Mod K mg base
 bs:∀b o,base.get? b=some o->s.heap.get? b=some o/\H b=none
 LG:base.objs.size<=s.heap.objs.size
 HC:s.heap.FunFrames base outer
 MT:∀b∈Hl outer,H b=none
 Gq:Hj P w H s.heap
 bare:AllBare s.gens
noncomputable def CE(a:List Env)(P:P3)(w:XAA)(H:Hp)(s:GM)(Q:VK)(u:KM)(b:GM):Prop :=
 ∃v d,b.os=s.os/\AllBare b.gens/\Un (Hl a) [] H d s.heap b.heap/\Hj P w d b.heap/\RelV v u/\Q v d
noncomputable def CR(d:Kd)(a:List Env)(P:P3)(w:XAA)(H:Hp)(s:GM)(Q:VK)(E:XK)(r:Result)(b:GM):Prop :=
 match r with
 |.ok (.ret u)=>CE a P w H s Q u b
 |.ok _=>False
 |.error e=>d a H s E e b
structure FnOk(P:P3)(w:XAA)(K:Wy)(mg:Wi)(base:UV)(CX:Kd)(k:Nat)(f:KF)(fd:Pv)(ps:List Str)(sp:Sp):Prop where
 len:∀vs H Q E,sp vs H Q E->vs.length=ps.length
 run:∀(A:Re)(outer:List Env)(s:GM)(H:Hp)(args:Args)(us:Vy)(vs:List V)(Q:VK)(E:XK),Gn k A->Env0 P w K mg base A outer s H->BindsTo s fd args (ps.zip us)->aP vs us->sp vs H Q E →
  codeAny (IR P w) A (.call (.ref f) args) (CR CX outer P w H s Q E) s
def FnOk.imp{P:P3}{w:XAA}{K:Wy}{g:Wi}{a:UV}{l:Kd}{k:Nat}{f:KF}{i:Pv}{e:List Str}{d j:Sp}(F:FnOk P w K g a l k f i e d)(h:∀b H Q E,j b H Q E->d b H Q E):FnOk P w K g a l k f i e j :=
 ⟨λb H Q E q=>F.len b H Q E (h _ _ _ _ q),λA outer s H args m b Q E p r hb n o=>F.run A outer s H args m b Q E p r hb n (h _ _ _ _ o)⟩
def Env0.make{P:P3}{w:XAA}{K:Wy}{d:Wi}{b:UV}{A:Re}{a:List Env}{s:GM}{H:Hp}(e:Env0 P w K d b A a s H)(C:KF)(f:Vy)(g:List (Str×KM)) :
  Env0 P w K d b (A.under (.builtin "type.__call__" ⟨.ref C :: f,g⟩)) a s H:=⟨by first | exact e.frames | (simpa[Around.under,Code.envs,Code.isFrame,pushEnvs] using e.frames),e.mod,e.bs,e.LG,e.HC,e.MT,e.Gq,e.bare⟩
section
variable{X:Cx}{pins:Yr}{J:St}{H:Hp}{s s':GM}
def Inv.OD(I:Inv X pins J H s):Env0 X.prog X.w X.K X.mg X.base X.A X.stack s H :=
 ⟨I.ok.frames,I.ok.mod,I.bs,ZA I.ok.LG I.sz,I.stack,I.Jy,I.Gq,I.bare⟩
def Inv.after{Q:VK}{u:KM}(I:Inv X pins J H s)(h:CE X.stack X.prog X.w H s Q u s'):EP X pins J Q u s':=by
 obtain⟨v,f,os,bare,un,Gq,r,q⟩:=h;obtain⟨a,g,d,t,e⟩:=s';obtain rfl:e=s.os:=os;exact⟨v,f,I.call (h':=a) (g':=g) (d':=d) (t':=t) (ch:=[]) un Gq bare (λb z=>absurd z (by simp)),r,q⟩
end
noncomputable def Cd(b:Sp)(d:List V)(E:XK)(t:TA):TE:=λJ H Q=>t J H λa e=>b (a++d) e Q E
noncomputable def uH(C:KF)(m:Str)(e:Sp)(g:List V)(E:XK)(ta:TE)(t:TA):TE:=λJ H Q=>ta J H λx b=>∃a f fs,x=.ref a/\b a=Y (.ins C f fs)/\fs.lookup m=O ∧
 t J b λd h=>e (x :: (d++g)) h Q E
noncomputable def Cc(C:KF)(e:Sp)(f:List V)(E:XK)(t:TA):TE:=λJ H Q=>t J H λd b=>∀x a,b x=O->b a=O->a≠x →
 e (.ref x :: (d++f)) (upd (upd b a (.own x)) x (.ins C a [])) (λv g=>v=.non/\Q (.ref x) g) E
noncomputable def Binds(K:Wy)(d:Pv)(b:List Str)(ds:Vy):Prop :=
 ∀(s:GM)(a:Vy),K.In s.heap->(a++ds).length=b.length->BindsTo s d ⟨a,[]⟩ (b.zip (a++ds))
def Binds.all{K:Wy}{e:Pv}{b:List Str}(h:∀a:Vy,a.length=b.length->bindArgs e ⟨a,[]⟩=pure (b.zip a)):Binds K e b []:=λs a _ d=>by
 rw[ZK]at d ⊢;exact .of_eq (h a d)
noncomputable def jC(d:Kd)(X:Cx)(E:XK):Prop:=∀(a:Yr)(J:St)(H:Hp)(s:GM)(e:KM)(b:GM),Inv X a J H s->d X.stack H s E e b->X.xe e b
section
variable{X:Cx}{CX:Kd}{k:Nat}{f C:KF}{fd:Pv}{ps:List Str}{sp:Sp}{Im:List V}{ds:Vy}{E:XK}{x m:Str}{p pos apos:Pos}{e o:Expr}{es:List Expr}{ta:TE}{t:TA}
def tV{a:Yr}{J:St}{H:Hp}{s:GM}{Q:VK}{us:Vy}{vs:List V}(F:FnOk X.prog X.w X.K X.mg X.base CX k f fd ps sp)(i:Gn k X.A)(n:Binds X.K fd ps ds)(l:aP Im ds)(g:jC CX X E)(I:Inv X a J H s)(r:aP vs us)(h:sp (vs++Im) H Q E):On (IR X.prog X.w) X.A (call (.ref f) us) (EP X a J Q) X.xe s:=by
 have r2:aP (vs++Im) (us++ds):=r.append l;have j:(us++ds).length=ps.length:=by rw[← r2.length];exact F.len _ _ _ _ h
 refine wpAny_call (Wu (F.run X.A X.stack s H ⟨us,[]⟩ (us++ds) (vs++Im) Q E i I.OD (n s us I.HB j) r2 h) λr d b=>?_);cases r with
 |error e=>exact g a J H s e d I b
 |ok q =>
  cases q with
  |ret u=>exact I.after b
  |next=>exact False.elim b
  |brk=>exact False.elim b
  |cont=>exact False.elim b
def uV(F:FnOk X.prog X.w X.K X.mg X.base CX k f fd ps sp)(i:Gn k X.A)(n:Gl X x)(j:X.mg x=Y (.ref f))(l:PySem.W.keepIn X.K (.ref f)=L)(y:Binds X.K fd ps ds)(v:aP Im ds)(g:jC CX X E)(z:PA X (e :: es) t)(D:K3 x:=by decide)(u:K1 e es X:=by rfl)(b:K2 pos es X:=by rfl) :
  PE X (.Call (.Name x p) (e :: es) [] pos) (Cd sp Im E t):=by
 intro a s J H Q I h;refine WX (uY I n j ?_ D);refine PySem.W.callWith_K (h₀:=X.base) I.ok.mod.Pm l (thn (z pos a s J H _ I h) λM s1 ⟨G,N,d,r,q⟩=>⟨d.HB,?_⟩) u b;exact tV F i y v g d r q
def uA{pl:Sem Bool}(G:PE X o ta)(c:HX X.K C)(g:Meth X.K C m f)(F:FnOk X.prog X.w X.K X.mg X.base CX k f fd ps sp)(D:Gn k X.A)(P:Binds X.K fd ps ds)(N:aP Im ds)(y:jC CX X E)(R:PA X (e :: es) t)(U:K1 e es X:=by rfl)(d:K2 pos es X:=by rfl)(z:eval (.Call (.Attribute o m apos) (e :: es) [] pos) X.env=(do
   let ov ← eval o X.env
   standAt apos.atName
   let (f,first) ← holding [ov] (getMethod ov m pl)
   callWith pos f first (backTo pos (Pi (e :: es) X.env)) (backToKw pos (SL [] X.env))):=by rfl) :
  PE X (.Call (.Attribute o m apos) (e :: es) [] pos) (uH C m sp Im E ta t):=by
 intro b s J H Q I h;refine PySem.W.methodCall_KW (pl:=pl) (thn (G b s J H _ I h) λu s1 ⟨x,Z,j,n,a,dx,fs,ex,S,l,q⟩=>?_) z;subst ex;obtain rfl:u=Value.ref a:=n;refine mY j S c g l ?_;refine PySem.W.callWith_K (first:=[.ref a]) (h₀:=X.base) I.ok.mod.Pm g.kp (thn (R pos b s1 J Z _ j q) λus s2 ⟨vs,H2,i,r,v⟩=>⟨i.HB,?_⟩) U d;exact tV (us:=.ref a :: us) (vs:=.ref a :: vs) F D P N y i (.cons M r) v
def yK{pl:Sem Bool}(v:PE X o ta)(c:HX X.K C)(g:Meth X.K C m f)(F:FnOk X.prog X.w X.K X.mg X.base CX k f fd ps sp)(r:Gn k X.A)(z:Binds X.K fd ps ds)(y:aP Im ds)(j:jC CX X E)(n:eval (.Call (.Attribute o m apos) [] [] pos) X.env=(do
   let ov ← eval o X.env
   standAt apos.atName
   let (f,first) ← holding [ov] (getMethod ov m pl)
   callWith pos f first (backTo pos (Pi [] X.env)) (backToKw pos (SL [] X.env))):=by rfl) :
  PE X (.Call (.Attribute o m apos) [] [] pos) (uH C m sp Im E ta wg):=by
 intro b s J H Q I h;refine PySem.W.methodCall_KW (pl:=pl) (thn (v b s J H _ I h) λu s1 ⟨x,N,d,i,a,G,fs,ex,D,l,q⟩=>?_) n;subst ex;obtain rfl:u=Value.ref a:=i;refine mY d D c g l ?_;exact PySem.W.callWith_K0 (first:=[.ref a]) d.HB g.kp (tV (us:=[.ref a]) (vs:=[.ref a]) F r z y j d (.cons M .nil) q)
structure Mk(K:Wy)(C f:KF):Prop where
 makes:PySem.W.makesIn K C=true
 init:PySem.W.findIn K (.ref C) "__init__" = some (some (.ref f))
 fn:PySem.W.isFn K (.ref f)=true
 kp:PySem.W.keepIn K (.ref C)=true
def x6{a:Yr}{J:St}{H:Hp}{s:GM}{Q:VK}{us:Vy}{i:List V}(M:Mk X.K C f)(F:FnOk X.prog X.w X.K X.mg X.base CX k f fd ps sp)(z:Gn (k+1) X.A)(N:Binds X.K fd ps ds)(G:aP Im ds)(y:jC CX X E)(I:Inv X a J H s)(r:aP i us)(h:∀x d,H x=O->H d=O->d≠x->sp (.ref x :: (i++Im)) (upd (upd H d (.own x)) x (.ins C d [])) (λv S=>v=.non/\Q (.ref x) S) E) :
  On (IR X.prog X.w) X.A (call (.ref C) us) (EP X a J Q) X.xe s:=by
 have j:=h (s.heap.objs.size+1) s.heap.objs.size (I.Gq.fresh (Xj _)) (I.Gq.fresh (Zp _)) (Za (Yp _));have g:=Inv.made (C:=C) I;have r2:aP (V.ref (s.heap.objs.size+1) :: (i++Im)) (Value.ref (s.heap.objs.size+1) :: (us++ds)):=.cons rfl (r.append G);have D:(Value.ref (s.heap.objs.size+1) :: us++ds).length=ps.length:=by
  have e:=r2.length;rw[F.len _ _ _ _ j]at e;exact e.symm
 refine wpAny_call (yR (f:=f) I.HB M.makes M.init (beq_iff_eq.mp M.fn) (Wu (F.run _ X.stack _ _ ⟨Value.ref (s.heap.objs.size+1) :: us,[]⟩ (Value.ref (s.heap.objs.size+1) :: (us++ds)) _ _ E (z.make C us [])
  (g.OD.make C us []) (N _ (Value.ref (s.heap.objs.size+1) :: us) g.HB D) r2 j) λr l b=>?_))
 cases r with
 |error e=>exact y a J _ _ e l g b
 |ok P =>
  cases P with
  |ret u =>
   obtain⟨v,U,R,n,ev,q⟩:=g.after b;subst ev;exact⟨n,⟨V.ref (s.heap.objs.size+1),U,R,rfl,q⟩⟩
  |next=>exact False.elim b
  |brk=>exact False.elim b
  |cont=>exact False.elim b
def xB(M:Mk X.K C f)(F:FnOk X.prog X.w X.K X.mg X.base CX k f fd ps sp)(d:Gn (k+1) X.A)(i:Gl X x)(g:X.mg x=Y (.ref C))(l:Binds X.K fd ps ds)(j:aP Im ds)(b:jC CX X E)(n:K3 x:=by decide):PE X (.Call (.Name x p) [] [] pos) (Cc C sp Im E wg):=by
 intro a s J H Q I h;refine WX (uY I i g ?_ n);exact PySem.W.callWith_K0 I.HB M.kp (x6 (us:=[]) M F d l j b I .nil h)
end
structure p0(N P:List Str)(sc:Scope):Prop where
 kind:sc.kind=.function
 co:sc.isCoroutine=false
 gen:sc.isGenerator=false
 nd:N.Nodup
 pre:N.take P.length=P
 par:∀x∈P,sc.names.lookup x=some .local\/sc.names.lookup x=some .cell
 Mp:∀y∈sc.names,y.2 ≠ .free
theorem oN{a:Str->Option NameKind}{x:Str}:∀{binds:List (Str×KM)}{m:Wi},(∀v,(x,v)∉binds)->bindL a binds m x=m x
 |[],_,_=>rfl
 | (n,v) :: r,m,h=>by
  unfold bindL;rw[oN λw hw=>h w (Zv _ hw)];split
  ·have:x≠n:=by rintro rfl;exact h v Zu
   simp[this]
  ·rfl
theorem oH{a:Str->Option NameKind}{x:Str}:∀{binds:List (Str×KM)}{m:Wi},(∀v,(x,v)∉binds)->bindC a binds m x=m x
 |[],_,_=>rfl
 | (n,v) :: r,m,h=>by
  unfold bindC;rw[oH λw hw=>h w (Zv _ hw)];split
  ·rfl
  ·have:x≠n:=by rintro rfl;exact h v Zu
   simp[this]
theorem oz{a:Str->Option NameKind}{x:Str}{v:KM}:∀{P:List Str}{b:Vy}{i:Nat}{m:Wi},P.Nodup->P[i]?=Y x->b[i]?=Y v->a x=Y .local →
  bindL a (P.zip b) m x=Y v
 |[],_,_,_,_,h,_,_=>by simp at h
 |_ :: _,[],_,_,_,_,h,_=>by simp at h
 |p :: P,w :: b,0,m,nd,e,d,f=>by
  simp at e d;subst e;subst d;show bindL a ((p,w) :: P.zip b) m p=_;unfold bindL;rw[oN λv g=>(ZZ.mp nd).1 (List.of_mem_zip g).1,Zo f];simp
 |p :: P,w :: b,i+1,m,nd,e,d,f=>by
  show bindL a ((p,w) :: P.zip b) m x=_;unfold bindL;exact oz (i:=i) (ZZ.mp nd).2 (by simpa using e) (by simpa using d) f
theorem oK{a:Str->Option NameKind}{x:Str}{v:KM}:∀{P:List Str}{b:Vy}{i:Nat}{m:Wi},P.Nodup->P[i]?=Y x->b[i]?=Y v->a x≠Y .local →
  bindC a (P.zip b) m x=Y v
 |[],_,_,_,_,h,_,_=>by simp at h
 |_ :: _,[],_,_,_,_,h,_=>by simp at h
 |p :: P,w :: b,0,m,nd,e,d,f=>by
  simp at e d;subst e;subst d;show bindC a ((p,w) :: P.zip b) m p=_;unfold bindC;rw[oH λv g=>(ZZ.mp nd).1 (List.of_mem_zip g).1,Zm f];simp
 |p :: P,w :: b,i+1,m,nd,e,d,f=>by
  show bindC a ((p,w) :: P.zip b) m x=_;unfold bindC;exact oK (i:=i) (ZZ.mp nd).2 (by simpa using e) (by simpa using d) f
noncomputable def start(N:List Str)(a:List V):St:=a.map Y++List.replicate (N.length-a.length) O
noncomputable def jk(j:Kd)(P:P3)(w:XAA)(K:Wy)(m:Wi)(h:UV)(N:List Str)(d:Str)(a:Scope)(f:KF)(g:KM)(A:Re)(b:List Env)(s:GM)(H:Hp)(E:XK):Cx where
 prog:=P
 w:=w
 K:=K
 mg:=m
 base:=h
 A:=A.deeper (envOfC d a s.heap.objs.size f g)
 N:=N
 s₀:=s
 H₀:=H
 env:=envOfC d a s.heap.objs.size f g
 outer:=b
 stack:=envOfC d a s.heap.objs.size f g :: b
 ex:=[]
 calm:=L
 fn:=λ_=>L
 pn:=[]
 xe:=λe l=>On (IR P w) (A.deeper (envOfC d a s.heap.objs.size f g)) (leaving (envOfC d a s.heap.objs.size f g) e) (λ_ i=>j b H s E e i) (λn i=>j b H s E n i) l
def qx{a:Scope}{n:Nat}{x:Str}(h:a.names.lookup x=Y .cell):∃c,(cellsFrom n a.names []).lookup x=Y c:=by
 have q:=PySem.W.cellsFrom_some a.names n [] (.inl h);exact Yf.mp q
def vZ{CX:Kd}{P:P3}{w:XAA}{K:Wy}{U:Wi}{m:UV}{N C:List Str}{j:Str}{d:Scope}{f:KF}{Q:KM}{A:Re}{g:List Env}{s Z:GM}{H:Hp}{E:XK}{R:Vy}{t:List V}(S:p0 N C d)(hd:A.handled=O)(o:Env0 P w K U m A g s H)(hl:t.length=C.length)(r:aP t R)(x:InCallC s s.heap.objs.size (bindL (envOfC j d s.heap.objs.size f Q).kindOf (C.zip R) λ_=>O) (cellsFrom (s.heap.objs.size+1) d.names []) (bindC (envOfC j d s.heap.objs.size f Q).kindOf (C.zip R) λ_=>O) Z) :
  Inv (jk CX P w K U m N j d f Q A g s H E) [] (start N t) H Z:=by
 have hpl:C.length<=N.length:=by have:=congrArg List.length S.pre;rw[IH]at this;lia
 obtain⟨J,tk,rfl,hk⟩:=x.done;have X:∀b:KF,b∉(jk CX P w K U m N j d f Q A g s H E).ex:=λb z=>absurd (show b∈([]:Wf) from z) (by simp);refine⟨⟨o.mod,S.kind,rfl,rfl,Zp _,λy z c J l=>?_,λy D=>?_,λy c _ h=>?_,λ_=>hd,Around.frames_deeper o.frames,.inr ⟨rfl,rfl⟩,λb z=>absurd z (X b),o.bs,o.LG,λb _ _=>X b,λb z=>absurd z (X b),o.HC,o.MT⟩,
  rfl,o.bare,Un.kept hk,⟨_,x.toInCall.ns,λi y v J l h3=>?_⟩,λy c h=>⟨_,x.cell y c h⟩,o.Gq.fresh (Zp _),λy c h=>?_,λp F=>absurd (show p∈([]:Yr) from F) (by simp),o.Gq.kept hk,?_⟩
 ·exact name_of_addr x.apart (XO J) (XO l)
 ·have D:d.names.lookup y=Y .cell\/d.names.lookup y=Y .free:=D;rcases D with D | D
  ·exact qx D
  ·exact absurd M (S.Mp _ (XO D))
 ·exact ZD (x.above y c (XO h))
 ·have G:i<t.length:=by
   unfold start at l;by_cases G:i<t.length
   ·exact G
   ·rw[Ys (by simpa using G)]at l;rw[Y1]at l;split at l<;>cases l
  have ha:t[i]?=Y v:=by
   unfold start at l;rw[KQ (by simpa using G),ZV]at l;cases e:t[i]? with
   |none=>rw[e]at l;cases l
   |some a=>rw[e]at l;cases l;rfl
  obtain⟨u,hu,rv⟩:=r.get ha;have F:C[i]?=Y y:=by
   rw[← S.pre,List.getElem?_take_of_lt (by lia)];exact J
  have SF:C.Nodup:=by rw[← S.pre];exact S.nd.sublist (List.take_sublist _ _)
  refine⟨u,rv,?_⟩;rcases S.par y (Yb F) with k | k
  ·exact .inl ⟨k,oz SF F hu k⟩
  ·obtain⟨c,e⟩:=qx (n:=s.heap.objs.size+1) k;refine .inr ⟨.inl k,c,e,?_⟩;have q:=x.cell y c e;rw[oK SF F hu (by show d.names.lookup y≠_;rw[k];decide)]at q;exact q
 ·exact o.Gq.fresh (ZD (x.above y c (XO h)))
 ·unfold start;show _=N.length;rw[Zw,Zt,Xc];lia
def FK{X:Kd}{P:P3}{w:XAA}{K:Wy}{R:Wi}{h:UV}{k:Nat}{f:KF}{l d:Str}{g:Arguments}{i:List Stmt}{a:Scope}{dV kV G pm z ct oc:KM}{an od:Option KF}{JZ:Array (Vx)}{N J:List Str}{Z:Sp}(lk:K.lookup f=Y ⟨oc,od,.func (PySem.W.fnOf l d g i a dV kV G pm an z ct),JZ⟩)(hcd:PySem.W.codeIn K z d=L)(S:p0 N J a)(D:∀j H Q E,Z j H Q E->j.length=J.length)(KC:∀(A:Re)(outer:List Env)(s:GM)(H:Hp)(j:List V)(Q:VK)(E:XK),Gn k (A.deeper (envOfC d a s.heap.objs.size f z))->Z j H Q E →
   ∃t,Io (jk X P w K R h N d a f z A outer s H E) i t/\t { nx:=λ_ p=>Q .non p,rt:=Q } (start N j) H) :
  FnOk P w K R h X (k+1) f (PySem.W.fnOf l d g i a dV kV G pm an z ct) J Z:=by
 refine⟨D,λA outer s H args us j Q E hr F hb r LV=>?_⟩;have hl:=D _ _ _ _ LV;have KX:K.In s.heap:=F.mod.Pm.keeps λb o e=>(F.bs b o e).1;have lim:s.heap.NoLimit:=F.mod.nolimit.keeps λb o e=>(F.bs b o e).1;have Ir:∀y∈J.zip us,a.names.lookup y.1=Y .local\/(a.names.lookup y.1=Y .cell/\((cellsFrom (s.heap.objs.size+1) a.names []).lookup y.1).isSome=L):=λ⟨n,v⟩ hy=>by
  rcases S.par n (List.of_mem_zip hy).1 with q | q
  ·exact .inl q
  ·exact .inr ⟨q,PySem.W.cellsFrom_some _ _ _ (.inl q)⟩
 refine codeAny_call_function hr.depth (KX _ _ lk) M S.co S.gen M (PySem.W.codeRec_of KX hcd) (hb _ _ _ _ ?_);refine wpAny_newFunctionEnv_cells S.kind Ir λenv he s1 x=>?_;subst he;refine⟨lim.keeps x.toInCall.keep,codeAny_func ?_⟩;obtain⟨t,ht,hq⟩:=KC A outer s H j Q E (hr.deeper _) LV;have I:Inv (jk X P w K R h N d a f z A outer s H E) [] (start N j) H s1:=vZ S hr.hd F hl r x;refine YB (ht [] s1 (start N j) H _ I hq) (λfl s' C=>?_) λe s' C=>C;have fin:∀{U:St}{p:Hp}{v:V}{u:KM},Inv (jk X P w K R h N d a f z A outer s H E) [] U p s'->RelV v u->Q v p->CE outer P w H s Q u s' :=
  λ{U p v u} m rv q=>⟨v,p,m.os,m.bare,m.base,m.Gq,rv,q⟩
 cases fl with
 |ret u =>
  obtain⟨v,U,p,m,rv,q⟩:=C;exact fin m rv q
 |next =>
  obtain⟨U,p,m,q⟩:=C;exact fin (v:=V.non) (u:=Value.none) m M q
 |brk =>
  obtain⟨_,_,_,q⟩:=C;exact False.elim q
 |cont =>
  obtain⟨_,_,_,q⟩:=C;exact False.elim q
section
variable{X:Cx}{x:Str}{p pos:Pos}{e:Expr}{es:List Expr}{t:TA}{id T:String}{r:List V->Hp->VK->Prop}
noncomputable def Se(r:List V->Hp->VK->Prop)(t:TA):TE:=λJ H Q=>t J H λa b=>r a b Q
def mW(m:di X (.builtin id) r)(l:Gl X x)(j:X.mg x=O)(g:bootBuiltins x=Y (.builtin id))(n:PA X (e :: es) t)(i:x ≠ "__name__" := by decide)(q:K3 x:=by decide)(he:K1 e es X:=by rfl)(hpl:K2 pos es X:=by rfl):PE X (.Call (.Name x p) (e :: es) [] pos) (Se r t):=by
 intro a s J H Q I h;refine WX (pI I l j g ?_ i q);exact PyProof.Rows.callWith_builtin1 (thn (n pos a s J H _ I h) λd s1 ⟨b,u,o,r1,f⟩=>m a s1 J u b d Q o r1 f) he hpl
def oI(m:di X (.type T) r)(l:Gl X x)(j:X.mg x=O)(g:bootBuiltins x=Y (.type T))(n:PA X (e :: es) t)(i:x ≠ "__name__" := by decide)(q:K3 x:=by decide)(he:K1 e es X:=by rfl)(hpl:K2 pos es X:=by rfl):PE X (.Call (.Name x p) (e :: es) [] pos) (Se r t):=by
 intro a s J H Q I h;refine WX (pI I l j g ?_ i q);exact PyProof.Rows.callWith_type1 (thn (n pos a s J H _ I h) λd s1 ⟨b,u,o,r1,f⟩=>m a s1 J u b d Q o r1 f) he hpl
end
end L2
namespace HT
open PySem PyProof.Rows
section
variable{prog:P3}{w:XAA}{A:Re}{E:Yt}{s:GM}
noncomputable def G7(n d:Nat):Option Int->Nat
 |none=>d
 |some v=>if v<0 then (v+(n:Int)).toNat else min v.toNat n
end
end HT
namespace L2
open PySem PySem.Spec PyProof.Rows
noncomputable abbrev TO:=St->Hp->(Option Int->Hp->Prop)->Prop
noncomputable def PO(X:Cx)(e:Option Expr)(t:TO):Prop :=
 ∀(a:Yr)(s:GM)(J:St)(H:Hp)(Q:Option Int->Hp->Prop),Inv X a J H s->t J H Q →
  On (IR X.prog X.w) X.A (evalPart e X.env) (λu d=>∃o b,Inv X a J b d/\IsPart u o/\Q o b) X.xe s
noncomputable def zX:TO:=λ_ H Q=>Q O H
noncomputable def D9(t:TE):TO:=λJ H Q=>t J H λx a=>∃i,x=.int i/\Q (Y i) a
section
variable{X:Cx}{e:Expr}{te:TE}{lo hi:Option Expr}{tl th:TO}{pos p2:Pos}
def vr:PO X O zX:=by
 intro a s J H Q I h;rw[evalPart_none];exact Zl ⟨O,H,I,.none,h⟩
def uf(h:PE X e te):PO X (Y e) (D9 te):=by
 intro a s J H Q I hw;rw[evalPart_some];refine thn (h a s J H _ I hw) λu s1 ⟨x,f,d,r1,b⟩=>?_;obtain⟨i,rfl,q⟩:=b;obtain⟨t,rfl⟩:=r1;exact⟨Y i,f,d,.int i t,q⟩
noncomputable def Ma(X:Cx)(r:V->Option Int->Option Int->Hp->VK->Prop):Prop :=
 ∀(a:Yr)(s:GM)(J:St)(H:Hp)(x:V)(v d b:KM)(lo hi:Option Int)(f:KF)(Q:VK),Inv X a J H s->RelV x v->s.heap.IsSliceOf f d b .none->IsPart d lo->IsPart b hi->r x lo hi H Q →
  ∃T id,typeLookup (.type T) "__getitem__" = pure (Y (.builtin id))/\s.TypeIs v T/\On (IR X.prog X.w) X.A (getItem v (.ref f)) (EP X a J Q) X.xe s
def Ma.or{r i:V->Option Int->Option Int->Hp->VK->Prop}(h:Ma X r)(l:Ma X i):Ma X (λx lo hi H Q=>r x lo hi H Q\/i x lo hi H Q):=by
 intro a s J H x v d b lo hi f Q I g j pl pu q;rcases q with q | q
 ·exact h a s J H x v d b lo hi f Q I g j pl pu q
 ·exact l a s J H x v d b lo hi f Q I g j pl pu q
noncomputable def Ut(r:V->Option Int->Option Int->Hp->VK->Prop)(d:TE)(a b:TO):TE:=λJ H Q=>d J H λx h=>a J h λl g=>b J g λu f=>r x l u f Q
def nM{r:V->Option Int->Option Int->Hp->VK->Prop}(y:Ma X r)(C:PE X e te)(z:PO X lo tl)(p:PO X hi th):PE X (.Subscript e (.Slice lo hi O p2) pos) (Ut r te tl th):=by
 intro a s J H Q I h;refine Subscript_ (thn (C a s J H _ I h) λv s1 ⟨x,P,M,r1,o⟩=>?_);refine wpAny_Slice (thn (z a s1 J P _ M o) λg j ⟨l,N,G,pl,n⟩=>thn (p a j J N _ G n) λf d ⟨u,i,F,pu,m⟩=>?_);rw[evalPart_none];refine Zl ?_;have E:Inv X a J i { d with heap:=d.heap.push { cls:=.type "slice",data:=.fields #[g,f,.none] } }:=F.kept (t':=d.toks) λb R q=>Zn _ q;obtain⟨T,id,D,t,hg⟩:=y a { d with heap:=d.heap.push { cls:=.type "slice",data:=.fields #[g,f,.none] } } J i x v g f l u d.heap.objs.size Q E r1 (Heap.IsSliceOf.new ..) pl pu m;show On (IR X.prog X.w) X.A (subscriptTail e (.Slice lo hi O p2) v (.ref d.heap.objs.size)) (EP X a J Q) X.xe { d with heap:=d.heap.push { cls:=.type "slice",data:=.fields #[g,f,.none] } };exact tail_any (ops:=[.ref d.heap.objs.size,v]) t D hg (by with_unfolding_all rfl)
noncomputable def sS(a:List V)(b d:Option Int):List V:=(a.drop (HT.G7 a.length 0 b)).take (HT.G7 a.length a.length d-HT.G7 a.length 0 b)
def rT(a:List V)(b d:Option Int):(sS a b d).length<=a.length:=by
 unfold sS;rw[IH,Yz];lia
end
noncomputable def Mv(n:Nat)(i:Int):Option Nat:=if 0<=i then (if i<n then Y i.toNat else O) else if -(n:Int)<=i then Y (i+n).toNat else O
noncomputable def M6{α:Type}(a:List α)(i:Int):Option α:=(Mv a.length i).bind λj=>a[j]?
def vq{n:Nat}{i:Int}{j:Nat}(h:Mv n i=Y j):seqIndex? i n=Y j/\j<n/\-(n:Int)<=i/\i<n:=by
 unfold Mv at h;by_cases b:0<=i
 ·rw[Zo b]at h;by_cases a:i<n
  ·rw[Zo a]at h;have e:i.toNat=j:=Zj h;exact⟨by rw[seqIndex_of b a,e],by lia,by lia,a⟩
  ·rw[Zm a]at h;cases h
 ·rw[Zm b]at h;by_cases a:-(n:Int)<=i
  ·rw[Zo a]at h;have e:(i+n).toNat=j:=Zj h;exact⟨by rw[seqIndex_neg (by lia) a,e],by lia,a,by lia⟩
  ·rw[Zm a]at h;cases h
def pG{α:Type}{a:List α}{i:Int}{v:α}(h:M6 a i=Y v):∃j,seqIndex? i a.length=Y j/\a[j]?=Y v/\j<a.length/\-(a.length:Int)<=i/\i<a.length:=by
 unfold M6 at h;cases e:Mv a.length i with
 |none=>rw[e]at h;cases h
 |some j =>
  rw[e]at h;obtain⟨g,f,d,b⟩:=vq e;exact⟨j,g,h,f,d,b⟩
noncomputable def gh(b:Expr):Prop:=∀o i,subscripted b B o i=operate [o,i] (getItem o i)
noncomputable def HL(X:Cx)(r:R2):Prop :=
 ∀(value slice:Expr)(a:Yr)(s:GM)(J:St)(H:Hp)(x y:V)(v u:KM)(Q:VK),Inv X a J H s->RelV x v->RelV y u->r x y H Q →
  subscripted slice B v u=operate [v,u] (getItem v u)->On (IR X.prog X.w) X.A (subscriptTail value slice v u) (EP X a J Q) X.xe s
noncomputable def O0(X:Cx)(e:String)(r:V->List V->Hp->VK->Prop):Prop :=
 ∀(a:Yr)(s:GM)(J:St)(H:Hp)(x:V)(b:List V)(v:KM)(d:Vy)(Q:VK),Inv X a J H s->RelV x v->aP b d->r x b H Q →
  On (IR X.prog X.w) X.A (call (.builtin e) (v :: d)) (EP X a J Q) X.xe s
section
variable{X:Cx}{a b:Expr}{ta tb:TE}{pos:Pos}
def HL.or{r g:R2}(h:HL X r)(j:HL X g):HL X (λx y H Q=>r x y H Q\/g x y H Q):=by
 intro value slice d s J H x y v u Q I f e q i;rcases q with q | q
 ·exact h value slice d s J H x y v u Q I f e q i
 ·exact j value slice d s J H x y v u Q I f e q i
def mR{r:R2}(j:HL X r)(m:PE X a ta)(l:PE X b tb)(i:gh b):PE X (.Subscript a b pos) (Nc r ta tb):=by
 intro d s J H Q I h;exact Subscript_ (CP m l I h λv u e x y o n g f q=>j a b d e J o x y v u Q n g f q (i _ _))
noncomputable def FE(K:Wy):R2:=λx y H Q=>∃p d i v,x=.ref p/\y=.int i/\GL K H p d/\M6 d i=Y v/\Q v H
noncomputable def Eh(K:Wy):R2:=λx y H Q=>∃p d i v,x=.ref p/\y=.int i/\Hi K H p d/\M6 d i=Y v/\Q v H
noncomputable def Eb:R2:=λx y H Q=>∃z i c,x=.str z/\y=.int i/\z.length<=KB/\M6 z.cps.toList i=Y c/\Q (.str ⟨#[c]⟩) H
def Ba:HL X (FE X.K):=by
 intro value slice d s J H x y v u Q I A o h g;obtain⟨p,R,i,z,rfl,rfl,D,F,q⟩:=h;cases A;obtain⟨t,rfl⟩:=o;obtain⟨C,r,pl,S⟩:=I.list D;obtain⟨j,e,N,Z,M,G⟩:=pG F;obtain⟨w,m,P⟩:=r.get N;have E:=r.length;have U:=kA;have fin:EP X d J Q w s:=⟨z,H,I,P,q⟩
 by_cases l:0<=i
 ·have f:i.toNat=j:=by
   rw[seqIndex_of l G]at e;exact Zj e
  exact item_listR pl.isList l (by lia) (by rw[f];simpa using m) fin g
 ·have f:(i+(C.toArray.size:Int)).toNat=j:=by
   rw[seqIndex_neg (by lia) M]at e;rw[ZQ,← E];exact Zj e
  exact subscriptTail_builtinR (x:=w) pl.isList.typeIs slot_list_getitem.lookup
   (wpAny_getItem_list_neg (Q:=λr n=>r=w/\EP X d J Q r n) pl.isList (by lia) (by rw[ZQ]<;>lia) (by lia) (by rw[f];simpa using m) ⟨rfl,fin⟩) g
def CV:HL X (Eh X.K):=by
 intro value slice d s J H x y v u Q I g f h l;obtain⟨p,F,i,z,rfl,rfl,m,o,q⟩:=h;cases g;obtain⟨t,rfl⟩:=f;obtain⟨G,r,pl,M⟩:=I.tuple m;obtain⟨j,C,A,S,R,P⟩:=pG o;obtain⟨w,D,E⟩:=r.get A;have n:=r.length;have N:=kA;have fin:EP X d J Q w s:=⟨z,H,I,E,q⟩
 exact subscriptTail_builtinR (x:=w) pl.typeIs slot_tuple_getitem.lookup
  (getItem_tuple (j:=j) (Q:=λr e=>r=w/\EP X d J Q r e) pl (by lia) (by lia) (by rw[ZQ,← n];exact C) (by simpa using D) ⟨rfl,fin⟩) l
def Cu:HL X Eb:=by
 intro value slice d s J H x y v u Q I g f h l;obtain⟨z,i,c,rfl,rfl,A,n,q⟩:=h;obtain⟨t,rfl⟩:=g;obtain⟨w,rfl⟩:=f;obtain⟨j,e,r,D,p,o⟩:=pG n;have m:z.cps.toList.length=z.length:=by simp[Str.length]
 rw[m]at e p o;have C:=kA;exact tail_any (typeIs_str s z t) slot_str_getitem.lookup (getItem_str (c:=c) (by
  have e1:decide (i < -(2 ^ 63:Int))=B:=ZR (by lia);have e2:decide (i ≥ 2 ^ 63)=B:=ZR (by lia);rw[e1,e2,Bool.or_false]) (by rw[e];simpa using r) ⟨.str ⟨#[c]⟩,H,I.tok _,⟨_,rfl⟩,q⟩) l
noncomputable def P8(K:Wy):R2:=λx y H Q=>FE K x y H Q\/Eh K x y H Q\/Eb x y H Q
def jN:HL X (P8 X.K):=Ba.or (CV.or Cu)
def tj(d:Vy)(n j:Nat)(u:KM):Obj.mapSeq (·.setIfInBounds j u) { cls:=.type "list",data:=.seq d.toArray n }={ cls:=.type "list",data:=.seq (d.set j u).toArray n }:=by
 simp[Obj.mapSeq]
theorem Inv.lst{d:Yr}{J:St}{H:Hp}{s:GM}{p:KF}{g:List V}(I:Inv X d J H s)(h:H p=Y (.lst g)) :
  ∃(f:Vy)(n:Nat),aP g f/\s.heap.get? p=Y { cls:=.type "list",data:=.seq f.toArray n }/\g.length<=sizeLine:=by
 obtain⟨z,f,n,r,e⟩:=I.Gq p _ h;exact⟨f,n,r,e,z⟩
def Inv.Mr{g:Yr}{J:St}{H:Hp}{s:GM}{p:KF}{o i:List V}{l d:Vy}{n j:Nat}{f:Obj->Obj}(I:Inv X g J H s)(h:H p=Y (.lst o))(w:s.heap.get? p=Y { cls:=.type "list",data:=.seq l.toArray n })(m:f { cls:=.type "list",data:=.seq l.toArray n }={ cls:=.type "list",data:=.seq d.toArray j })(r:aP i d)(v:i.length<=KB)(t:Nat) :
  Inv X g J (upd H p (.lst i)) { s with heap:=s.heap.update p f,toks:=t }:=by
 have e:(s.heap.update p f).get? p=Y { cls:=.type "list",data:=.seq d.toArray j }:=by
  rw[Yl f w (by rw[m]<;>rfl),m]
 refine I.write (x:=p) (e:=p) (by rw[h];trivial) (.inl M) (λb u hb q=>(YS _ _ (YK hb)).trans q) ⟨_,e⟩ ?_;exact⟨v,d,j,r,e⟩
noncomputable def B6:V->V->V->Hp->(Hp->Prop)->Prop:=λo i v H Q=>∃p d k j,o=.ref p/\i=.int k/\H p=Y (.lst d)/\Mv d.length k=Y j/\Q (upd H p (.lst (d.set j v)))
def set_list:CM X B6:=by
 intro d s J H o i v ov iv u Q I E F D h;obtain⟨p,C,k,j,rfl,rfl,w,M,q⟩:=h;cases E;obtain⟨t,rfl⟩:=F;obtain⟨m,n,r,f,G⟩:=I.lst w;obtain⟨e,P,y,x⟩:=vq M;have g:=r.length;have N:=kA;have A:Inv X d J (upd H p (.lst (C.set j v))) { s with heap:=s.heap.update p (Obj.mapSeq (·.setIfInBounds j u)) } :=
  I.Mr w f (tj m n j u) (r.set D j) (by rw[Yn];exact G) s.toks
 by_cases z:0<=k
 ·have l:k.toNat=j:=by
   rw[seqIndex_of z x]at e;exact Zj e
  exact PySem.W.ki_setAt f z (by lia) (by rw[ZQ,← g];exact x) (by rw[l];exact⟨_,A,q⟩)
 ·have l:(k+(m.toArray.size:Int)).toNat=j:=by
   rw[seqIndex_neg (by lia) y]at e;rw[ZQ,← g];exact Zj e
  exact PySem.W.ki_setBack f (by lia) (by rw[ZQ,← g];exact y) (by lia) (by rw[l];exact⟨_,A,q⟩)
def pS(d e:Option Int)(n:Nat):(sliceBounds d e O n).1=((HT.G7 n 0 d:Nat):Int)/\(sliceBounds d e O n).2.1=((HT.G7 n n e:Nat):Int)/\(sliceBounds d e O n).2.2=1:=by
 refine⟨?_,?_,rfl⟩
 ·cases d with
  |none=>simp[sliceBounds,HT.G7]
  |some i =>
   simp only[sliceBounds,HT.G7,Option.getD_none,show (1:Int) > 0 by decide,if_true];by_cases h:i<0
   ·simp only[h,if_true]<;>lia
   ·simp only[h,if_false]<;>lia
 ·cases e with
  |none=>simp[sliceBounds,HT.G7]
  |some i =>
   simp only[sliceBounds,HT.G7,Option.getD_none,show (1:Int) > 0 by decide,if_true];by_cases h:i<0
   ·simp only[h,if_true]<;>lia
   ·simp only[h,if_false]<;>lia
def oa(d:Vy)(e f:Option Int):slicePick d.toArray e f O=((d.drop (HT.G7 d.length 0 e)).take (HT.G7 d.length d.length f-HT.G7 d.length 0 e)).toArray:=by
 obtain⟨i,h,g⟩:=pS e f d.toArray.size;unfold slicePick;rw[i,h,g];simp only[sliceRange_one,pick_run,ZQ]<;>rfl
noncomputable def EK(K:Wy):V->Option Int->Option Int->Hp->VK->Prop:=λx lo e H Q=>∃a d,x=.ref a/\GL K H a d/\∀p,H p=O->Q (.ref p) (upd H p (.lst (sS d lo e)))
def uz:Ma X (EK X.K):=by
 intro f s J H x v p n lo e t Q I i m pl pu h;obtain⟨a,d,rfl,l,q⟩:=h;cases i;obtain⟨u,r,g,j⟩:=I.list l;have hlen:=r.length;refine⟨"list",_,slot_list_getitem.lookup,g.isList.typeIs,?_⟩;refine wpAny_getItem_list_slice g.isList m pl pu .none (by simp) ?_ (by rw[ZQ]<;>lia);rw[oa,← hlen];refine⟨.ref s.heap.objs.size,_,I.laid (t':=s.toks) (o:=.lst (sS d lo e)) (λb w q=>Zn _ q) (Zp _) ?_,rfl,q _ (I.Gq.fresh (Zp _))⟩;exact⟨ZA (rT d lo e) j,_,0,(r.drop (HT.G7 d.length 0 lo)).take (HT.G7 d.length d.length e-HT.G7 d.length 0 lo),ZY _ M⟩
noncomputable def eZ:V->Bool
 |.non=>L
 |.bl _=>L
 |.int _=>L
 |.str _=>L
 |_=>B
noncomputable def Lh:V->V->Bool
 |.non,.non=>L
 |.bl a,.bl b=>a==b
 |.bl a,.int b=>(if a then 1 else 0)==b
 |.int a,.bl b=>a==(if b then 1 else 0)
 |.int a,.int b=>a==b
 |.str a,.str b=>a==b
 |_,_=>B
def Dg{A:Re}{s:GM}{y x:V}{u v:KM}(f:RelV y u)(d:RelV x v)(h:eZ y=L)(g:eZ x=L):SeqAt.EqAt A s u v (Lh y x):=by
 cases y with
 |non =>
  cases f;cases x with
  |non=>cases d;exact SeqAt.EqAt.same _
  |bl b=>cases d;exact SeqAt.EqAt.none_bool b
  |int b=>obtain⟨t,rfl⟩:=d;exact SeqAt.EqAt.none_int b t
  |str b=>obtain⟨t,rfl⟩:=d;exact SeqAt.EqAt.none_str b t
  |_=>exact absurd (show B=L from g) Zb
 |bl a =>
  cases f;cases x with
  |non=>cases d;exact SeqAt.EqAt.bool_none a
  |bl b=>cases d;exact SeqAt.EqAt.bool_bool a b
  |int b=>obtain⟨t,rfl⟩:=d;exact SeqAt.EqAt.bool_int a b t
  |str b=>obtain⟨t,rfl⟩:=d;exact SeqAt.EqAt.bool_str a b t
  |_=>exact absurd (show B=L from g) Zb
 |int a =>
  obtain⟨e,rfl⟩:=f;cases x with
  |non=>cases d;exact SeqAt.EqAt.int_none a e
  |bl b=>cases d;exact SeqAt.EqAt.int_bool a e b
  |int b=>obtain⟨t,rfl⟩:=d;exact SeqAt.EqAt.int_int a e b t
  |str b=>obtain⟨t,rfl⟩:=d;exact SeqAt.EqAt.int_str a e b t
  |_=>exact absurd (show B=L from g) Zb
 |str a =>
  obtain⟨e,rfl⟩:=f;cases x with
  |non=>cases d;exact SeqAt.EqAt.str_none a e
  |bl b=>cases d;exact SeqAt.EqAt.str_bool a e b
  |int b=>obtain⟨t,rfl⟩:=d;exact SeqAt.EqAt.str_int a e b t
  |str b=>obtain⟨t,rfl⟩:=d;exact SeqAt.EqAt.str_str a e b t
  |_=>exact absurd (show B=L from g) Zb
 |_=>exact absurd (show B=L from h) Zb
noncomputable def Jt(x:V)(u:KM):Bool:=match u with
 |.none=>Lh .non x
 |.bool b=>Lh (.bl b) x
 |.int i _=>Lh (.int i) x
 |.str z _=>Lh (.str z) x
 |_=>B
def wU{x y:V}{u:KM}(r:RelV y u)(f:eZ y=L):Jt x u=Lh y x:=by
 cases y with
 |non=>cases r;rfl
 |bl b=>cases r;rfl
 |int i=>obtain⟨t,rfl⟩:=r;rfl
 |str z=>obtain⟨t,rfl⟩:=r;rfl
 |_=>exact absurd (show B=L from f) Zb
theorem kj{x:V}:∀{d:List V}{e:Vy},aP d e->d.all eZ=L->e.any (Jt x)=d.any λy=>Lh y x
 |_,_,.nil,_=>rfl
 |y :: d,u :: e,.cons r t,f=>by
  rw[Wx,ZU]at f;rw[Y4,Y4,wU r f.1,kj t f.2]
theorem iN{A:Re}{s:GM}{x:V}{v:KM}(h:RelV x v)(i:eZ x=L):∀{e:List V}{g:Vy},aP e g->e.all eZ=L->∀u∈g,SeqAt.EqAt A s u v (Jt x u)
 |_,_,.nil,_=>λu d=>by cases d
 |y :: e,u :: g,.cons r t,f=>λj d=>by
  rw[Wx,ZU]at f;rcases Zh.mp d with rfl | d
  ·rw[wU r f.1];exact Dg r h f.1 i
  ·exact iN h i t f.2 j d
noncomputable def N5(x:V)(d:List V):Bool:=d.any λy=>Lh y x
noncomputable def Pd(K:Wy)(e:Bool):R2:=λx y H Q=>∃p d,y=.ref p/\(GL K H p d\/Hi K H p d)/\eZ x=L/\d.all eZ=L/\Q (.bl (if e then !N5 x d else N5 x d)) H
def vA:OpR X (UF .In) (Pd X.K B):=by
 intro g s J H x y v u Q I f j h;obtain⟨p,m,rfl,e,i,fs,q⟩:=h;cases j;rcases e with e | e
 ·obtain⟨d,r,pl,l⟩:=I.list e;refine SeqAt.in_listAt (Jt x) pl.isList (λw hw=>iN f i r fs w (by simpa using hw)) ⟨.bl _,H,I,rfl,?_⟩;rw[show d.toArray.any (Jt x)=d.any (Jt x) by simp,kj r fs];exact q
 ·obtain⟨d,r,pl,l⟩:=I.tuple e;refine SeqAt.in_tupleAt (Jt x) pl (λw hw=>iN f i r fs w (by simpa using hw)) ⟨.bl _,H,I,rfl,?_⟩;rw[show d.toArray.any (Jt x)=d.any (Jt x) by simp,kj r fs];exact q
def p9:OpR X (UF .NotIn) (Pd X.K L):=by
 intro g s J H x y v u Q I f j h;obtain⟨p,m,rfl,e,i,fs,q⟩:=h;cases j;rcases e with e | e
 ·obtain⟨d,r,pl,l⟩:=I.list e;refine SeqAt.notIn_listAt (Jt x) pl.isList (λw hw=>iN f i r fs w (by simpa using hw)) ⟨.bl _,H,I,rfl,?_⟩;rw[show d.toArray.any (Jt x)=d.any (Jt x) by simp,kj r fs];exact q
 ·obtain⟨d,r,pl,l⟩:=I.tuple e;refine SeqAt.notIn_tupleAt (Jt x) pl (λw hw=>iN f i r fs w (by simpa using hw)) ⟨.bl _,H,I,rfl,?_⟩;rw[show d.toArray.any (Jt x)=d.any (Jt x) by simp,kj r fs];exact q
def di.or{f:KM}{r j:List V->Hp->VK->Prop}(h:di X f r)(l:di X f j):di X f (λe H Q=>r e H Q\/j e H Q):=by
 intro d s J H e g Q I i q;rcases q with q | q
 ·exact h d s J H e g Q I i q
 ·exact l d s J H e g Q I i q
def pR:di X (.type "list") (λz H Q=>∃p g,z=[.ref p]/\(GL X.K H p g\/Hi X.K H p g)/\∀l,H l=O->Q (.ref l) (upd H l (.lst g))):=by
 intro m s J H z D Q I r h;obtain⟨p,g,rfl,v,q⟩:=h;obtain⟨u,rfl,C⟩:=vals1 r;cases C;have fin:∀(f:Vy),aP g f->g.length<=KB->∀(d:UV)(j:Nat),(∀b A,s.heap.get? b=Y A->d.get? b=Y A) →
   d.get? s.heap.objs.size=Y { cls:=.type "list",dict:=O,data:=.seq f.toArray j,slots:=#[] }->EP X m J Q (.ref s.heap.objs.size) { s with heap:=d }:=λf i t d j kp e =>
  ⟨.ref s.heap.objs.size,_,I.laid (t':=s.toks) kp (Zp _) (show bx X.prog X.w _ d _ (.lst g) from⟨t,f,j,i,e⟩),rfl,q _ (I.Gq.fresh (Zp _))⟩
 rcases v with v | v
 ·obtain⟨f,i,pl,t⟩:=I.list v;have hlen:=i.length;obtain⟨o,x,y,n,hd⟩:=pl.isList;exact call_list_seq p (.inl M) x y hd (λd j kp e=>fin f i t d j kp e) (by simp only[ZQ]<;>lia)
 ·obtain⟨f,i,pl,t⟩:=I.tuple v;have hlen:=i.length;obtain⟨o,x,y,n,hd⟩:=pl;exact call_list_seq p (.inr M) x y hd (λd j kp e=>fin f i t d j kp e) (by simp only[ZQ]<;>lia)
def n8:di X (.type "tuple") (λn H Q=>∃p f,n=[.ref p]/\((GL X.K H p f/\∀l,H l=O->Q (.ref l) (upd H l (.tup f)))\/(Hi X.K H p f/\Q (.ref p) H))):=by
 intro d s J H n z Q I r h;obtain⟨p,f,rfl,h⟩:=h;obtain⟨u,rfl,x⟩:=vals1 r;cases x;rcases h with⟨m,q⟩ | ⟨m,q⟩
 ·obtain⟨j,i,pl,t⟩:=I.list m;have hlen:=i.length;refine call_tuple_list pl.isList (λg kp=>?_) (by simp only[ZQ]<;>lia);have v:Inv X d J H { s with heap:=g }:=I.kept (t':=s.toks) kp;have y:Inv X d J (upd H g.objs.size (.tup f)) { s with heap:=g.push { cls:=.type "tuple",data:=.seq j.toArray } } :=
   v.laid (t':=s.toks) (λb o e=>Zn _ e) (Zp _) (show bx X.prog X.w _ _ _ (.tup f) from⟨t,j,i,Mc.new _ _,IsTup.new _ _⟩)
  exact⟨.ref g.objs.size,_,y,rfl,q _ (v.Gq.fresh (Zp _))⟩
 ·obtain⟨j,i,pl,t⟩:=I.tuple m;exact call_tuple_same pl ⟨.ref p,H,I,rfl,q⟩
noncomputable def Ln(K:Wy)(T:String)(x:V)(H:Hp):Prop:=match x with
 |.str _=>T = "str"
 |.int _=>T = "int"
 |.ref p=>(T = "list" ∧ ∃e,GL K H p e)\/(T = "tuple" ∧ ∃o,K.lookup p=Y o/\o.cls=.type "tuple" ∧ o.dict=O) ∨
   (T = "dict" ∧ ((∃d,H p=Y (.dK d))\/∃d,H p=Y (.dT d)))\/(T = "set" ∧ ∃S n,H p=Y (.set S n))
 |_=>False
def Dm{f:Yr}{J:St}{H:Hp}{s:GM}{T:String}{x:V}{v:KM}(I:Inv X f J H s)(r:RelV x v)(g:Ln X.K T x H) :
  s.TypeIs v T/\∀a,v=.ref a->∃h,s.heap.get? a=Y h/\h.dict=O:=by
 cases x with
 |str z =>
  obtain⟨t,rfl⟩:=r;cases (show T = "str" from g);exact⟨typeIs_str s z t,λ_ e=>nomatch e⟩
 |int i =>
  obtain⟨t,rfl⟩:=r;cases (show T = "int" from g);exact⟨typeIs_int s i t,λ_ e=>nomatch e⟩
 |ref p =>
  cases r;rcases g with⟨rfl,q,j⟩ | ⟨rfl,o,d,l,hd⟩ | ⟨rfl,d⟩ | ⟨rfl,S,n,d⟩
  ·obtain⟨u,_,pl,_⟩:=I.list j;refine⟨pl.isList.typeIs,λa e=>?_⟩;cases e;obtain⟨o,n,e,c,hd,_⟩:=pl;exact⟨o,e,hd⟩
  ·refine⟨⟨o,I.HB p o d,l⟩,λa e=>?_⟩;cases e;exact⟨o,I.HB _ o d,hd⟩
  ·have z:∃o,s.heap.get? p=Y o/\o.ExactDict:=by
    rcases d with⟨m,d⟩ | ⟨m,d⟩
    ·obtain⟨_,_,_,_,o,_,_,e,ex,_⟩:=I.Gq p _ d;exact⟨o,e,ex⟩
    ·obtain⟨_,_,_,_,o,_,_,e,ex,_⟩:=I.Gq p _ d;exact⟨o,e,ex⟩
   obtain⟨o,e,ex⟩:=z;refine⟨⟨o,e,ex.1⟩,λa e2=>?_⟩;cases e2;exact⟨o,e,ex.2.1⟩
  ·obtain⟨o,_,_,_,e,ex,_⟩:=I.Gq p _ d;refine⟨⟨o,e,ex.1⟩,λa e2=>?_⟩;cases e2;exact⟨o,e,ex.2.1⟩
 |_=>exact False.elim g
noncomputable def Uw(K:Wy)(T:String)(r:V->List V->Hp->VK->Prop)(f:TE)(t:TA):TE:=λJ H Q=>f J H λx d=>Ln K T x d/\t J d λe g=>r x e g Q
variable{o e:Expr}{es:List Expr}{to:TE}{t:TA}{name:Str}{apos jj:Pos}{T id:String}{r:V->List V->Hp->VK->Prop}
def ou(q:PlainAttrs T)(f:Slot T name id)(D:typeOf (.builtin id)=pure (.type "method_descriptor"))(y:O0 X id r)(w:PE X o to)(z:PA X (e :: es) t)(S:XAB o name X.env (eval o X.env)=eval o X.env:=by rfl)(R:((backTo jj (Pi (e :: es) X.env)).all (λx=>!x.1)&&(backToKw jj (SL [] X.env)).all (λx=>x.1.isSome)
   && decide ((e :: es).length+([]:List Keyword).length+(if ([]:List Keyword).isEmpty then 0 else 1)<30))=L:=by rfl)(N:(apos.endLine==jj.line)=L:=by rfl)(u:K1 e es X:=by rfl)(P:K2 jj es X:=by rfl) :
  PE X (.Call (.Attribute o name apos) (e :: es) [] jj) (Uw X.K T r to t):=by
 intro d s J H Q I h;refine wpAny_Call_method_late S R N M (thn (w d s J H _ I h) λv s1 ⟨x,G,i,r1,ty,p⟩=>?_);obtain⟨C,A⟩:=Dm i r1 ty;refine⟨T,id,q,f,D,C,A,?_⟩;have g:=z jj d s1 J G _ i p;rw[u]at g ⊢;refine Calls.callWith_builtin (by show (B||(backTo jj (Pi es X.env)).any (·.1))=B;rw[P]<;>rfl) (Calls.evalArgs_plain ?_);exact thn g λl m ⟨j,F,E,r2,n⟩=>y d m J F x j v l Q E r1 r2 n
end
noncomputable def T5(X:Cx)(e:String)(r:V->List V->Hp->VK->Prop):Prop :=
 ∀(a:Yr)(s:GM)(J:St)(H:Hp)(x:V)(b:List V)(v:KM)(d:Vy)(Q:VK),Inv X a J H s->RelV x v->aP b d->r x b H Q →
  On (IR X.prog X.w) X.A (call (.builtin e) (v :: d)) (EP X a J Q) X.xe s
def aP.nil_inv{a:Vy}(h:aP [] a):a=[]:=by
 cases h;rfl
def aP.cons_inv{x:V}{a:List V}{d:Vy}(h:aP (x :: a) d):∃u b,d=u :: b/\RelV x u/\aP a b:=by
 cases h with
 |cons r t=>exact⟨_,_,rfl,r,t⟩
def aP.one{x:V}{a:Vy}(h:aP [x] a):∃u,a=[u]/\RelV x u:=by
 obtain⟨u,vs,rfl,r,t⟩:=h.cons_inv;rw[t.nil_inv];exact⟨_,rfl,r⟩
section
variable{X:Cx}{pins:Yr}{J:St}{H:Hp}{s:GM}{l b:KF}{xs ys zs:List V}
def Inv.NY{a its':Vy}{n:Nat}{f:Array KM->Array KM}{d:Nat}(I:Inv X pins J H s)(m:H l=Y (.lst xs))(e:s.heap.get? l=Y { cls:=.type "list",data:=.seq a.toArray n })(j:f a.toArray=its'.toArray)(h:aP ys its')(g:ys.length<=KB) :
  Inv X pins J (upd H l (.lst ys)) { s with heap:=s.heap.update l (Obj.mapSeq f),toks:=d }:=by
 have q:=PySem.IsL.update e f;rw[j]at q;refine I.write (x:=l) (e:=l) (by rw[m];exact trivial) (.inl M) (λo u hb i=>(YS s.heap (Obj.mapSeq f) (YK hb)).trans i) ⟨_,q⟩ ?_;exact⟨g,its',_,h,q⟩
def Inv.QJ{a:Vy}{t':Nat}(I:Inv X pins J H s)(e:aP ys a)(d:ys.length<=KB) :
  Inv X pins J (upd H s.heap.objs.size (.lst ys)) { s with heap:=s.heap.push { cls:=.type "list",data:=.seq a.toArray },toks:=t' } :=
 I.laid (λ_ _ q=>Zn _ q) (Zp _) ⟨d,a,0,e,ZY _ M⟩
theorem Inv.fresh(I:Inv X pins J H s):H s.heap.objs.size=O:=I.Gq.fresh (Zp _)
def Inv.Kt(I:Inv X pins J H s)(d:H l=Y (.lst xs)):xs.length<=KB/\∃(a:Vy)(n:Nat),aP xs a/\xs.length=a.length/\s.heap.get? l=Y { cls:=.type "list",data:=.seq a.toArray n }:=by
 obtain⟨z,a,n,r,e⟩:=I.Gq l _ d;exact⟨z,a,n,r,r.length,e⟩
def wO{n:Nat}(h:n<=KB):Builtin.List.listTooLong n=B:=by
 unfold Builtin.List.listTooLong;exact ZR (by exact Nat.not_lt_of_le h)
end
section
variable{X:Cx}
noncomputable def pd:V->List V->Hp->VK->Prop:=λx b H Q=>∃l a y,x=.ref l/\b=[y]/\H l=Y (.lst a)/\a.length<KB/\Q .non (upd H l (.lst (a++[y])))
def gP:T5 X "list.append" pd:=by
 intro a s J H x o v p Q I f g h;obtain⟨l,m,y,rfl,rfl,d,j,q⟩:=h;cases f;obtain⟨u,rfl,i⟩:=g.one;obtain⟨z,b,n,r,t,e⟩:=I.Kt d;refine call_meets F.slot_list_append ⟨_,e,rfl⟩ F.entry_list_append (F.args_list_append_2 _ _) (PySem.list_append l b.toArray n u (by rw[ZQ];lia)) ⟨e,?_⟩;refine⟨.non,_,I.NY (its':=b++[u]) d e (by simp) (r.append (.cons i .nil)) ?_,rfl,q⟩;rw[Zw,JV];exact Nat.succ_le_of_lt j
noncomputable def vm:V->List V->Hp->VK->Prop:=λx e H Q=>∃l b d a,x=.ref l/\e=[.ref b]/\H l=Y (.lst d)/\H b=Y (.lst a)/\d.length+a.length<=KB/\Q .non (upd H l (.lst (d++a)))
def vw:T5 X "list.extend" vm:=by
 intro g s J H x D v E Q I j m h;obtain⟨l,b,C,y,rfl,rfl,i,t,G,q⟩:=h;cases j;obtain⟨u,rfl,o⟩:=m.one;cases o;obtain⟨z,a,n,r,M,e⟩:=I.Kt i;obtain⟨A,f,p,r2,N,e2⟩:=I.Kt t;have d:a.toArray.size+f.toArray.size<=sizeLine:=by rw[ZQ,ZQ];lia
 have w:¬(!a.toArray.isEmpty&&Builtin.List.listTooLong (a.toArray.size+f.toArray.size))=L:=by
  rw[wO d,Bool.and_false];exact Zb
 refine call_meets F.slot_list_extend ⟨_,e,rfl⟩ F.entry_list_extend (F.args_list_extend_2 _ _)
  (AutoSeq1.list_extend_list_list_0 l a.toArray n b f.toArray p w (by rw[ZQ];lia) (by exact Nat.le_add_right_of_le d)) ⟨e,e2,?_⟩
 refine⟨.non,_,I.NY (its':=a++f) i e (by simp) (r.append r2) ?_,rfl,q⟩;rw[Zw];omega
noncomputable def E4:R2:=λx y H Q=>∃l b d a,x=.ref l/\y=.ref b/\H l=Y (.lst d)/\H b=Y (.lst a)/\d.length+a.length<=KB/\∀p,H p=O->Q (.ref p) (upd H p (.lst (d++a)))
def Dy:OpR X (binaryOp .Add) E4:=by
 intro a s J H x y v u Q I i g h;obtain⟨l,b,w,p,rfl,rfl,j,m,C,q⟩:=h;cases i;cases g;obtain⟨z,d,n,r,D,e⟩:=I.Kt j;obtain⟨t,f,A,r2,E,e2⟩:=I.Kt m;refine PySem.P.add_list e e2 ?_ (by rw[ZQ,ZQ];lia);have o:d.toArray++f.toArray=(d++f).toArray:=by simp
 rw[o];exact⟨.ref _,_,I.QJ (t':=s.toks) (r.append r2) (by rw[Zw];omega),rfl,q _ I.fresh⟩
def len_rep{α:Type}(a:List α)(k:Nat):(List.replicate k a).flatten.length=k*a.length:=by
 induction k with
 |zero=>simp
 |succ k b=>rw[XM,ZE,Zw,b,Vq,Vl]
end
section
variable{prog:P3}{w:XAA}{A:Re}{E:Yt}{s:GM}
set_option maxRecDepth 100000 in
end
section
variable{κ:Type}[DecidableEq κ]
noncomputable def fP(b:List (κ×V))(k:κ):Option V:=(b.find? λa=>decide (a.1=k)).map (·.2)
noncomputable def putK(b:List (κ×V))(k:κ)(v:V):List (κ×V) :=
 if (b.any λa=>decide (a.1=k))=L then b.map (λa=>if a.1=k then (a.1,v) else a) else b++[(k,v)]
def iI{p:κ×V}{r:List (κ×V)}{k:κ}(e:p.1=k):fP (p :: r) k=Y p.2:=by simp[fP,Yv,e]
def nG{p:κ×V}{r:List (κ×V)}{k:κ}(e:¬p.1=k):fP (p :: r) k=fP r k:=by simp[fP,Yv,e]
theorem rK(k:κ):∀a:List (κ×V),(a.any λb=>decide (b.1=k))=(fP a k).isSome
 |[]=>rfl
 |p :: r=>by
  rw[Y4];by_cases e:p.1=k
  ·simp only[iI e,decide_eq_true e,Bool.true_or,Option.isSome_some]
  ·rw[nG e,ZR e,Bool.false_or];exact rK k r
def fT(a:List (κ×V))(k:κ)(v:V):(putK a k v).length<=a.length+1:=by
 unfold putK;split
 ·rw[Zt];exact ZI _ _
 ·rw[Zw,Zg,WN];exact Zp _
def iA.G0{o:Option V}{u:Vx}(r:iA o u):o.isSome=u.isSome:=by
 cases o with
 |none=>cases u with
  |none=>rfl
  |some _=>exact(show False from r).elim
 |some _=>cases u with
  |none=>exact(show False from r).elim
  |some _=>rfl
theorem iA.getD{o:Option V}{u:Vx}{d:V}{a:KM}(r:iA o u)(b:RelV d a):RelV (o.getD d) (u.getD a):=by
 cases o with
 |none=>cases u with
  |none=>exact b
  |some _=>exact(show False from r).elim
 |some _=>cases u with
  |none=>exact(show False from r).elim
  |some _=>exact r
def KV.val{i:List (κ×V)}{f:List (κ×KM)}(r:KV i f)(k:κ):iA (fP i k) (valueAt f k):=by
 unfold KV at r
 induction r with
 |nil=>exact True.intro
 |@cons p q ps a h t j =>
  obtain⟨g,l⟩:=h;by_cases e:p.1=k
  ·have d:q.1=k:=g.symm.trans e;have b:valueAt (q :: a) k=Y q.2:=by simp[valueAt,Yv,d]
   rw[iI e,b];exact l
  ·have d:¬q.1=k:=λz=>e (g.trans z);have b:valueAt (q :: a) k=valueAt a k:=by simp[valueAt,Yv,d]
   rw[nG e,b];exact j
theorem KV.any{d:List (κ×V)}{b:List (κ×KM)}(r:KV d b)(k:κ):(d.any λa=>decide (a.1=k))=b.any λa=>decide (a.1=k):=by
 unfold KV at r
 induction r with
 |nil=>rfl
 |cons h t e=>rw[Y4,Y4,e,h.1]
def KV.Mn{f:List (κ×V)}{d:List (κ×KM)}(r:KV f d)(k:κ){y:V}{u:KM}(g:RelV y u) :
  KV (f.map λa=>if a.1=k then (a.1,y) else a) (d.map λa=>if a.1=k then (a.1,u) else a):=by
 unfold KV at r ⊢
 induction r with
 |nil=>exact .nil
 |@cons p q ps l h t i =>
  rw[Ze,Ze];refine .cons ?_ i;obtain⟨b,j⟩:=h;by_cases e:p.1=k
  ·rw[Zo e,Zo (b.symm.trans e)];exact⟨b,g⟩
  ·rw[Zm e,Zm (λz=>e (b.trans z))];exact⟨b,j⟩
def KV.put{d:List (κ×V)}{a:List (κ×KM)}(r:KV d a)(k:κ){y:V}{u:KM}(b:RelV y u):KV (putK d k y) (stored a k u):=by
 unfold putK stored;rw[r.any k];by_cases e:(a.any λf=>decide (f.1=k))=L
 ·rw[Zo e,Zo e];exact r.Mn k b
 ·rw[Zm e,Zm e];exact Paired.snoc r ⟨rfl,b⟩
def KV.keys{b:List (κ×V)}{a:List (κ×KM)}(r:KV b a):b.map (·.1)=a.map (·.1):=by
 unfold KV at r
 induction r with
 |nil=>rfl
 |cons h t d=>rw[Ze,Ze,d,h.1]
theorem KV.length{b:List (κ×V)}{a:List (κ×KM)}(r:KV b a):b.length=a.length:=XC r
end
def lD{P:P3}{w:XAA}{k:Key}{u:KM}(r:RelV (kV k) u):(aN P w).is k u=L:=by
 cases k with
 |inl i=>obtain⟨t,e⟩:=(show ∃t,u=Value.int i t from r);subst e;exact qJ P w i t
 |inr x=>obtain⟨t,e⟩:=(show ∃t,u=Value.str x t from r);subst e;exact rJ P w x t
theorem oQ{P:P3}{w:XAA}:∀{a:List Key}{b:Vy},aP (a.map kV) b->ItemsAre (aN P w) a b
 |[],_,r=>by rw[WT]at r;cases r;exact .nil
 |k :: a,_,r=>by
  rw[Ze]at r;cases r with
  |cons h t=>exact .cons (lD h) (oQ t)
noncomputable abbrev KT(H:Hp):List (List Key×V)->List (List Key×KF×KM)->Prop:=Paired λp q=>p.1=q.1/\H q.2.1=Y (.tup (p.1.map kV))/\RelV p.2 q.2.2
def KT.val{H:Hp}{i:List (List Key×V)}{f:List (List Key×KF×KM)}(r:KT H i f)(k:List Key):iA (fP i k) ((atKey f k).map (·.2)):=by
 induction r with
 |nil=>exact True.intro
 |@cons p q ps a h t j =>
  obtain⟨g,_,l⟩:=h;by_cases e:p.1=k
  ·have d:q.1=k:=g.symm.trans e;have b:atKey (q :: a) k=Y q.2:=by simp[atKey,Yv,d]
   rw[iI e,b];exact l
  ·have d:¬q.1=k:=λz=>e (g.trans z);have b:atKey (q :: a) k=atKey a k:=by simp[atKey,Yv,d]
   rw[nG e,b];exact j
def KT.Mn{H:Hp}{g:List (List Key×V)}{d:List (List Key×KF×KM)}(r:KT H g d)(k:List Key){y:V}{u:KM}(i:RelV y u) :
  KT H (g.map λb=>if b.1=k then (b.1,y) else b) (d.map (putAt k u)):=by
 induction r with
 |nil=>exact .nil
 |@cons p q ps m h t j =>
  rw[Ze,Ze];refine .cons ?_ j;obtain⟨a,f,l⟩:=h;unfold putAt;by_cases e:p.1=k
  ·rw[Zo e,Zo (a.symm.trans e)];exact⟨a,f,i⟩
  ·rw[Zm e,Zm (λz=>e (a.trans z))];exact⟨a,f,l⟩
def KT.put{H:Hp}{d:List (List Key×V)}{a:List (List Key×KF×KM)}(r:KT H d a)(k:List Key){b:KF}{y:V}{u:KM}(h:H b=Y (.tup (k.map kV)))(f:RelV y u) :
  KT H (putK d k y) (storedH a k b u):=by
 have e:(d.any λg=>decide (g.1=k))=(atKey a k).isSome:=by
  rw[rK,(r.val k).G0,YA]
 unfold putK storedH;rw[e];by_cases q:(atKey a k).isSome=L
 ·rw[Zo q,Zo q];exact r.Mn k f
 ·rw[Zm q,Zm q];exact Paired.snoc r ⟨rfl,h,f⟩
def KT.keeps{H f:Hp}{e:List (List Key×V)}{d:List (List Key×KF×KM)}(r:KT H e d)(g:∀b a,H b=Y (.tup a)->f b=Y (.tup a)):KT f e d :=
 Paired.Lw r λ_ _ z=>⟨z.1,g _ _ z.2.1,z.2.2⟩
section
variable{P:P3}{w:XAA}{H:Hp}{h:UV}{a:KF}
def BM{u:HO}(b:Hj P w H h)(e:Rd H a u):bx P w H h a u:=e.ok b
def lr{b:List (Key×V)}(f:Hj P w H h)(e:Rd H a (.dK b)):b.length<=KB/\(a==sysModules)=B/\∃d,KV b d/\h.DictOf (aN P w) a d :=
 show bx P w H h a (.dK b) from BM f e
def qS{b:List (Key×V)}(f:Hj P w H h)(e:H a=Y (.dK b)):b.length<=KB/\(a==sysModules)=B/\∃d,KV b d/\h.DictOf (aN P w) a d:=lr f (.inl e)
def du{b:List Key}(f:Hj P w H h)(e:H a=Y (.tup (b.map kV))):(tupleKind (aN P w)).is h b a:=by
 obtain⟨_,d,r,_,o,j,i,n,g⟩:=(show bx P w H h a (.tup (b.map kV)) from f a _ e)
 exact⟨o,d.toArray,n,j,i,g,by simpa using oQ r⟩
def nk{f:List (List Key×V)}(g:Hj P w H h)(e:Rd H a (.dT f)):f.length<=KB/\(a==sysModules)=B ∧
  ∃d,KT H f d/\h.DictOfH (tupleKind (aN P w)) a d:=by
 obtain⟨z,y,d,r,o,C,D,A,v,u,s,n⟩:=(show bx P w H h a (.dT f) from BM g e)
 refine⟨z,y,d,r,o,C,D,A,v,u,s,λx b=>?_,n⟩;have all:∀{l:List (List Key×V)}{m:List (List Key×KF×KM)},KT H l m->∀x∈m,(tupleKind (aN P w)).is h x.1 x.2.1:=by
  intro l m q
  induction q with
  |nil=>intro x b;exact nomatch b
  |@cons p q ps E i t j =>
   intro x b;rcases Zh.mp b with e | b
   ·subst e;exact du g (by rw[← i.1];exact i.2.1)
   ·exact j x b
 exact all r x b
def Er{b:List (List Key×V)}(f:Hj P w H h)(e:H a=Y (.dT b)):b.length<=KB/\(a==sysModules)=B ∧
  ∃d,KT H b d/\h.DictOfH (tupleKind (aN P w)) a d:=nk f (.inl e)
end
noncomputable def gS(H:Hp)(a:KF)(y:V)(r:Option V):Prop :=
 (∃d k,Rd H a (.dK d)/\y=kV k/\r=fP d k)\/∃d k b,Rd H a (.dT d)/\y=.ref b/\H b=Y (.tup (k.map kV))/\r=fP d k
noncomputable def tK(H:Hp)(a:KF)(y v:V)(e:Hp):Prop :=
 (∃d k,H a=Y (.dK d)/\y=kV k/\d.length<KB/\e=upd H a (.dK (putK d k v))) ∨
 ∃d k b,H a=Y (.dT d)/\y=.ref b/\H b=Y (.tup (k.map kV))/\d.length<KB/\e=upd H a (.dT (putK d k v))
theorem gS.k{H:Hp}{a:KF}{b:List (Key×V)}{k:Key}(e:H a=Y (.dK b)):gS H a (kV k) (fP b k):=.inl ⟨b,k,.inl e,rfl,rfl⟩
theorem tK.k{H:Hp}{a:KF}{b:List (Key×V)}{k:Key}{v:V}(e:H a=Y (.dK b))(d:b.length<KB):tK H a (kV k) v (upd H a (.dK (putK b k v))):=.inl ⟨b,k,e,rfl,d,rfl⟩
section
variable{X:Cx}{pins:Yr}{J:St}{H:Hp}{s:GM}{a:KF}{y v:V}{u r:KM}{o:Option V}{A:Re}{E:Yt}
def Inv.big(I:Inv X pins J H s):sysModules<s.heap.objs.size:=by
 have h:mainGlobals<s.heap.objs.size:=(I.mod.glob.keeps I.bk).lt;exact WU (by decide) h
def vI{Q:Yt}(x:A.units+1<cLine)(I:Inv X pins J H s)(g:gS H a y (Y v))(n:RelV y u)(h:∀d m,Inv X pins J H m->RelV v d->Q d m) :
  On (IR X.prog X.w) A (getItem (.ref a) u) Q E s:=by
 rcases g with⟨D,k,e,f,l⟩ | ⟨D,k,b,e,f,F,l⟩
 ·subst f;obtain⟨z,hd,t,rel,i⟩:=lr I.Gq e;obtain⟨d,hw,j⟩:=iA.some_of (v:=v) (o:=valueAt t k) (by rw[l];exact rel.val k);exact wpAny_getItem_of (lD n) i.mapOf hw (h d _ (I.tok _) j)
 ·subst f;cases (show u=Value.ref b from n);obtain⟨z,hd,q,rel,i⟩:=nk I.Gq e;obtain⟨d,hw,j⟩:=iA.some_of (v:=v) (o:=(atKey q k).map (·.2)) (by rw[l];exact rel.val k);obtain⟨p,C,G⟩:=Zy.mp hw;refine wpAny_getItem_heap (X4 x) (du I.Gq F) i C ?_;rw[G];exact h d _ (I.tok _) j
def Gc{Q:Yt}(m:A.units+1<cLine)(I:Inv X pins J H s)(g:gS H a y o)(j:RelV y u)(h:∀i,Inv X pins J H i->Q (.bool o.isSome) i) :
  On (IR X.prog X.w) A (UF .In u (.ref a)) Q E s:=by
 rcases g with⟨n,k,e,d,l⟩ | ⟨n,k,b,e,d,p,l⟩
 ·subst d;obtain⟨z,hd,x,rel,f⟩:=lr I.Gq e;refine wpAny_in_of (lD j) hd f.mapOf ?_;rw[← (rel.val k).G0,← l];exact h _ (I.tok _)
 ·subst d;cases (show u=Value.ref b from j);obtain⟨z,hd,t,rel,f⟩:=nk I.Gq e;refine wpAny_in_heap (X4 m) (du I.Gq p) hd f ?_;have q:=(rel.val k).G0;rw[YA]at q;rw[← q,← l];exact h _ (I.tok _)
def Al{Q:Yt}(m:A.units+1<cLine)(I:Inv X pins J H s)(g:gS H a y o)(j:RelV y u)(h:∀i,Inv X pins J H i->Q (.bool (!o.isSome)) i) :
  On (IR X.prog X.w) A (UF .NotIn u (.ref a)) Q E s:=by
 rcases g with⟨n,k,e,d,l⟩ | ⟨n,k,b,e,d,p,l⟩
 ·subst d;obtain⟨z,hd,x,rel,f⟩:=lr I.Gq e;refine wpAny_notIn_of (lD j) hd f.mapOf ?_;rw[← (rel.val k).G0,← l];exact h _ (I.tok _)
 ·subst d;cases (show u=Value.ref b from j);obtain⟨z,hd,t,rel,f⟩:=nk I.Gq e;refine wpAny_notIn_heap (X4 m) (du I.Gq p) hd f ?_;have q:=(rel.val k).G0;rw[YA]at q;rw[← q,← l];exact h _ (I.tok _)
def l5{d:UV}{t':Nat}{f:HO}(I:Inv X pins J H s)(h:Gw (H a))(i:Heap.SameBut a s.heap d)(j:∃q,d.get? a=Y q)(g:bx X.prog X.w (upd H a f) d a f) :
  Inv X pins J (upd H a f) { s with heap:=d,toks:=t' } :=
 I.write (x:=a) (e:=a) h (.inl M) (λb q hb z=>(i.2 b hb).trans z) j g
def pQ{P:P3}{w:XAA}{i:Hp}{f:UV}{e:List (Key×V)}{b:List (Key×KM)}(z:e.length<=KB)(g:(a==sysModules)=B)(d:KV e b)(h:f.DictOf (aN P w) a b) :
  bx P w i f a (.dK e):=⟨z,g,b,d,h⟩
def vL{P:Hp}{Q:Unit->GM->Prop}(U:A.units+1<cLine)(I:Inv X pins J H s)(g:tK H a y v P)(D:RelV y u)(F:RelV v r)(h:∀C,Inv X pins J P C->Q () C) :
  On (IR X.prog X.w) A (setItem (.ref a) u r) Q E s:=by
 rcases g with⟨d,k,e,p,l,t⟩ | ⟨d,k,b,e,p,N,l,t⟩
 ·subst p t;obtain⟨z,hd,S,rel,x⟩:=qS I.Gq e;have j:S.length<=sizeLine:=by rw[← rel.length];exact z
  have n:(putK d k v).length<=sizeLine:=by have:=fT d k v;lia
  refine wpAny_setItem_pairs (hsz:=j) (lD D) x λG i m=>h _ ?_;have Z:∃q,G.get? a=Y q:=let ⟨q,_,_,f,_⟩:=i;⟨q,f⟩
  exact l5 I (by rw[e];exact True.intro) m Z (pQ n hd (rel.put k F) i)
 ·subst p t;cases (show u=Value.ref b from D);obtain⟨z,hd,R,rel,x⟩:=Er I.Gq e;have j:R.length<=sizeLine:=by rw[← XC rel];exact z
  have n:(putK d k v).length<=sizeLine:=by have:=fT d k v;lia
  refine wpAny_setItem_heap (hsz:=j) (X4 U) (du I.Gq N) x λG i m=>h _ ?_;obtain⟨q,es,ep,f,h2,h3,h4,_,h5⟩:=i;refine l5 I (by rw[e];exact True.intro) m ⟨q,f⟩ ⟨n,hd,_,(rel.put k N F).keeps λc ys M=>?_,q,es,ep,f,h2,h3,h4,h5⟩;rw[aF (Fg M e (λz=>nomatch z))];exact M
end
section
variable{X:Cx}{pins:Yr}{J:St}{H:Hp}{s:GM}{a:KF}{gV:List (Key×V)}{k:Key}{u:KM}{A:Re}{E:Yt}
def EX{Q:Yt}(I:Inv X pins J H s)(e:Rd H a (.dK gV))(h:∀t b,Inv X pins J H b->Q (.int gV.length t) b):On (IR X.prog X.w) A (call (.builtin "len") [.ref a]) Q E s:=by
 obtain⟨z,hd,f,rel,d⟩:=lr I.Gq e;refine call_len_dict hd d (by rw[← rel.length];rw[X5]at z;lia) ?_;rw[← rel.length];exact h _ _ (I.tok _)
end
def q9{X:Cx}{d:Yr}{J:St}{H:Hp}{s:GM}{a:KF}{y:V}{o:Option V}(I:Inv X d J H s)(g:gS H a y o):s.TypeIs (.ref a) "dict" := by
 rcases g with⟨h,k,e,_,_⟩ | ⟨h,k,b,e,_,_,_⟩
 ·obtain⟨_,_,j,_,f⟩:=lr I.Gq e;exact f.typeIs
 ·obtain⟨_,_,i,_,f⟩:=nk I.Gq e;exact f.typeIs
def qu{P:P3}{w:XAA}{H:Hp}(h:UV)(a:sysModules<h.objs.size):bx P w H (h.push { cls:=.type "dict",data:=.dict #[] }) h.objs.size (.dK []) :=
 ⟨ZG _,IJ.mpr (YK (Za a)),[],.nil,Heap.DictOf.new h⟩
noncomputable def DM:TE:=λ_ H Q=>∀p,H p=O->Q (.ref p) (upd H p (.dK []))
section
variable{X:Cx}{pos:Pos}
def yp:PE X (.Dict [] [] pos) DM:=λb s J H Q I h =>
 wpAny_Dict_empty ⟨.ref s.heap.objs.size,_,I.laid (a:=s.heap.objs.size) (o:=.dK []) (t':=s.toks) (λ_ _ q=>Zn _ q) (Zp _) (qu s.heap I.big),rfl,h _ (I.Gq.fresh (Zp _))⟩
end
noncomputable def sD:List (TE×TE)->St->Hp->(List (V×V)->Hp->Prop)->Prop
 |[],_,H,Q=>Q [] H
 | (b,a) :: r,J,H,Q=>b J H λx f=>a J f λy e=>sD r J e λps d=>Q ((x,y) :: ps) d
noncomputable abbrev VV:List (V×V)->List (KM×KM)->Prop:=Paired λp q=>RelV p.1 q.1/\RelV p.2 q.2
noncomputable def PPs(X:Cx)(e:Pos)(d:List (Option Expr))(a:List Expr)(i:List (TE×TE)):Prop :=
 ∀(b:Yr)(s:GM)(J:St)(H:Hp)(Q:List (V×V)->Hp->Prop),Inv X b J H s->sD i J H Q →
  On (IR X.prog X.w) X.A (evalPairs (pairTrees d a X.env e)) (λg h=>∃ps f,Inv X b J f h/\VV ps g/\Q ps f) X.xe s
def zW{X:Cx}{a:Pos}:PPs X a [] [] []:=λb s J H Q I h=>pairTrees_nil_walk ⟨[],H,I,.nil,h⟩
def yJ{X:Cx}{b:Pos}{k v:Expr}{g:List (Option Expr)}{d:List Expr}{f e:TE}{i:List (TE×TE)}(t:PE X k f)(q:PE X v e)(r:PPs X b g d i) :
  PPs X b (Y k :: g) (v :: d) ((f,e) :: i):=λa s J H Q I h =>
 pairTrees_cons_walk (thn (t a s J H _ I h) λu s1 ⟨x,E,A,m,p⟩=>thn (q a s1 J E _ A p) λF j ⟨y,D,z,l,o⟩ =>
  thn (r a j J D _ z o) λws G ⟨ps,C,w,rel,n⟩=>⟨(x,y) :: ps,C,w,.cons ⟨m,l⟩ rel,n⟩)
noncomputable def nq(d a:List (Key×V)):List (Key×V):=a.foldl (λacc b=>putK acc b.1 b.2) d
def KV.merge:∀{more:List (Key×V)}{d:List (Key×KM)}{b:List (Key×V)}{a:List (Key×KM)},KV more d->KV b a->KV (nq b more) (merged a d):=by
 intro more d b a r;unfold KV at r
 induction r generalizing b a with
 |nil=>intro q;exact q
 |@cons p q ps i h t g =>
  intro f;have e:KV (putK b p.1 p.2) (stored a q.1 q.2):=by
   have:=f.put p.1 h.2;rw[← h.1];exact this
  exact g e
theorem jq:∀(more a:List (Key×V)),(nq a more).length<=a.length+more.length
 |[],a=>by show a.length<=a.length+0;exact ZI _ _
 |p :: r,a=>by
  have d:=jq r (putK a p.1 p.2);have b:=fT a p.1 p.2;show (nq (putK a p.1 p.2) r).length<=_;rw[Zg];lia
theorem m9{P:P3}{w:XAA}:∀{e:List (Key×V)}{ws:List (KM×KM)},VV (e.map λf=>(kV f.1,f.2)) ws->∃d,Carries (aN P w) ws d/\KV e d
 |[],_,r=>by rw[WT]at r;cases r;exact⟨[],True.intro,.nil⟩
 |p :: e,_,r=>by
  rw[Ze]at r;cases r with
  |@cons a b j bs h t =>
   obtain⟨d,c,q⟩:=m9 (P:=P) (w:=w) t;obtain⟨i,g⟩:=b;exact⟨(p.1,g) :: d,⟨lD h.1,rfl,c⟩,.cons ⟨rfl,h.2⟩ q⟩
noncomputable def Em(e:List (TE×TE)):TE:=λJ H Q=>∀p,H p=O->sD e J (upd H p (.dK [])) λps d=>d p=Y (.dK [])/\∃a:List (Key×V),ps=a.map (λb=>(kV b.1,b.2))/\a.length<=15/\Q (.ref p) (upd d p (.dK (nq [] a)))
def Ak{X:Cx}{f:Pos}{b:List (Option Expr)}{d:List Expr}{l:List (TE×TE)}(h:PPs X f b d l)(R:b.all (·.isSome)=L)(D:b.length=d.length)(G:b≠[])(i:b.length<=15):PE X (.Dict b d f) (Em l):=by
 intro g s J H Q I q;have C:=I.Gq.fresh (Zp s.heap.objs.size);have S:=I.laid (a:=s.heap.objs.size) (o:=.dK []) (h':=s.heap.push { cls:=.type "dict",data:=.dict #[] }) (t':=s.toks) (λ_ _ q=>Zn _ q) (Zp _) (qu s.heap I.big);refine wpAny_Dict_walk (knd:=aN X.prog X.w) R D G i (thn (h g _ J _ _ S (q _ C)) λws U ⟨ps,Z,n,rel,e,j,M,lk,v⟩=>?_);subst M;obtain⟨r,c,t⟩:=m9 (P:=X.prog) (w:=X.w) rel;obtain⟨z,hd,p,u,N⟩:=qS n.Gq e;cases u;refine⟨r,c,N,λh' m y=>⟨.ref s.heap.objs.size,_,?_,rfl,v⟩⟩;have x:(nq [] j).length<=sizeLine:=by
  have F:=jq j [];rw[WN]at F;rw[X5];lia
 have E:∃q,h'.get? s.heap.objs.size=Y q:=let ⟨q,_,_,A,_⟩:=m;⟨q,A⟩
 exact l5 n (by rw[e];exact True.intro) y E (pQ x hd (t.merge .nil) m)
structure M1(X:Cx)(o:Expr)(m:Str)(apos:Pos)(e:Expr)(jj:Pos):Prop where
 base:XAB o m X.env (eval o X.env)=eval o X.env
 Ho:((backTo jj (Pi [e] X.env)).all (λx=>!x.1)&&(backToKw jj (SL [] X.env)).all (λx=>x.1.isSome)
  && decide (([e]:List Expr).length+([]:List Keyword).length+(if ([]:List Keyword).isEmpty then 0 else 1)<30))=true
 line:(apos.endLine==jj.line)=true
 trees:backTo jj (Pi [e] X.env)=[(false,eval e X.env)]
noncomputable def T6(H:Hp)(a:KF):Prop:=(∃b,Rd H a (.dK b))\/∃b,Rd H a (.dT b)
def Cn{X:Cx}{g:Yr}{J:St}{H:Hp}{s:GM}{a:KF}(I:Inv X g J H s)(d:T6 H a) :
  s.TypeIs (.ref a) "dict" ∧ (∀b,Value.ref a=.ref b->∃f,s.heap.get? b=Y f/\f.dict=O)/\(a==sysModules)=B:=by
 rcases d with⟨l,e⟩ | ⟨l,e⟩
 ·obtain⟨_,hd,n,_,h⟩:=lr I.Gq e;refine⟨h.typeIs,λb q=>?_,hd⟩;cases q;obtain⟨f,_,_,j,i,_⟩:=h;exact⟨f,j,i.2.1⟩
 ·obtain⟨_,hd,m,_,h⟩:=nk I.Gq e;refine⟨h.typeIs,λb q=>?_,hd⟩;cases q;obtain⟨f,_,_,j,i,_⟩:=h;exact⟨f,j,i.2.1⟩
section
variable{X:Cx}{pins:Yr}{J:St}{H:Hp}{s:GM}{a:KF}{y d:V}{u r:KM}{o:Option V}{A:Re}{E:Yt}
def DJ{Q:Yt}(q:A.units+1<cLine)(I:Inv X pins J H s)(g:gS H a y o)(n:RelV y u)(h:∀j m,Inv X pins J H m->RelV (o.getD .non) j->Q j m) :
  On (IR X.prog X.w) A (call (.builtin "dict.get") [.ref a,u]) Q E s:=by
 rcases g with⟨t,k,e,i,l⟩ | ⟨t,k,b,e,i,v,l⟩
 ·subst i;obtain⟨z,hd,x,rel,f⟩:=lr I.Gq e;refine call_meetsIn WM f.typeIs PySem.F.entry_dict_get (PySem.F.args_dict_get_2 _ _) (meets_dict_get (aN X.prog X.w) a (lD n) hd) ⟨_,f.mapOf,h _ _ (I.tok _) ?_⟩;rw[l];exact(rel.val k).getD M
 ·subst i;cases (show u=Value.ref b from n);obtain⟨z,hd,p,rel,f⟩:=nk I.Gq e;refine call_meetsIn WM f.typeIs PySem.F.entry_dict_get (PySem.F.args_dict_get_2 _ _) (meetsH_dict_get (tupleKind (aN X.prog X.w)) a b hd) ⟨X4 q,k,p,du I.Gq v,f,h _ _ (I.tok _) ?_⟩;rw[l];exact(rel.val k).getD M
end
noncomputable def Cg(f e:TE):TE:=λJ H Q=>f J H λx d=>∃a,x=.ref a/\T6 d a/\e J d λy b=>∃o,gS b a y o/\Q (o.getD .non) b
section
variable{X:Cx}{o e f:Expr}{apos jj:Pos}{td ty tx:TE}
def yo(t:X.A.units+1<cLine)(v:PE X o td)(w:PE X e ty)(m:M1 X o "get" apos e jj):PE X (.Call (.Attribute o "get" apos) [e] [] jj) (Cg td ty):=by
 intro b s J H Q I h;refine wpAny_Call_method m.base m.Ho m.line PySem.F.plainAttrs_dict WM PySem.F.type_dict_get (thn (v b s J H _ I h) λu s1 ⟨x,G,i,p,a,ex,d,r⟩=>?_);subst ex;obtain rfl:u=Value.ref a:=p;obtain⟨l,j,_⟩:=Cn i d;refine⟨l,j,?_⟩;rw[m.trees];refine Calls.callWith_builtin M (Calls.evalArgs_plain (Calls.spliced_cons (thn (w b s1 J G _ i r) λiv R ⟨y,E,D,n,ov,g,q⟩=>Calls.spliced_nil ?_)));exact DJ t D g n λN P C z=>⟨_,E,C,z,q⟩
end
end L2
namespace Ub
open PySem PySem.W PySem.Calls PyProof.Rows
def lL{P:Params}{h:UV}:∀(ns:Vr)(d:Vy),WellAll P h d (ns.map WData.int)->IntsAre d ns:=by
 intro ns
 induction ns with
 |nil =>
  intro d w;rw[WT]at w;cases w;exact .nil
 |cons n ns e =>
  intro d w;rw[Ze]at w;cases w with
  |cons a b =>
   cases a;exact .cons _ _ (e _ b)
def vC{l:OpenLaw}{n:Nat}(v:l.most=Y n){P:Params}{h:UV}{b:List WData}{e:Vy}(f:l.row.toRowW.claim.pre b=L)(j:WellAll P h e b) :
  ∃a m ns,e=[Value.ref a]/\b=[WData.list (ns.map WData.int)]/\h.get? a=Y { cls:=.type "list",data:=.seq m.toArray }/\IntsAre m ns/\ns.length<=n:=by
 have z:WShape.hasAll [] b [.list .int]=L:=(pre_splitW f).1;have o:l.pre.holds [] { args:=b }=L:=(pre_splitW f).2;obtain⟨d,r,rfl,y,x⟩:=hasAllW_cons z;obtain rfl:=hasAllW_nil x;obtain⟨C,rfl,w⟩:=hasW_list y;obtain⟨ns,rfl⟩:=items_int w;have hlen:ns.length<=n:=by
  unfold OpenLaw.pre at o;have i:(WTm.not (.lt (.lit (.int (n:Int))) (.len (.arg 0)))).holds [] { args:=[.list (ns.map .int)] }=L:=by
   have i:=(holds_andW o).1;rw[v]at i;exact i
  have g:=condW_of i (w_not (w_lt w_lit (w_len_list (w_arg M))));rw[Zt]at g;refine ZJ λq=>?_;have t:(n:Int)<((ns.length:Nat):Int):=by omega
  first
   | (rw[decide_eq_true t]at g;exact absurd g (by decide))
   | (simp at g;omega)
 cases j with
 |cons s p =>
  cases p;cases s with
  |list u A=>exact⟨_,_,ns,rfl,rfl,u,lL ns _ A,hlen⟩
def vF(l:OpenLaw)(a:List WData):l.row.toRowW.claim.post a (.bool L) a=L :=
 postW_of (r:=l.row.toRowW) (X:=(L==L))
  (show WShape.has [] (.bool L) .bool=L by first | rfl | decide | simp[WShape.has,WShape.arms,WShape.armsAll])
  (show (WTm.eq .res (.lit (.bool L))).value [] { args:=a,res:=Y (.bool L),after:=a }=Y (.bool (L==L)) from w_eq_bool (w_res M) w_lit) M
def rn{l:OpenLaw}{n:Nat}{q:P3}{e:List Str}{A:(Wi)->UV->Prop}{z:XAA->UV->Prop}{d:DefRec}(F:l.most=some n)(S:d.params.defaults=[])(j:∀(w:XAA)(p b:GM)(mg s:Wi)(i:KF)(o:Obj)(pm cd doc:KM)(a:KF)(g:Vy)(ns:Vr),
   Ground q e [] A w p mg s b.heap->z w b.heap →
   b.heap.get? i=some o->o.data=.func (docDef d.name d.params d.body d.scope pm cd doc)->b.heap.CodeRec cd d.name->mg d.name=some (.ref i) →
   b.heap.get? a=some { cls:=.type "list",data:=.seq g.toArray }->IntsAre g ns->ns.length<=n->b.gens=#[] →
   codeAny (IR l.prog w) callerA (.call (.ref i) ⟨[.ref a],[]⟩) (λr m=>r=.ok (.ret (.bool L))/\OldK b.heap m.heap/\m.os=b.os/\AllBare m.gens) b) :
  WalkO q e A z l.row.toRowW d [] (λf g=>PySem.call f g):=by
 intro w p b mg s G Y i o pm cd doc Q kV E hd v y u hg args vals U h x C t J;obtain rfl:Q=.none:=Dflts.none y S;obtain rfl:kV=.none:=Dflts.noKw y;obtain⟨a,g,ns,rfl,rfl,R,hints,hlen⟩:=vC F h t;refine enter_call (Wu (j w p b mg s i o pm cd doc a g ns G Y E (fd_plain hd) v u R hints hlen hg) λr m D=>?_);obtain⟨rfl,P,N,M⟩:=D;exact⟨.inl ⟨.bool L,.bool L,[],rfl,λ_=>rfl,.bool L,vF l _,λ_=>⟨List.Pairwise.nil,λ_ H=>(nomatch H)⟩⟩,P,N,M⟩
end Ub
namespace L2
open PySem PySem.Spec PyProof.Rows
theorem oU:∀{a:Vy}{ns:Vr},IntsAre a ns->aP (ns.map V.int) a
 |_,_,.nil=>.nil
 |_,_,.cons n t h=>.cons ⟨t,rfl⟩ (oU h)
noncomputable def xw(H:Hp):Prop:=∀b,H b=O\/∃o a,H b=Y (.frz o (.lst a))
def wG{P:P3}{w:XAA}{K:Wy}{t E:Wi}{CX:Kd}{k:Nat}{J a:KF}{fd:Pv}{x:Str}{Q:Sp}{f:GM}{j:Vy}{p:Vr}(KX:K.In f.heap)(LW:f.heap.Ns mainGlobals t)(g:f.heap.Ns builtinsNs E)(Rr:∀x:Str,x ≠ "__name__" → E x=bootBuiltins x)(Rg:f.heap.NoLimit)(hg:f.gens=#[])(C:f.heap.get? a=Y { cls:=.type "list",data:=.seq j.toArray })(U:IntsAre j p)(S:p.length<=KB)(hr:Gn k callerA)(F:∀base:UV,K.In base->base.Ns mainGlobals t->FnOk P w K t base CX k J fd [x] Q)(Om:∀(s:GM)(u:KM),BindsTo s fd ⟨[u],[]⟩ [(x,u)])(LV:∀H:Hp,xw H->GL K H a (p.map V.int)->Q [.ref a] H (λv _=>v=.bl L) λ_ _ _=>False)(RD:∀H e i,CX [] H f (λ_ _ _=>False) e i->False) :
  codeAny (IR P w) callerA (.call (.ref J) ⟨[.ref a],[]⟩) (λr i=>r=.ok (.ret (.bool L))/\OldK f.heap i.heap/\i.os=f.os/\AllBare i.gens) f:=by
 have R:=oU U;have QK:=U.length;have core:∀H:Hp,xw H->GL K H a (p.map V.int)->Hj P w H f.heap->(∀b,H b≠O->b=a)->(H a≠O->K.lookup a=O) →
   codeAny (IR P w) callerA (.call (.ref J) ⟨[.ref a],[]⟩) (λr i=>r=.ok (.ret (.bool L))/\OldK f.heap i.heap/\i.os=f.os/\AllBare i.gens) f:=by
  intro H X hS Gq Z hK;have JG:∀{b:KF}{o:Obj},f.heap.get? b=Y o->H b=O->(qj f.heap H).get? b=Y o:=λe n=>xG e n;have NV:∀{b:KF}{o:Obj}{y:Array DictEntry}{A:Nat},f.heap.get? b=Y o->o.data=.dict y A->H b=O:=λ{b o y A} e d=>by
   cases q:H b with
   |none=>rfl
   |some u =>
    have N:b=a:=Z b (by rw[q];simp);subst N;rw[C]at e;cases e;have d':Data.seq j.toArray _=Data.dict y A:=d;cases d'
  have D:∀{b:KF}{m:Wi},f.heap.Ns b m->(qj f.heap H).Ns b m:=λ{b m} ⟨o,y,A,e,d,r⟩=>⟨o,y,A,JG e (NV e d),d,r⟩
  have Tp:K.In (qj f.heap H):=λb o e=>JG (KX b o e) (by
   cases q:H b with
   |none=>rfl
   |some u =>
    have N:b=a:=Z b (by rw[q];simp);subst N;rw[hK (by rw[q];simp)]at e;cases e)
  have hM:Mod K t (qj f.heap H):=⟨Tp,D LW,⟨E,D g,Rr⟩,let ⟨mc,h1,h2⟩:=Rg;⟨mc,D h1,h2⟩⟩
  have e0:Env0 P w K t (qj f.heap H) callerA [] f H:=⟨rfl,hM,λb o e=>Bf e,XQ (we _ _),trivial,λb g=>absurd (show b∈([]:Wf) from g) (by simp),Gq,.of_eq hg⟩
  refine Wu ((F _ Tp (D LW)).run callerA [] f H ⟨[.ref a],[]⟩ [.ref a] [.ref a] _ _ hr e0 (Om f (.ref a)) (.cons M .nil) (LV H X hS)) λr i h=>?_;cases r with
  |error e=>exact(RD H e i h).elim
  |ok fl =>
   cases fl with
   |next=>exact False.elim h
   |brk=>exact False.elim h
   |cont=>exact False.elim h
   |ret u =>
    obtain⟨v,H',os,bare,un,QV,r',q⟩:=h;have q':v=.bl L:=q;subst q';obtain rfl:u=Value.bool L:=r';refine⟨rfl,OldK.of_keep λb o e=>?_,os,bare⟩;cases q:H b with
    |none=>exact un.keep b o e q (by intro z;exact absurd (show b∈([]:Wf) from z) (by simp)) (by simp)
    |some u =>
     rcases X b with z | ⟨ob,xs,z⟩
     ·rw[q]at z;cases z
     ·have z2:=un.IC b ob _ z;obtain⟨e1,_⟩:=Gq b _ z;obtain⟨e2,_⟩:=QV b _ z2;rw[e]at e1;cases e1;exact e2
 cases G:K.lookup a with
 |some o =>
  have e:=KX a o G;rw[C]at e;cases e;refine core (λ_=>O) (λ_=>.inl M) (.inr ⟨_,j.toArray,_,G,rfl,rfl,rfl,by rw[ZQ,QK];exact S,by simpa using R⟩) (λb u z=>by have l:(O:Option HO)=Y u:=z;cases l) (λb z=>absurd M z) λz=>absurd M z
 |none =>
  refine core (λb=>if b=a then Y (.frz { cls:=.type "list",data:=.seq j.toArray } (.lst (p.map V.int))) else O) (λb=>?_) (.inl (.inr ⟨{ cls:=.type "list",data:=.seq j.toArray },Zo M⟩)) (λb u z=>?_) (λb z=>?_) λ_=>G
  ·by_cases g:b=a
   ·exact .inr ⟨_,_,Zo g⟩
   ·exact .inl (Zm g)
  ·by_cases g:b=a
   ·have l:=(Zo g).symm.trans z;cases l;subst g;exact⟨C,by rw[Zt];exact S,j,_,R,C⟩
   ·have l:=(Zm g).symm.trans z;cases l
  ·by_cases g:b=a
   ·exact g
   ·exact absurd (Zm g) z
def i8{l:PySem.W.OpenLaw}{n k:Nat}{q:P3}{i:List Str}{P:(Wi)->UV->Prop}{t:XAA->UV->Prop}{d:DefRec}{K:Params->Wy}{CX:XAA->Kd}{sp:XAA->Sp}{x:Str}(C:l.most=some n)(R:n<=KB)(X:d.params.defaults=[])(A:Gn k callerA)(E:∀(w:XAA)(h:UV),t w h->(K w.params).In h)(F:∀(w:XAA)(mg:Wi)(j:KF)(h:UV),(K w.params).In h->h.Ns mainGlobals mg->mg d.name=some (.ref j) →
   ∃fd:Pv,(∀(s:GM)(u:KM),BindsTo s fd ⟨[u],[]⟩ [(x,u)]) ∧
    ∀base:UV,(K w.params).In base->base.Ns mainGlobals mg->FnOk l.prog w (K w.params) mg base (CX w) k j fd [x] (sp w))(U:∀(w:XAA)(H:Hp)(a:KF)(ns:Vr),ns.length<=n->xw H->GL (K w.params) H a (ns.map V.int)->sp w [.ref a] H (λv _=>v=.bl L) λ_ _ _=>False)(Q:∀(w:XAA)(H:Hp)(s:GM)(e:KM)(m:GM),CX w [] H s (λ_ _ _=>False) e m->False) :
  PySem.W.WalkO q i P t l.row.toRowW d [] (λf r=>PySem.call f r):=by
 refine Ub.rn C X λw Z z mg mb j o pm cd doc a r ns G Y ho hd D p S hints hlen hg=>?_;have y:=E w _ Y;obtain⟨fd,hb,N⟩:=F w mg j _ y G.T.g p;exact wG y G.T.g G.T.b G.T.builtins G.T.nolimit hg S hints (ZA hlen R) A N hb (λH M J=>U w H a ns hlen M J) λH e m=>Q w H z e m
noncomputable def inClass(s:Stmt)(j:Nat):Stmt:=match s with
 |.ClassDef _ _ _ body _ _ _ _ _ _ _=>body.getD j (.Pass ⟨0,0,0,0⟩)
 |_=>.Pass ⟨0,0,0,0⟩
noncomputable def dH(s:Stmt):Arguments:=match s with
 |.FunctionDef _ a _ _ _ _ _ _ _ _=>a
 |_=>{ posonlyargs:=[],args:=[],vararg:=O,kwonlyargs:=[],kw_defaults:=[],kwarg:=O,defaults:=[] }
noncomputable def bg(s:Stmt):List Stmt:=match s with
 |.FunctionDef _ _ b _ _ _ _ _ _ _=>b
 |_=>[]
noncomputable def ai(s:Stmt):Scope:=match s with
 |.FunctionDef _ _ _ _ _ _ sc _ _ _=>sc
 |_=>{ kind:=.function,names:=[],isGenerator:=B,isCoroutine:=B }
noncomputable abbrev G8:Kd:=λ_ _ _ _ _ _=>False
noncomputable abbrev E0:XK:=λ_ _ _=>False
def oP{X:Cx}:jC G8 X E0:=λ_ _ _ _ _ _ _ h=>h.elim
structure GN(K:Wy)(x qual:Str)(st:Stmt)(f:KF)(fd:Pv):Prop where
 ex:∃(oc:KM)(od:Option KF)(kV doc pm:KM)(an:Option KF)(GA ct:KM)(JZ:Array (Vx)),
  fd=PySem.W.fnOf x qual (dH st) (bg st) (ai st) .none kV doc pm an GA ct/\K.lookup f=some ⟨oc,od,.func fd,JZ⟩/\PySem.W.codeIn K GA qual=true
 kp:PySem.W.keepIn K (.ref f)=true
section
variable{P:P3}{w:XAA}{K:Wy}{mg:Wi}{base:UV}
def GN.ok{x a:Str}{d:Stmt}{f:KF}{m:Pv}{N i:List Str}{k:Nat}{g:Sp}(F:GN K x a d f m)(S:p0 N i (ai d))(j:∀b H Q E,g b H Q E->b.length=i.length)(p:∀(e:KM)(A:Re)(outer:List Env)(s:GM)(H:Hp)(b:List V)(Q:VK)(E:XK),Gn k (A.deeper (envOfC a (ai d) s.heap.objs.size f e))->g b H Q E →
   ∃t,Io (jk G8 P w K mg base N a (ai d) f e A outer s H E).JA (bg d) t/\t { nx:=λ_ r=>Q .non r,rt:=Q } (start N b) H):FnOk P w K mg base G8 (k+1) f m i g:=by
 obtain⟨oc,u,kV,doc,pm,an,e,ct,v,rfl,lk,l⟩:=F.ex;refine FK lk l S j λA outer s H b Q E n o=>?_;obtain⟨t,h,q⟩:=p e A outer s H b Q E n o;exact⟨t,h.JA,q⟩
def GN.binds{x a:Str}{b:Stmt}{f:KF}{i:Pv}{e:List Str}(F:GN K x a b f i)(h:∀(kV doc pm:KM)(an:Option KF)(g ct:KM)(d:Vy),d.length=e.length->bindArgs (PySem.W.fnOf x a (dH b) (bg b) (ai b) .none kV doc pm an g ct) ⟨d,[]⟩=pure (e.zip d)):Binds K i e []:=by
 obtain⟨oc,l,kV,doc,pm,an,g,ct,m,rfl,lk,j⟩:=F.ex;exact .all (h kV doc pm an g ct)
def zj{x a:Str}{st:Stmt}{f:KF}{m:KM}{j i:Option KF}{n:Array (Vx)}{g b e d h:KM}(l:K.lookup f=Y ⟨m,j,.func (PySem.W.fnOf x a (dH st) (bg st) (ai st) .none g b e i d h),n⟩)(c:PySem.W.codeIn K d a=L)(k:PySem.W.keepIn K (.ref f)=L):GN K x a st f (PySem.W.fnOf x a (dH st) (bg st) (ai st) .none g b e i d h):=⟨⟨m,j,g,b,e,i,d,h,n,rfl,l,c⟩,k⟩
end
def ke{A:Re}{k:Nat}(a:Gn k A):A.units+1<cLine:=Vw (Nat.add_le_add_left (by decide:1<=64) _) a.units
section
variable{X:Cx}
def pv(i:Nat){x:Str}{a:Pos}(f:X.N[i]?=Y x:=by rfl)(d:Ic X.env.scope x:=by first | exact Or.inl M | exact Or.inr (Or.inl M) | exact Or.inr (Or.inr M))(e:K3 x:=by decide)(b:K4 x:=by decide):PE X (.Name x a) (Fe i):=dP f d e b
end
def wY{A B:Prop}(h:B):if false=L then A else B:=by
 rw[Zm Zb];exact h
def yi{A B:Prop}(h:A):if L=L then A else B:=by
 rw[Zo M];exact h
noncomputable def aK(H a:Hp):Prop:=∀b o,H b=Y o->a b=Y o
def aK.refl(H:Hp):aK H H:=λ_ _ h=>h
def aK.trans{H e d:Hp}(a:aK H e)(b:aK e d):aK H d:=λc o h=>b c o (a c o h)
def aK.free{H a:Hp}(e:aK H a){l:KF}(h:a l=O):H l=O:=by
 cases q:H l with
 |none=>rfl
 |some o =>
  rw[e l o q]at h;cases h
end L2
end
section
namespace L2
open PySem PySem.Spec PyProof.Rows
noncomputable abbrev n9:=List (List Key)
noncomputable def hN(w:XAA)(k:n9):Int:=reduceHash (Builtin.Tuple.tupleHashOf (k.map λx=>reduceHash (Builtin.Tuple.tupleHashOf (x.map (Ea w)))))
noncomputable def FW(w:XAA)(x:n9×KF×KM):DictEntry:=⟨hN w x.1,.ref x.2.1,x.2.2⟩
noncomputable abbrev KN:List (n9×KF×V)->List (n9×KF×KM)->Prop:=Paired λp q=>p.1=q.1/\p.2.1=q.2.1/\RelV p.2.2 q.2.2
noncomputable def DN(a:KF)(d:List (n9×KF×V)):HO:=.ext λw h=>d.length<=KB/\(a==sysModules)=B/\∃b:List (n9×KF×KM),KN d b ∧
 ∃o e f,h.get? a=Y o/\o.ExactDict/\o.data=.dict e f/\e.toList=b.map (FW w)/\(b.map (·.1)).Nodup
noncomputable def PQ(H:Hp)(k:n9)(b:KF):Prop:=∃a:Wf,H b=Y (.tup (a.map V.ref))/\Paired (λ(x:List Key) (c:KF)=>H c=Y (.tup (x.map kV))) k a
def PQ.mono{H e:Hp}{k:n9}{b:KF}(x:PQ H k b)(t:∀a d,H a=Y (.tup d)->e a=Y (.tup d)):PQ e k b:=by
 obtain⟨f,h,r⟩:=x;exact⟨f,t _ _ h,Paired.Lw r λ_ _ z=>t _ _ z⟩
end L2
end
section
namespace VS
open PySem PySem.Spec PyProof.Rows L2
noncomputable def sx(s:Tx):Str:=⟨s.toArray⟩
noncomputable def og(s:Tx):Prop:=s.length<=dJ/\∀c∈s,c<1114112
noncomputable abbrev Me:=Nat->Option V
structure Gx where
 K:Wy
 ct:Nat->KF×(Nat->Str)
 me:Me:=λ_=>none
noncomputable def Gx.at(G:Gx)(m:Me):Gx:=⟨G.K,G.ct,m⟩
noncomputable def aO:Key->T
 |.inl i=>.int i
 |.inr x=>.str x.cps.toList
noncomputable def UW(k:n9):T:=.tup (k.map λx=>T.tup (x.map aO))
noncomputable def lq(K:Wy)(H:Hp)(a:KF)(d:Vr):Prop :=
 (∃o,H a=Y (.frz o (.lst (d.map V.int)))) ∨
  ∃(o:Obj)(b:Array KM)(n:Nat),K.lookup a=Y o/\o.cls=.type "list" ∧ o.dict=O/\o.data=.seq b n/\b.size<=KB/\aP (d.map V.int) b.toList
mutual
inductive Rp(G:Gx)(H:Hp):V->T->Wf->Prop
 |non:Rp G H .non .non []
 |bl (b:Bool):Rp G H (.bl b) (.bl b) []
 |int (i:Int):Rp G H (.int i) (.int i) []
 |str (s:Tx):og s->Rp G H (.str (sx s)) (.str s) []
 |scr {a:KF} {ns:Vr}:lq G.K H a ns->Rp G H (.ref a) (.scr ns) []
 |tup {a:KF} {vs:List V} {ts:V1} {Fs:X8}:H a=some (.tup vs)->RpL G H vs ts Fs->Rp G H (.ref a) (.tup ts) Fs.flatten
 |lst {a:KF} {vs:List V} {ts:V1} {Fs:X8}:H a=some (.lst vs)->RpL G H vs ts Fs->Rp G H (.ref a) (.lst ts) (a :: Fs.flatten)
 |dct {a:KF} {ks:List Key} {vs:List V} {ts:V1} {Fs:X8}:H a=some (.dK (ks.zip vs))->ks.length=vs.length->RpL G H vs ts Fs->Rp G H (.ref a) (.dct 0 ((ks.map aO).zip ts)) (a :: Fs.flatten)
 |dctT {a:KF} {ks:List (List Key)} {vs:List V} {ts:V1} {Fs:X8}:H a=some (.dT (ks.zip vs))->ks.length=vs.length->RpL G H vs ts Fs->Rp G H (.ref a) (.dct 1 ((ks.map λk=>T.tup (k.map aO)).zip ts)) (a :: Fs.flatten)
 |dctN {a:KF} {ks:List (n9×KF)} {vs:List V} {ts:V1} {Fs:X8}:H a=some (DN a ((ks.zip vs).map λp=>(p.1.1,p.1.2,p.2)))->ks.length=vs.length->(∀p∈ks,PQ H p.1 p.2)->RpL G H vs ts Fs->Rp G H (.ref a) (.dct 2 ((ks.map λp=>UW p.1).zip ts)) (a :: Fs.flatten)
 |dctZ {a:KF} {o:Obj} {ks:List Key} {vs:List V} {ts:V1} {Fs:X8}:H a=some (.frz o (.dK (ks.zip vs)))->ks.length=vs.length->RpL G H vs ts Fs->Rp G H (.ref a) (.dct 3 ((ks.map aO).zip ts)) Fs.flatten
 |exc {c:Nat} {a:KF} {o:Obj}:H a=some (.frz o (.own a))->(o.cls=.ref (G.ct c).1/\o.dict=none/\∃vs,o.data=.fields vs)->Rp G H (.ref a) (.obj c []) []
 |ins {c:Nat} {a dx:KF} {b:Bool} {ks:Vt} {vs:List V} {ts:V1} {Fs:X8}:H a=some (.ins (G.ct (c+1)).1 dx ((ks.map (G.ct (c+1)).2).zip vs))->ks.length=vs.length->(b=true->G.me 0=some (.ref a))->RpL G H vs ts Fs->Rp G H (.ref a) (.obj (c+1) ((0,.bl b) :: ks.zip ts)) (a :: Fs.flatten)
 |mk {m:Nat} {a:KF} {t:T} {F:Wf}:G.me m=some (.ref a)->Rp G H (.ref a) t F->Rp G H (.ref a) (.obj 0 [(0,.bl true),(m,t)]) F
inductive RpL(G:Gx)(H:Hp):List V->V1->X8->Prop
 |nil:RpL G H [] [] []
 |cons {v:V} {t:T} {F:Wf} {vs:List V} {ts:V1} {Fs:X8}:Rp G H v t F->RpL G H vs ts Fs->RpL G H (v :: vs) (t :: ts) (F :: Fs)
end
structure Kept(H H':Hp):Prop where
 tup:∀a xs,H a=some (.tup xs)->H' a=some (.tup xs)
 frz:∀a o u,H a=some (.frz o u)->H' a=some (.frz o u)
def Kept.refl(H:Hp):Kept H H:=⟨λ_ _ h=>h,λ_ _ _ h=>h⟩
def Kept.trans{H e d:Hp}(a:Kept H e)(b:Kept e d):Kept H d:=⟨λc x h=>b.tup c x (a.tup c x h),λc o u h=>b.frz c o u (a.frz c o u h)⟩
def Kept.of{H b:Hp}(e:aK H b):Kept H b:=⟨λa _ h=>e a _ h,λa _ _ h=>e a _ h⟩
theorem Kept.upd{H:Hp}{a:KF}{o:HO}(d:Gw (H a)\/H a=O):Kept H (upd H a o):=by
 have ne:∀b u,H b=Y u->¬Gw (Y u)->b≠a:=λb u h nm e=>by
  subst e;rcases d with m | m
  ·rw[h]at m;exact nm m
  ·rw[h]at m;cases m
 exact⟨λb f h=>by rw[aF (ne b _ h λz=>z)];exact h,λb o u h=>by rw[aF (ne b _ h λz=>z)];exact h⟩
def lq.kept{K:Wy}{H d:Hp}{a:KF}{b:Vr}(h:lq K H a b)(k:Kept H d):lq K d a b:=by
 rcases h with⟨o,e⟩ | h
 ·exact .inl ⟨o,k.frz _ _ _ e⟩
 ·exact .inr h
def lq.seq{K:Wy}{H:Hp}{a:KF}{b:Vr}(h:lq K H a b):GL K H a (b.map V.int):=by
 rcases h with⟨o,e⟩ | h
 ·exact .inl (.inr ⟨o,e⟩)
 ·exact .inr h
def rE{H d:Hp}{a:KF}{F:Wf}(f:∀b∈a :: F,∀o,H b=Y o->d b=Y o):∀b∈F,∀o,H b=Y o->d b=Y o:=λb m=>f b (Zv _ m)
def uv{H a:Hp}{F:Wf}{d:X8}(f:∀b∈(F :: d).flatten,∀o,H b=Y o->a b=Y o):(∀b∈F,∀o,H b=Y o->a b=Y o)/\∀b∈d.flatten,∀o,H b=Y o->a b=Y o:=by
 rw[ZE]at f;exact⟨λb m=>f b (Yj _ m),λb m=>f b (ZL _ m)⟩
def Rp.keep{G:Gx}{H e:Hp}(k:Kept H e){v:V}{t:T}{F:Wf}(r:Rp G H v t F):(∀a∈F,∀o,H a=Y o->e a=Y o)->Rp G e v t F :=
 Rp.rec (motive_1:=λv t F _=>(∀a∈F,∀o,H a=Y o->e a=Y o)->Rp G e v t F) (motive_2:=λj q g _=>(∀a∈g.flatten,∀o,H a=Y o->e a=Y o)->RpL G e j q g)
  (λ_=>.non) (λb _=>.bl b) (λi _=>.int i) (λs h _=>.str s h) (λh _=>.scr (h.kept k)) (λh _ d f=>.tup (k.tup _ _ h) (d f)) (λh _ d f=>.lst (f _ Zu _ h) (d (rE f))) (λh l _ d f=>.dct (f _ Zu _ h) l (d (rE f))) (λh l _ d f=>.dctT (f _ Zu _ h) l (d (rE f)))
  (λh l n _ d f=>.dctN (f _ Zu _ h) l (λp m=>(n p m).mono k.tup) (d (rE f))) (λh l _ d f=>.dctZ (k.frz _ _ _ h) l (d f)) (λh x _=>.exc (k.frz _ _ _ h) x) (λh l m _ d f=>.ins (f _ Zu _ h) l m (d (rE f))) (λh _ d f=>.mk h (d f)) (λ_=>.nil) (λ_ _ w u f=>.cons (w (uv f).1) (u (uv f).2)) r
theorem RpL.keep{G:Gx}{H b:Hp}(k:Kept H b):∀{e:List V}{g:V1}{d:X8},RpL G H e g d->(∀a∈d.flatten,∀o,H a=Y o->b a=Y o)->RpL G b e g d
 |_,_,_,.nil,_=>.nil
 |_,_,_,.cons r q,f=>.cons (r.keep k (uv f).1) (RpL.keep k q (uv f).2)
def Rp.same{G:Gx}{H b:Hp}(e:aK H b){v:V}{t:T}{F:Wf}(r:Rp G H v t F):Rp G b v t F:=r.keep (Kept.of e) λa _ o h=>e a o h
def RpL.same{G:Gx}{H b:Hp}(e:aK H b){v:List V}{t:V1}{F:X8}(r:RpL G H v t F):RpL G b v t F:=r.keep (Kept.of e) λa _ o h=>e a o h
def wM{H:Hp}{a:KF}{F:Wf}(h:Gw (H a))(d:∀b∈F,Gw (H b)):∀b∈a :: F,Gw (H b):=λb m=>(Zh.mp m).elim (λe=>e ▸ h) (d b)
def w6{H:Hp}{a:KF}{o:HO}(h:H a=Y o)(m:Gw (Y o)):Gw (H a):=by rw[h];exact m
def EE{H:Hp}{F:Wf}{a:X8}(e:∀b∈F,Gw (H b))(d:∀b∈a.flatten,Gw (H b)):∀b∈(F :: a).flatten,Gw (H b):=λb m=>by
 rw[ZE]at m;exact(Zi.mp m).elim (e b) (d b)
def Rp.GG{G:Gx}{H:Hp}{v:V}{t:T}{F:Wf}(r:Rp G H v t F):∀a∈F,Gw (H a) :=
 Rp.rec (motive_1:=λv t F _=>∀a∈F,Gw (H a)) (motive_2:=λg i f _=>∀a∈f.flatten,Gw (H a))
  (λ_ m=>nomatch m) (λ_ _ m=>nomatch m) (λ_ _ m=>nomatch m) (λ_ _ _ m=>nomatch m) (λ_ _ m=>nomatch m) (λ_ _ b=>b) (λh _ b=>wM (w6 h True.intro) b) (λh _ _ b=>wM (w6 h True.intro) b) (λh _ _ b=>wM (w6 h True.intro) b)
  (λh _ _ _ b=>wM (w6 h True.intro) b) (λ_ _ _ b=>b) (λ_ _ _ m=>nomatch m) (λh _ _ _ b=>wM (w6 h True.intro) b) (λ_ _ b=>b) (λ_ m=>nomatch m) (λ_ _ e d=>EE e d) r
theorem RpL.GG{G:Gx}{H:Hp}:∀{d:List V}{e:V1}{b:X8},RpL G H d e b->∀a∈b.flatten,Gw (H a)
 |_,_,_,.nil=>λ_ m=>nomatch m
 |_,_,_,.cons r q=>EE r.GG (RpL.GG q)
def Gw.oe{o:Option HO}(m:Gw o):o≠O:=λe=>by subst e;exact m
def D7{F:Wf}{b:X8}{t:T}{a:V1}(e:VS.Gu t=L->F=[])(d:VS.dm a=L->b.flatten=[])(i:VS.dm (t :: a)=L):(F :: b).flatten=[]:=by
 simp only[VS.dm,ZU]at i;rw[ZE,e i.1,d i.2];rfl
theorem Rp.Gu{G:Gx}{H:Hp}{v:V}{t:T}{F:Wf}(r:Rp G H v t F):VS.Gu t=L->F=[] :=
 Rp.rec (motive_1:=λv t F _=>VS.Gu t=L->F=[]) (motive_2:=λg a f _=>VS.dm a=L->f.flatten=[])
  (λ_=>rfl) (λ_ _=>rfl) (λ_ _=>rfl) (λ_ _ _=>rfl) (λ_ _=>rfl) (λ_ _ b i=>b (by simpa[VS.Gu] using i)) (λ_ _ _ i=>absurd (show B=L from i) Zb) (λ_ _ _ _ i=>absurd (show B=L from i) Zb) (λ_ _ _ _ i=>absurd (show B=L from i) Zb)
  (λ_ _ _ _ _ i=>absurd (show B=L from i) Zb) (λ_ _ _ _ i=>absurd (show B=L from i) Zb) (λ_ _ _=>rfl) (λ_ _ _ _ _ i=>absurd (show B=L from i) Zb) (λ_ _ _ i=>absurd (show B=L from i) Zb) (λ_=>rfl) (λ_ _ e d i=>D7 e d i) r
theorem RpL.Gu{G:Gx}{H:Hp}:∀{d:List V}{a:V1}{b:X8},RpL G H d a b->VS.dm a=L->b.flatten=[]
 |_,_,_,.nil,_=>rfl
 |_,_,_,.cons r q,i=>D7 r.Gu (RpL.Gu q) i
theorem RpL.len{G:Gx}{H:Hp}:∀{b:List V}{a:V1}{d:X8},RpL G H b a d->b.length=a.length/\d.length=a.length
 |_,_,_,.nil=>⟨rfl,rfl⟩
 |_,_,_,.cons _ q=>by
  have:=RpL.len q;simp only[Zg];lia
theorem RpL.get{G:Gx}{H:Hp}:∀{a:List V}{b:V1}{d:X8}(i:Nat){t:T},RpL G H a b d->b[i]?=Y t->∃v F,a[i]?=Y v/\d[i]?=Y F/\Rp G H v t F
 |_,_,_,_,_,.nil,e=>by simp at e
 |_,_,_,0,_,.cons r _,e=>by
  simp at e;subst e;exact⟨_,_,rfl,rfl,r⟩
 |_,_,_,i+1,_,.cons _ q,e=>by
  obtain⟨v,F,h,g,f⟩:=RpL.get i q (by simpa using e);exact⟨v,F,by simpa using h,by simpa using g,f⟩
theorem RpL.append{G:Gx}{H:Hp}:∀{a:List V}{d:V1}{f:X8}{b:List V}{e:V1}{Gs:X8},RpL G H a d f->RpL G H b e Gs->RpL G H (a++b) (d++e) (f++Gs)
 |_,_,_,_,_,_,.nil,s=>s
 |_,_,_,_,_,_,.cons r q,s=>.cons r (RpL.append q s)
theorem RpL.take{G:Gx}{H:Hp}:∀{a:List V}{b:V1}{d:X8}(n:Nat),RpL G H a b d->RpL G H (a.take n) (b.take n) (d.take n)
 |_,_,_,0,_=>by simpa using RpL.nil
 |_,_,_,n+1,.nil=>.nil
 |_,_,_,n+1,.cons r q=>.cons r (RpL.take n q)
theorem RpL.drop{G:Gx}{H:Hp}:∀{a:List V}{b:V1}{d:X8}(n:Nat),RpL G H a b d->RpL G H (a.drop n) (b.drop n) (d.drop n)
 |_,_,_,0,q=>q
 |_,_,_,n+1,.nil=>.nil
 |_,_,_,n+1,.cons r q=>RpL.drop n q
noncomputable def iw:Cell->T
 |.pu t=>t
 |.ow t=>t
noncomputable abbrev Gv:=Nat->Wf
structure SR(G:Gx)(Z:Gv)(U:VS.Env)(J:L2.St)(H:Hp):Prop where
 len:U.length=J.length
 rp:∀i c,U[i]?=some (some c)->∃v,J[i]?=some (some v)/\Rp G H v (iw c) (Z i)
 nd:∀i t,U[i]?=some (some (.ow t))->(Z i).Nodup
 sep:∀i j t c,U[i]?=some (some (.ow t))->U[j]?=some (some c)->i≠j->∀a∈Z i,a∉Z j
noncomputable def cN(Z:Gv)(U:VS.Env)(a:KF):Prop:=∃j t,U[j]?=Y (Y (.pu t))/\a∈Z j
noncomputable def bG(Z:Gv)(U:VS.Env)(a:KF):Prop:=∃j t,U[j]?=Y (Y (.ow t))/\a∈Z j
noncomputable def Fp(Z:Gv)(U:VS.Env)(H:Hp):Md->Wf->Prop
 |.fr,F=>F.Nodup/\∀a∈F,H a=O
 |.pu,F=>∀a∈F,H a=O\/cN Z U a
 |.bo,F=>∀a∈F,H a=O\/cN Z U a\/bG Z U a
theorem SR.same{G:Gx}{Z:Gv}{U:VS.Env}{J:L2.St}{H a:Hp}(s:SR G Z U J H)(e:aK H a):SR G Z U J a :=
 ⟨s.len,λi c h=>let ⟨v,d,b⟩:=s.rp i c h;⟨v,d,b.same e⟩,s.nd,s.sep⟩
def SR.HN{G:Gx}{Z:Gv}{U:VS.Env}{J:L2.St}{H:Hp}{a:KF}(s:SR G Z U J H)(h:cN Z U a):Gw (H a):=by
 obtain⟨j,t,d,b⟩:=h;obtain⟨v,_,r⟩:=s.rp j _ d;exact r.GG a b
def SR.GQ{G:Gx}{Z:Gv}{U:VS.Env}{J:L2.St}{H:Hp}{a:KF}(s:SR G Z U J H)(h:bG Z U a):Gw (H a):=by
 obtain⟨j,t,d,b⟩:=h;obtain⟨v,_,r⟩:=s.rp j _ d;exact r.GG a b
def Fp.nil{Z:Gv}{U:VS.Env}{H:Hp}{m:Md}:Fp Z U H m []:=by
 cases m
 ·exact⟨Iv,λa h=>by simp at h⟩
 ·exact λa h=>by simp at h
 ·exact λa h=>by simp at h
theorem Fp.bo{Z:Gv}{U:VS.Env}{H:Hp}{F:Wf}:∀{m:Md},Fp Z U H m F->Fp Z U H .bo F
 |.fr,h=>λa m=>.inl (h.2 a m)
 |.pu,h=>λa m=>(h a m).elim .inl λz=>.inr (.inl z)
 |.bo,h=>h
theorem Fp.pu{Z:Gv}{U:VS.Env}{H:Hp}{F:Wf}:∀{m:Md},m ≠ .bo->Fp Z U H m F->Fp Z U H .pu F
 |.fr,_,h=>λa m=>.inl (h.2 a m)
 |.pu,_,h=>h
 |.bo,n,_=>absurd M n
theorem Fp.back{Z:Gv}{U:VS.Env}{H b:Hp}(e:aK H b){F:Wf}:∀{m:Md},Fp Z U b m F->Fp Z U H m F
 |.fr,h=>⟨h.1,λa m=>e.free (h.2 a m)⟩
 |.pu,h=>λa m=>(h a m).imp e.free id
 |.bo,h=>λa m=>(h a m).imp e.free id
theorem Fp.up{G:Gx}{Z:Gv}{U:VS.Env}{H a:Hp}{m:Md}{v:V}{t:T}{F:Wf}(f:Fp Z U H m F)(r:Rp G a v t F):Fp Z U H (VS.up m t).1 F:=by
 unfold VS.up;by_cases h:VS.Gu t=L
 ·rw[r.Gu h];exact Fp.nil
 ·simp only[h,if_false,Xh];exact f
noncomputable def tE(G:Gx)(c:Ex):TE:=λJ H Q=>∃Z U m r,SR G Z U J H/\c U=Y (m,r)/\∀v a F,aK H a->Rp G a v r F->Fp Z U H m F->Q v a
noncomputable def PV(G:Gx)(X:Cx)(e:Expr)(c:Ex):Prop:=PE X e (tE G c)
def PE.weak{X:Cx}{e:Expr}{t b:TE}(h:PE X e t)(w:∀J H Q,b J H Q->t J H Q):PE X e b:=λa s J H Q I q=>h a s J H Q I (w J H Q q)
def PT.weak{X:Cx}{e:Expr}{t b:TT}(h:PT X e t)(w:∀J H Q,b J H Q->t J H Q):PT X e b:=λa s J H Q I q=>h a s J H Q I (w J H Q q)
def PA.weak{X:Cx}{e:List Expr}{t b:TA}(h:PA X e t)(w:∀J H Q,b J H Q->t J H Q):PA X e b:=λpos a s J H Q I q=>h pos a s J H Q I (w J H Q q)
noncomputable def tT(G:Gx)(c:Ex):TT:=λJ H Q=>∃Z U m r b,SR G Z U J H/\c U=Y (m,r)/\KW r=Y b/\∀a,aK H a->Q b a
noncomputable def Iw(G:Gx)(X:Cx)(e:Expr)(c:Ex):Prop:=PT X e (tT G c)
noncomputable def Hl(l:Va)(a:X8):Wf:=match l,a with
 |v :: l,F :: a=>match v.1 with
  |.fr=>F++Hl l a
  |_=>Hl l a
 |_,_=>[]
structure LJ(Z:Gv)(U:VS.Env)(H:Hp)(l:Va)(Fs:X8):Prop where
 each:∀(i:Nat) v F,l[i]?=some v->Fs[i]?=some F->Fp Z U H v.1 F
 nd:(Hl l Fs).Nodup
noncomputable def NH(G:Gx)(c:GY):TA:=λJ H Q=>∃Z U l,SR G Z U J H/\c U=Y l/\∀b a d,aK H a->RpL G a b (trees l) d->LJ Z U H l d->Q b a
noncomputable def Hr(G:Gx)(X:Cx)(a:List Expr)(c:GY):Prop:=PA X a (NH G c)
section
variable{G:Gx}{X:Cx}{a b c:Expr}{ca cb cc:Ex}{pos:Pos}
def ah{i j pos}:PV G X (.Constant (.int i) j pos) (Q3 i):=PE.weak p6 λJ H Q d=>by
 obtain⟨Z,U,m,r,s,e,k⟩:=d;cases (show Y (Md.fr,T.int i)=Y (m,r) from e);exact k _ _ _ (aK.refl _) (.int i) Fp.nil
def ly{i j pos}:PV G X (.Constant (.bool i) j pos) (eC (.bl i)):=PE.weak Ec λJ H Q d=>by
 obtain⟨Z,U,m,r,s,e,k⟩:=d;cases (show Y (Md.fr,T.bl i)=Y (m,r) from e);exact k _ _ _ (aK.refl _) (.bl i) Fp.nil
def xF{j pos}:PV G X (.Constant .none j pos) (eC .non):=PE.weak Cm λJ H Q d=>by
 obtain⟨Z,U,m,r,s,e,k⟩:=d;cases (show Y (Md.fr,T.non)=Y (m,r) from e);exact k _ _ _ (aK.refl _) .non Fp.nil
def i6{x:Str}{t:Tx}{j pos}(h:x=sx t:=by decide +kernel)(f:og t:=by decide):PV G X (.Constant (.str x) j pos) (eC (.str t)):=PE.weak DE λJ H Q d=>by
 obtain⟨Z,U,m,r,s,e,k⟩:=d;cases (show Y (Md.fr,T.str t)=Y (m,r) from e);subst h;exact k _ _ _ (aK.refl _) (.str t f) Fp.nil
def bY(i:Nat){x:Str}{g:Pos}(w:X.N[i]?=Y x:=by rfl)(p:Ic X.env.scope x:=by first | exact Or.inl M | exact Or.inr (Or.inl M) | exact Or.inr (Or.inr M))(u:K3 x:=by decide)(j:K4 x:=by decide):PV G X (.Name x g) (aa i):=PE.weak (dP w p u j) λJ H Q q=>by
 obtain⟨Z,U,m,r,s,e,k⟩:=q;unfold aa at e;split at e
 ·rename_i t h;obtain⟨v,n,d⟩:=s.rp _ _ h;have o:VS.up .pu t=(m,r):=Zj e;have y:t=r:=congrArg Prod.snd o;have em:(VS.up .pu t).1=m:=congrArg Prod.fst o;rw[← y,← em]at k;refine⟨v,n,k v H (Z i) (aK.refl _) d ?_⟩;have f:Fp Z U H .pu (Z i):=λa l=>.inr ⟨i,_,h,l⟩;exact f.up d
 ·rename_i t h;obtain⟨v,n,d⟩:=s.rp _ _ h;cases e;exact⟨v,n,k v H (Z i) (aK.refl _) d λa l=>.inr (.inr ⟨i,_,h,l⟩)⟩
 ·cases e
structure OV(G:Gx)(Z:Gv)(U:VS.Env)(H0 H:Hp)(x y:Val)(u w:V)(F1 F2:Wf):Prop where
 same:aK H0 H
 r1:Rp G H u x.2 F1
 r2:Rp G H w y.2 F2
 f1:Fp Z U H0 x.1 F1
 f2:Fp Z U H0 y.1 F2
 nd:x.1=.fr->y.1=.fr->(F1++F2).Nodup
noncomputable def eV(G:Gx)(r:R2)(f:Val->Val->V0):Prop:=∀(Z:Gv)(U:VS.Env)(e H:Hp)(x y:Val)(u w:V)(h g:Wf)(m:Md)(t:T)(Q:VK),OV G Z U e H x y u w h g->f x y=Y (m,t) →
 (∀v d F,aK H d->Rp G d v t F->Fp Z U e m F->Q v d)->r u w H Q
def wX{J:L2.St}{H:Hp}{Q:V->V->Hp->Prop}{Z:Gv}{U:VS.Env}{x y:Val}(s:SR G Z U J H)(m:ca U=Y x)(l:cb U=Y y)(k:∀u w d f e,OV G Z U H d x y u w f e->Q u w d):tE G ca J H λu g=>tE G cb J g λw d=>Q u w d:=by
 refine⟨Z,U,x.1,x.2,s,m,λu g f e1 r1 f1=>⟨Z,U,y.1,y.2,s.same e1,l,λw d e e2 r2 f2=>k u w d f e ⟨e1.trans e2,r1.same e2,r2,f1,f2.back e1,λi h=>?_⟩⟩⟩;rw[i]at f1;rw[h]at f2;refine ZM.mpr ⟨f1.1,f2.1,λa j b hb z=>?_⟩;subst z;exact Gw.oe (r1.GG a j) (f2.2 a hb)
def kP{r:R2}{f:Val->Val->V0}(g:eV G r f){J:L2.St}{H:Hp}{Q:VK}(h:tE G (e2 f ca cb) J H Q):Nc r (tE G ca) (tE G cb) J H Q:=by
 obtain⟨Z,U,m,t,s,e,k⟩:=h;unfold e2 at e;obtain⟨x,j,e⟩:=Zz.mp e;obtain⟨y,i,e⟩:=Zz.mp e;exact wX s j i λu w l p o d=>g Z U H l x y u w p o m t Q d e λv n F e1 r1 f1=>k v n F (d.same.trans e1) r1 f1
def iO{d:Operator}{r:R2}{f:Val->Val->V0}(g:OpR X (binaryOp d) r)(e:eV G r f)(j:PV G X a ca)(i:PV G X b cb):PV G X (.BinOp a d b pos) (e2 f ca cb) :=
 PE.weak (zD g j i) λJ H Q h=>kP e h
def DC{d:CmpOp}{r:R2}{f:Val->Val->V0}(g:OpR X (UF d) r)(e:eV G r f)(l:PV G X a ca)(j:PV G X b cb)(i:behindInMarks d b=B):PV G X (.Compare a [d] [b] pos) (e2 f ca cb) :=
 PE.weak (Bn g l j i) λJ H Q h=>kP e h
noncomputable def Tells(f:Val->Val->V0):Prop:=∀x y m t,f x y=Y (m,t)->∃b,t=.bl b
def Rp.HU{H:Hp}{v:V}{b:Bool}{F:Wf}(r:Rp G H v (.bl b) F):v=.bl b:=by cases r;rfl
def Rp.int_inv{H:Hp}{v:V}{b:Int}{F:Wf}(r:Rp G H v (.int b) F):v=.int b:=by cases r;rfl
def Rp.str_inv{H:Hp}{v:V}{b:Tx}{F:Wf}(r:Rp G H v (.str b) F):v=.str (sx b)/\og b:=by cases r with | str _ h=>exact⟨rfl,h⟩
def rO{c:Ex}{t:TE}{J:L2.St}{H:Hp}{Q:Bool->Hp->Prop}(h:tT G c J H Q)(f:∀U m r,c U=Y (m,r)->∃b,r=.bl b)(w:∀Q,tE G c J H Q->t J H Q):wK t J H Q:=by
 obtain⟨Z,U,m,r,b,s,e,d,k⟩:=h;refine w _ ⟨Z,U,m,r,s,e,λv j F e1 r1 f1=>?_⟩;obtain⟨i,g⟩:=f U m r e;rw[g]at d r1;cases (show Y i=Y b from d);exact⟨_,r1.HU,k j e1⟩
def fq{d:CmpOp}{r:R2}{f:Val->Val->V0}(j:OpR X (UF d) r)(g:eV G r f)(i:Tells f)(o:PV G X a ca)(n:PV G X b cb)(l:behindInMarks d b=B):Iw G X (.Compare a [d] [b] pos) (e2 f ca cb) :=
 PT.weak (vi j o n l) λJ H Q h=>rO h (λU m r e=>by
  unfold e2 at e;obtain⟨x,_,e⟩:=Zz.mp e;obtain⟨y,_,e⟩:=Zz.mp e;exact i x y m r e) λQ h=>kP g h
def bM{Z:Gv}{U:VS.Env}{e H:Hp}{m:Md}{t:T}{v:V}{Q:VK}(k:∀v d F,aK H d->Rp G d v t F->Fp Z U e m F->Q v d)(r:Rp G H v t []):Q v H:=k v H [] (aK.refl _) r Fp.nil
def aU{H:Hp}{p:KF}{o:HO}(h:H p=O):aK H (upd H p o):=λb d e=>by rw[aF (dX e h)];exact e
theorem Fp.new{Z:Gv}{U:VS.Env}{g:Hp}{p:KF}{F:Wf}(d:g p=O)(h:p∉F):∀{m:Md},Fp Z U g m F->Fp Z U g m (p :: F)
 |.fr,f=>⟨ZZ.mpr ⟨h,f.1⟩,λa m=>(Zh.mp m).elim (λe=>by rw[e];exact d) (f.2 a)⟩
 |.pu,f=>λa m=>(Zh.mp m).elim (λe=>by rw[e];exact .inl d) (f a)
 |.bo,f=>λa m=>(Zh.mp m).elim (λe=>by rw[e];exact .inl d) (f a)
def qq{d m:Md}{l:V1}{t:T}(e:Ji d l=Y (m,t)):t=.lst l/\l.length<=dJ/\m=(if dm l then .fr else d):=by
 unfold Ji at e;split at e
 ·rename_i h;cases e;exact⟨rfl,h,rfl⟩
 ·cases e
def jh{Z:Gv}{U:VS.Env}{i H:Hp}{q m:Md}{l:V1}{t:T}{o:List V}{n:X8}{Q:VK}(d:aK i H)(e:Ji q l=Y (m,t))(r:RpL G H o l n)(f:Fp Z U i q n.flatten)(k:∀v j F,aK H j->Rp G j v t F->Fp Z U i m F->Q v j):∀p,H p=O->Q (.ref p) (upd H p (.lst o)):=by
 intro p g;obtain⟨rfl,s,rfl⟩:=qq e;refine k _ _ _ (aU g) (.lst aw (r.same (aU g))) ?_;have np:p∉n.flatten:=λm=>Gw.oe (r.GG p m) g;by_cases h:dm l=L
 ·rw[h,Zo M];rw[r.Gu h]at np ⊢;exact Fp.nil.new (d.free g) np
 ·rw[Zm h];exact f.new (d.free g) np
theorem OV.join{Z:Gv}{U:VS.Env}{h H:Hp}{x y:Val}{u w:V}{f e:Wf}(i:OV G Z U h H x y u w f e){F:Wf}(g:F.Sublist (f++e)):Fp Z U h (x.1.join y.1) F:=by
 obtain⟨same,r1,r2,f1,f2,nd⟩:=i;have split:∀a∈F,a∈f\/a∈e:=λa d=>Zi.mp (g.subset d);obtain⟨l,x⟩:=x;obtain⟨j,y⟩:=y;have both:∀{P:KF->Prop},(∀a∈f,P a)->(∀a∈e,P a)->∀a∈F,P a:=λn m a d=>(split a d).elim (n a) (m a);cases l<;>cases j
 ·exact⟨(nd M M).sublist g,both f1.2 f2.2⟩
 ·exact both (λa d=>.inl (f1.2 a d)) f2
 ·exact both (λa d=>.inl (f1.2 a d)) f2
 ·exact both f1 (λa d=>.inl (f2.2 a d))
 ·exact both f1 f2
 ·exact both (f1.bo) f2
 ·exact both f1 (λa d=>.inl (f2.2 a d))
 ·exact both f1 (f2.bo)
 ·exact both f1 f2
def dZ:dJ=sizeLine:=rfl
def dk(s:Tx):(sx s).length=s.length:=rfl
def C7(s t:Tx):sx s++sx t=sx (s++t):=by
 show Str.append (sx s) (sx t)=_;simp[sx,Str.append]
def Rp.lst_inv{H:Hp}{v:V}{l:V1}{F:Wf}(r:Rp G H v (.lst l) F):∃a d e,v=.ref a/\F=a :: e.flatten/\H a=Y (.lst d)/\RpL G H d l e:=by
 cases r with
 |lst h q=>exact⟨_,_,_,rfl,rfl,h,q⟩
def Rp.HF{H:Hp}{v:V}{l:V1}{F:Wf}(r:Rp G H v (.tup l) F):∃a d e,v=.ref a/\F=e.flatten/\H a=Y (.tup d)/\RpL G H d l e:=by
 cases r with
 |tup h q=>exact⟨_,_,_,rfl,rfl,h,q⟩
def Rp.Ls{H:Hp}{v:V}{l:Vr}{F:Wf}(r:Rp G H v (.scr l) F):∃a,v=.ref a/\F=[]/\lq G.K H a l:=by
 cases r with
 |scr h=>exact⟨_,rfl,rfl,h⟩
end
section
variable{G:Gx}{X:Cx}
noncomputable def Fd:R2:=λx y H Q=>K6 (λi j=>.int (i+j)) x y H Q\/(∃i j,x=.str i/\y=.str j/\i.length+j.length<=KB/\Q (.str (i++j)) H)\/E4 x y H Q
def gU:OpR X (binaryOp .Add) Fd:=CA.or (sH.or Dy)
def kQ:eV G Fd ba:=by
 intro Z U E H x y u w A z m t Q f e k;have q:=λ{F:Wf} (h:List.Sublist F (A++z))=>f.join h;obtain⟨D,x⟩:=x;obtain⟨C,y⟩:=y;obtain⟨same,r1,r2,f1,f2,nd⟩:=f;unfold ba at e;split at e
 ·rename_i i _ j e1 e2;cases e1;cases e2;cases e;exact .inl ⟨_,_,r1.int_inv,r2.int_inv,bM k (.int _)⟩
 ·rename_i s _ p e1 e2;cases e1;cases e2;split at e
  ·rename_i d;cases e;refine .inr (.inl ⟨_,_,r1.str_inv.1,r2.str_inv.1,by rw[dk,dk,← dZ];exact d,?_⟩);rw[C7];exact bM k (.str _ ⟨by rw[Zw];exact d,λc r=>(Zi.mp r).elim (r1.str_inv.2.2 c) (r2.str_inv.2.2 c)⟩)
  ·cases e
 ·rename_i s _ p e1 e2;cases e1;cases e2;obtain⟨a,n,J,rfl,rfl,v,l⟩:=r1.lst_inv;obtain⟨b,o,Gs,rfl,rfl,hb,g⟩:=r2.lst_inv;obtain⟨_,d,_⟩:=qq e;refine .inr (.inr ⟨a,b,n,o,rfl,rfl,v,hb,?_,jh same e (l.append g) (q ?_) k⟩)
  ·rw[Zw]at d;rw[l.len.1,g.len.1,← dZ];exact d
  ·rw[Yw];exact(Yh _ _).append (Yh _ _)
 ·cases e
def pY:eV G (K6 λi j=>.int (i-j)) qQ:=by
 intro Z U f H x y u w h g m t Q a e k;obtain⟨d,x⟩:=x;obtain⟨b,y⟩:=y;obtain⟨same,r1,r2,f1,f2,nd⟩:=a;unfold qQ at e;split at e
 ·rename_i e1 e2;cases e1;cases e2;cases e;exact⟨_,_,r1.int_inv,r2.int_inv,bM k (.int _)⟩
 ·cases e
def lO:eV G (rI Eu λi j=>.int (i/j)) jo:=by
 intro Z U f H x y u w l g m t Q a e k;obtain⟨d,x⟩:=x;obtain⟨b,y⟩:=y;obtain⟨same,r1,r2,f1,f2,nd⟩:=a;unfold jo at e;split at e
 ·rename_i e1 e2;cases e1;cases e2;split at e
  ·rename_i h;cases e;exact⟨_,_,r1.int_inv,r2.int_inv,h,bM k (.int _)⟩
  ·cases e
 ·cases e
def Cw:eV G (rI (λ_ j=>0<j) λi j=>.int (i%j)) oMod:=by
 intro Z U f H x y u w l g m t Q a e k;obtain⟨d,x⟩:=x;obtain⟨b,y⟩:=y;obtain⟨same,r1,r2,f1,f2,nd⟩:=a;unfold oMod at e;split at e
 ·rename_i e1 e2;cases e1;cases e2;split at e
  ·rename_i h;cases e;exact⟨_,_,r1.int_inv,r2.int_inv,h,bM k (.int _)⟩
  ·cases e
 ·cases e
theorem pL:∀(s t:Tx),La s t=decide (s<t)
 |[],[]=>by simp[La]
 |[],_ :: _=>by simp[La]
 |_ :: _,[]=>by simp[La]
 |a :: s,b :: t=>by
  unfold La;rw[pL s t];by_cases e:a<b
  ·simp[e,X7]
  ·by_cases d:b<a
   ·have:¬a=b:=by exact XB d
    simp[e,d,X7,this]
   ·have:a=b:=by lia
    subst this;simp[X7]
noncomputable def Sk:R2:=λx y H Q=>K6 (λi j=>.bl (decide (i<j))) x y H Q\/(∃i j,x=.str i/\y=.str j/\Q (.bl (decide (i.cps.toList<j.cps.toList))) H)
def qd:OpR X (UF .Lt) Sk:=Ep.or wB
def u7:eV G Sk oLt:=by
 intro Z U g H x y u w i h m t Q b e k;obtain⟨f,x⟩:=x;obtain⟨d,y⟩:=y;obtain⟨same,r1,r2,f1,f2,nd⟩:=b;unfold oLt at e;split at e
 ·rename_i e1 e2;cases e1;cases e2;cases e;exact .inl ⟨_,_,r1.int_inv,r2.int_inv,bM k (.bl _)⟩
 ·rename_i s _ a e1 e2;cases e1;cases e2;cases e;refine .inr ⟨_,_,r1.str_inv.1,r2.str_inv.1,?_⟩;have:decide ((sx s).cps.toList<(sx a).cps.toList)=La s a:=by rw[pL];exact decide_eq_decide.mpr (by simp[sx])
  rw[this];exact bM k (.bl _)
 ·cases e
def nV:Tells oLt:=by
 intro x y m t e;unfold oLt at e;split at e<;>first | (cases e;exact⟨_,rfl⟩) | cases e
def Cz:O4=2 ^ 64:=rfl
def Df:eV G (rI Bv λi j=>.int (i*j)) fg:=by
 intro Z U f H x y u w l g m t Q a e k;obtain⟨d,x⟩:=x;obtain⟨b,y⟩:=y;obtain⟨same,r1,r2,f1,f2,nd⟩:=a;unfold fg at e;split at e
 ·rename_i e1 e2;cases e1;cases e2;split at e
  ·rename_i h;cases e;refine⟨_,_,r1.int_inv,r2.int_inv,?_,bM k (.int _)⟩;rw[Cz]at h;exact h
  ·cases e
 ·cases e
def sC{n:Nat}{i:Int}:Hf n i=Mv n i:=by
 unfold Hf Mv;by_cases h:0<=i
 ·rw[Zo h,Zo h]
 ·rw[Zm h,Zm h];by_cases a:0<=i+n
  ·rw[Zo a,Zo (by lia)]
  ·rw[Zm a,Zm (by lia)]
def jF{α:Type}{l:List α}{i:Int}{k:Nat}{x:α}(b:Hf l.length i=Y k)(a:l[k]?=Y x):M6 l i=Y x:=by
 unfold M6;rw[← sC,b];exact a
def bZ{a:X8}{F:Wf}{i:Nat}(h:a[i]?=Y F):F.Sublist a.flatten:=by
 obtain⟨b,rfl⟩:=ZW.mp h;exact List.sublist_flatten_of_mem (Yy b)
theorem Fp.sub{Z:Gv}{U:VS.Env}{H:Hp}{F d:Wf}(h:F.Sublist d):∀{m:Md},Fp Z U H m d->Fp Z U H m F
 |.fr,f=>⟨f.1.sublist h,λa b=>f.2 a (h.subset b)⟩
 |.pu,f=>λa b=>f a (h.subset b)
 |.bo,f=>λa b=>f a (h.subset b)
def tN:eV G (P8 G.K) aH:=by
 intro Z U N H x y u w R P m t Q C e k;obtain⟨M,x⟩:=x;obtain⟨J,y⟩:=y;obtain⟨same,r1,r2,f1,f2,nd⟩:=C;unfold aH at e;split at e
 ·rename_i p l o i e1 e2;cases e1;cases e2;obtain⟨j,d,e⟩:=Zz.mp e;obtain⟨x,b,e⟩:=Zy.mp e;obtain⟨a,n,E,rfl,rfl,q,h⟩:=r1.lst_inv;obtain⟨v,F,s,r,g⟩:=h.get j b;refine .inl ⟨a,n,i,v,rfl,r2.int_inv,GL.of q,jF (by rw[h.len.1];exact d) s,?_⟩;have f:=((f1.sub (Yh _ _)).sub (bZ r)).up g;unfold VS.sub at e;rw[e]at f;have z:x=t:=congrArg Prod.snd e;rw[z]at g;exact k v H F (aK.refl _) g f
 ·rename_i p l o i e1 e2;cases e1;cases e2;obtain⟨j,d,e⟩:=Zz.mp e;obtain⟨x,b,e⟩:=Zy.mp e;obtain⟨a,n,E,rfl,rfl,q,h⟩:=r1.HF;obtain⟨v,F,s,r,g⟩:=h.get j b;refine .inr (.inl ⟨a,n,i,v,rfl,r2.int_inv,Hi.of q,jF (by rw[h.len.1];exact d) s,?_⟩);have f:=(f1.sub (bZ r)).up g;unfold VS.sub at e;rw[e]at f;have z:x=t:=congrArg Prod.snd e;rw[z]at g;exact k v H F (aK.refl _) g f
 ·rename_i p l o i e1 e2;cases e1;cases e2;obtain⟨j,d,e⟩:=Zz.mp e;obtain⟨x,b,e⟩:=Zy.mp e;cases e;obtain⟨a,rfl,rfl,sa⟩:=r1.Ls;refine .inl ⟨a,l.map V.int,i,.int x,rfl,r2.int_inv,sa.seq,jF (by rw[Zt];exact d) (by rw[ZV,b];rfl),bM k (.int _)⟩
 ·rename_i p l o i e1 e2;cases e1;cases e2;obtain⟨j,d,e⟩:=Zz.mp e;obtain⟨x,b,e⟩:=Zy.mp e;cases e;obtain⟨rfl,A⟩:=r1.str_inv;refine .inr (.inr ⟨sx l,i,x,rfl,r2.int_inv,by rw[dk,← dZ];exact A.1,jF (k:=j) (by simpa[sx] using d) (by simpa[sx] using b),?_⟩);exact bM k (.str [x] ⟨by show 1<=dJ;decide,λc D=>by rw[Zk.mp D];exact A.2 x (Yb b)⟩)
 ·cases e
end
section
variable{G:Gx}{X:Cx}{a b c e:Expr}{es:List Expr}{ca cb cc:Ex}{cs:GY}{pos p:Pos}
theorem t8{x:KF}:∀{l:Va}{d:X8},x∈Hl l d->∃(i:Nat)(v:Val)(F:Wf),l[i]?=Y v/\v.1=.fr/\d[i]?=Y F/\x∈F
 |[],_,h=>by simp[Hl]at h
 |_ :: _,[],h=>by simp[Hl]at h
 |v :: l,F :: d,h=>by
  have go:x∈Hl l d->∃(i:Nat)(u:Val)(f:Wf),(v :: l)[i]?=Y u/\u.1=.fr/\(F :: d)[i]?=Y f/\x∈f:=λm=>by
   obtain⟨i,u,f,q,o,n,j⟩:=t8 m;exact⟨i+1,u,f,by simpa using q,o,by simpa using n,j⟩
  unfold Hl at h;split at h
  ·rename_i g;rcases Zi.mp h with h | h
   ·exact⟨0,v,F,rfl,g,rfl,h⟩
   ·exact go h
  ·exact go h
def aj:Hr G X [] ak:=PA.weak fI λJ H Q d=>by
 obtain⟨Z,U,l,s,e,k⟩:=d;cases (show Y ([]:Va)=Y l from e);exact k [] H [] (aK.refl _) .nil ⟨λi v F h=>by simp at h,by simp[Hl]⟩
def ae(C:PV G X e ca)(w:Hr G X es cs)(t:K1 e es X:=by rfl):Hr G X (e :: es) (ab ca cs):=PA.weak (cX C w t) λJ H Q A=>by
 obtain⟨Z,U,l,s,e,k⟩:=A;unfold ab at e;obtain⟨x,N,e⟩:=Zz.mp e;obtain⟨j,M,e⟩:=Zz.mp e;cases e;refine⟨Z,U,x.1,x.2,s,N,λv S F e1 r1 f1=>⟨Z,U,j,s.same e1,M,λm P R e2 r2 f2=>k (v :: m) P (F :: R) (e1.trans e2) (.cons (r1.same e2) r2) ⟨λi u h g d=>?_,?_⟩⟩⟩
 ·cases i with
  |zero =>
   cases (show Y x=Y u from g);cases (show Y F=Y h from d);exact f1
  |succ i=>exact(f2.each i u h (by simpa using g) (by simpa using d)).back e1
 ·unfold Hl;split
  ·rename_i r;rw[r]at f1;refine ZM.mpr ⟨f1.1,f2.nd,λy o z n q=>?_⟩;subst q;obtain⟨i,u,h,g,d,E,D⟩:=t8 n;have f:=f2.each i u h g E;rw[d]at f;exact Gw.oe (r1.GG y o) (f.2 y D)
  ·exact f2.nd
theorem jP:∀{l:Va},cn l=.fr->∀v∈l,v.1=.fr
 |[],_,v,h=>by simp at h
 | (m,t) :: r,e,v,h=>by
  have d:m.join (cn r)=.fr:=e;have g:m=.fr:=by
   revert d;cases m<;>cases cn r<;>simp[Md.join]
  have f:cn r=.fr:=by
   revert d;cases m<;>cases cn r<;>simp[Md.join]
  rcases Zh.mp h with rfl | h
  ·exact g
  ·exact jP f v h
theorem kc:∀{l:Va},cn l ≠ .bo->∀v∈l,v.1 ≠ .bo
 |[],_,v,h=>by simp at h
 | (m,t) :: r,e,v,h=>by
  have d:m.join (cn r) ≠ .bo:=e;have g:m ≠ .bo:=by
   revert d;cases m<;>cases cn r<;>simp[Md.join]
  have f:cn r ≠ .bo:=by
   revert d;cases m<;>cases cn r<;>simp[Md.join]
  rcases Zh.mp h with rfl | h
  ·exact g
  ·exact kc f v h
theorem uE:∀{l:Va}{d:X8},l.length=d.length->(∀v∈l,v.1=.fr)->Hl l d=d.flatten
 |[],[],_,_=>rfl
 |[],_ :: _,h,_=>by simp at h
 |_ :: _,[],h,_=>by simp at h
 |v :: l,F :: d,h,q=>by
  unfold Hl;rw[q v Zu,uE (by simpa using h) λu f=>q u (Zv _ f)];rfl
def fJ{x:KF}{d:X8}(h:x∈d.flatten):∃(i:Nat)(F:Wf),d[i]?=Y F/\x∈F:=by
 obtain⟨F,j,f⟩:=Vd.mp h;obtain⟨i,g⟩:=List.mem_iff_getElem?.mp j;exact⟨i,F,g,f⟩
def LJ.join{Z:Gv}{U:VS.Env}{H:Hp}{l:Va}{j:X8}(f:LJ Z U H l j)(n:l.length=j.length):Fp Z U H (cn l) j.flatten:=by
 have at':∀x∈j.flatten,∃v F,v∈l/\x∈F/\Fp Z U H v.1 F:=λx d=>by
  obtain⟨i,F,m,g⟩:=fJ d;have:i<l.length:=by
   have:=(ZW.mp m).1;lia
  exact⟨l[i],F,Yy this,g,f.each i _ F (Zq this) m⟩
 cases e:cn l with
 |fr =>
  have al:=jP e;refine⟨by rw[← uE n al];exact f.nd,λx d=>?_⟩;obtain⟨v,F,h,g,q⟩:=at' x d;rw[al v h]at q;exact q.2 x g
 |pu =>
  have al:=kc (l:=l) (by rw[e];decide);intro x d;obtain⟨v,F,h,g,q⟩:=at' x d;exact Fp.pu (al v h) q x g
 |bo =>
  intro x d;obtain⟨v,F,h,g,q⟩:=at' x d;exact q.bo x g
structure Args(G:Gx)(Z:Gv)(U:VS.Env)(H0 H:Hp)(l:Va)(vs:List V)(Fs:X8):Prop where
 same:aK H0 H
 rp:RpL G H vs (trees l) Fs
 fp:LJ Z U H0 l Fs
theorem Args.len{Z:Gv}{U:VS.Env}{g H:Hp}{l:Va}{f:List V}{d:X8}(A:Args G Z U g H l f d):l.length=d.length:=by
 have:=A.rp.len.2;simp[trees]at this;exact Eq.symm this
noncomputable def fB(G:Gx)(r:List V->Hp->VK->Prop)(f:Va->V0):Prop:=∀(Z:Gv)(U:VS.Env)(h H:Hp)(l:Va)(g:List V)(i:X8)(m:Md)(t:T)(Q:VK),Args G Z U h H l g i->f l=Y (m,t) →
 (∀v d F,aK H d->Rp G d v t F->Fp Z U h m F->Q v d)->r g H Q
def BL{r:List V->Hp->VK->Prop}{f:Va->V0}(h:fB G r f){J:L2.St}{H:Hp}{Q:VK}{U:VS.Env}{Z:Gv}{l:Va}{m:Md}{t:T}(s:SR G Z U J H)(i:cs U=Y l)(e:f l=Y (m,t))(k:∀v d F,aK H d->Rp G d v t F->Fp Z U H m F->Q v d):NH G cs J H λg n=>r g n Q :=
 ⟨Z,U,l,s,i,λg d o e1 r1 f1=>h Z U H d l g o m t Q ⟨e1,r1,f1⟩ e λv j F e2 r2 f2=>k v j F (e1.trans e2) r2 f2⟩
def mS{r:List V->Hp->VK->Prop}{f:Va->V0}{d:String}{x:Str}(q:di X (.builtin d) r)(g:fB G r f)(o:Gl X x)(n:X.mg x=O)(h:bootBuiltins x=Y (.builtin d))(u:Hr G X (e :: es) cs)(j:x ≠ "__name__" := by decide)(w:K3 x:=by decide)(he:K1 e es X:=by rfl)(hpl:K2 pos es X:=by rfl):PV G X (.Call (.Name x p) (e :: es) [] pos) (eN f cs) :=
 PE.weak (mW q o n h u j w he hpl) λJ H Q i=>by
  obtain⟨Z,U,m,t,s,e,k⟩:=i;unfold eN at e;obtain⟨l,v,e⟩:=Zz.mp e;exact BL g s v e k
def jb{r:List V->Hp->VK->Prop}{f:Va->V0}{Ty:String}{x:Str}(o:di X (.type Ty) r)(d:fB G r f)(n:Gl X x)(j:X.mg x=O)(g:bootBuiltins x=Y (.type Ty))(q:Hr G X (e :: es) cs)(i:x ≠ "__name__" := by decide)(v:K3 x:=by decide)(he:K1 e es X:=by rfl)(hpl:K2 pos es X:=by rfl):PV G X (.Call (.Name x p) (e :: es) [] pos) (eN f cs) :=
 PE.weak (oI o n j g q i v he hpl) λJ H Q h=>by
  obtain⟨Z,U,m,t,s,e,k⟩:=h;unfold eN at e;obtain⟨l,u,e⟩:=Zz.mp e;exact BL d s u e k
def dv(h:Hr G X es cs):PV G X (.List es pos) (eX cs):=PE.weak (sv h) λJ H Q f=>by
 obtain⟨Z,U,m,t,s,e,k⟩:=f;unfold eX at e;obtain⟨l,i,e⟩:=Zz.mp e;refine⟨Z,U,l,s,i,λd n o e1 r1 f1=>?_⟩;have A:Args G Z U H n l d o:=⟨e1,r1,f1⟩
 obtain⟨_,g,_⟩:=qq e;refine⟨by rw[r1.len.1,← dZ];exact g,jh e1 e r1 (f1.join A.len) λv j F e2 r2 f2=>k v j F (e1.trans e2) r2 f2⟩
def nN{x1}(h:Hr G X es cs):PV G X (.Tuple es x1 pos) (nH cs):=PE.weak (D1 h) λJ H Q d=>by
 obtain⟨Z,U,m,t,s,e,k⟩:=d;unfold nH at e;obtain⟨l,n,e⟩:=Zz.mp e;refine⟨Z,U,l,s,n,λf g i e1 r1 f1=>?_⟩;have A:Args G Z U H g l f i:=⟨e1,r1,f1⟩
 unfold qI at e;split at e
 ·rename_i j;cases e;refine⟨by rw[r1.len.1,← dZ,trees,Zt];exact j,λq d=>?_⟩;have r2:Rp G (upd g q (.tup f)) (.ref q) (.tup (trees l)) i.flatten:=.tup aw (r1.same (aU d));exact k _ _ _ (e1.trans (aU d)) r2 (Fp.up (f1.join A.len) r2)
 ·cases e
def Aw{H:Hp}{v:V}{t:T}{F:Wf}{k:Bool}(r:Rp G H v t F)(h:KW t=Y k):CN G.K v H k:=by
 cases r with
 |non=>cases h;rfl
 |bl b=>cases h;rfl
 |int i=>cases h;rfl
 |str s j =>
  cases h;refine⟨by rw[dk,← dZ];exact j.1,?_⟩;rw[dk];cases s with
  |nil=>rfl
  |cons a r =>
   have:((List.length (a :: r):Int) != 0)=L:=by simp;lia
   rw[this];rfl
 |scr d=>cases h
 |tup d q =>
  cases h;refine .inr (.inl ⟨_,Hi.of d,?_⟩);have:=q.len.1;rename_i f g _;cases f<;>cases g<;>simp_all
 |lst d q =>
  cases h;refine .inl ⟨_,GL.of d,?_⟩;have:=q.len.1;rename_i f g _;cases f<;>cases g<;>simp_all
 |dct d j q =>
  cases h;refine .inr (.inr ⟨_,d,?_⟩);have:=q.len.1;rename_i l f g _;cases l<;>cases f<;>cases g<;>simp_all
 |dctT d j q=>cases h
 |dctN d j n q=>cases h
 |dctZ _ _ _=>cases h
 |exc _ _=>cases h
 |ins _ _ _ _=>cases h
 |mk _ _=>cases h
def lT(h:PV G X a ca)(f:X.K=G.K:=by rfl)(d:∀whole,isTrue a X.env whole=(do let v ← whole;standAt a.pos;holding [v] (truthy v)):=by intro _;rfl):Iw G X a ca :=
 PT.weak (zi h d) λJ H Q ⟨Z,U,m,r,b,s,e,g,k⟩=>⟨Z,U,m,r,s,e,λv i F e1 r1 f1=>⟨b,by rw[f];exact Aw r1 g,k i e1⟩⟩
noncomputable def KR(G:Gx)(X:Cx)(e:Expr)(c:Ex):Prop:=PW X e (tT G c)
def PW.weak{X:Cx}{e:Expr}{t f:TT}(h:PW X e t)(w:∀J H Q,f J H Q->t J H Q):PW X e f:=λg d s J H Q I q=>h g d s J H Q I (w J H Q q)
def KR.NO(h:KR G X e ca):Iw G X e ca:=PW.pt h
variable{rest:List Expr}
def x8{U:VS.Env}{m:Md}{r:T}(e:j5 ca cb U=Y (m,r)):(∃n,ca U=Y (n,.bl L)/\cb U=Y (m,r))\/(∃n,ca U=Y (n,.bl B)/\m=.fr/\r=.bl B):=by
 unfold j5 at e;obtain⟨⟨n,x⟩,d,e⟩:=Zz.mp e;split at e
 ·rename_i h;cases (show x=.bl L from h);exact .inl ⟨n,d,e⟩
 ·rename_i h;cases (show x=.bl B from h);cases e;exact .inr ⟨n,d,rfl,rfl⟩
 ·cases e
def Au{U:VS.Env}{m:Md}{r:T}(e:MW ca cb U=Y (m,r)):(∃n,ca U=Y (n,.bl B)/\cb U=Y (m,r))\/(∃n,ca U=Y (n,.bl L)/\m=.fr/\r=.bl L):=by
 unfold MW at e;obtain⟨⟨n,x⟩,d,e⟩:=Zz.mp e;split at e
 ·rename_i h;cases (show x=.bl L from h);cases e;exact .inr ⟨n,d,rfl,rfl⟩
 ·rename_i h;cases (show x=.bl B from h);exact .inl ⟨n,d,e⟩
 ·cases e
def lW(j:Iw G X a ca)(i:KR G X (.BoolOp .And (b :: rest) pos) cb):KR G X (.BoolOp .And (a :: b :: rest) pos) (j5 ca cb) :=
 PW.weak (x4 j i) λJ H Q h=>by
  obtain⟨Z,U,m,r,k,s,e,f,q⟩:=h;rcases x8 e with⟨n,d,e2⟩ | ⟨n,d,rfl,rfl⟩
  ·refine⟨Z,U,n,_,L,s,d,rfl,λg e1=>?_⟩;refine yi ?_;exact⟨Z,U,m,r,k,s.same e1,e2,f,λl e2=>q l (e1.trans e2)⟩
  ·refine⟨Z,U,n,_,B,s,d,rfl,λg e1=>?_⟩;refine wY ?_;cases f;exact q g e1
def zo(j:Iw G X a ca)(i:KR G X (.BoolOp .Or (b :: rest) pos) cb):KR G X (.BoolOp .Or (a :: b :: rest) pos) (MW ca cb) :=
 PW.weak (Et j i) λJ H Q h=>by
  obtain⟨Z,U,m,r,k,s,e,f,q⟩:=h;rcases Au e with⟨n,d,e2⟩ | ⟨n,d,rfl,rfl⟩
  ·refine⟨Z,U,n,_,B,s,d,rfl,λg e1=>?_⟩;refine wY ?_;exact⟨Z,U,m,r,k,s.same e1,e2,f,λl e2=>q l (e1.trans e2)⟩
  ·refine⟨Z,U,n,_,L,s,d,rfl,λg e1=>?_⟩;refine yi ?_;cases f;exact q g e1
def xy{U:VS.Env}{m:Md}{r:T}(e:wa ca U=Y (m,r)):∃n b,ca U=Y (n,.bl b)/\m=.fr/\r=.bl (!b):=by
 unfold wa at e;obtain⟨⟨n,x⟩,d,e⟩:=Zz.mp e;split at e
 ·rename_i b h;cases (show x=.bl b from h);cases e;exact⟨n,b,d,rfl,rfl⟩
 ·cases e
def uc(f:Iw G X a ca):Iw G X (.UnaryOp .Not a pos) (wa ca):=PT.weak (Ci f) λJ H Q d=>by
 obtain⟨Z,U,m,r,k,s,e,g,q⟩:=d;obtain⟨n,b,h,rfl,rfl⟩:=xy e;cases g;exact⟨Z,U,n,_,b,s,h,rfl,λi e1=>q i e1⟩
def vb{H:Hp}{v:V}{t:T}{F:Wf}(r:Rp G H v t F):decide (v=.non)=Nh t:=by
 cases r<;>simp[Nh]
def BQ{t:TE}{c:Ex}{J:L2.St}{H:Hp}{Q:Bool->Hp->Prop}(h:tT G c J H Q)(f:∀U m r,c U=Y (m,r)->∃b,r=.bl b)(w:∀Q,tE G c J H Q->t J H Q):tB t J H Q:=by
 obtain⟨Z,U,m,r,b,s,e,d,k⟩:=h;refine w _ ⟨Z,U,m,r,s,e,λv j F e1 r1 f1=>?_⟩;obtain⟨i,g⟩:=f U m r e;rw[g]at d r1;cases (show Y i=Y b from d);exact⟨_,r1.HU,k j e1⟩
end
section
variable{G:Gx}{X:Cx}{a b c e:Expr}{es:List Expr}{ca cb cc:Ex}{cs:GY}{pos p:Pos}
def RpL.one{H:Hp}{vs:List V}{t:T}{Fs:X8}(r:RpL G H vs [t] Fs):∃v F,vs=[v]/\Fs=[F]/\Rp G H v t F:=by
 cases r with
 |cons r q=>cases q;exact⟨_,_,rfl,rfl,r⟩
noncomputable def FA(K:Wy):List V->Hp->VK->Prop:=λd H Q=>(∃x n,d=[x]/\EN K x H n/\Q (.int n) H)\/(∃a f,d=[V.ref a]/\H a=Y (.dK f)/\Q (.int f.length) H)
def tq:di X (.builtin "len") (λf H Q=>∃a d,f=[V.ref a]/\H a=Y (.dK d)/\Q (.int d.length) H):=by
 intro g s J H f m Q I r h;obtain⟨a,d,rfl,j,q⟩:=h;obtain⟨u,rfl,i⟩:=vals1 r;cases i;exact EX I (.inl j) λt n l=>⟨.int d.length,H,l,⟨t,rfl⟩,q⟩
def wu:di X (.builtin "len") (FA X.K):=wZ.or tq
def D2:fB G (FA G.K) cA:=by
 intro Z U C H l j o m t Q A e k;refine L2.ku λz f=>?_;unfold cA at e;split at e
 ·rename_i x;obtain⟨w,x⟩:=x;obtain⟨n,d,e⟩:=Zy.mp e;cases e;obtain⟨v,F,rfl,rfl,r⟩:=(show RpL G H j [x] o from A.rp).one;have fin:Q (.int (n:Int)) H:=bM k (.int _);cases r with
  |non=>cases d
  |bl b=>cases d
  |int i=>cases d
  |str s g =>
   cases d;refine f ?_;exact .inl ⟨_,_,rfl,⟨by rw[dk,← dZ];exact g.1,rfl⟩,by rw[dk];exact fin⟩
  |scr h =>
   cases d;refine f ?_;refine .inl ⟨_,_,rfl,.inl ⟨_,h.seq,rfl⟩,?_⟩;rw[Zt];exact fin
  |tup h q =>
   cases d;refine f ?_;refine .inl ⟨_,_,rfl,.inr ⟨_,Hi.of h,rfl⟩,?_⟩;rw[q.len.1];exact fin
  |lst h q =>
   cases d;refine f ?_;refine .inl ⟨_,_,rfl,.inl ⟨_,GL.of h,rfl⟩,?_⟩;rw[q.len.1];exact fin
  |dct h g q =>
   cases d;refine f ?_;refine .inr ⟨_,_,rfl,h,?_⟩;rename_i y ws u _;have e1:=q.len.1;rw[YX,Zt]at fin;rw[YX,e1];exact fin
  |dctT h g q=>cases d
  |dctN h g n q=>cases d
  |dctZ _ _ _=>cases d
  |exc _ _=>cases d
  |ins _ _ _ _=>cases d
  |mk _ _=>cases d
 ·cases e
noncomputable def BR(K:Wy):List V->Hp->VK->Prop:=λf H Q=>∃p d,f=[.ref p]/\(GL K H p d\/Hi K H p d)/\∀l,H l=O->Q (.ref l) (upd H l (.lst d))
def uh:fB G (BR G.K) BJ:=by
 intro Z U q H l j n m t Q A e k;unfold BJ at e;split at e
 ·rename_i o x;obtain⟨v,F,rfl,rfl,g⟩:=(show RpL G H j [.lst x] n from A.rp).one;obtain⟨a,d,Gs,rfl,rfl,i,h⟩:=g.lst_inv;have f:=A.fp.each 0 _ _ M M;exact⟨a,d,rfl,.inl (GL.of i),jh A.same e h (f.sub (Yh _ _)) k⟩
 ·rename_i o x;obtain⟨v,F,rfl,rfl,g⟩:=(show RpL G H j [.tup x] n from A.rp).one;obtain⟨a,d,Gs,rfl,rfl,i,h⟩:=g.HF;have f:=A.fp.each 0 _ _ M M;exact⟨a,d,rfl,.inr (Hi.of i),jh A.same e h f k⟩
 ·cases e
noncomputable def tO(G:Gx)(c:Option Ex):TO:=λJ H Q=>∃Z U o,SR G Z U J H/\rG c U=Y o/\∀d,aK H d->Q o d
noncomputable def PN(G:Gx)(X:Cx)(e:Option Expr)(c:Option Ex):Prop:=PO X e (tO G c)
def PO.weak{X:Cx}{e:Option Expr}{t f:TO}(h:PO X e t)(w:∀J H Q,f J H Q->t J H Q):PO X e f:=λd s J H Q I q=>h d s J H Q I (w J H Q q)
def qF:PN G X O O:=PO.weak vr λJ H Q d=>by
 obtain⟨Z,U,o,s,e,k⟩:=d;cases (show Y (O:Option Int)=Y o from e);exact k H (aK.refl _)
def j3(h:PV G X a ca):PN G X (Y a) (Y ca):=PO.weak (uf h) λJ H Q f=>by
 obtain⟨Z,U,o,s,e,k⟩:=f;obtain⟨⟨m,y⟩,g,e⟩:=Zz.mp (show (ca U).bind (λy=>(int? y.2).map Y)=Y o from e);obtain⟨i,d,e⟩:=Zy.mp e;cases e;refine⟨Z,U,m,y,s,g,λv l F e1 r1 f1=>?_⟩;cases y with
 |int j =>
  cases d;exact⟨_,r1.int_inv,k l e1⟩
 |_=>cases d
def kD{α:Type}(l:List α)(d f:Option Int):cut l d f=(l.drop (HT.G7 l.length 0 d)).take (HT.G7 l.length l.length f-HT.G7 l.length 0 d):=by
 unfold cut;cases d<;>cases f<;>rfl
def wH(d f:Option Int)(n:Nat):Builtin.Str.strSliceIndices d f 1 n=Builtin.Str.strSliceIndices (Y ((min (HT.G7 n 0 d) n:Nat):Int)) (Y ((min (HT.G7 n n f) n:Nat):Int)) 1 n:=by
 have e1:∀k:Nat,¬((k:Int)<0):=λk=>by lia
 unfold Builtin.Str.strSliceIndices;simp only[show (1:Int) > 0 by decide,if_true,e1,if_false];congr 1
 ·cases d with
  |none=>simp only[HT.G7];lia
  |some i =>
   simp only[HT.G7];by_cases h:i<0
   ·simp only[h,if_true];lia
   ·simp only[h,if_false];lia
 ·cases f with
  |none=>simp only[HT.G7];lia
  |some i =>
   simp only[HT.G7];by_cases h:i<0
   ·simp only[h,if_true];lia
   ·simp only[h,if_false];lia
def jm(s:Tx)(d f:Option Int):PySem.StrLaws.sliceText (sx s) d f=sx (cut s d f):=by
 have key:PySem.StrLaws.sliceText (sx s) d f=PySem.StrLaws.sliceText (sx s) (Y ((min (HT.G7 s.length 0 d) s.length:Nat):Int)) (Y ((min (HT.G7 s.length s.length f) s.length:Nat):Int)):=by
  unfold PySem.StrLaws.sliceText;rw[dk,wH]
 rw[key];have hd:∀a:Nat,s.drop (min a s.length)=s.drop a:=λa=>by
  by_cases h:a<=s.length
  ·rw[YH h]
  ·rw[WW (by exact XR h),Xi (Zp _),Xi (by exact XR h)]
 by_cases h:min (HT.G7 s.length 0 d) s.length<=min (HT.G7 s.length s.length f) s.length
 ·rw[PySem.StrLaws.sliceText_nat (sx s) h (by rw[dk];exact Nat.min_le_right _ _),kD];show (⟨_⟩:Str)=⟨_⟩;congr 2;show ((sx s).cps.toList.drop _).take _=_;have:(sx s).cps.toList=s:=rfl;rw[this,hd];by_cases i:HT.G7 s.length 0 d<=s.length
  ·rw[YH i];by_cases g:HT.G7 s.length s.length f<=s.length
   ·rw[YH g]
   ·rw[WW (by exact XR g),Yu (by rw[Yz];exact Zp _),Yu (by rw[Yz];lia)]
  ·rw[Xi (by exact XR i)];simp
 ·have j:cut s d f=[]:=by
   rw[kD];have:HT.G7 s.length s.length f-HT.G7 s.length 0 d=0:=by omega
   rw[this,List.take_zero]
  rw[j];unfold PySem.StrLaws.sliceText;have e2:Builtin.Str.strSliceIndices (Y ((min (HT.G7 s.length 0 d) s.length:Nat):Int)) (Y ((min (HT.G7 s.length s.length f) s.length:Nat):Int)) 1 (sx s).length=[]:=by
   have e1:∀k:Nat,¬((k:Int)<0):=λk=>by lia
   unfold Builtin.Str.strSliceIndices sliceRange;simp only[show (1:Int) > 0 by decide,if_true,e1,if_false,dk];rw[Zm (by omega)];rfl
  rw[e2];have:¬((1:Int)==1&&([]:Vt).length==(sx s).length)=L:=by
   rw[dk];simp;lia
  rw[Zm this];rfl
noncomputable def EU:V->Option Int->Option Int->Hp->VK->Prop:=λx lo d H Q=>∃z,x=.str z/\z.length<=KB/\Q (.str (PySem.StrLaws.sliceText z lo d)) H
def part_of{v:KM}{o:Option Int}(h:IsPart v o):∃q:Option (Int×Tok),v=partValue q/\o=q.map (·.1):=by
 cases h with
 |none=>exact⟨O,rfl,rfl⟩
 |int i t=>exact⟨Y (i,t),rfl,rfl⟩
def qf{α β:Type}(f:α->Option β)(l:List α):(l.filterMap f).length<=l.length:=List.length_filterMap_le f l
def Bt(d f:Option Int)(n:Nat):(Builtin.Str.strSliceIndices d f 1 n).length<=n:=by
 rw[wH];by_cases h:min (HT.G7 n 0 d) n<=min (HT.G7 n n f) n
 ·rw[PySem.StrLaws.strSliceIndices_plain h (by exact Nat.min_le_right _ _),Zt,ZF];lia
 ·have e1:∀k:Nat,¬((k:Int)<0):=λk=>by lia
  unfold Builtin.Str.strSliceIndices sliceRange;simp only[show (1:Int) > 0 by decide,if_true,e1,if_false];rw[Zm (by omega)];simp
def xP:Ma X EU:=by
 intro f s J H x v n m lo r o Q I g j pl pu h;obtain⟨z,rfl,i,q⟩:=h;obtain⟨t,rfl⟩:=g;obtain⟨l,rfl,rfl⟩:=part_of pl;obtain⟨u,rfl,rfl⟩:=part_of pu;refine⟨"str",_,F.slot_str_getitem.lookup,typeIs_str s z t,wpAny_getItem_str_slice (l:=l) (u:=u) (st:=O) j M ?_⟩;unfold sliceMade;split
 ·rename_i d;refine⟨.str z,H,I,⟨t,rfl⟩,?_⟩;have e:PySem.StrLaws.sliceText z (l.map (·.1)) (u.map (·.1))=z:=by
   unfold PySem.StrLaws.sliceText;exact Zo d
  rw[e]at q;exact q
 ·rename_i d;refine⟨ZA ?_ i,.str _,H,I.tok _,⟨_,rfl⟩,?_⟩
  ·show (List.filterMap _ _).toArray.size<=_;rw[ZQ];exact ZA (qf _ _) (Bt _ _ _)
  ·have e:PySem.StrLaws.sliceText z (l.map (·.1)) (u.map (·.1))=⟨((slicePicked z l u O).filterMap (z.cps[·]?)).toArray⟩:=by
    unfold PySem.StrLaws.sliceText;exact Zm d
   rw[e]at q;exact q
noncomputable def UG(K:Wy):V->Option Int->Option Int->Hp->VK->Prop:=λx lo d H Q=>EU x lo d H Q\/EK K x lo d H Q
def FM:Ma X (UG X.K):=xP.or uz
def va{α:Type}(l:List α)(d f:Option Int):(cut l d f).length<=l.length:=by
 rw[kD,IH,Yz];lia
theorem RpL.cut{H:Hp}{g:List V}{i:V1}{j:X8}(r:RpL G H g i j)(d f:Option Int):RpL G H (sS g d f) (VS.cut i d f) (VS.cut j d f):=by
 have h:=r.len;rw[kD,kD,h.2];unfold sS;rw[h.1];exact(r.drop _).take _
def lZ{α:Type}(l:List α)(d f:Option Int):(VS.cut l d f).Sublist l:=by
 rw[kD];exact(List.take_sublist _ _).trans (List.drop_sublist _ _)
def qw{F G:X8}(h:F.Sublist G):F.flatten.Sublist G.flatten:=by
 induction h with
 |slnil=>exact XY _
 |cons a _ d=>rw[ZE];exact d.trans (Y9 _ _)
 |cons_cons a _ d=>rw[ZE,ZE];exact(XY _).append d
def mE{j n:Option Expr}{u w:Option Ex}{M:Pos}(ha:PV G X a ca)(d:PN G X j u)(S:PN G X n w)(hK:X.K=G.K:=by rfl):PV G X (.Subscript a (.Slice j n O M) pos) (KI ca u w) :=
 PE.weak (nM FM ha d S) λJ H Q R=>by
  obtain⟨Z,U,m,t,s,e,k⟩:=R;unfold KI at e;obtain⟨⟨N,x⟩,ea,r⟩:=Zz.mp e;obtain⟨l,el,y⟩:=Zz.mp r;obtain⟨h,eh,f⟩:=Zz.mp y;clear e r y;refine⟨Z,U,N,x,s,ea,λv H1 F e1 r1 f1=>⟨Z,U,l,s.same e1,el,λH2 e2=>⟨Z,U,h,(s.same e1).same e2,eh,λA o=>?_⟩⟩⟩;have g:aK H A:=(e1.trans e2).trans o;have i:=(r1.same e2).same o;unfold Su at f;split at f
  ·rename_i P z q;cases q;cases f;obtain⟨rfl,d⟩:=i.str_inv;refine .inl ⟨_,rfl,by rw[dk,← dZ];exact d.1,?_⟩;rw[jm];exact k _ A _ g (.str _ ⟨ZA (va _ _ _) d.1,λc hc=>d.2 c ((lZ _ _ _).subset hc)⟩) Fp.nil
  ·rename_i P z q;cases q;obtain⟨a',C,Fs,rfl,rfl,GB,D⟩:=i.lst_inv;refine .inr ⟨a',C,rfl,by rw[hK];exact GL.of GB,jh g f (D.cut l h) ((f1.sub (Yh _ _)).sub (qw (lZ _ _ _))) λv H4 F e5 E f4=>k v H4 F (g.trans e5) E f4⟩
  ·cases f
noncomputable def JW:Ty->String
 |.int => "int"
 |.str => "str"
 |.bool => "bool"
 |.list => "list"
 |.tuple => "tuple"
 |.dict => "dict"
noncomputable def UH(K:Wy):List V->Hp->VK->Prop:=λd H Q=>∃x c t b,d=[x,.ty c]/\Hn K H x t/\PySem.W.kitOne K t (.type c)=Y b/\Q (.bl b) H
def BA:di X (.builtin "isinstance") (UH X.K):=by
 intro d s J H f i Q I r h;obtain⟨x,c,t,b,rfl,ty,e,q⟩:=h;obtain⟨u,g,rfl,r1,r2⟩:=vals2 r;cases r2;exact wC I r1 ty e λj=>⟨.bl b,H,I.tok _,rfl,q⟩
def Af(K:Wy)(d:Ty):(PySem.W.kitOne K (.type "NoneType") (.type (JW d))=Y B)/\(PySem.W.kitOne K (.type "bool") (.type (JW d))=Y (rC d (.bl L)))/\(PySem.W.kitOne K (.type "int") (.type (JW d))=Y (rC d (.int 0))) ∧
  (PySem.W.kitOne K (.type "str") (.type (JW d))=Y (rC d (.str [])))/\(PySem.W.kitOne K (.type "list") (.type (JW d))=Y (rC d (.lst [])))/\(PySem.W.kitOne K (.type "tuple") (.type (JW d))=Y (rC d (.tup [])))/\(PySem.W.kitOne K (.type "dict") (.type (JW d))=Y (rC d (.dct 0 []))):=by
 cases d<;>refine⟨?_,?_,?_,?_,?_,?_,?_⟩<;>kernel_rfl
def Fq{H:Hp}{v:V}{t:T}{F:Wf}(d:Ty)(r:Rp G H v t F)(h:uM t=L):∃g,Hn G.K H v g/\PySem.W.kitOne G.K g (.type (JW d))=Y (rC d t):=by
 obtain⟨y,x,w,u,o,m,j⟩:=Af G.K d;cases r with
 |non=>exact⟨_,.non,by rw[y];cases d<;>rfl⟩
 |bl b=>exact⟨_,.bl b,by rw[x];cases d<;>rfl⟩
 |int i=>exact⟨_,.int i,by rw[w];cases d<;>rfl⟩
 |str s _=>exact⟨_,.str _,by rw[u];cases d<;>rfl⟩
 |scr _=>cases h
 |tup f q=>exact⟨_,.tup f,by rw[m];cases d<;>rfl⟩
 |lst f q=>exact⟨_,.lst f,by rw[o];cases d<;>rfl⟩
 |dct f l q=>exact⟨_,.dK f,by rw[j];cases d<;>rfl⟩
 |dctT f l q=>exact⟨_,.dT f,by rw[j];cases d<;>rfl⟩
 |dctN f l n q=>simp at h
 |dctZ _ _ _=>cases h
 |exc _ _=>cases h
 |ins _ _ _ _=>cases h
 |mk _ _=>cases h
def En(f:Ty){x:Str}{n d:Pos}(C:PV G X a ca)(A:Gl X "isinstance")(w:X.mg "isinstance" = O)(P:Gl X x)(S:X.mg x=O)(q:bootBuiltins x=Y (.type (JW f)))(j:X.K=G.K:=by rfl)(u:x ≠ "__name__" := by decide)(Hu:K3 x:=by decide)(i:Pi [a,.Name x d] X.env=(B,eval a X.env) :: Pi [.Name x d] X.env:=by rfl)(R:Pi [.Name x d] X.env=(B,eval (.Name x d) X.env) :: Pi [] X.env:=by rfl)(g:(backTo pos (Pi [Expr.Name x d] X.env)).any (·.1)=B:=by rfl) :
  PV G X (.Call (.Name "isinstance" n) [a,.Name x d] [] pos) (OG f ca) :=
 PE.weak (mW BA A w boot_isinstance (cX C (cX (Aj (v:=.ty (JW f)) P S q M u Hu) fI R) i) (by decide) M i g) λJ H Q r=>by
  obtain⟨Z,U,m,t,s,e,k⟩:=r;unfold OG at e;obtain⟨⟨o,y⟩,N,h⟩:=Zz.mp e;split at h
  ·rename_i z;cases h;refine⟨Z,U,o,y,s,N,λv H' F e1 r1 f1=>?_⟩;obtain⟨l,E,D⟩:=Fq f r1 z;exact⟨v,JW f,l,_,rfl,by rw[j];exact E,by rw[j];exact D,k _ H' _ e1 (.bl _) Fp.nil⟩
  ·cases h
end
section
variable{G:Gx}{X:Cx}{a b c e:Expr}{es:List Expr}{ca cb cc:Ex}{cs:GY}{pos p:Pos}
noncomputable def Ef(G:Gx)(r:V->List V->Hp->VK->Prop)(f:Val->Va->V0):Prop:=∀(Z:Gv)(U:VS.Env)(d i H:Hp)(x:Val)(v:V)(F:Wf)(l:Va)(h:List V)(j:X8)(m:Md)(t:T)(Q:VK),
 aK d i->Rp G H v x.2 F->Fp Z U d x.1 F->Args G Z U i H l h j->f x l=Y (m,t)->(∀v g F,aK H g->Rp G g v t F->Fp Z U d m F->Q v g)->r v h H Q
def E2{n j:String}{d:Str}{r:V->List V->Hp->VK->Prop}{f:Val->Va->V0}{g i:Pos}(A:PlainAttrs n)(h:Slot n d j)(MB:typeOf (.builtin j)=pure (.type "method_descriptor"))(N:O0 X j r)(C:Ef G r f)(R:∀H v (x:Val) F l z,Rp G H v x.2 F->f x l=Y z->Ln G.K n v H)(M:PV G X a ca)(P:Hr G X (e :: es) cs)(S:X.K=G.K:=by rfl)(GF:XAB a d X.env (eval a X.env)=eval a X.env:=by rfl)(GU:((backTo i (Pi (e :: es) X.env)).all (λx=>!x.1)&&(backToKw i (SL [] X.env)).all (λx=>x.1.isSome)
   && decide ((e :: es).length+([]:List Keyword).length+(if ([]:List Keyword).isEmpty then 0 else 1)<30))=L:=by rfl)(Gz:(g.endLine==i.line)=L:=by rfl)(D:K1 e es X:=by rfl)(Gy:K2 i es X:=by rfl) :
  PV G X (.Call (.Attribute a d g) (e :: es) [] i) (eM f ca cs) :=
 PE.weak (ou A h MB N M P GF GU Gz D Gy) λJ H Q E=>by
  obtain⟨Z,U,m,t,s,e,k⟩:=E;unfold eM at e;obtain⟨x,ea,e'⟩:=Zz.mp e;obtain⟨l,el,o⟩:=Zz.mp e';refine⟨Z,U,x.1,x.2,s,ea,λv q F e1 r1 f1=>⟨by rw[S];exact R q v x F l _ r1 o,Z,U,l,s.same e1,el,λu H2 Fs e2 r2 f2=>?_⟩⟩;exact C Z U H q H2 x v F l u Fs m t Q e1 (r1.same e2) f1 ⟨e2,r2,f2⟩ o λw H3 F' e3 y f3=>k w H3 F' ((e1.trans e2).trans e3) y f3
def BC:∀(sep:Tx)(d:List Tx),Txt.join (sx sep) (d.map sx)=sx (c6 sep d):=by
 intro sep d;have fold:∀(l:List Tx)(acc:Tx),(l.map sx).foldl (λacc p=>acc++(sx sep).cps++p.cps) acc.toArray=(l.foldl (λacc p=>acc++sep++p) acc).toArray:=by
  intro l
  induction l with
  |nil=>intro acc;rfl
  |cons x r f =>
   intro acc;rw[Ze,Y3,Y3,← f];congr 1;simp[sx]
 have g:∀(r:List Tx)(acc:Tx),r.foldl (λacc p=>acc++sep++p) acc=c6 sep (acc :: r):=by
  intro r
  induction r with
  |nil=>intro acc;rfl
  |cons x r f =>
   intro acc;rw[Y3,f];cases r with
   |nil=>rfl
   |cons y r=>simp[c6]
 cases d with
 |nil=>rfl
 |cons x r =>
  show (⟨_⟩:Str)=⟨_⟩;congr 1;show ((r.map sx).foldl _ x.toArray)=_;rw[fold,g]
theorem lX{H:Hp}:∀{d:List V}{l:V1}{g:X8}{f:List Tx},RpL G H d l g->strs? l=Y f->d=f.map λs=>V.str (sx s)
 |_,_,_,_,.nil,e=>by cases e;rfl
 |_,_,_,_,.cons (t:=t) r q,e=>by
  cases t with
  |str s =>
   simp only[strs?]at e;obtain⟨h,e1,e2⟩:=Zy.mp e;subst e2;rw[lX q e1,r.str_inv.1];rfl
  |_=>cases e
theorem ny:∀{d:List Tx}{f:Vy},aP (d.map λs=>V.str (sx s)) f->StrsAre f (d.map sx)
 |[],_,h=>by cases h;exact .nil
 |s :: d,_,h=>by
  cases h with
  |cons r q =>
   obtain⟨t,rfl⟩:=r;exact .cons _ _ (ny q)
noncomputable def rJoin(K:Wy):V->List V->Hp->VK->Prop:=λx f H Q=>∃sep p d,x=.str (sx sep)/\f=[.ref p]/\GL K H p (d.map λs=>V.str (sx s))/\total d+d.length*sep.length<=16777216/\Q (.str (sx (c6 sep d))) H
theorem ui:∀d:List Tx,((d.map sx).map (·.length)).sum=total d
 |[]=>rfl
 |s :: r=>by
  rw[Ze,Ze,XH,ui r,dk];rfl
def u9:O0 X "str.join" (rJoin X.K):=by
 intro d s J H x n v o Q I g m h;obtain⟨sep,p,f,rfl,rfl,j,l,q⟩:=h;obtain⟨t,rfl⟩:=g;obtain⟨u,rfl,i⟩:=vals1 m;cases i;obtain⟨y,r,pl,z⟩:=I.list j;refine join_list pl.isList (ys:=f.map sx) (by simpa using ny r) ?_ λw k=>⟨.str _,H,I.tok _,⟨_,by rw[BC]⟩,q⟩
 rw[ui,Zt,dk];exact l
theorem jG(d:Tx):∀f:List Tx,(c6 d f).length<=total f+f.length*d.length
 |[]=>by simp[c6,total]
 |[x]=>by simp[c6,total]
 |x :: y :: r=>by
  have:=jG d (y :: r);simp only[c6,total,Zw,Zg]at this ⊢;have e:(r.length+1+1)*d.length=(r.length+1)*d.length+d.length:=Vq _ _;lia
theorem jw(d:Tx):∀(f:List Tx)(c:Nat),c∈c6 d f->c∈d\/∃s∈f,c∈s
 |[],c,h=>by simp[c6]at h
 |[x],c,h=>.inr ⟨x,Zu,h⟩
 |x :: y :: r,c,h=>by
  simp only[c6,Zi]at h;rcases h with (h | h) | h
  ·exact .inr ⟨x,Zu,h⟩
  ·exact .inl h
  ·exact(jw d (y :: r) c h).imp id λ⟨s,g,i⟩=>⟨s,Zv _ g,i⟩
theorem jx{H:Hp}:∀{g:List V}{l:V1}{h:X8}{f:List Tx},RpL G H g l h->strs? l=Y f->∀s∈f,∀c∈s,c<1114112
 |_,_,_,_,.nil,e,s,d=>by cases e;simp at d
 |_,_,_,_,.cons (t:=t) r q,e,s,d=>by
  cases t with
  |str x =>
   simp only[strs?]at e;obtain⟨i,e1,e2⟩:=Zy.mp e;subst e2;rcases Zh.mp d with rfl | d
   ·exact r.str_inv.2.2
   ·exact jx q e1 s d
  |_=>cases e
def Bs:Ef G (rJoin G.K) iq:=by
 intro Z U R P H x v F l o E m t Q q r f A e k;unfold iq at e;split at e
 ·rename_i M sep N w;obtain⟨d,n,g⟩:=Zz.mp e;split at g
  ·rename_i i;cases g;obtain⟨J,S,rfl,rfl,u⟩:=(show RpL G H o [.lst w] E from A.rp).one;obtain⟨z,ws,Gs,rfl,rfl,j,h⟩:=u.lst_inv;rw[lX h n]at j;refine⟨sep,z,d,r.str_inv.1,rfl,GL.of j,i,bM k (.str _ ⟨ZA (jG sep d) i,λc y=>(jw sep d c y).elim (r.str_inv.2.2 c) λ⟨s,C,D⟩=>jx h n s C c D⟩)⟩
  ·cases g
 ·cases e
def qC{H:Hp}{v:V}{t:T}{F:Wf}(r:Rp G H v t F)(h:∃s,t=.str s):Ln G.K "str" v H:=by
 obtain⟨s,rfl⟩:=h;rw[r.str_inv.1];rfl
def uT{d f:Pos}(i:PV G X a ca)(j:Hr G X [e] cs)(g:X.K=G.K:=by rfl)(q:XAB a "join" X.env (eval a X.env)=eval a X.env:=by rfl)(o:((backTo f (Pi [e] X.env)).all (λx=>!x.1)&&(backToKw f (SL [] X.env)).all (λx=>x.1.isSome)
   && decide ([e].length+([]:List Keyword).length+(if ([]:List Keyword).isEmpty then 0 else 1)<30))=L:=by rfl)(m:(d.endLine==f.line)=L:=by rfl)(h:K1 e [] X:=by rfl)(n:(backTo f (Pi [] X.env)).any (·.1)=B:=by rfl) :
  PV G X (.Call (.Attribute a "join" d) [e] [] f) (eM iq ca cs) :=
 E2 PySem.F.plainAttrs_str PySem.F.slot_str_join PySem.F.type_str_join (g ▸ u9) Bs (λH v x F l z r e=>qC r (by
  unfold iq at e;split at e
  ·exact⟨_,rfl⟩
  ·cases e)) i j g q o m h n
end
end VS
end
section
namespace VS
@[simp] noncomputable def HY(x y:Val):V0:=match x.2 with
 |.dct 0 l=>if iz y.2 then (eT l y.2).map (sub x.1) else O
 |_=>aH x y
@[simp] noncomputable def flat:T->Bool
 |.non=>L
 |.bl _=>L
 |.int _=>L
 |.str _=>L
 |_=>B
@[simp] noncomputable def j8(x y:Val):V0:=match y.2 with
 |.dct 0 l=>if iz x.2 then Y (.fr,.bl (eT l x.2).isSome) else O
 |.lst l=>if flat x.2&&l.all flat then Y (.fr,.bl (l.any λy=>eqT y x.2)) else O
 |.tup l=>if flat x.2&&l.all flat then Y (.fr,.bl (l.any λy=>eqT y x.2)) else O
 |_=>O
@[simp] noncomputable def cG(x y:Val):V0:=match j8 x y with
 |some (_,.bl b)=>Y (.fr,.bl (!b))
 |_=>O
noncomputable def pm{α:Type}(f:T->Option (T×α)):List Ky->T->Option (T×α)
 |[],t=>f t
 |.fld k :: r,t=>match t with
  |.obj (c+1) (q :: fs)=>(fs.findIdx? λp=>p.1==k).bind λi=>(fs[i]?).bind λp=>(pm f r p.2).map λz=>(.obj (c+1) (q :: fs.set i (p.1,z.1)),z.2)
  |_=>O
 |.un :: r,t=>match t with
  |.obj 0 [(0,.bl true),(m,x)]=>(pm f r x).map λz=>(.obj 0 [(0,.bl L),(m,z.1)],z.2)
  |_=>O
 |.at k :: r,t=>match t with
  |.lst l=>match k with
   |.int i=>(Hf l.length i).bind λj=>(l[j]?).bind λx=>(pm f r x).map λz=>(.lst (l.set j z.1),z.2)
   |_=>O
  |.dct 0 l=>if iz k then (l.findIdx? λp=>eqT p.1 k).bind λi=>(l[i]?).bind λp=>(pm f r p.2).map λz=>(.dct 0 (l.set i (p.1,z.1)),z.2) else O
  |_=>O
end VS
end
section
namespace VS
open PySem PySem.Spec PyProof.Rows L2
section
variable{G:Gx}{X:Cx}{a b c e:Expr}{es:List Expr}{ca cb cc:Ex}{cs:GY}{pos p:Pos}
mutual
noncomputable def Ii:T->PyData
 |.non=>.none
 |.bl b=>.bool b
 |.int i=>.int i
 |.str s=>.str (sx s)
 |.tup l=>.tuple (mV l)
 |.lst l=>.list (mV l)
 |_=>.none
noncomputable def mV:V1->List PyData
 |[]=>[]
 |t :: r=>Ii t :: mV r
end
def E9{s:Tx}(h:og s):PyData.strOk (sx s)=L:=by
 unfold PyData.strOk sx;simp only[Array.all_eq_true,decide_eq_true_eq];intro i a;have:s.toArray[i]∈s:=by simp
 have:=h.2 _ this;simpa using this
def xU{s t:Tx}:(sx s==sx t)=(s==t):=by
 rw[XG,beq_iff_eq,beq_iff_eq];constructor
 ·intro h;have:(sx s).cps=(sx t).cps:=by rw[h]
  simpa[sx] using this
 ·intro h;rw[h]
mutual
theorem pJ:∀(n k:Nat)(t u:T),HJ n t=L->HJ k u=L->PyData.eqv (Ii t) (Ii u)=eqT t u
 |n,k,t,u,b,a=>by
  cases t with
  |scr _=>cases n<;>simp at b
  |dct _ _=>cases n<;>simp at b
  |obj _ _=>cases n<;>simp at b
  |tup l =>
   cases n with
   |zero=>simp at b
   |succ n =>
    cases u with
    |tup r =>
     cases k with
     |zero=>simp at a
     |succ k =>
      simp only[Ii,PyData.eqv,eqT];exact nK n k l r (by simpa using b) (by simpa using a)
    |scr _=>cases k<;>simp at a
    |dct _ _=>cases k<;>simp at a
    |obj _ _=>cases k<;>simp at a
    |_=>simp[Ii,PyData.eqv,eqT]
  |lst l =>
   cases n with
   |zero=>simp at b
   |succ n =>
    cases u with
    |lst r =>
     cases k with
     |zero=>simp at a
     |succ k =>
      simp only[Ii,PyData.eqv,eqT];exact nK n k l r (by simpa using b) (by simpa using a)
    |scr _=>cases k<;>simp at a
    |dct _ _=>cases k<;>simp at a
    |obj _ _=>cases k<;>simp at a
    |_=>simp[Ii,PyData.eqv,eqT]
  |str s =>
   cases u with
   |str r=>simp only[Ii,PyData.eqv,eqT];exact xU
   |scr _=>cases k<;>simp at a
   |dct _ _=>cases k<;>simp at a
   |obj _ _=>cases k<;>simp at a
   |_=>simp[Ii,PyData.eqv,eqT]
  |_ =>
   cases u with
   |scr _=>cases k<;>simp at a
   |dct _ _=>cases k<;>simp at a
   |obj _ _=>cases k<;>simp at a
   |_=>simp[Ii,PyData.eqv,eqT]
theorem nK:∀(n k:Nat)(l r:V1),(∀t∈l,HJ n t=L)->(∀t∈r,HJ k t=L)->PyData.eqvAll (mV l) (mV r)=zC l r
 |_,_,[],[],_,_=>rfl
 |_,_,[],_ :: _,_,_=>rfl
 |_,_,_ :: _,[],_,_=>rfl
 |n,k,t :: l,u :: r,d,b=>by
  simp only[mV,PyData.eqvAll,zC];rw[pJ n k t u (d t Zu) (b u Zu),nK n k l r (λx a=>d x (Zv _ a)) λx a=>b x (Zv _ a)]
end
def Rp.Kh{H:Hp}{v:V}{d:V1}{F:Wf}(r:Rp G H v (.tup d) F):∃b a e,v=.ref b/\H b=Y (.tup a)/\RpL G H a d e:=by
 cases r with
 |tup h q=>exact⟨_,_,_,rfl,h,q⟩
def Rp.Ks{H:Hp}{v:V}{d:V1}{F:Wf}(r:Rp G H v (.lst d) F):∃b a e,v=.ref b/\H b=Y (.lst a)/\RpL G H a d e:=by
 cases r with
 |lst h q=>exact⟨_,_,_,rfl,h,q⟩
theorem kW{H:Hp}{s:GM}{n:Nat}(f:∀{v:V}{t:T}{F:Wf}{u:KM},Rp G H v t F->RelV v u->HJ n t=L->∃b,Reads s.heap u (Ii t) b/\(Ii t).canLay0=L/\(Ii t).depth<=n):∀{d:List V}{a:V1}{o:X8}{e:Vy},RpL G H d a o->aP d e->(∀t∈a,HJ n t=L) →
  ∃b,ReadsAll s.heap e (mV a) b/\PyData.canLayAll0 (mV a)=L/\PyData.depthAll (mV a)<=n
 |_,_,_,_,.nil,r,_=>by cases r;exact⟨_,.nil,rfl,ZG _⟩
 |_,_,_,_,.cons p q,r,h=>by
  cases r with
  |cons r1 r2 =>
   obtain⟨b,j,i,w⟩:=f p r1 (h _ Zu);obtain⟨bs,m,l,x⟩:=kW f q r2 λt g=>h t (Zv _ g);exact⟨_,.cons j m,by simp only[mV,PyData.canLayAll0,i,l,Bool.and_self],by simp only[mV,PyData.depthAll];lia⟩
def nU{h:UV}{H:Hp}{v:V}{t:T}{F:Wf}{u:KM}{n:Nat}(r:Rp G H v t F)(a:RelV v u)(d:flat t=L):∃e,Reads h u (Ii t) e/\(Ii t).canLay0=L/\(Ii t).depth<=n:=by
 cases r with
 |non=>cases a;exact⟨_,.none,rfl,ZG _⟩
 |bl b=>cases a;exact⟨_,.bool b,rfl,ZG _⟩
 |int i=>obtain⟨t,rfl⟩:=a;exact⟨_,.int i t,rfl,ZG _⟩
 |str s h=>obtain⟨t,rfl⟩:=a;exact⟨_,.str _ t,E9 h,ZG _⟩
 |_=>cases d
def jX{H:Hp}{d:Yr}{J:L2.St}{s:GM}(I:Inv X d J H s)(n:Nat):∀{v:V}{t:T}{F:Wf}{u:KM},Rp G H v t F->RelV v u->HJ n t=L->∃w,Reads s.heap u (Ii t) w/\(Ii t).canLay0=L/\(Ii t).depth<=n:=by
 induction n with
 |zero =>
  intro v t F u r a h;refine nU r a ?_;cases t<;>first | rfl | exact h
 |succ n x =>
  intro v t F u r a h;cases t with
  |tup l =>
   obtain⟨b,y,E,rfl,e,q⟩:=Rp.Kh r;cases a;obtain⟨A,f,z,D⟩:=I.tuple (Hi.of e);obtain⟨w,p,m,j⟩:=kW x q f (by simpa using h);obtain⟨o,g,i,C,hd⟩:=z;exact⟨_,.tuple g i hd (by simpa using p),m,by simp only[Ii,PyData.depth];exact Y6 j⟩
  |lst l =>
   obtain⟨b,y,E,rfl,e,q⟩:=Rp.Ks r;cases a;obtain⟨A,f,pl,D⟩:=I.list (GL.of e);obtain⟨w,p,m,j⟩:=kW x q f (by simpa using h);obtain⟨o,g,i,C,hd⟩:=pl.isList;exact⟨_,.list g i hd (by simpa using p),m,by simp only[Ii,PyData.depth];exact Y6 j⟩
  |scr _=>simp at h
  |dct _ _=>simp at h
  |obj _ _=>simp at h
  |_=>exact nU r a M
noncomputable def Br(G:Gx)(a:Bool):R2:=λx y H Q=>∃t u F b,Rp G H x t F/\Rp G H y u b/\HJ 60 t=L/\HJ 60 u=L/\Q (.bl (if a then !eqT t u else eqT t u)) H
def je{d:PyData}(h:d.canLay0=L)(a:d.depth<=60):SeqAt.shaped d=L:=by
 unfold SeqAt.shaped;rw[h,Bool.true_and];exact decide_eq_true (by lia)
def t7(g:X.A.units+64<cLine):OpR X (UF .Eq) (Br G B):=by
 intro a s J H x y v u Q I f e h;obtain⟨t,w,F,r,r1,r2,d,b,q⟩:=h;obtain⟨p,o,n,m⟩:=jX I 60 r1 f d;obtain⟨bs,l,j,i⟩:=jX I 60 r2 e b;refine eq_dataH o l (je n m) (je j i) g ⟨.bl _,H,I,rfl,?_⟩;rw[pJ 60 60 t w d b];exact q
def sI(g:X.A.units+64<cLine):OpR X (UF .NotEq) (Br G L):=by
 intro a s J H x y v u Q I f e h;obtain⟨t,w,F,r,r1,r2,d,b,q⟩:=h;obtain⟨p,o,n,m⟩:=jX I 60 r1 f d;obtain⟨bs,l,j,i⟩:=jX I 60 r2 e b;refine ne_dataH o l (je n m) (je j i) g ⟨.bl _,H,I,rfl,?_⟩;rw[pJ 60 60 t w d b];exact q
def wI:eV G (Br G B) oEq:=by
 intro Z U b H x y u w f d m t Q a e k;unfold oEq at e;split at e
 ·rename_i h;cases e;exact⟨_,_,_,_,a.r1,a.r2,h.1,h.2,bM k (.bl _)⟩
 ·cases e
def yH:eV G (Br G L) K8:=by
 intro Z U b H x y u w f d m t Q a e k;unfold K8 at e;split at e
 ·rename_i h;cases e;exact⟨_,_,_,_,a.r1,a.r2,h.1,h.2,bM k (.bl _)⟩
 ·cases e
def tells_eq:Tells oEq:=by
 intro x y m t e;unfold oEq at e;split at e<;>first | (cases e;exact⟨_,rfl⟩) | cases e
def nR:Tells K8:=by
 intro x y m t e;unfold K8 at e;split at e<;>first | (cases e;exact⟨_,rfl⟩) | cases e
end
structure GD(Z:Gv)(U:VS.Env)(H:Hp)(Z':Gv)(U':VS.Env)(H':Hp):Prop where
 keep:∀a o,H a=some o->¬bG Z U a->H' a=some o/\¬bG Z' U' a
 GG:∀a,H a≠none->H' a≠none
 ow:∀a,bG Z' U' a->bG Z U a\/H a=none
 pu:∀a,cN Z' U' a->cN Z U a\/bG Z U a\/H a=none
 kept:Kept H H'
theorem GD.refl(Z:Gv)(U:VS.Env)(H:Hp):GD Z U H Z U H:=⟨λa o h n=>⟨h,n⟩,λ_ h=>h,λ_ h=>.inl h,λ_ h=>.inl h,Kept.refl H⟩
theorem GD.none{Z d:Gv}{U g:VS.Env}{H b:Hp}(f:GD Z U H d g b){a:KF}(h:b a=O):H a=O:=by
 cases e:H a with
 |none=>rfl
 |some o=>exact absurd h (f.GG a (by rw[e];exact λz=>nomatch z))
theorem GD.trans{Z d b:Gv}{U U1 e:VS.Env}{H j i:Hp}(f:GD Z U H d U1 j)(g:GD d U1 j b e i):GD Z U H b e i where
 keep:=λa o h n=>let ⟨m,l⟩:=f.keep a o h n;g.keep a o m l
 GG:=λa h=>g.GG a (f.GG a h)
 ow:=λa h=>by
  rcases g.ow a h with h | h
  ·exact f.ow a h
  ·exact .inr (f.none h)
 pu:=λa h=>by
  rcases g.pu a h with h | h | h
  ·exact f.pu a h
  ·rcases f.ow a h with h | h
   ·exact .inr (.inl h)
   ·exact .inr (.inr h)
  ·exact .inr (.inr (f.none h))
 kept:=f.kept.trans g.kept
def GD.same{Z:Gv}{U:VS.Env}{H b:Hp}(e:aK H b):GD Z U H Z U b :=
 ⟨λa o h n=>⟨e a o h,n⟩,λa h z=>h (e.free z),λ_ h=>.inl h,λ_ h=>.inl h,Kept.of e⟩
noncomputable def rj(Z:Gv)(U:VS.Env)(H:Hp):Md->Wf->Prop
 |.fr,F=>F.Nodup/\∀a∈F,H a=O\/bG Z U a
 |_,F=>∀a∈F,H a=O\/cN Z U a\/bG Z U a
theorem rj.back{Z d:Gv}{U e:VS.Env}{H g:Hp}(f:GD Z U H d e g){F:Wf}:∀{m:Md},rj d e g m F->rj Z U H m F
 |.fr,h=>⟨h.1,λa b=>(h.2 a b).elim (λz=>.inl (f.none z)) λz=>(f.ow a z).elim .inr .inl⟩
 |.pu,h=>λa b=>by
  rcases h a b with z | z | z
  ·exact .inl (f.none z)
  ·rcases f.pu a z with z | z | z
   ·exact .inr (.inl z)
   ·exact .inr (.inr z)
   ·exact .inl z
  ·exact(f.ow a z).elim (λz=>.inr (.inr z)) .inl
 |.bo,h=>λa b=>by
  rcases h a b with z | z | z
  ·exact .inl (f.none z)
  ·rcases f.pu a z with z | z | z
   ·exact .inr (.inl z)
   ·exact .inr (.inr z)
   ·exact .inl z
  ·exact(f.ow a z).elim (λz=>.inr (.inr z)) .inl
noncomputable def Nx(G:Gx)(Z:Gv)(U:VS.Env)(H:Hp)(d:VS.Env)(k:L2.St->Hp->Prop):Prop:=∀b e a,SR G b d e a->GD Z U H b d a->k e a
noncomputable def uU(G:Gx)(Z:Gv)(U:VS.Env)(H:Hp)(D:Ends):Out->Prop
 |.nx a=>Nx G Z U H a D.nx
 |.bk a=>Nx G Z U H a D.bk
 |.ct a=>Nx G Z U H a D.ct
 |.rt v a=>∀u b F d e,SR G d a e b->GD Z U H d a b->Rp G b u v.2 F->rj Z U H v.1 F->D.rt u b
noncomputable def tS(G:Gx)(c:Sx):TS:=λD J H=>∃Z U o,SR G Z U J H/\c U=Y o/\uU G Z U H D o
noncomputable def PSV(G:Gx)(X:Cx)(a:Stmt)(c:Sx):Prop:=PS X a (tS G c)
noncomputable def gD(G:Gx)(X:Cx)(a:List Stmt)(c:Sx):Prop:=Io X a (tS G c)
def PS.weak{X:Cx}{e:Stmt}{t b:TS}(h:PS X e t)(w:∀D J H,b D J H->t D J H):PS X e b:=λa s J H D I q=>h a s J H D I (w D J H q)
def Io.weak{X:Cx}{e:List Stmt}{t b:TS}(h:Io X e t)(w:∀D J H,b D J H->t D J H):Io X e b:=λa s J H D I q=>h a s J H D I (w D J H q)
theorem uU.back{G:Gx}{Z i:Gv}{U j:VS.Env}{H l:Hp}{D:Ends}(f:GD Z U H i j l):∀{o:Out},uU G Z U H D o->uU G i j l D o
 |.nx e,h=>λa b d s g=>h a b d s (f.trans g)
 |.bk e,h=>λa b d s g=>h a b d s (f.trans g)
 |.ct e,h=>λa b d s g=>h a b d s (f.trans g)
 |.rt v e,h=>λu d F a b s g r q=>h u d F a b s (f.trans g) r (q.back f)
section
variable{G:Gx}{X:Cx}{st:Stmt}{NI:List Stmt}{c c1 c2:Sx}{pos:Pos}{e:Expr}{ce:Ex}
def aX:gD G X [] cT:=Io.weak Ar λD J H a=>by
 obtain⟨Z,U,o,s,e,k⟩:=a;cases (show Y (Out.nx U)=Y o from e);exact k Z J H s (GD.refl _ _ _)
def af(i:PSV G X st c1)(h:gD G X NI c2):gD G X (st :: NI) (aq c1 c2):=Io.weak (zv i h) λD J H g=>by
 obtain⟨Z,U,o,s,e,k⟩:=g;unfold aq at e;obtain⟨b,e1,e2⟩:=Zz.mp e;refine⟨Z,U,b,s,e1,?_⟩;cases b with
 |nx a=>exact λj l m d f=>⟨j,a,o,d,e2,k.back f⟩
 |rt v a=>cases e2;exact k
 |bk a=>cases e2;exact k
 |ct a=>cases e2;exact k
def bT{t:Expr}{f:Ex}{a b:List Stmt}(i:Iw G X t f)(l:gD G X a c1)(j:gD G X b c2):PSV G X (.If t a b pos) (Hb f c1 c2):=PS.weak (BW i l j) λD J H h=>by
 obtain⟨Z,U,o,s,e,k⟩:=h;unfold Hb at e;obtain⟨⟨m,x⟩,n,e1⟩:=Zz.mp e;obtain⟨g,p,e2⟩:=Zz.mp e1;refine⟨Z,U,m,x,g,s,n,p,λq d=>?_⟩;cases g with
 |true =>
  rw[Zo M]at e2;exact yi ⟨Z,U,o,s.same d,e2,k.back (GD.same d)⟩
 |false =>
  rw[Zm Zb]at e2;exact wY ⟨Z,U,o,s.same d,e2,k.back (GD.same d)⟩
theorem Fp.ret{Z:Gv}{U:VS.Env}{H:Hp}{F:Wf}:∀{m:Md},Fp Z U H m F->rj Z U H (match m with | .bo=>.pu | m=>m) F
 |.fr,f=>⟨f.1,λa b=>.inl (f.2 a b)⟩
 |.pu,f=>λa b=>(f a b).elim .inl λz=>.inr (.inl z)
 |.bo,f=>f
def bu(b:PV G X e ce):PSV G X (.Return (Y e) pos) (eW ce):=PS.weak (pU b) λD J H a=>by
 obtain⟨Z,U,o,s,e,k⟩:=a;unfold eW at e;obtain⟨⟨m,x⟩,d,e1⟩:=Zz.mp e;cases e1;exact⟨Z,U,m,x,s,d,λv f F e1 r1 f1=>k v f F Z J (s.same e1) (GD.same e1) r1 f1.ret⟩
def cE{U:VS.Env}{i j:Nat}{c:Cell}(h:(U.set i O)[j]?=Y (Y c)):j≠i/\U[j]?=Y (Y c):=by
 rw[Vj]at h;split at h
 ·split at h<;>cases h
 ·rename_i n;exact⟨λz=>n z.symm,h⟩
def SR.drop{Z:Gv}{U:VS.Env}{J:L2.St}{H:Hp}(s:SR G Z U J H)(i:Nat):SR G Z (U.set i O) J H :=
 ⟨by rw[Yn];exact s.len,λj c h=>s.rp j c (cE h).2,λj t h=>s.nd j t (cE h).2,λj k t c b a n=>s.sep j k t c (cE b).2 (cE a).2 n⟩
def GD.drop{Z:Gv}{U:VS.Env}{H:Hp}(i:Nat):GD Z U H Z (U.set i O) H :=
 ⟨λa o h n=>⟨h,λ⟨j,t,d,b⟩=>n ⟨j,t,(cE d).2,b⟩⟩,λ_ h=>h,λa ⟨j,t,d,b⟩=>.inl ⟨j,t,(cE d).2,b⟩,λa ⟨j,t,d,b⟩=>.inl ⟨j,t,(cE d).2,b⟩,Kept.refl H⟩
def dz(i:Nat){x:Str}{p:Pos}(u:X.N[i]?=Y x:=by rfl)(l:Ic X.env.scope x:=by first | exact Or.inl M | exact Or.inr (Or.inl M) | exact Or.inr (Or.inr M))(r:K3 x:=by decide)(d:K4 x:=by decide):PSV G X (.Return (Y (.Name x p)) pos) (eY i):=PS.weak (pU (dP u l r d)) λD J H n=>by
 obtain⟨Z,U,o,s,e,k⟩:=n;unfold eY at e;split at e
 ·rename_i t h;obtain⟨v,j,b⟩:=s.rp _ _ h;cases e;exact⟨v,j,k v H (Z i) Z J (s.drop i) (GD.drop i) b ⟨s.nd i t h,λa g=>.inr ⟨i,t,h,g⟩⟩⟩
 ·rename_i t h;obtain⟨v,j,b⟩:=s.rp _ _ h;cases e;refine⟨v,j,k v H (Z i) Z J s (GD.refl _ _ _) b ?_⟩;have f:Fp Z U H .pu (Z i):=λa g=>.inr ⟨i,t,h,g⟩;have f2:=(f.up b).ret;have:(match (VS.up .pu (iw (.pu t))).1 with | .bo=>Md.pu | m=>m)=(VS.up .pu t).1:=by
   show (match (VS.up .pu t).1 with | .bo=>Md.pu | m=>m)=_;unfold VS.up;split<;>(rename_i q;revert q;split<;>simp)
  rw[this]at f2;exact f2
 ·cases e
noncomputable def lK(Z:Gv)(i:Nat)(F:Wf):Gv:=λj=>if j=i then F else Z j
def jc{Z:Gv}{i:Nat}{F:Wf}:lK Z i F i=F:=Zo M
def d9{Z:Gv}{i j:Nat}{F:Wf}(h:j≠i):lK Z i F j=Z j:=Zm h
def ij{U:VS.Env}{i j:Nat}{c a:Cell}(h:(U.set i (Y c))[j]?=Y (Y a)):(j=i/\a=c)\/(j≠i/\U[j]?=Y (Y a)):=by
 rw[Vj]at h;split at h
 ·rename_i e;split at h
  ·exact .inl ⟨e.symm,(Zj (Zj h)).symm⟩
  ·cases h
 ·rename_i n;exact .inr ⟨λz=>n z.symm,h⟩
def SR.put{Z:Gv}{U:VS.Env}{J:L2.St}{H H':Hp}{i:Nat}{v:V}{c:Cell}{F:Wf}(s:SR G Z U J H)(q:i<U.length)(r:Rp G H' v (iw c) F)(p:∀j b,j≠i->U[j]?=Y (Y b)->∀w,Rp G H w (iw b) (Z j)->Rp G H' w (iw b) (Z j))(x:∀t,c=.ow t->F.Nodup)(y:∀t,c=.ow t->∀j b,j≠i->U[j]?=Y (Y b)->∀a∈F,a∉Z j)(u:∀j t,j≠i->U[j]?=Y (Y (.ow t))->∀a∈Z j,a∉F) :
  SR G (lK Z i F) (U.set i (Y c)) (J.set i (Y v)) H' where
 len:=by rw[Yn,Yn];exact s.len
 rp:=λj b h=>by
  rcases ij h with⟨rfl,rfl⟩ | ⟨n,h⟩
  ·exact⟨v,by rw[XA (by rw[← s.len];exact q)],by rw[jc];exact r⟩
  ·obtain⟨w,l,f⟩:=s.rp j b h;exact⟨w,by rw[Ya (YK n)];exact l,by rw[d9 n];exact p j b n h w f⟩
 nd:=λj t h=>by
  rcases ij h with⟨rfl,e⟩ | ⟨n,h⟩
  ·rw[jc];exact x t e.symm
  ·rw[d9 n];exact s.nd j t h
 sep:=λj k t b l f n=>by
  rcases ij l with⟨rfl,e⟩ | ⟨g,o⟩
  ·rcases ij f with⟨rfl,e2⟩ | ⟨d,m⟩
   ·exact absurd M n
   ·rw[jc,d9 d];exact y t e.symm k b d m
  ·rcases ij f with⟨rfl,e2⟩ | ⟨d,m⟩
   ·rw[jc,d9 g];exact u j t g o
   ·rw[d9 g,d9 d];exact s.sep j k t b o m n
def jA{Z:Gv}{U:VS.Env}{i:Nat}{c:Cell}{F:Wf}{a:KF}(h:bG (lK Z i F) (U.set i (Y c)) a):(∃t,c=.ow t/\a∈F)\/bG Z U a:=by
 obtain⟨j,t,d,b⟩:=h;rcases ij d with⟨rfl,e⟩ | ⟨n,d⟩
 ·rw[jc]at b;exact .inl ⟨t,e.symm,b⟩
 ·rw[d9 n]at b;exact .inr ⟨j,t,d,b⟩
def pP{Z:Gv}{U:VS.Env}{i:Nat}{c:Cell}{F:Wf}{a:KF}(h:cN (lK Z i F) (U.set i (Y c)) a):(∃t,c=.pu t/\a∈F)\/cN Z U a:=by
 obtain⟨j,t,d,b⟩:=h;rcases ij d with⟨rfl,e⟩ | ⟨n,d⟩
 ·rw[jc]at b;exact .inl ⟨t,e.symm,b⟩
 ·rw[d9 n]at b;exact .inr ⟨j,t,d,b⟩
def SR.Km{Z:Gv}{U:VS.Env}{J:L2.St}{H:Hp}(s:SR G Z U J H){a:KF}(h:bG Z U a)(g:cN Z U a):False:=by
 obtain⟨j,t,d,f⟩:=h;obtain⟨k,u,b,i⟩:=g;have n:j≠k:=λe=>by subst e;rw[d]at b;cases b
 exact s.sep j k t _ d b n a f i
def SR.val{Z:Gv}{U:VS.Env}{J:L2.St}{H y:Hp}{i:Nat}{v:V}{t:T}{m:Md}{F:Wf}{c:Cell}(s:SR G Z U J H)(C:i<U.length)(e:aK H y)(r:Rp G y v t F)(f:Fp Z U H m F)(p:(c=.pu t/\m ≠ .bo)\/(c=.ow t/\m=.fr)):SR G (lK Z i F) (U.set i (Y c)) (J.set i (Y v)) y/\GD Z U H (lK Z i F) (U.set i (Y c)) y:=by
 have GG:∀{a},H a=O->∀j x,U[j]?=Y (Y x)->a∉Z j:=λ{a} h j x g b=>by
  obtain⟨w,_,q⟩:=s.rp j x g;exact Gw.oe (q.GG a b) h
 have ct:iw c=t:=by rcases p with⟨rfl,_⟩ | ⟨rfl,_⟩<;>rfl
 have A:∀a∈F,H a=O\/cN Z U a:=λa b=>by
  rcases p with⟨_,n⟩ | ⟨_,n⟩
  ·exact f.pu n a b
  ·rw[n]at f;exact .inl (f.2 a b)
 constructor
 ·refine s.put C (by rw[ct];exact r) (λj x n g w q=>q.same e) (λu d=>?_) (λu d j x n g a b=>?_) λj u n g a b D=>?_
  ·rcases p with⟨h,_⟩ | ⟨_,h⟩
   ·rw[h]at d;cases d
   ·rw[h]at f;exact f.1
  ·rcases p with⟨h,_⟩ | ⟨_,h⟩
   ·rw[h]at d;cases d
   ·rw[h]at f;exact GG (f.2 a b) j x g
  ·rcases A a D with z | z
   ·exact GG z j _ g b
   ·exact s.Km ⟨j,u,g,b⟩ z
 ·refine⟨λa o h n=>⟨e a o h,λz=>?_⟩,λa h z=>h (e.free z),λa h=>?_,λa h=>?_,Kept.of e⟩
  ·rcases jA z with⟨u,d,b⟩ | z
   ·rcases p with⟨l,_⟩ | ⟨_,l⟩
    ·rw[l]at d;cases d
    ·rw[l]at f;rw[f.2 a b]at h;cases h
   ·exact n z
  ·rcases jA h with⟨u,d,b⟩ | z
   ·rcases p with⟨l,_⟩ | ⟨_,l⟩
    ·rw[l]at d;cases d
    ·rw[l]at f;exact .inr (f.2 a b)
   ·exact .inl z
  ·rcases pP h with⟨u,d,b⟩ | z
   ·exact(A a b).elim (λz=>.inr (.inr z)) .inl
   ·exact .inl z
def eu{i:Nat}{x:Str}{a:Pos}(q:PV G X e ce)(r:X.N.Nodup)(n:X.N[i]?=Y x:=by rfl)(g:Loc X.env.scope x:=by first | exact Or.inl M | exact Or.inr M)(h:swapsWith e (Y (.Name x a)) pos.line X.env=pure B:=by rfl)(p:X.fn x=L\/X.env.scope.names.lookup x=Y .local:=by first | exact .inl M | exact .inr M) :
  PSV G X (.Assign [.Name x a] e pos) (iC i ce):=PS.weak (kK r n g q h p) λD J H j=>by
 obtain⟨Z,U,o,s,e,k⟩:=j;unfold iC at e;obtain⟨⟨m,t⟩,w,e1⟩:=Zz.mp e;obtain⟨c,eC,e2⟩:=Zz.mp e1;split at e2
 ·rename_i l;cases e2;refine⟨Z,U,m,t,s,w,λv z F y b u=>?_⟩;obtain⟨f,d⟩:=s.val (c:=c) l y b u (by
   unfold cellOf at eC;cases m with
   |fr =>
    simp only[Option.some.injEq]at eC;split at eC
    ·exact .inr ⟨eC.symm,rfl⟩
    ·exact .inl ⟨eC.symm,by decide⟩
   |pu=>cases eC;exact .inl ⟨rfl,by decide⟩
   |bo=>cases eC)
  exact k _ _ z f d
 ·cases e2
def aD{i:Nat}{x:Str}{a:Pos}(r:PV G X e ce)(u:X.N.Nodup)(p:X.N[i]?=Y x:=by rfl)(g:Loc X.env.scope x:=by first | exact Or.inl M | exact Or.inr M)(h:swapsWith e (Y (.Name x a)) pos.line X.env=pure B:=by rfl)(q:X.fn x=L\/X.env.scope.names.lookup x=Y .local:=by first | exact .inl M | exact .inr M) :
  PSV G X (.Assign [.Name x a] e pos) (aQ i ce):=PS.weak (kK u p g r h q) λD J H j=>by
 obtain⟨Z,U,o,s,e,k⟩:=j;unfold aQ at e;obtain⟨⟨m,t⟩,y,e1⟩:=Zz.mp e;split at e1
 ·cases e1
 ·rename_i l;split at e1
  ·rename_i n;cases e1;refine⟨Z,U,m,t,s,y,λv A F z b w=>?_⟩;obtain⟨f,d⟩:=s.val (c:=.pu t) n z b w (.inl ⟨rfl,l⟩);exact k _ _ A f d
  ·cases e1
def SR.frz{Z:Gv}{U:VS.Env}{J:L2.St}{H:Hp}{i:Nat}{t:T}(s:SR G Z U J H)(h:U[i]?=Y (Y (.ow t))):SR G Z (U.set i (Y (.pu t))) J H/\GD Z U H Z (U.set i (Y (.pu t))) H:=by
 have back:∀{j c},(U.set i (Y (.pu t)))[j]?=Y (Y c)->∃l,U[j]?=Y (Y l)/\iw l=iw c/\∀u,c=.ow u->l=.ow u:=λ{j c} g=>by
  rcases ij g with⟨rfl,rfl⟩ | ⟨n,g⟩
  ·exact⟨.ow t,h,rfl,λu p=>nomatch p⟩
  ·exact⟨c,g,rfl,λu p=>p⟩
 refine⟨⟨by rw[Yn];exact s.len,λj c g=>?_,λj u g=>?_,λj k u c b d n=>?_⟩,⟨λa o r n=>⟨r,λ⟨j,u,b,d⟩=>?_⟩,λ_ h=>h,λa ⟨j,u,b,d⟩=>?_,λa ⟨j,u,b,d⟩=>?_,Kept.refl H⟩⟩
 ·obtain⟨l,b,d,_⟩:=back g;obtain⟨v,f,x⟩:=s.rp j l b;exact⟨v,f,by rw[← d];exact x⟩
 ·obtain⟨l,b,_,w⟩:=back g;rw[w u M]at b;exact s.nd j u b
 ·obtain⟨c1,f,_,m⟩:=back b;obtain⟨c2,q,_,_⟩:=back d;rw[m u M]at f;exact s.sep j k u c2 f q n
 ·obtain⟨c1,f,_,m⟩:=back b;rw[m u M]at f;exact n ⟨j,u,f,d⟩
 ·obtain⟨c1,f,_,m⟩:=back b;rw[m u M]at f;exact .inl ⟨j,u,f,d⟩
 ·rcases ij b with⟨rfl,_⟩ | ⟨n,b⟩
  ·exact .inr (.inl ⟨j,t,h,d⟩)
  ·exact .inl ⟨j,u,b,d⟩
def fQ(i:Nat)(h:gD G X NI c):gD G X NI (aq (om i) c):=Io.weak h λD J H f=>by
 obtain⟨Z,U,o,s,e,k⟩:=f;unfold aq at e;obtain⟨g,e1,e2⟩:=Zz.mp e;unfold om at e1;split at e1
 ·rename_i t d;cases e1;obtain⟨b,a⟩:=s.frz d;exact⟨Z,_,o,b,e2,k.back a⟩
 ·cases e1;exact⟨Z,U,o,s,e2,k⟩
 ·cases e1
end
section
variable{G:Gx}{X:Cx}{st:Stmt}{NI:List Stmt}{c c1 c2:Sx}{pos:Pos}{e:Expr}{es:List Expr}{ce:Ex}{cs:GY}
structure Chg(G:Gx)(H:Hp)(v:V)(F:Wf)(t':T)(H2:Hp)(F':Wf):Prop where
 kept:Kept H H2
 keep:∀b o,b∉F->H b=some o->H2 b=some o
 GG:∀b,H b≠none->H2 b≠none
 rp:Rp G H2 v t' F'
 nd:F'.Nodup
 sub:∀a∈F',a∈F\/H a=none
def SR.mut{Z:Gv}{U:VS.Env}{J:L2.St}{H x:Hp}{i:Nat}{v:V}{t r:T}{p:Wf}(s:SR G Z U J H)(m:U[i]?=Y (Y (.ow t)))(A:J[i]?=Y (Y v))(g:Chg G H v (Z i) r x p) :
  SR G (lK Z i p) (U.set i (Y (.ow r))) J x/\GD Z U H (lK Z i p) (U.set i (Y (.ow r))) x:=by
 have D:i<U.length:=(ZW.mp m).1;have off:∀j d,j≠i->U[j]?=Y (Y d)->∀a∈Z j,a∉Z i:=λj d n f a b l=>s.sep i j t d m f (YK n) a l b;have es:J.set i (Y v)=J:=by
  obtain⟨h,e⟩:=ZW.mp A;rw[← e];exact WK h
 have new:∀a∈p,∀j d,j≠i->U[j]?=Y (Y d)->a∉Z j:=λa b j d n f l=>by
  rcases g.sub a b with z | z
  ·exact off j d n f a l z
  ·obtain⟨w,_,q⟩:=s.rp j d f;exact Gw.oe (q.GG a l) z
 constructor
 ·have:=s.put (c:=.ow r) (F:=p) (H':=x) (v:=v) D g.rp (λj d n f w q=>q.keep g.kept λa b o C=>g.keep a o (off j d n f a b) C) (λ_ _=>g.nd) (λu y j d n f a b=>new a b j d n f) λj u n f a b l=>new a l j _ n f b;rw[es]at this;exact this
 ·refine⟨λa o h n=>⟨g.keep a o (λz=>n ⟨i,t,m,z⟩) h,λz=>?_⟩,g.GG,λa h=>?_,λa h=>?_,g.kept⟩
  ·rcases jA z with⟨u,_,b⟩ | z
   ·rcases g.sub a b with z | z
    ·exact n ⟨i,t,m,z⟩
    ·rw[z]at h;cases h
   ·exact n z
  ·rcases jA h with⟨u,_,b⟩ | z
   ·rcases g.sub a b with z | z
    ·exact .inl ⟨i,t,m,z⟩
    ·exact .inr z
   ·exact .inl z
  ·rcases pP h with⟨u,y,b⟩ | z
   ·cases y
   ·exact .inl z
noncomputable def uk(G:Gx)(r:V->List V->Hp->VK->Prop)(f:T->Va->Option (T×Val)):Prop:=∀(Z:Gv)(U:VS.Env)(H g:Hp)(v:V)(t b:T)(F:Wf)(l:Va)(a:List V)(h:X8)(x:Val)(Q:VK),
 Rp G H v t F->F.Nodup->Args G Z U H g l a h->f t l=Y (b,x)->(∀u d i,Chg G H v F b d i->Q u d)->r v a g Q
def se{q m:String}{a x:Str}{r:V->List V->Hp->VK->Prop}{f:T->Va->Option (T×Val)}{b d j:Pos}(i:Nat)(pa:PlainAttrs q)(h:Slot q a m)(MB:typeOf (.builtin m)=pure (.type "method_descriptor"))(hm:O0 X m r)(ok:uk G r f)(hT:∀H v t F l z,Rp G H v t F->f t l=Y z->Ln G.K q v H)(ha:Hr G X (e :: es) cs)(hK:X.K=G.K:=by rfl)(hN:X.N[i]?=Y x:=by rfl)(hv:Ic X.env.scope x:=by first | exact Or.inl M | exact Or.inr (Or.inl M) | exact Or.inr (Or.inr M))(hd:K3 x:=by decide)(p:K4 x:=by decide)(GF:XAB (.Name x j) a X.env (eval (.Name x j) X.env)=eval (.Name x j) X.env:=by rfl)(GU:((backTo d (Pi (e :: es) X.env)).all (λx=>!x.1)&&(backToKw d (SL [] X.env)).all (λx=>x.1.isSome)
   && decide ((e :: es).length+([]:List Keyword).length+(if ([]:List Keyword).isEmpty then 0 else 1)<30))=L:=by rfl)(Gz:(b.endLine==d.line)=L:=by rfl)(hs:K1 e es X:=by rfl)(Gy:K2 d es X:=by rfl)(IV:swapsWith (.Call (.Attribute (.Name x j) a b) (e :: es) [] d) O pos.line X.env=pure B:=by rfl) :
  PSV G X (.Expr (.Call (.Attribute (.Name x j) a b) (e :: es) [] d) pos) (sX (kH i [] f cs)) :=
 PS.weak (jS (ou pa h MB hm (dP hN hv hd p) ha GF GU Gz hs Gy) IV) λD J H hq=>by
  obtain⟨Z,U,o,s,e,k⟩:=hq;unfold sX kH at e;obtain⟨⟨w,U'⟩,e1,e2⟩:=Zy.mp e;split at e1
  ·rename_i t n;obtain⟨ks,ek,e3⟩:=Zz.mp e1;cases (show Y ([]:List Ky)=Y ks from ek);obtain⟨l,el,e4⟩:=Zz.mp e3;obtain⟨⟨y,x2⟩,e5,e6⟩:=Zy.mp e4;cases e6;cases e2;obtain⟨v,C,A⟩:=s.rp _ _ n;have E:f t l=Y (y,w):=e5;refine⟨v,C,by rw[hK];exact hT H v t _ l _ A E,Z,U,l,s,el,λR H' Fs q1 q2 S=>?_⟩;refine ok Z U H H' v t y (Z i) l R Fs w _ A (s.nd i t n) ⟨q1,q2,S⟩ E λu H2 F' g=>?_;obtain⟨Q,P⟩:=s.mut n C g;exact k _ J H2 Q P
  ·cases e1
theorem Chg.upd{H d:Hp}{v:V}{F:Wf}{a:KF}{o:HO}{t':T}{f:Wf}(e:aK H d)(m:a∈F)(l:Gw (d a))(r:Rp G (upd d a o) v t' f)(j:f.Nodup)(g:∀a∈f,a∈F\/H a=O):Chg G H v F t' (upd d a o) f :=
 ⟨(Kept.of e).trans (Kept.upd (.inl l)),λb i hb h=>by rw[aF (λz=>hb (by rw[z];exact m))];exact e b i h,
  λb h z=>by
   by_cases q:b=a
   ·subst q;rw[aw]at z;cases z
   ·rw[aF q]at z;exact h (e.free z),r,j,g⟩
def RpL.off{H:Hp}{f:List V}{g:V1}{d:X8}{a:KF}{o:HO}(r:RpL G H f g d)(j:Gw (H a))(h:a∉d.flatten):RpL G (upd H a o) f g d :=
 r.keep (Kept.upd (.inl j)) λb hb l i=>by rw[aF (λz=>h (by rw[← z];exact hb))];exact i
def km{v:Val}{t:T}(h:fit v=Y t):v=(.fr,t):=by
 obtain⟨m,x⟩:=v;unfold fit at h;cases m<;>first | (cases h;rfl) | cases h
def kZ:uk G pd aT:=by
 intro Z U H j v t R F l q N x Q r nd A e k;unfold aT at e;split at e
 ·rename_i P y;obtain⟨z,D,e1⟩:=Zz.mp e;have E:=km D;subst E;split at e1
  ·rename_i u;cases e1;obtain⟨a,n,Gs,rfl,rfl,i,g⟩:=r.lst_inv;obtain⟨w,f,rfl,rfl,J⟩:=(show RpL G j q [z] N from A.rp).one;have d:Fp Z U H .fr f:=A.fp.each 0 _ _ M M;have p:j a=Y (.lst n):=A.same a _ i;have h:Gw (j a):=by rw[p];exact True.intro
   have na:a∉Gs.flatten:=(ZZ.mp nd).1;have nw:a∉f:=λz=>by rw[d.2 a z]at i;cases i
   refine⟨a,n,w,rfl,rfl,p,by rw[g.len.1];exact u,k _ _ (a :: (Gs++[f]).flatten) ?_⟩;have off:∀b∈Gs.flatten,b∉f:=λb hb hw=>Gw.oe (g.GG b hb) (d.2 b hw);refine Chg.upd A.same Zu h (.lst aw (((g.same A.same).off h na).append (.cons (J.keep (Kept.upd (.inl h)) λb hb o s=>by rw[aF (λz=>nw (by rw[← z];exact hb))];exact s) .nil))) ?_ ?_
   ·rw[Yw];refine ZZ.mpr ⟨λm=>?_,ZM.mpr ⟨(ZZ.mp nd).2,by simpa using d.1,λb hb c C z=>?_⟩⟩
    ·rcases Zi.mp m with m | m
     ·exact na m
     ·exact nw (by simpa using m)
    ·subst z;exact off b hb (by simpa using C)
   ·intro b hb;rcases Zh.mp hb with rfl | hb
    ·exact .inl Zu
    ·rw[Yw]at hb;rcases Zi.mp hb with hb | hb
     ·exact .inl (Zv _ hb)
     ·exact .inr (d.2 b (by simpa using hb))
  ·cases e1
 ·cases e
def mK{H:Hp}{v:V}{b:V1}{F:Wf}(r:Rp G H v (.lst b) F):Ln G.K "list" v H:=by
 obtain⟨a,f,Gs,rfl,rfl,d,g⟩:=r.lst_inv;exact .inl ⟨rfl,_,GL.of d⟩
def ll{H:Hp}{v:V}{t:T}{F:Wf}{l:Va}{z:T×Val}(r:Rp G H v t F)(h:aT t l=Y z):Ln G.K "list" v H:=by
 unfold aT at h;split at h
 ·exact mK r
 ·cases h
def qE{H:Hp}{v:V}{t:T}{F:Wf}{l:Va}{z:T×Val}(r:Rp G H v t F)(h:fj t l=Y z):Ln G.K "list" v H:=by
 unfold fj at h;split at h
 ·exact mK r
 ·cases h
def vB:uk G vm fj:=by
 intro Z U H o v t t' F l D S x Q r nd A e k;unfold fj at e;split at e
 ·rename_i ts y;obtain⟨z,N,e1⟩:=Zz.mp e;have P:=km N;subst P;split at e1
  ·rename_i _ C;split at e1
   ·rename_i E;cases e1;obtain⟨a,p,Gs,rfl,rfl,j,h⟩:=r.lst_inv;obtain⟨w,u,rfl,rfl,R⟩:=(show RpL G o D [.lst C] S from A.rp).one;have g:Fp Z U H .fr u:=A.fp.each 0 _ _ M M;have s:o a=Y (.lst p):=A.same a _ j;have i:Gw (o a):=by rw[s];exact True.intro
    have na:a∉Gs.flatten:=(ZZ.mp nd).1;have nw:a∉u:=λz=>by rw[g.2 a z]at j;cases j
    obtain⟨b,ws,n,rfl,rfl,hb,q⟩:=R.lst_inv;have nb:a∉n.flatten:=λm=>nw (Zv _ m);refine⟨a,b,p,ws,rfl,rfl,s,hb,by rw[h.len.1,q.len.1];exact E,k _ _ (a :: (Gs++n).flatten) ?_⟩;have off:∀f∈Gs.flatten,f∉n.flatten:=λf d hw=>Gw.oe (h.GG f d) (g.2 f (Zv _ hw));refine Chg.upd A.same Zu i (.lst aw (((h.same A.same).off i na).append (q.off i nb))) ?_ ?_
    ·rw[Yw];refine ZZ.mpr ⟨λm=>?_,ZM.mpr ⟨(ZZ.mp nd).2,(ZZ.mp g.1).2,λb hb c J z=>?_⟩⟩
     ·rcases Zi.mp m with m | m
      ·exact na m
      ·exact nb m
     ·subst z;exact off b hb J
    ·intro f d;rcases Zh.mp d with rfl | d
     ·exact .inl Zu
     ·rw[Yw]at d;rcases Zi.mp d with d | d
      ·exact .inl (Zv _ d)
      ·exact .inr (g.2 f (Zv _ d))
   ·cases e1
  ·cases e1
 ·cases e
end
structure KS(G:Gx)(Jq:It)(l:V1)(C:Wf)(H:Hp):Prop where
 run:∀H2,Kept H H2->(∀a∈C,∀o,H a=some o->H2 a=some o) →
  (∀(i:Nat)(t:T),l[i]?=some t->Jq.go i H2/\∀x H3,Jq.O5 i H2 x H3->aK H2 H3/\∃F,Rp G H3 x t F/\∀a∈F,a∈C\/H2 a=none)/\∀(i:Nat),l.length<=i->Jq.stop i H2
 GG:∀a∈C,H a≠none
noncomputable def T8(Z:Gv)(U:VS.Env)(H:Hp)(m:Md)(C:Wf):Prop:=∀a∈C,H a=O\/cN Z U a\/(m=.bo/\bG Z U a)
theorem Fp.c{Z:Gv}{U:VS.Env}{H:Hp}{F:Wf}:∀{m:Md},Fp Z U H m F->T8 Z U H m F
 |.fr,f=>λa b=>.inl (f.2 a b)
 |.pu,f=>λa b=>(f a b).imp id .inl
 |.bo,f=>λa b=>(f a b).imp id λz=>z.imp id λz=>⟨rfl,z⟩
noncomputable def tI(G:Gx)(c:Jb):TI:=λJ H R=>∃Z U m l,SR G Z U J H/\c U=Y (m,l)/\∀b a C,aK H a->KS G b l C a->T8 Z U H m C->R b a
noncomputable def OX(G:Gx)(X:Cx)(b a:Expr)(c:Jb):Prop:=PI X b a (tI G c)
def PI.weak{X:Cx}{b e:Expr}{t d:TI}(h:PI X b e t)(w:∀J H Q,d J H Q->t J H Q):PI X b e d:=λa s J H Q I q=>h a s J H Q I (w J H Q q)
section
variable{G:Gx}{X:Cx}{tg e a b:Expr}{es:List Expr}{ca cb:Ex}{cs:GY}{pos p:Pos}
def yB(H:Hp)(d:Int)(n:Nat):KS G (PR d n) (rng d n) [] H:=by
 refine⟨λq _ _=>⟨λi t h=>?_,λi h=>(by simpa[rng] using h:n<=i)⟩,λa h=>by simp at h⟩;unfold rng at h;rw[ZV]at h;obtain⟨k,g,e⟩:=Zy.mp h;obtain⟨f,e2⟩:=ZW.mp g;rw[ZF]at f;have j:i=k:=by simpa using e2
 subst j;refine⟨f,λx o ⟨m,l⟩=>?_⟩;subst m;subst l;rw[← e];exact⟨aK.refl _,[],.int _,λa h=>by simp at h⟩
def dR(u:PV G X a ca)(t:Gl X "range")(r:X.mg "range" = O)(o:K1 a [] X:=by rfl)(z:Pi [a] X.env=[(B,eval a X.env)]:=by rfl):OX G X tg (.Call (.Name "range" p) [a] [] pos) (cH ca) :=
 PI.weak (oq t r (cX u fI o) z) λJ H R q=>by
  obtain⟨Z,U,m,l,s,e,k⟩:=q;unfold cH at e;obtain⟨⟨n,x⟩,w,e1⟩:=Zz.mp e;obtain⟨j,f,e2⟩:=Zz.mp e1;split at e2
  ·rename_i d;cases e2;refine⟨Z,U,n,x,s,w,λv g F y i C=>?_⟩;cases x with
   |int A =>
    cases f;refine⟨j,by rw[i.int_inv],?_,?_,k _ g [] y (yB g 0 j.toNat) λa h=>by simp at h⟩
    ·have:=d.1;unfold M8 at this;lia
    ·have:=d.2;unfold M8 at this;lia
   |_=>cases f
  ·cases e2
def c8{d:X8}{i:Nat}{F:Wf}(h:d[i]?=Y F){a:KF}(f:a∈F):a∈d.flatten:=(bZ h).subset f
def AX{H:Hp}{a:KF}{d:List V}{f:V1}{j:X8}(K:Wy)(l:H a=Y (.lst d))(r:RpL G H d f j):KS G (R7 K a) f (a :: j.flatten) H:=by
 refine⟨λn k c=>?_,λb hb=>?_⟩
 ·have g:n a=Y (.lst d):=c a Zu _ l;have r2:RpL G n d f j:=r.keep k λb hb o q=>c b (Zv _ hb) o q;refine⟨λi t h=>?_,λi h=>⟨d,GL.of g,by rw[r.len.1];exact h⟩⟩;obtain⟨v,F,m,u,s⟩:=r2.get i h;refine⟨⟨d,v,GL.of g,m⟩,λx w ⟨e1,e2⟩=>?_⟩;subst e1;have ex:=e2 d (GL.of g);rw[m]at ex;cases ex;exact⟨aK.refl _,F,s,λb hb=>.inl (Zv _ (c8 u hb))⟩
 ·rcases Zh.mp hb with rfl | hb
  ·rw[l];exact λz=>nomatch z
  ·exact Gw.oe (r.GG b hb)
def Dc{H:Hp}{a:KF}{d:List V}{f:V1}{j:X8}(K:Wy)(q:H a=Y (.tup d))(r:RpL G H d f j):KS G (R6 K a) f j.flatten H:=by
 refine⟨λm k c=>?_,λb hb=>Gw.oe (r.GG b hb)⟩;have g:m a=Y (.tup d):=k.tup a _ q;have r2:RpL G m d f j:=r.keep k λb hb o n=>c b hb o n;refine⟨λi t h=>?_,λi h=>⟨d,Hi.of g,by rw[r.len.1];exact h⟩⟩;obtain⟨v,F,l,u,s⟩:=r2.get i h;refine⟨⟨d,v,Hi.of g,l⟩,λx w ⟨e1,e2⟩=>?_⟩;subst e1;have ex:=e2 d (Hi.of g);rw[l]at ex;cases ex;exact⟨aK.refl _,F,s,λb hb=>.inl (c8 u hb)⟩
noncomputable def tG(G:Gx)(g:Tg):TG:=λv J H Q=>∃Z U t F d,SR G Z U J H/\Rp G H v t F/\(∀a∈F,¬bG Z U a)/\g t U=Y d ∧
 ∀f h,SR G f d h H->(∀a,bG f d a->bG Z U a)->(∀a,cN f d a->cN Z U a\/a∈F)->Q h H
noncomputable def OY(G:Gx)(X:Cx)(e:Expr)(g:Tg):Prop:=PG X e (tG G g)
def PG.weak{X:Cx}{e:Expr}{t f:TG}(h:PG X e t)(w:∀v J H Q,f v J H Q->t v J H Q):PG X e f:=λd s J H v u Q I r q=>h d s J H v u Q I r (w v J H Q q)
def br(i:Nat){x:Str}(C:X.N.Nodup)(y:X.N[i]?=Y x:=by rfl)(l:Loc X.env.scope x:=by first | exact Or.inl M | exact Or.inr M)(A:X.fn x=L\/X.env.scope.names.lookup x=Y .local:=by first | exact .inl M | exact .inr rfl):OY G X (.Name x pos) (bF i):=PG.weak (vc C y l A) λv J H Q m=>by
 obtain⟨Z,U,t,F,P,s,r,no,e,k⟩:=m;unfold bF at e;split at e
 ·rename_i o;cases e;refine k (lK Z i F) (J.set i (Y v)) (s.put (c:=.pu t) o r (λj E n g w q=>q) (λu d=>nomatch d) (λu d=>nomatch d) λj u n g a f D=>no a D ⟨j,u,g,f⟩) (λa h=>?_) λa h=>?_
  ·rcases jA h with⟨u,d,_⟩ | z
   ·cases d
   ·exact z
  ·rcases pP h with⟨u,d,f⟩ | z
   ·exact .inr f
   ·exact .inl z
 ·cases e
def oC{tgt:Tg}{body:Sx}{l:V1}{U:VS.Env}{i:Nat}{t:T}(h:l[i]?=Y t):l.drop i=t :: l.drop (i+1):=by
 obtain⟨d,e⟩:=ZW.mp h;rw[← e];exact YF d
def CT{ci:Jb}{g:Tg}{M:Sx}{D:Ends}{J:L2.St}{H:Hp}(hq:tS G (ig g ci M) D J H):EF (tI G ci) (tG G g) (tS G M) D J H:=by
 obtain⟨Z,U,o,s,e,k⟩:=hq;unfold ig at e;obtain⟨⟨m,l⟩,el,e1⟩:=Zz.mp e;dsimp only at e1;split at e1
 ·rename_i hm;have Hz:m ≠ .bo:=λz=>by rw[z]at hm;cases hm
  refine⟨Z,U,m,l,s,el,λJq S C e2 ok fc=>?_⟩;have cno:∀a∈C,¬bG Z U a:=λa A z=>by
   rcases fc a A with q | q | q
   ·exact Gw.oe (s.GQ z) q
   ·exact s.Km z q
   ·exact Hz q.1
  refine⟨λi n J2 R=>n=l.length-i/\∃Q d,SR G Q d J2 R/\GD Z U H Q d R/\Kept S R/\(∀a∈C,∀o,S a=Y o->R a=Y o/\¬bG Q d a)/\forL g M (l.drop i) d=Y o,
   ⟨l.length-0,rfl,Z,U,s.same e2,GD.same e2,Kept.refl _,λa A y E=>⟨E,cno a A⟩,by rw[X1];exact e1⟩,?_⟩
  rintro i n J2 R ⟨rfl,Q,d,s2,f2,kp,con,e3⟩;obtain⟨go,stop⟩:=ok.run R kp λa A y E=>(con a A y E).1;cases hit:l[i]? with
  |none =>
   have hl:l.length<=i:=YU.mp hit;left;rw[Xi hl]at e3;cases (show Y (Out.nx d)=Y o from e3);exact⟨stop i hl,k Q J2 R s2 f2⟩
  |some t =>
   have hl:i<l.length:=(ZW.mp hit).1;right;obtain⟨g1,y1⟩:=go i t hit;rw[oC (tgt:=g) (body:=M) (U:=d) hit]at e3;obtain⟨U3,e4,e5⟩:=Zz.mp (show (g t d).bind (λU1=>(M U1).bind λo=>match o with
    |.nx d=>forL g M (l.drop (i+1)) d
    |.ct d=>forL g M (l.drop (i+1)) d
    |.bk d=>Y (.nx d)
    |.rt v d=>Y (.rt v d))=Y o from e3)
   obtain⟨y,e6,e7⟩:=Zz.mp e5;refine⟨g1,λN r=>∃j f,SR G j f N r/\GD Z U H j f r/\Kept S r/\(∀a∈C,∀o,S a=Y o->r a=Y o/\¬bG j f a)/\forL g M (l.drop (i+1)) f=Y o,λN r ⟨j,f,q⟩=>⟨l.length-(i+1),by omega,rfl,j,f,q⟩,λx H3 yl=>?_⟩;obtain⟨e8,F,rF,hF⟩:=y1 x H3 yl;have s3:=s2.same e8;have UT:∀a∈F,¬bG Q d a:=λa A z=>by
    rcases hF a A with q | q
    ·have Hy:=ok.GG a q;cases E:S a with
     |none=>exact Hy E
     |some UQ=>exact(con a q UQ E).2 z
    ·exact Gw.oe (s2.GQ z) q
   refine⟨Q,d,t,F,U3,s3,rF,UT,e4,λZ3 J3 s4 o3 p3=>?_⟩;have f3:GD Z U H Z3 U3 H3:=⟨λa y h n=>let ⟨h1,n1⟩:=f2.keep a y h n;⟨e8 a y h1,λz=>n1 (o3 a z)⟩,λa h z=>f2.GG a h (e8.free z),λa h=>f2.ow a (o3 a h),λa h=>by
    rcases p3 a h with h | h
    ·exact f2.pu a h
    ·rcases hF a h with q | q
     ·rcases fc a q with q | q | q
      ·exact .inr (.inr q)
      ·exact .inl q
      ·exact .inr (.inl q.2)
     ·exact .inr (.inr (f2.none q)),f2.kept.trans (Kept.of e8)⟩
   have next:∀{j f r},GD Z3 U3 H3 j f r->Kept S r/\∀a∈C,∀o,S a=Y o->r a=Y o/\¬bG j f a:=λw =>
    ⟨(kp.trans (Kept.of e8)).trans w.kept,λa A y E=>by
     obtain⟨h1,n1⟩:=con a A y E;exact w.keep a y (e8 a y h1) λz=>n1 (o3 a z)⟩
   refine⟨Z3,U3,y,s4,e6,?_⟩;cases y with
   |nx f=>exact λj N r P w=>⟨j,f,P,f3.trans w,(next w).1,(next w).2,e7⟩
   |ct f=>exact λj N r P w=>⟨j,f,P,f3.trans w,(next w).1,(next w).2,e7⟩
   |bk f =>
    cases (show Y (Out.nx f)=Y o from e7);exact λj N r P w=>k j N r P (f3.trans w)
   |rt v f =>
    cases (show Y (Out.rt v f)=Y o from e7);exact λu r F4 j N P w r5 q5=>k u r F4 j N P (f3.trans w) r5 (q5.back f3)
 ·cases e1
def d8{d:Expr}{f:List Stmt}{h:Jb}{g:Tg}{i:Sx}(m:PassesOwn (IR X.prog X.w) X.A X.env X.xe)(q:X.calm=L)(n:OX G X tg d h)(o:OY G X tg g)(r:gD G X f i)(j:∀x,XAC d X.env x=pure x:=by intro _;rfl):PSV G X (.For tg d f [] pos) (ig g h i):=PS.weak (Ct m q n o r j) λD J H l=>CT l
end
noncomputable def FQ(H:Hp)(b:X8):Md->Wf->Prop
 |.fr,F=>F.Nodup/\∀a∈F,H a=O
 |_,F=>∀a∈F,H a=O\/a∈b.flatten
noncomputable def Jc(G:Gx)(g:Fn):Sp:=λe H Q _=>∃b d m r,RpL G H e b d/\g b=Y (m,r)/\∀v a F,aK H a->Rp G a v r F->FQ H d m F->Q v a
section
variable{G:Gx}{X:Cx}{k:Nat}{f:KF}{fd:Pv}{ps:List Str}{x:Str}{p pos:Pos}{e:Expr}{es:List Expr}{cs:GY}{g:Fn}
def call_of{J:L2.St}{H:Hp}{Q:VK}{E:XK}(h:tE G (b6 g cs) J H Q):Cd (Jc G g) [] E (NH G cs) J H Q:=by
 obtain⟨Z,U,m,t,s,e,u⟩:=h;unfold b6 at e;obtain⟨l,S,e1⟩:=Zz.mp e;obtain⟨⟨n,r⟩,R,e2⟩:=Zz.mp e1;refine⟨Z,U,l,s,S,λM y D b P N=>?_⟩;have A:Args G Z U H y l M D:=⟨b,P,N⟩
 have i:=N.join A.len;show Jc G g (M++[]) y Q E;rw[ZK];refine⟨trees l,D,n,r,P,R,λv C F q o j=>?_⟩;have wide:(∀a∈F,y a=O\/a∈D.flatten)->Fp Z U H ((Md.pu).join (cn l)) F:=λh=>by
  cases w:cn l with
  |fr =>
   rw[w]at i;exact λa d=>.inl ((h a d).elim b.free (i.2 a))
  |pu =>
   rw[w]at i;exact λa d=>(h a d).elim (λz=>.inl (b.free z)) (i a)
  |bo =>
   rw[w]at i;exact λa d=>(h a d).elim (λz=>.inl (b.free z)) (i a)
 cases n with
 |fr =>
  cases e2;exact u v C F (b.trans q) o ⟨j.1,λa d=>b.free (j.2 a d)⟩
 |pu =>
  cases e2;exact u v C F (b.trans q) o (wide j)
 |bo =>
  cases e2;exact u v C F (b.trans q) o (wide j)
def AK(F:FnOk X.prog X.w X.K X.mg X.base G8 k f fd ps (Jc G g))(b:Gn k X.A)(j:Gl X x)(d:X.mg x=Y (.ref f))(i:PySem.W.keepIn X.K (.ref f)=L)(m:Binds X.K fd ps [])(n:Hr G X (e :: es) cs)(o:K3 x:=by decide)(l:K1 e es X:=by rfl)(a:K2 pos es X:=by rfl) :
  PV G X (.Call (.Name x p) (e :: es) [] pos) (b6 g cs) :=
 PE.weak (uV F b j d i m .nil oP n o l a) λJ H Q h=>call_of h
def yd{H:Hp}{d:List V}{a:V1}{m:X8}(r:RpL G H d a m)(n o:Nat)(w:o=d.length):SR G (λi=>m.getD i []) (a.map (λt=>Y (.pu t))++List.replicate (n-a.length) O) (d.map Y++List.replicate (n-o) O) H:=by
 subst w;have A:=r.len;have back:∀{i:Nat}{c:Cell},(a.map (λt=>Y (Cell.pu t))++List.replicate (n-a.length) O)[i]?=Y (Y c)->∃t,a[i]?=Y t/\c=.pu t:=λ{i c} h=>by
  by_cases q:i<a.length
  ·rw[KQ (by rw[Zt];exact q),ZV]at h;obtain⟨t,l,b⟩:=Zy.mp h;exact⟨t,l,(Zj b).symm⟩
  ·rw[Ys (by rw[Zt];exact ZJ q),Y1]at h;split at h<;>cases h
 refine⟨by simp;lia,λi c h=>?_,λi t h=>?_,λi j t c h=>?_⟩
 ·obtain⟨t,l,rfl⟩:=back h;obtain⟨v,F,s,z,y⟩:=r.get i l;refine⟨v,?_,?_⟩
  ·have:i<d.length:=(ZW.mp s).1;rw[KQ (by rw[Zt];exact this),ZV,s];rfl
  ·show Rp G H v t (m.getD i []);rw[Zr,z];exact y
 ·obtain⟨u,_,b⟩:=back h;cases b
 ·obtain⟨u,_,b⟩:=back h;cases b
def i4{b:V1}{n:Nat}{Z:Gv}{a:KF}:¬bG Z (b.map (λt=>Y (Cell.pu t))++List.replicate n O) a:=by
 rintro⟨i,t,h,_⟩;by_cases d:i<b.length
 ·rw[KQ (by rw[Zt];exact d),ZV]at h;obtain⟨l,_,j⟩:=Zy.mp h;cases j
 ·rw[Ys (by rw[Zt];exact ZJ d),Y1]at h;split at h<;>cases h
def qB{H:Hp}{vs:List V}{j:V1}{d:X8}{n:Nat}{a:KF}(h:cN (λi=>d.getD i []) (j.map (λt=>Y (Cell.pu t))++List.replicate n O) a):a∈d.flatten:=by
 obtain⟨i,t,_,b⟩:=h;simp only[Zr]at b;cases e:d[i]? with
 |none=>rw[e]at b;simp at b
 |some F=>rw[e]at b;exact c8 e b
end
section
variable{G:Gx}{P:P3}{w:XAA}{K:Wy}{mg:Wi}{base:UV}
def RF{x b:Str}{e:Stmt}{f:KF}{R:Pv}{N n:List Str}{k J j:Nat}{c:Sx}(F:GN K x b e f R)(S:p0 N n (ai e))(hp:n.length=J)(hn:N.length=j)(hb:∀(l:KM)(A:Re)(outer:List PySem.Env)(s:GM)(H:Hp)(E:XK),Gn k (A.deeper (envOfC b (ai e) s.heap.objs.size f l))->gD G (jk G8 P w K mg base N b (ai e) f l A outer s H E).JA (bg e) c) :
  FnOk P w K mg base G8 (k+1) f R n (Jc G (fn J j c)):=by
 refine F.ok S (λvs H Q E h=>?_) λl A outer s H vs Q E hr h=>⟨_,hb l A outer s H E hr,?_⟩
 ·obtain⟨U,Fs,m,r,t,d,_⟩:=h;unfold fn at d;split at d
  ·rename_i p;rw[t.len.1,p,hp]
  ·cases d
 ·obtain⟨U,Fs,m,r,t,d,q⟩:=h;unfold fn at d;split at d
  ·rename_i p;obtain⟨o,e1,e2⟩:=Zz.mp d;have D:=yd t j vs.length M;rw[p]at D;have e3:L2.start N vs=vs.map Y++List.replicate (j-vs.length) O:=by
    unfold L2.start;rw[hn]
   rw[e3];refine⟨_,_,o,D,e1,?_⟩;cases o with
   |nx y =>
    cases e2;intro Z' J' C X fr;exact q .non C [] (λa o h=>(fr.keep a o h i4).1) .non ⟨Iv,λa h=>by simp at h⟩
   |rt v y =>
    cases e2;intro u C F' Z' J' X fr Z i;refine q u C F' (λa o h=>(fr.keep a o h i4).1) Z ?_;cases m with
    |fr=>exact⟨i.1,λa g=>(i.2 a g).elim id λz=>absurd z i4⟩
    |pu=>exact λa g=>(i a g).elim .inl λz=>z.elim (λz=>.inr (qB (H:=H) (vs:=vs) z)) λz=>absurd z i4
    |bo=>exact λa g=>(i a g).elim .inl λz=>z.elim (λz=>.inr (qB (H:=H) (vs:=vs) z)) λz=>absurd z i4
   |bk y=>cases e2
   |ct y=>cases e2
  ·cases d
end
end VS
end
section
namespace L2
open PySem PySem.Spec PyProof.Rows
theorem kM(b:Env):∀(l:List (Str×NameKind))(acc:List (Str×KF)),(∀y∈l,y.2=.free->∃c,b.cells.lookup y.1=Y c)->(∀x c,acc.lookup x=Y c->b.cells.lookup x=Y c) →
  ∃cl,(forIn l acc (λx r=>if (x.snd==NameKind.free)=L then (do let a ← cellOf b x.fst;pure (ForInStep.yield ((x.fst,a) :: r))) else pure (ForInStep.yield r)):Sem (List (Str×KF)))=pure cl ∧
   (∀x c,cl.lookup x=Y c->b.cells.lookup x=Y c)/\(∀x c,acc.lookup x=Y c->∃e,cl.lookup x=Y e)/\∀y∈l,y.2=.free->∃c,cl.lookup y.1=Y c
 |[],acc,_,i=>⟨acc,rfl,i,λx c h=>⟨c,h⟩,λy d=>nomatch d⟩
 | (n,k) :: l,acc,o,i=>by
  by_cases m:k=.free
  ·subst m;obtain⟨c,p⟩:=o (n,.free) Zu M;have u:cellOf b n=pure c:=by unfold cellOf;dsimp only at p;rw[p]
   have v:∀x e,((n,c) :: acc).lookup x=Y e->b.cells.lookup x=Y e:=λx e h=>by
    rw[YW]at h;split at h
    ·rename_i g;have:x=n:=by simpa using g
     rw[this,← h];exact p
    ·exact i x e h
   obtain⟨cl,t,s,f,q⟩:=kM b l ((n,c) :: acc) (λy d=>o y (Zv _ d)) v;refine⟨cl,?_,s,λx e h=>?_,λy d j=>?_⟩
   ·rw[List.forIn_cons];dsimp only;rw[Zo (show (NameKind.free==NameKind.free)=L from rfl),u,pure_bind,pure_bind];exact t
   ·by_cases g:x=n
    ·exact f x c (by rw[YW,g];simp)
    ·refine f x e ?_;rw[YW];have:(x==n)=B:=by simpa using g
     rw[this];exact h
   ·rcases Zh.mp d with rfl | d
    ·exact f n c (by rw[YW];simp)
    ·exact q y d j
  ·obtain⟨cl,t,s,f,q⟩:=kM b l acc (λy d=>o y (Zv _ d)) i;refine⟨cl,?_,s,f,λy d j=>?_⟩
   ·rw[List.forIn_cons];dsimp only;rw[Zm (by simpa using m),pure_bind];exact t
   ·rcases Zh.mp d with rfl | d
    ·exact absurd j m
    ·exact q y d j
def Ag{sc:Scope}{env:Env}(a:∀y∈sc.names,y.2=.free->∃c,env.cells.lookup y.1=Y c) :
  ∃cl,closureFor sc env=pure cl/\(∀x c,cl.lookup x=Y c->env.cells.lookup x=Y c)/\∀y∈sc.names,y.2=.free->∃c,cl.lookup y.1=Y c:=by
 obtain⟨cl,e,d,_,b⟩:=kM env sc.names [] a (λx c h=>nomatch h);refine⟨cl,?_,d,b⟩;simp only[closureFor];rw[e];rfl
def gn{l:List (Str×NameKind)}{x:Str}{k:NameKind}(h:l.lookup x=Y k):(x,k)∈l:=by
 induction l with
 |nil=>cases h
 |cons p l a =>
  rw[YW]at h;split at h
  ·rename_i b;have e:x=p.1:=by simpa using b
   cases h;rw[e];exact Zu
  ·exact Zv _ (a h)
theorem cU{a:Env}{x:Str}{k:NameKind}:∀{l:List (Str×NameKind)},(l.map λ(n,k)=>if (k==NameKind.free&&a.scope.kind == .function&&a.kindOf n==Y .cell) then (n,NameKind.cell) else (n,k)).lookup x=Y k →
  ∃e,l.lookup x=Y e/\(k=e\/(e=.free/\k=.cell))
 |[],h=>nomatch h
 | (n,d) :: l,h=>by
  rw[Ze,YW]at h;by_cases f:(d==NameKind.free&&a.scope.kind == .function&&a.kindOf n==Y .cell)=L
  ·simp only[f,if_true]at h;rw[YW];cases b:x==n with
   |true =>
    rw[b]at h;have:d=.free:=by
     have:=(WB.mp (WB.mp f).1).1;simpa using this
    exact⟨d,rfl,.inr ⟨this,(Zj h).symm⟩⟩
   |false=>rw[b]at h;exact cU h
  ·simp only[f,if_false,Xh]at h;rw[YW];cases b:x==n with
   |true=>rw[b]at h;exact⟨d,rfl,.inl (Zj h).symm⟩
   |false=>rw[b]at h;exact cU h
noncomputable def cJ(X:Cx)(N:List Str)(a:Scope)(d:List (Str×KF))(C:KF)(s:GM)(H:Hp)(b:Wf):Cx :=
 { X with N:=N,s₀:=s,H₀:=H,env:=compEnvC a d C X.env,outer:=X.stack,ex:=b,fn:=λ_=>false,pn:=[],xe:=λ_ _=>False }
noncomputable def pM(a:Env)(b:Scope):Bool:=b.kind == .function&&b.names.all λy=>match y.2 with
 |.cell=>B
 |.local=>b.names.lookup y.1==Y .local
 |.free=>a.kindOf y.1==Y .cell||a.kindOf y.1==Y .free
 |_=>L
noncomputable def lM(d:Scope):List Str->List Str->Bool
 |[],[]=>L
 |a :: e,b :: bs=>((a==b&&d.names.lookup a==Y .free)||d.names.lookup a==O||d.names.lookup a==Y .globalImplicit)&&lM d e bs
 |_,_=>B
theorem uX{d:Scope}:∀{f bs:List Str},lM d f bs=L->f.length=bs.length/\∀(i:Nat)(x:Str),f[i]?=Y x->(bs[i]?=Y x/\d.names.lookup x=Y .free)\/d.names.lookup x=O\/d.names.lookup x=Y .globalImplicit
 |[],[],_=>⟨rfl,λi x h=>by simp at h⟩
 |a :: f,b :: bs,h=>by
  simp only[lM,ZU]at h;obtain⟨g,n⟩:=h;obtain⟨l,r⟩:=uX n;refine⟨by simp[l],λi x e=>?_⟩;cases i with
  |zero =>
   have:a=x:=by simpa using e
   subst this;simp only[Bool.or_eq_true,ZU]at g;rcases g with (⟨m,j⟩ | z) | z
   ·exact .inl ⟨by simpa using(by simpa using m:a=b).symm,by simpa using j⟩
   ·exact .inr (.inl (by simpa using z))
   ·exact .inr (.inr (by simpa using z))
  |succ i=>simpa using r i x (by simpa using e)
 |[],_ :: _,h=>by simp[lM]at h
 |_ :: _,[],h=>by simp[lM]at h
section
variable{X:Cx}{pins:Yr}{J:St}{H:Hp}{s:GM}
def Inv.block{N:List Str}{sc:Scope}{cl:List (Str×KF)}{C D:KF}{fp:Wf}{k:Nat}{F:UV}{t:Nat}{m:Wi}(I:Inv X pins J H s)(Z:pM X.env sc=L)(JP:lM sc (N.drop k) X.N=L)(JS:k<=N.length)(j:∀x c,cl.lookup x=Y c->X.env.cells.lookup x=Y c)(Py:∀y∈sc.names,y.2=.free->∃c,cl.lookup y.1=Y c)(G:∀b∈fp,oh X pins H b)(E:s.heap.objs.size<=D)(hC:s.heap.objs.size<=C)(PB:D≠C)(Px:C∉fp)(d:∀b u,s.heap.get? b=Y u->F.get? b=Y u)(LW:F.Ns C m)(Rz:F.get? D=Y { cls:=.type "list",data:=.seq ([]:Vy).toArray 0 }) :
  Inv (cJ X N sc cl C s H fp) [] (List.replicate k O++J) (upd H D (.lst [])) { s with heap:=F,toks:=t }:=by
 unfold pM at Z;rw[ZU,YL]at Z;obtain⟨hk,Ij⟩:=Z;have Ir:sc.kind=.function:=by simpa using hk
 obtain⟨hlen,R⟩:=uX JP;have Iu:∀y∈sc.names,y.2 ≠ .cell:=λy hy e=>by have:=Ij y hy;rw[e]at this;cases this
 have frees:∀x a,(relabel sc X.env).names.lookup x=Y a->a=.cell\/a=.free->sc.names.lookup x=Y .free:=λx a h Pr=>by
  obtain⟨w,f,XN⟩:=cU h;rcases XN with e | ⟨e,_⟩
  ·subst e;rcases Pr with e | e
   ·subst e;exact absurd M (Iu _ (gn f))
   ·subst e;exact f
  ·subst e;exact f
 have Ka:H D=O:=I.Gq.fresh E;have S:H C=O:=I.Gq.fresh hC;refine⟨⟨I.mod,Ir,I.ok.glob,I.ok.blt,hC,λx y c e1 e2=>I.ok.inj x y c (j x c e1) (j y c e2),λx hx=>?_,λx c e=>(nomatch e),I.ok.hd,I.ok.frames,.inl M,λb hb=>⟨λ(e:b=C)=>Px (e ▸ hb),λx c e=>(G b hb).2.2.2.2.1 x c (j x c e)⟩,
  I.bs,ZA I.ok.LG I.sz,λb o e hb=>?_,λb hb g=>?_,I.stack,I.Jy⟩,rfl,I.bare,Un.laid d E Ka,⟨m,LW,λi x v e1 e2 U=>?_⟩,λx c e=>?_,?_,λx c e=>?_,λp hp=>(nomatch hp),I.Gq.laid d E ?_,?_⟩
 ·have h:∃a,(relabel sc X.env).names.lookup x=Y a/\(a=.cell\/a=.free):=by
   rcases hx with e | e
   ·exact⟨_,e,.inl M⟩
   ·exact⟨_,e,.inr M⟩
  obtain⟨a,P,IF⟩:=h;exact Py _ (gn (frees x a P IF)) M
 ·have g:b∈fp:=hb;rcases (G b g).2.2.2.1 with z | z
  ·exact I.ok.Ko b o e z
  ·exact absurd (ZP (ZS e) (ZA I.ok.LG z)) (YD _)
 ·have Q:b∈Hl X.stack:=g;rcases Zh.mp (I.Iz b Q) with z | z
  ·exact(G b hb).2.1 z
  ·exact(G b hb).2.2.1 z
 ·
  have LX:k<=i:=by
   rcases Wh i k with z | z
   ·rw[KQ (by simpa using z),Y1]at e2;split at e2<;>cases e2
   ·exact z
  rw[Ys (by simpa using LX),Xc]at e2;have OH:(N.drop k)[i-k]?=Y x:=by
   rw[List.getElem?_drop,show k+(i-k)=i by exact Vm LX];exact e1
  have Ul:sc.names.lookup x=Y .free->∃a,(relabel sc X.env).names.lookup x=Y a/\(a=.cell\/a=.free):=λf=>by
   have A:Ic (relabel sc X.env) x:=U;rcases A with z | z | z
   ·obtain⟨w,P,IF⟩:=cU z;rw[f]at P;cases P;rcases IF with q | ⟨_,q⟩<;>cases q
   ·exact⟨_,z,.inl M⟩
   ·exact⟨_,z,.inr M⟩
  have no:∀w,sc.names.lookup x=Y w->∃a,(relabel sc X.env).names.lookup x=Y a->True:=λ_ _=>⟨.local,λ_=>trivial⟩
  rcases R _ x OH with⟨hX,f⟩ | f | f
  ·obtain⟨a,Le,JR⟩:=Ul f;have hf:=Ij _ (gn f);have Td:X.env.kindOf x=Y .cell\/X.env.kindOf x=Y .free:=by
    simpa using hf
   obtain⟨mX,hnX,V5⟩:=I.loc;have P2:Ic X.env.scope x:=Td.elim (λz=>.inr (.inl z)) λz=>.inr (.inr z);obtain⟨u,r,l⟩:=V5 _ x v hX e2 P2;refine⟨u,r,.inr ⟨?_,?_⟩⟩
   ·rcases JR with z | z
    ·subst z;exact .inl Le
    ·subst z;exact .inr Le
   ·obtain⟨c,hc⟩:=Py _ (gn f) M;refine⟨c,hc,?_⟩;rcases l with⟨z,_⟩ | ⟨_,c',Ib,MN⟩
    ·rcases Td with q | q<;>(rw[z]at q;cases q)
    ·have:=j x c hc;rw[Ib]at this;cases this;exact MN.keeps d
  ·have A:Ic (relabel sc X.env) x:=U;rcases A with z | z | z<;>(obtain⟨w,n,_⟩:=cU z;rw[f]at n;cases n)
  ·have A:Ic (relabel sc X.env) x:=U;rcases A with z | z | z<;>(obtain⟨w,n,z2⟩:=cU z;rw[f]at n;cases n;rcases z2 with q | ⟨q,_⟩<;>cases q)
 ·obtain⟨v,z⟩:=I.cell x c (j x c e);exact⟨v,z.keeps d⟩
 ·show upd H D (.lst []) C=O;rw[aF (YK PB)];exact S
 ·obtain⟨v,z⟩:=I.cell x c (j x c e);rw[aF (Za (ZP z.lt E))];exact I.Ha x c (j x c e)
 ·exact⟨ZG _,[],0,.nil,Rz⟩
 ·show (List.replicate k O++J).length=N.length;rw[Zw,Xc,I.len,← hlen,Yz];exact Vm JS
noncomputable def Bw(X:Cx)(a:List Expr)(t:TT):Prop :=
 ∀(pins:Yr)(s:GM)(J:St)(H:Hp)(Q:Bool->Hp->Prop),Inv X pins J H s->t J H Q →
  On (IR X.prog X.w) X.A (forIn a L λc r=>if r=L then (do let ok ← isTrue c X.env (eval c X.env);pure (ForInStep.yield ok)) else pure (ForInStep.yield r)) (TP X pins J Q) X.xe s
def nc:Bw X [] (λJ H Q=>Q L H):=λpins s J H Q I q=>Zl ⟨H,I,q⟩
def yI{c:Expr}{t:TT}(h:PT X c t):Bw X [c] t:=λpins s J H Q I q=>by
 rw[List.forIn_cons,Zo M];refine Zx (Zx (thn (h pins s J H Q I q) λb s1 a=>Zl ?_));exact Zl a
section
variable{prog:P3}{w:XAA}{A:Re}{R:Result->GM->Prop}
def rR{i a f:Expr}{g:List Expr}{d:Scope}{o:Pos}{p j:KM}{b:Env}{s:GM}(I:Nat->GM->Prop)(l:∀n s,I n s->On (IR prog w) A (pyNext p) (λr t=>match r with
   |none=>R (.ok .next) t
   |some v=>On (IR prog w) A (letOwnedTupleGo a p v) (λ_ D=>On (IR prog w) A (assign a b v) (λ_ C =>
     On (IR prog w) A (forIn g L λc r=>if r=L then (do let ok ← isTrue c b (eval c b);pure (ForInStep.yield ok)) else pure (ForInStep.yield r)) (λok q =>
      if ok=L then On (IR prog w) A (eval i b) (λx z =>
       On (IR prog w) A (call (.builtin "list.append") [j,x]) (λ_ y=>∃m,m<n/\I m y) (λ_ _=>False) z) (λ_ _=>False) q
      else ∃m,m<n/\I m q) (λ_ _=>False) C) (λ_ _=>False) D) (λ_ _=>False) t) (λ_ _=>False) s)(n:Nat)(h:I n s) :
  codeAny (IR prog w) A (.compLoop (.ListComp i [⟨a,f,g,0⟩] d o) 0 p j b) R s:=by
 refine codeAny_loop M I (λn s P=>?_) n h;show On _ A ((compTurn (.ListComp i [⟨a,f,g,0⟩] d o) 0 p j b).onRaise (λx=>do noteFrame x b;theTreesLotGoes x)) _ _ s;refine wpAny_noted ?_;rw[compTurn_list];refine Zx (wpAny_standAt (Zx (YB (l n s P) (λr t E=>?_) λ_ _ e=>e.elim)));cases r with
 |none=>exact Zl E
 |some v =>
  refine Zx (YB E (λ_ D h₀=>?_) λ_ _ e=>e.elim);refine Zx (YB h₀ (λ_ C N=>Zx (YB N (λok q u=>?_) λ_ _ e=>e.elim)) λ_ _ e=>e.elim);cases ok with
  |false=>exact Zl ⟨rfl,u⟩
  |true =>
   rw[Zo M]at u;exact Zx (Zx (YB u (λx z G=>Zx (YB G (λ_ y F=>Zl (Zl ⟨rfl,F⟩)) λ_ _ e=>e.elim)) λ_ _ e=>e.elim))
end
noncomputable def ua(k:Nat)(q:TI)(g:TG)(t:TT)(r:TE)(J:St)(H:Hp)(Q:VK):Prop:=q J H λh p=>∀D,p D=O->∃W:Nat->Nat->St->Hp->Prop,
 (∃m,W 0 m (List.replicate k O++J) (upd p D (.lst [])))/\∀i m j d,W i m j d->(h.stop i d/\Q (.ref D) d)\/(h.go i d/\∀x o,h.O5 i d x o->g x j o λe u=>t e u λb n =>
  if b=L then r e n λy l=>∃f,l D=Y (.lst f)/\f.length<KB/\∃a,a<m/\W (i+1) a e (upd l D (.lst (f++[y]))) else ∃a,a<m/\W (i+1) a e n)
def vG{F tg f:Expr}{l:List Expr}{sc:Scope}{pos pos':Pos}{N:List Str}{k:Nat}{wi:TI}{g:TG}{tc:TT}{te:TE}{use:Option (KM->Sem Unit)}{QQ:Yt}{Q:VK}(G4:X.calm=L)(hi:PI X tg f wi)(Je:pM X.env sc=L)(JP:lM sc (N.drop k) X.N=L)(JS:k<=N.length)(HH:∀cl C s H fp,PG (cJ X N sc cl C s H fp) tg g/\Bw (cJ X N sc cl C s H fp) l tc/\PE (cJ X N sc cl C s H fp) F te)(hs:∀x,XAC f X.env x=pure x)(I:Inv X pins J H s)(h:ua k wi g tc te J H Q)(hq:∀Z j D C m,Inv X pins J j Z->Q (.ref D) j->Z.heap.Ns C m->oh X pins j C->compPost (IR X.prog X.w) X.A X.xe use QQ (.ref D) C (.ok .next) Z) :
  On (IR X.prog X.w) X.A (comprehension (.ListComp F [⟨tg,f,l,0⟩] sc pos) sc X.env pos' (newList []) B (eval f X.env) use) QQ X.xe s:=by
 have MD:=Je;unfold pM at MD;rw[ZU,YL]at MD;obtain⟨hk,Ij⟩:=MD;have Ir:sc.kind=.function:=by simpa using hk
 have Iu:∀y∈sc.names,y.2 ≠ .cell:=λy E e=>by have:=Ij y E;rw[e]at this;cases this
 have MK:∀y∈sc.names,y.2=.local->sc.names.lookup y.1=some .local:=λy E e=>by
  have:=Ij y E;rw[e]at this;simpa using this
 obtain⟨cl,Oj,Lg,Py⟩:=Ag (sc:=sc) (env:=X.env) λy E e=>I.ok.has y.1 (by
  have:=Ij y E;rw[e]at this;simpa using this)
 refine wpAny_comprehension_free (use:=use) M hs Oj Ir MK (thn (hi pins s J H _ I h) λv s1 h1=>thn h1 λQM a h2=>?_);obtain⟨it,fp,tn,Jq,H2,e,I2,T,G5,f2,hW⟩:=h2;subst e;refine Xq (wpAny_newFunctionEnv Iu (by intro y E;simp at E) (λh₁ Jo IB=>?_) Ir);dsimp only at Jo IB ⊢;generalize hP:a.heap.push { cls:=.type "list",dict:=O,data:=.seq ([]:Vy).toArray }=P at Jo IB ⊢;have RC:P.objs.size=a.heap.objs.size+1:=by rw[← hP,YT]
 have old:∀b o,a.heap.get? b=some o->h₁.get? b=some o:=λb o e =>
  IB.extBut b o (by rw[RC];exact Za (Yo (ZS e))) (Zn _ (hP ▸ Zn _ e))
 have PB:a.heap.objs.size≠P.objs.size:=by rw[RC];exact Za (Yp _)
 have Rz:h₁.get? a.heap.objs.size=some { cls:=.type "list",data:=.seq ([]:Vy).toArray 0 }:=IB.extBut _ _ PB (Zn _ (hP ▸ ZY _ M));have MQ:a.heap.objs.size<=P.objs.size:=by rw[RC];exact Xj _
 have LS:∀b∈fp,b<a.heap.objs.size:=λb hb=>let ⟨o,ho,_⟩:=T.obj 0 _ G5 b hb;ZS ho
 have Px:P.objs.size∉fp:=λhb=>absurd (ZP (LS _ hb) MQ) (YD _);have IY:=I2.block (N:=N) (sc:=sc) (cl:=cl) (C:=P.objs.size) (D:=a.heap.objs.size) (fp:=fp) (k:=k) (t:=a.toks+([]:List (Str×KM)).length) Je JP JS Lg Py f2 (Zp _) MQ PB Px old Jo Rz;obtain⟨hG,hT,hE⟩:=HH cl P.objs.size a H2 fp;generalize hY:cJ X N sc cl P.objs.size a H2 fp=Y at IY hG hT hE;have hYm:Y.prog=X.prog/\Y.w=X.w/\Y.K=X.K/\Y.A=X.A/\Y.env=compEnvC sc cl P.objs.size X.env/\Y.calm=X.calm/\(Y.xe=λ_ _=>False):=by rw[← hY];exact⟨rfl,rfl,rfl,rfl,rfl,rfl,rfl⟩
 obtain⟨S,R,y3,G,y5,y6,y7⟩:=hYm;have Jg:∀{j:Hp},(∀b∈fp,j b=O)->∀b∈fp,oh Y [] j b:=λ{j} hn b hb=>by
  rw[← hY];refine⟨hn b hb,λ(e:b=P.objs.size)=>Px (e ▸ hb),λhb'=>?_,.inl hb,λx c e=>(f2 b hb).2.2.2.2.1 x c (Lg x c e),λp hp=>(nomatch hp)⟩;rcases Zh.mp (I2.Iz b hb') with z | z
  ·exact(f2 b hb).2.1 z
  ·exact(f2 b hb).2.2.1 z
 obtain⟨W,⟨m0,w0⟩,turn⟩:=hW a.heap.objs.size (I2.Gq.fresh (Zp _));have Rk:∀b∈fp,upd H2 a.heap.objs.size (.lst []) b=O:=λb hb=>by rw[aF (Za (LS b hb))];exact(f2 b hb).1
 have IA:tn 0 h₁:=T.keep _ _ _ G5 λb _ o e=>old b o e;have loop:codeAny (IR X.prog X.w) X.A (.compLoop (.ListComp F [⟨tg,f,l,0⟩] sc pos) 0 (.ref it) (.ref a.heap.objs.size) (compEnvC sc cl P.objs.size X.env)) (compPost (IR X.prog X.w) X.A X.xe use QQ (.ref a.heap.objs.size) P.objs.size)
   { a with heap:=h₁,toks:=a.toks+([]:List (Str×KM)).length }:=by
  refine rR (λn Z=>∃i J' j,Inv Y [] J' j Z/\tn i Z.heap/\(∀b∈fp,j b=O)/\W i n J' j) ?_ m0 ⟨0,_,_,IY,IA,Rk,w0⟩;rintro n s3 ⟨i,J3,H3,I3,IA,Ox,w3⟩;rcases turn i n J3 H3 w3 with⟨stop,qn⟩ | ⟨go,step⟩
  ·have q:=T.done Y S R y3 (y6.trans G4) i [] s3 J3 H3 (λ_ _=>False) I3 (Jg Ox) IA stop;rw[G]at q;refine thn q λr s4 ⟨hr,I4⟩=>?_;subst hr;have IX:Inv X pins J H3 s4:=by
    have b4:=I4.base;have o4:=I4.os;have k4:=I4.Gq;rw[← hY]at b4 o4 k4;refine I2.OM (ch:=fp) o4 b4 k4 I4.bare λb hb=>?_;exact⟨(f2 b hb).2.2.2.1,(f2 b hb).2.1,(f2 b hb).2.2.2.2.1,(f2 b hb).2.2.2.2.2⟩
   obtain⟨mC,S7,_⟩:=I4.loc;have f4:=I4.free;rw[y5]at S7 f4;exact hq s4 H3 _ P.objs.size mC IX qn S7 (I2.LC MQ f4)
  ·have q:=T.item Y S R y3 (y6.trans G4) i [] s3 J3 H3 (λ_ _=>False) I3 (Jg Ox) IA go;rw[G]at q;refine thn q λr s4 ⟨u,hr,h4⟩=>?_;subst hr;refine thn h4 λ_ s5 ⟨x,H5,I5,r5,Ud,Ml,RE⟩=>?_;have R9:=I5.pinned (Jg RE) (T.obj _ _ Ml);have again:∀{J7:St}{H7:Hp}{U:GM}{m:Nat},Inv Y ([]++nh fp s5.heap) J7 H7 U->W (i+1) m J7 H7->∃i J' j,Inv Y [] J' j U/\tn i U.heap/\(∀b∈fp,j b=O)/\W i m J' j:=λ{J7 H7 U m} I7 w7=>by
    refine⟨i+1,J7,H7,I7.Hk,T.keep _ _ _ Ml λb hb o e=>(I7.pin (b,o) (ZL _ (ZL _ (h9 hb e)))).1,λb hb=>?_,w7⟩;obtain⟨o,e,d⟩:=T.obj _ _ Ml b hb;exact(I7.pin (b,o) (ZL _ (ZL _ (h9 hb e)))).2.1
   have qa:=hG _ s5 J3 H5 x u _ R9 r5 (step x H5 Ud);rw[S,R,G,y5,y7]at qa;refine thn qa λ_ s6 ⟨J6,H6,I6,q6⟩=>?_;have qt:=hT _ s6 J6 H6 _ I6 q6;rw[S,R,G,y5,y7]at qt;refine thn qt λb U ⟨H7,I7,q7⟩=>?_;cases b with
   |false =>
    rw[Zm Zb]at q7 ⊢;obtain⟨m',hm,w7⟩:=q7;exact⟨m',hm,again I7 w7⟩
   |true =>
    rw[Zo M]at q7 ⊢;have qe:=hE _ U J6 H7 _ I7 q7;rw[S,R,G,y5,y7]at qe;refine thn qe λyv s8 ⟨y,H8,I8,r8,ys,hD8,V6,m',hm,w8⟩=>?_;have qp:=gP (X:=Y) _ s8 J6 H8 (.ref a.heap.objs.size) [y] (.ref a.heap.objs.size) [yv] (λ_ H9=>W (i+1) m' J6 H9) I8 M (.cons r8 .nil) ⟨_,ys,y,rfl,rfl,hD8,V6,w8⟩;rw[S,R,G,y7]at qp;refine thn qp λ_ s9 ⟨_,H9,I9,_,w9⟩=>?_;exact⟨m',hm,again I9 w9⟩
 exact codeAny_compStart_list loop (T.self _ 0 _ _ _ IA loop)
def lY{j l a:Expr}{i:List Expr}{d:Scope}{n:Pos}{N:List Str}{k:Nat}{p:TI}{g:TG}{t:TT}{r:TE}(R:X.calm=L)(y:PI X l a p)(z:pM X.env d=L)(E:lM d (N.drop k) X.N=L)(A:k<=N.length)(M:∀cl C s H fp,PG (cJ X N d cl C s H fp) l g/\Bw (cJ X N d cl C s H fp) i t/\PE (cJ X N d cl C s H fp) j r)(v:∀x,XAC a X.env x=pure x:=by intro _;rfl):PE X (.ListComp j [⟨l,a,i,0⟩] d n) (ua k p g t r):=by
 intro pins s J H Q I h;rw[eval_ListComp];refine vG (use:=O) R y z E A M v I h λu P D C m G q w f=>⟨m,w,λS F=>?_⟩
 exact⟨.ref D,P,G.turned (it:=C) (t':=u.toks) (λb o hb e=>F.extBut b o hb e) f.1 f.2.1 f.2.2.2.1 f.2.2.2.2.1 f.2.2.2.2.2,rfl,q⟩
end
end L2
end
section
namespace VS
open PySem PySem.Spec PyProof.Rows L2
noncomputable def za(k:Nat)(g:Tg):Prop:=∀t U a,g t U=Y a->a.length=U.length/\∀i,k<=i->a[i]?=U[i]?
def hV{k i:Nat}(h:i<k:=by decide):za k (bF i):=λt U b e=>by
 unfold bF at e;split at e
 ·cases e;exact⟨by simp,λj a=>by rw[Ya (by lia)]⟩
 ·cases e
theorem vo:∀(l:V1){i:Nat}{t:T},dm l=L->l[i]?=Y t->Gu t=L
 |[],_,_,_,h=>by simp at h
 |x :: l,0,t,h,e=>by
  simp only[dm,ZU]at h;simp at e;rw[← e];exact h.1
 |x :: l,i+1,t,h,e=>by
  simp only[dm,ZU]at h;exact vo l h.2 (by simpa using e)
noncomputable def tC(G:Gx):Option Ex->TT
 |none=>λJ H Q=>Q L H
 |some c=>tT G c
section
variable{G:Gx}{Z:Gv}{U:VS.Env}{J:L2.St}{H:Hp}{k:Nat}
def jO{i:Nat}{c:Cell}:(List.replicate k O++U)[i]?=Y (Y c)↔k<=i/\U[i-k]?=Y (Y c):=by
 rcases Wh i k with h | h
 ·rw[KQ (by simpa using h),Y1];constructor
  ·intro e;split at e<;>cases e
  ·intro ⟨e,_⟩;lia
 ·rw[Ys (by simpa using h),Xc];exact⟨λe=>⟨h,e⟩,λe=>e.2⟩
def xE{a:KF}:bG (λi=>Z (i-k)) (List.replicate k O++U) a↔bG Z U a:=by
 constructor
 ·rintro⟨j,t,d,b⟩;exact⟨j-k,t,(jO.mp d).2,b⟩
 ·rintro⟨j,t,d,b⟩;refine⟨j+k,t,jO.mpr ⟨Xe _ _,by rw[We];exact d⟩,?_⟩;show a∈Z (j+k-k);rw[We];exact b
def zk{a:KF}:cN (λi=>Z (i-k)) (List.replicate k O++U) a↔cN Z U a:=by
 constructor
 ·rintro⟨j,t,d,b⟩;exact⟨j-k,t,(jO.mp d).2,b⟩
 ·rintro⟨j,t,d,b⟩;refine⟨j+k,t,jO.mpr ⟨Xe _ _,by rw[We];exact d⟩,?_⟩;show a∈Z (j+k-k);rw[We];exact b
def SR.sh(s:SR G Z U J H):SR G (λi=>Z (i-k)) (List.replicate k O++U) (List.replicate k O++J) H:=by
 refine⟨by simp[s.len],λi c h=>?_,λi t h=>?_,λi j t c b a n=>?_⟩
 ·obtain⟨b,a⟩:=jO.mp h;obtain⟨v,e,d⟩:=s.rp _ c a;refine⟨v,?_,d⟩;rw[Ys (by simpa using b),Xc];exact e
 ·exact s.nd _ t (jO.mp h).2
 ·obtain⟨m,g⟩:=jO.mp b;obtain⟨l,f⟩:=jO.mp a;exact s.sep _ _ t c g f (by lia)
def SR.less{a:VS.Env}(s:SR G Z a J H)(b:U.length=a.length)(h:∀(i:Nat) c,U[i]?=Y (Y c)->a[i]?=Y (Y c)):SR G Z U J H :=
 ⟨b.trans s.len,λi c e=>s.rp i c (h i c e),λi t e=>s.nd i t (h i _ e),λi j t c e1 e2 n=>s.sep i j t c (h i _ e1) (h j _ e2) n⟩
def SR.off{D:KF}{o:HO}(s:SR G Z U J H)(m:Gw (H D)\/H D=O)(d:¬cN Z U D)(a:¬bG Z U D):SR G Z U J (upd H D o):=by
 refine⟨s.len,λi c e=>?_,s.nd,s.sep⟩;obtain⟨v,h,g⟩:=s.rp i c e;refine⟨v,h,g.keep (Kept.upd m) λb hb j f=>?_⟩;rw[aF λz=>?_]
 ·exact f
 ·subst z;cases c with
  |pu t=>exact d ⟨i,t,e,hb⟩
  |ow t=>exact a ⟨i,t,e,hb⟩
theorem nF:∀(l:Va)(v:Val),cn (l++[v])=(cn l).join v.1
 |[],(m,t)=>by cases m<;>rfl
 | (m,t) :: l,v=>by
  show m.join (cn (l++[v]))=(m.join (cn l)).join v.1;rw[nF l v];generalize cn l=q;generalize v.1=r;cases m<;>cases q<;>cases r<;>rfl
def Fp.N3{m n:Md}{F j:Wf}(f:Fp Z U H m F)(g:Fp Z U H n j)(d:n=.fr->∀a∈F,a∉j):Fp Z U H (m.join n) (F++j):=by
 have both:∀{P:KF->Prop},(∀a∈F,P a)->(∀a∈j,P a)->∀a∈F++j,P a:=λp q a h=>(Zi.mp h).elim (p a) (q a);cases m<;>cases n
 ·exact⟨ZM.mpr ⟨f.1,g.1,λa i b hb e=>d M a i (e ▸ hb)⟩,both f.2 g.2⟩
 ·exact both (λa i=>.inl (f.2 a i)) g
 ·exact both (λa i=>.inl (f.2 a i)) g
 ·exact both f λa i=>.inl (g.2 a i)
 ·exact both f g
 ·exact both (λa i=>(f a i).imp id .inl) g
 ·exact both f λa i=>.inl (g.2 a i)
 ·exact both f λa i=>(g a i).imp id .inl
 ·exact both f g
def Fp.OL{m:Md}{F:Wf}{D:KF}(f:Fp Z U H m F)(h:H D=O)(d:D∉F):Fp Z U H m (D :: F):=by
 have all:∀{P:KF->Prop},P D->(∀a∈F,P a)->∀a∈D :: F,P a:=λp q a b=>(Zh.mp b).elim (λe=>e ▸ p) (q a);cases m
 ·exact⟨ZZ.mpr ⟨d,f.1⟩,all h f.2⟩
 ·exact all (.inl h) f
 ·exact all (.inl h) f
end
section
variable{G:Gx}{k:Nat}{tg:Tg}{ci:Jb}{cond:Option Ex}{ce:Ex}
noncomputable def CI(G:Gx)(Z:Gv)(U b:VS.Env)(H p:Hp)(D:KF)(l:V1)(h:Va)(q:Tg)(d:Option Ex)(r:Ex)(i n:Nat)(s:L2.St)(f:Hp):Prop:=n=l.length-i/\∃e g j m rest,SR G e b s f/\(∀a,bG e b a->bG Z U a)/\(∀a,cN e b a->H a=O\/cN Z U a)/\¬cN e b D/\¬bG e b D/\Kept p f ∧
     (∀a o,a≠D->p a=Y o->f a=Y o)/\f D=Y (.lst m)/\RpL G f m (trees g) j/\D∉j.flatten/\Fp Z U H (cn g) j.flatten/\js q d r b (l.drop i)=Y rest/\g++rest=h
def pk{J:L2.St}{H:Hp}{Q:VK}(HH:za k tg)(h:tE G (cY k tg ci cond ce) J H Q):ua k (tI G ci) (tG G tg) (tC G cond) (tE G ce) J H Q:=by
 refine L2.ku λP_ S=>?_;obtain⟨Z,U,m,r,s,e,kq⟩:=h;unfold cY at e;obtain⟨⟨mi,l⟩,el,e1⟩:=Zz.mp e;dsimp only at e1;split at e1
 ·rename_i Gq;obtain⟨all,ea,e2⟩:=Zz.mp e1;unfold Ji at e2;split at e2
  ·rename_i hlen;cases e2;refine S ?_;refine⟨Z,U,mi,l,s,el,λJq H1 C e3 ok fc D hD=>?_⟩;have Ka:H D=O:=e3.free hD;let U0:VS.Env:=List.replicate k O++U
   have good:∀{t:T}{i:Nat}{P H2:Hp}{v:V}{F:Wf},l[i]?=Y t->Rp G H2 v t F->(∀a,H1 a≠O->P a≠O)->(∀a∈F,a∈C\/P a=O)->∀a∈F,(H a=O\/cN Z U a)/\¬bG Z U a:=λ{t i P H2 v F} hi rF keep hF a d=>by
    have GG:∀{b},H b≠O->P b≠O:=λ{b} hb=>keep b λz=>hb (e3.free z);rcases hF a d with z | z
    ·rcases fc a z with q | q | ⟨q,w⟩
     ·exact⟨.inl q,λw=>Gw.oe (s.GQ w) q⟩
     ·exact⟨.inr q,λw=>s.Km w q⟩
     ·subst q;have:Gu t=L:=by
       exact vo l Gq hi
      rw[rF.Gu this]at d;simp at d
    ·have hz:H a=O:=Classical.byContradiction λq=>GG q z;exact⟨.inl hz,λw=>Gw.oe (s.GQ w) hz⟩
   refine⟨CI G Z U U0 H H1 D l all tg cond ce,?_,?_⟩
   ·refine⟨l.length-0,rfl,λi=>Z (i-k),[],[],[],all,?_,λa h=>xE.mp h,λa h=>.inr (zk.mp h),λh=>?_,λh=>?_,Kept.upd (.inr hD),λa o n h=>by rw[aF n];exact h,aw,.nil,by simp,Fp.nil,by rw[X1];exact ea,rfl⟩
    ·exact((s.same e3).sh).off (.inr hD) (λh=>Gw.oe (s.HN (zk.mp h)) Ka) λh=>Gw.oe (s.GQ (xE.mp h)) Ka
    ·exact Gw.oe (s.HN (zk.mp h)) Ka
    ·exact Gw.oe (s.GQ (xE.mp h)) Ka
   ·intro i n J' P Z8;refine L2.ku λP_ S=>?_;obtain⟨rfl,Z1,R,Fs,xs,rest,s1,Nd,UK,US,UU,kp,old,Nn,rp,nD,fp,er,ev⟩:=Z8;refine S ?_;have JD:∀a,H1 a≠O->P a≠O:=λa d z=>by
     by_cases q:a=D
     ·subst q;rw[Nn]at z;cases z
     ·cases e:H1 a with
      |none=>exact d e
      |some o=>rw[old a o q e]at z;cases z
    refine L2.ku λP_ S=>?_;obtain⟨go,stop⟩:=ok.run P kp λa d o ho=>old a o (λz=>ok.GG a d (z ▸ hD)) ho;cases hit:l[i]? with
    |none =>
     have hl:l.length<=i:=YU.mp hit;refine S ?_;left;refine⟨stop i hl,?_⟩;rw[Xi hl]at er;cases (show Y ([]:Va)=Y rest from er);rw[ZK]at ev;subst ev;refine kq (.ref D) P (D :: Fs.flatten) (λa o h=>old a o (λz=>by rw[z,Ka]at h;cases h) (e3 a o h)) (.lst Nn rp) ?_;by_cases hi:dm (trees R)=L
     ·rw[Zo hi,rp.Gu hi];exact⟨by simp,λa d=>by rw[Zk.mp d];exact Ka⟩
     ·rw[Zm hi];exact fp.OL Ka nD
    |some t =>
     have hl:i<l.length:=(ZW.mp hit).1;obtain⟨g1,y1⟩:=go i t hit;refine S ?_;right;refine⟨g1,λx H2 yl=>?_⟩;refine L2.ku λP_ S=>?_;obtain⟨E,F,rF,hF⟩:=y1 x H2 yl;rw[oC (tgt:=tg) (body:=cT) (U:=U) hit]at er;rw[js]at er;obtain⟨p,e4,e5⟩:=Zz.mp er;obtain⟨b,eb,e6⟩:=Zz.mp e5;have gd:=good hit rF JD hF;have s2:=s1.same E;have DF:D∉F:=λh=>by
      rcases hF D h with z | z
      ·exact ok.GG D z hD
      ·rw[Nn]at z;cases z
     refine S ?_;refine⟨Z1,U0,t,F,p,s2,rF,λa d z=>(gd a d).2 (Nd a z),e4,λg J3 s3 o3 p3=>?_⟩;obtain⟨tl,NF⟩:=HH t U0 p e4;have low:∀j c,U0[j]?=Y (Y c)->p[j]?=Y (Y c):=λj c h=>by rw[NF j (jO.mp h).1];exact h
     have Pf:∀a,cN g p a->H a=O\/cN Z U a:=λa h=>(p3 a h).elim (UK a) λh=>(gd a h).1;have Qr:∀a,bG g p a->bG Z U a:=λa h=>Nd a (o3 a h);have NT:¬cN g p D:=λh=>(p3 D h).elim US DF;have Pk:¬bG g p D:=λh=>UU (o3 D h);have Pe:∀a,cN g U0 a->cN g p a:=λa ⟨j,u,h1,h2⟩=>⟨j,u,low j _ h1,h2⟩
     have Pg:∀a,bG g U0 a->bG g p a:=λa ⟨j,u,h1,h2⟩=>⟨j,u,low j _ h1,h2⟩
     have LO:∀A,aK H2 A->(if b=L then tE G ce J3 A λy N=>∃ys,N D=Y (.lst ys)/\ys.length<KB/\∃m',m'<l.length-i/\CI G Z U U0 H H1 D l all tg cond ce (i+1) m' J3 (upd N D (.lst (ys++[y]))) else ∃m',m'<l.length-i/\CI G Z U U0 H H1 D l all tg cond ce (i+1) m' J3 A):=λA f=>by
      have eo:∀{N},aK A N->∀a o,P a=Y o->N a=Y o:=λ{N} Nv a o h=>Nv a o (f a o (E a o h));cases b with
      |false =>
       rw[Zm Zb]at e6 ⊢;have same:=eo (aK.refl A);exact⟨_,by lia,rfl,g,R,Fs,xs,rest,(s3.same f).less (by rw[tl]) low,λa h=>Qr a (Pg a h),λa h=>Pf a (Pe a h),λh=>NT (Pe D h),λh=>Pk (Pg D h),kp.trans ((Kept.of E).trans (Kept.of f)),λa o n h=>same a o (old a o n h),same D _ Nn,rp.same (aK.trans E f),nD,fp,e6,ev⟩
      |true =>
       rw[Zo M]at e6 ⊢;obtain⟨⟨mv,tv⟩,ece,e7⟩:=Zz.mp e6;obtain⟨NM,er1,HA⟩:=Zy.mp e7;refine⟨g,p,mv,tv,s3.same f,ece,λy N Fy Nv ry X=>?_⟩;have same:=eo Nv;have Ou:=same D _ Nn;have Lx:Gw (N D):=by rw[Ou];exact True.intro
       have RA:A D=Y (.lst xs):=f D _ (E D _ Nn);have Kn:∀a,A a=O->H a=O:=λa h=>Classical.byContradiction λq=>JD a (λz=>q (e3.free z)) (E.free (f.free h));have fyo:Fp Z U H mv Fy:=by
        cases mv with
        |fr=>exact⟨X.1,λa d=>Kn a (X.2 a d)⟩
        |pu=>exact λa d=>(X a d).elim (λz=>.inl (Kn a z)) (Pf a)
        |bo=>exact λa d=>(X a d).elim (λz=>.inl (Kn a z)) λz=>z.elim (λz=>(Pf a z).imp id .inl) λz=>.inr (.inr (Qr a z))
       have Ua:D∉Fy:=λh=>by
        cases mv with
        |fr=>have:=X.2 D h;rw[RA]at this;cases this
        |pu=>exact(X D h).elim (λz=>by rw[RA]at z;cases z) NT
        |bo=>exact(X D h).elim (λz=>by rw[RA]at z;cases z) λz=>z.elim NT Pk
       have UE:RpL G N xs (trees R) Fs:=rp.same ((E.trans f).trans Nv);have VA:xs.length=R.length:=by rw[rp.len.1];simp
       have VB:R.length<all.length:=by rw[← ev,← HA];simp
       refine⟨xs,Ou,?_,_,by lia,rfl,g,R++[(mv,tv)],Fs++[Fy],xs++[y],NM,(((s3.same f).same Nv).off (.inl Lx) NT Pk).less (by rw[tl]) low,λa h=>Qr a (Pg a h),λa h=>Pf a (Pe a h),λh=>NT (Pe D h),λh=>Pk (Pg D h),?_,λa o n h=>?_,aw,?_,?_,?_,er1,?_⟩
       ·have Og:all.length<=dJ:=by simpa using hlen
        have:KB=dJ:=rfl;lia
       ·exact(kp.trans ((Kept.of E).trans ((Kept.of f).trans (Kept.of Nv)))).trans (Kept.upd (.inl Lx))
       ·rw[aF n];exact same a o (old a o n h)
       ·have:trees (R++[(mv,tv)])=trees R++[tv]:=by simp
        rw[this];exact(UE.off Lx nD).append (.cons (ry.keep (Kept.upd (.inl Lx)) λb hb o ho=>by rw[aF (λz=>Ua (by rw[← z];exact hb))];exact ho) .nil)
       ·rw[Yw];intro h;rcases Zi.mp h with z | z
        ·exact nD z
        ·exact Ua (by simpa using z)
       ·rw[Yw,nF];have:([Fy]:X8).flatten=Fy:=by simp
        rw[this];refine fp.N3 fyo λhm a d hb=>?_;subst hm;have h4:=X.2 a hb;have:Gw (A a):=(rp.same (E.trans f)).GG a d;rw[h4]at this;exact this
       ·rw[Zd,← ev,← HA];rfl
     cases cond with
     |none =>
      cases (show Y L=Y b from eb);exact LO H2 (aK.refl H2)
     |some c =>
      obtain⟨⟨mc,xc⟩,ec1,OE⟩:=Zz.mp eb;exact⟨g,p,mc,xc,b,s3,ec1,OE,λA f=>LO A f⟩
  ·cases e2
 ·cases e1
end
section
variable{G:Gx}{X:Cx}{elt tg iter c:Expr}{sc:Scope}{pos pos' UA:Pos}{N:List Str}{k i:Nat}{x:Str}{ci:Jb}{g:Tg}{cc ce:Ex}
def lP(k:Nat)(N:List Str)(n:X.calm=L)(b:OX G X tg iter ci)(m:za k g)(d:∀cl C s H fp,OY G (cJ X N sc cl C s H fp) tg g)(e:∀cl C s H fp,PV G (cJ X N sc cl C s H fp) elt ce)(f:pM X.env sc=L:=by rfl)(l:lM sc (N.drop k) X.N=L:=by rfl)(j:k<=N.length:=by decide)(a:∀x,XAC iter X.env x=pure x:=by intro _;rfl) :
  PV G X (.ListComp elt [⟨tg,iter,[],0⟩] sc pos) (cY k g ci O ce) :=
 PE.weak (lY n b f l j (λcl C s H fp=>⟨d cl C s H fp,nc,e cl C s H fp⟩) a) λJ H Q h=>pk (cond:=O) m h
def oZ(k:Nat)(N:List Str)(o:X.calm=L)(b:OX G X tg iter ci)(n:za k g)(d:∀cl C s H fp,OY G (cJ X N sc cl C s H fp) tg g)(f:∀cl C s H fp,Iw G (cJ X N sc cl C s H fp) c cc)(e:∀cl C s H fp,PV G (cJ X N sc cl C s H fp) elt ce)(j:pM X.env sc=L:=by rfl)(m:lM sc (N.drop k) X.N=L:=by rfl)(l:k<=N.length:=by decide)(a:∀x,XAC iter X.env x=pure x:=by intro _;rfl) :
  PV G X (.ListComp elt [⟨tg,iter,[c],0⟩] sc pos) (cY k g ci (Y cc) ce) :=
 PE.weak (lY o b j m l (λcl C s H fp=>⟨d cl C s H fp,yI (f cl C s H fp),e cl C s H fp⟩) a) λJ H Q h=>pk (cond:=Y cc) n h
end
end VS
end
section
namespace VS
open PySem PySem.Spec PyProof.Rows L2
noncomputable instance {s:Tx}:Decidable (og s):=inferInstanceAs (Decidable (_/\_))
section
variable{G:Gx}{X:Cx}{a b c e:Expr}{es:List Expr}{ca cb cc:Ex}{cs:GY}{pos p p1 p2 apos jj:Pos}{k k':Nat}
def w_add(f:PV G X a ca)(d:PV G X b cb):PV G X (.BinOp a .Add b pos) (e2 ba ca cb):=iO gU kQ f d
def w_mul(f:PV G X a ca)(d:PV G X b cb):PV G X (.BinOp a .Mult b pos) (e2 fg ca cb):=iO D3 Df f d
def w_mod(f:PV G X a ca)(d:PV G X b cb):PV G X (.BinOp a .Mod b pos) (e2 oMod ca cb):=iO De Cw f d
def nZ(f:PV G X a ca)(d:PV G X b cb):Iw G X (.Compare a [.Lt] [b] pos) (e2 oLt ca cb):=fq qd u7 nV f d (g7 _)
def lG(d:Gn k X.A)(g:PV G X a ca)(f:PV G X b cb):Iw G X (.Compare a [.Eq] [b] pos) (e2 oEq ca cb):=fq (t7 d.units) wI tells_eq g f (g7 _)
def bQ(g:PV G X a ca)(f:PV G X b cb)(d:gh b:=by intro _ _;rfl)(i:X.K=G.K:=by rfl):PV G X (.Subscript a b pos) (e2 aH ca cb) :=
 PE.weak (mR jN g f d) λJ H Q h=>by rw[i];exact kP tN h
def eJ(d:X.mg "len" = O)(g:Hr G X [e] cs)(f:Gl X "len" := by rfl)(h:X.K=G.K:=by rfl)(he:K1 e [] X:=by rfl):PV G X (.Call (.Name "len" p) [e] [] pos) (eN cA cs) :=
 mS (h ▸ wu) D2 f d PySem.boot_len g (he:=he) (hpl:=rfl)
def BH:bootBuiltins ("list" : Str)=Y (.type "list"):=by decide +kernel
noncomputable def M9:Ty->Str
 |.int => "int" |.str => "str" |.bool => "bool" |.list => "list" |.tuple => "tuple" |.dict => "dict"
def EV(t:Ty):bootBuiltins (M9 t)=Y (.type (JW t)):=by cases t<;>decide +kernel
def w_is(t:Ty)(f:X.mg "isinstance" = O)(l:X.mg (M9 t)=O)(h:PV G X a ca)(g:Gl X "isinstance" := by rfl)(j:Gl X (M9 t):=by rfl)(i:X.K=G.K:=by rfl)(d:Pi [a,.Name (M9 t) p2] X.env=(B,eval a X.env) :: Pi [.Name (M9 t) p2] X.env:=by rfl):PV G X (.Call (.Name "isinstance" p1) [a,.Name (M9 t) p2] [] pos) (OG t ca) :=
 En t h g f j l (EV t) i (by cases t<;>decide) (by cases t<;>decide) d M M
def mG(i:Nat){x:Str}(m:Hr G X [e] cs)(o:X.K=G.K:=by rfl)(n:X.N[i]?=Y x:=by rfl)(f:Ic X.env.scope x:=by first | exact Or.inl M | exact Or.inr (Or.inl M) | exact Or.inr (Or.inr M))(j:K3 x:=by decide)(d:K4 x:=by decide)(s:((backTo jj (Pi [e] X.env)).all (λx=>!x.1)&&(backToKw jj (SL [] X.env)).all (λx=>x.1.isSome)
   && decide ([e].length+([]:List Keyword).length+(if ([]:List Keyword).isEmpty then 0 else 1)<30))=L:=by rfl)(q:(apos.endLine==jj.line)=L:=by rfl)(g:K1 e [] X:=by rfl) :
  PSV G X (.Expr (.Call (.Attribute (.Name x p1) "append" apos) [e] [] jj) pos) (sX (kH i [] aT cs)) :=
 se i Xp XI XJ gP kZ (λH v t F l z r h=>ll r h) m o n f j d M s q g M M
def zB(i:Nat){x:Str}(m:Hr G X [e] cs)(o:X.K=G.K:=by rfl)(n:X.N[i]?=Y x:=by rfl)(f:Ic X.env.scope x:=by first | exact Or.inl M | exact Or.inr (Or.inl M) | exact Or.inr (Or.inr M))(j:K3 x:=by decide)(d:K4 x:=by decide)(s:((backTo jj (Pi [e] X.env)).all (λx=>!x.1)&&(backToKw jj (SL [] X.env)).all (λx=>x.1.isSome)
   && decide ([e].length+([]:List Keyword).length+(if ([]:List Keyword).isEmpty then 0 else 1)<30))=L:=by rfl)(q:(apos.endLine==jj.line)=L:=by rfl)(g:K1 e [] X:=by rfl) :
  PSV G X (.Expr (.Call (.Attribute (.Name x p1) "extend" apos) [e] [] jj) pos) (sX (kH i [] fj cs)) :=
 se i Xp PySem.F.slot_list_extend PySem.F.type_list_extend vw vB (λH v t F l z r h=>qE r h) m o n f j d M s q g M M
end
structure FnAt(P:P3)(w:XAA)(K:Wy)(mg:Wi)(base:UV)(k:Nat)(x:Str)(ps:List Str)(G:Gx)(g:Fn):Prop where
 ex:∃f fd,FnOk P w K mg base G8 k f fd ps (Jc G g)/\mg x=some (.ref f)/\PySem.W.keepIn K (.ref f)=true/\Binds K fd ps []
section
variable{G:Gx}{X:Cx}{e:Expr}{es:List Expr}{cs:GY}{pos p:Pos}{k k':Nat}{x:Str}{ps:List Str}{g:Fn}
def dE(F:FnAt X.prog X.w X.K X.mg X.base k x ps G g)(b:Gn k' X.A)(j:Hr G X (e :: es) cs)(d:k<=k':=by decide)(h:Gl X x:=by rfl)(q:K3 x:=by decide)(i:K1 e es X:=by rfl)(a:K2 pos es X:=by rfl) :
  PV G X (.Call (.Name x p) (e :: es) [] pos) (b6 g cs):=by
 obtain⟨f,fd,o,n,m,l⟩:=F.ex;exact AK o (b.mono d) h n m l j q i a
end
section
variable{G:Gx}{P:P3}{w:XAA}{K:Wy}{mg:Wi}{base:UV}
def m7{x:Str}{a:Stmt}{f:KF}{i:Pv}{N b:List Str}{k g h:Nat}{c:Sx}(F:GN K x x a f i)(m:mg x=Y (.ref f))(S:p0 N b (ai a))(j:b.length=g)(l:N.length=h)(o:∀(kV doc pm:KM)(an:Option KF)(d ct:KM)(e:Vy),e.length=b.length->bindArgs (PySem.W.fnOf x x (dH a) (bg a) (ai a) .none kV doc pm an d ct) ⟨e,[]⟩=pure (b.zip e))(n:∀(d:KM)(A:Re)(outer:List PySem.Env)(s:GM)(H:Hp)(E:XK),Gn k (A.deeper (envOfC x (ai a) s.heap.objs.size f d))->gD G (jk G8 P w K mg base N x (ai a) f d A outer s H E).JA (bg a) c) :
  FnAt P w K mg base (k+1) x b G (fn g h c) :=
 ⟨f,i,RF F S j l n,m,F.kp,F.binds o⟩
end
end VS
end
section
namespace L2
open PySem PySem.Spec PyProof.Rows
noncomputable def Jb(x:Str):It:=⟨λi _=>i<x.cps.size,λi H v a=>a=H/\∃c,x.cps[i]?=Y c/\v=.str ⟨#[c]⟩,λi _=>x.cps.size<=i⟩
def ot{P:P3}{w:XAA}{K:Wy}{M:Expr}(x:Str)(t:Tok)(a:KF)(j:String)(U:["enumerate", "zip", "dict_itemiterator", "dict_reverseitemiterator", "odict_iterator", "itertools.zip_longest", "itertools.pairwise"].contains j=B)(W:∀A:Re,A.handled=O->Walks P w A a [a] [a] x.cps.size (λi v=>∃c u,x.cps[i]?=Y c/\v=.str ⟨#[c]⟩ u) (λi h=>h.IsStrIter a j x t i))(Rm:∀(A:Re),A.handled=O->∀(i:Nat)(s:GM)(Q:Vx->GM->Prop)(E:Yt),s.heap.IsStrIter a j x t i->x.cps[i]?=O->(∀g,Heap.ExtBut a s.heap g->Q O { s with heap:=g })->On (IR P w) A (pyNext (.ref a)) Q E s)(N8:∀(A:Re)(i:Nat)(s:GM)(Q:Yt)(E:Yt),s.heap.IsStrIter a j x t i->Q (.ref a) s->On (IR P w) A (pyIter (.ref a)) Q E s) :
  Turn P w K M (Jb x) [a] a (λi h=>h.IsStrIter a j x t i) where
 mem:=by simp
 obj:=λi h st b hb=>by
  rw[Zk.mp hb];obtain⟨o,e,c,d⟩:=st;exact⟨o,e,λv z=>by rw[d]at z;cases z⟩
 keep:=λi h g st k=>let ⟨o,e,r⟩:=st;⟨o,k a (by simp) o e,r⟩
 item:=by
  intro X n hw p m i f s J H E I l st hg;subst n hw p;obtain⟨D,f1,f2,C,y,q⟩:=l a (by simp);refine(W X.A (I.ok.hd m)).item i s _ _ hg st λv g F S G N=>?_;obtain⟨c,u,Ib,rfl⟩:=S;have I1:Inv X f J H { s with heap:=g,toks:=F }:=I.turned (λb o hb e=>N b o (by simpa using hb) e) D f1 C y q;obtain⟨o,e,c1,d⟩:=id G;exact⟨_,rfl,rB (s:={ s with heap:=g,toks:=F }) e c1 d U ⟨.str ⟨#[c]⟩,H,I1,⟨u,rfl⟩,⟨rfl,c,Ib,rfl⟩,G,λb hb=>(l b hb).1⟩⟩
 done:=by
  intro X n hw p m i f s J H E I l st hg;subst n hw p;obtain⟨D,f1,f2,C,y,q⟩:=l a (by simp);have R:x.cps.size<=i:=hg;exact Rm X.A (I.ok.hd m) i s _ _ st (by simp[R]) λg Z=>⟨rfl,I.turned (t':=s.toks) (λb o hb e=>Z b o hb e) D f1 C y q⟩
 self:=λA i s Q E st h=>N8 A i s Q E st h
def zf{P:P3}{w:XAA}{K:Wy}{g:Expr}(x:Str)(t:Tok)(a:KF):Turn P w K g (Jb x) [a] a (λi h=>h.IsStrIter a (strIterType x) x t i):=by
 cases f:x.cps.all (· < 128)
 ·have e:strIterType x = "str_iterator" := by simp[strIterType,f]
  rw[e];exact ot x t a "str_iterator" rfl (λA b=>Walks.strWide b a x t) (λA b i s Q E st d q=>wpAny_pyNext_wide_end b st d q) λA i s Q E st q=>wpAny_pyIter_striter_wide st q
 ·have e:strIterType x = "str_ascii_iterator" := by simp[strIterType,f]
  rw[e];exact ot x t a "str_ascii_iterator" rfl (λA b=>Walks.strAscii b a x t) (λA b i s Q E st d q=>wpAny_pyNext_ascii_end b st d q) λA i s Q E st q=>wpAny_pyIter_striter_ascii st q
section
variable{X:Cx}{tg l a b c:Expr}{tl ta tb tc:TE}{pos:Pos}
noncomputable def E7(K:Wy)(f:TE):TI:=λJ H R=>f J H λx d=>(∃a,x=.ref a/\(∃e,GL K d a e)/\R (R7 K a) d)\/(∃a,x=.ref a/\(∃e,Hi K d a e)/\R (R6 K a) d)\/∃z,x=.str z/\R (Jb z) d
def zO(y:PE X l tl):PI X tg l (E7 X.K tl):=by
 intro d s J H R I h;refine thn (y d s J H _ I h) λv s1 ⟨x,g,f,r1,u⟩=>?_;have j:∀b∈[s1.heap.objs.size],oh X d g b:=λb hb=>by
  rw[Zk.mp hb];exact f.LC (Zp _) (f.Gq.fresh (Zp _))
 rcases u with⟨a,e,⟨n,i⟩,q⟩ | ⟨a,e,⟨n,i⟩,q⟩ | ⟨z,e,q⟩
 ·subst e;cases r1;obtain⟨m,r,p,w⟩:=f.list i;exact wpAny_pyIter_list p.isList ⟨s1.heap.objs.size,[s1.heap.objs.size],_,_,g,rfl,f.kept (t':=s1.toks) λb o e=>Zn _ e,vH a _,⟨_,ZY _ M,rfl,rfl⟩,j,q⟩
 ·subst e;cases r1;obtain⟨m,r,p,w⟩:=f.tuple i;exact wpAny_pyIter_tuple (show s1.heap.IsTuple a m.toArray from p) ⟨s1.heap.objs.size,[s1.heap.objs.size],_,_,g,rfl,f.kept (t':=s1.toks) λb o e=>Zn _ e,t4 a _,⟨_,ZY _ M,rfl,rfl⟩,j,q⟩
 ·subst e;obtain⟨t,rfl⟩:=r1;exact wpAny_pyIter_strU ⟨s1.heap.objs.size,[s1.heap.objs.size],_,_,g,rfl,f.kept (t':=s1.toks) λb o e=>Zn _ e,zf z t _,⟨_,ZY _ M,rfl,rfl⟩,j,q⟩
def Ab{s:GM}{d:UV}{o:Obj}(g:∀b x,b∉[s.heap.objs.size]->(s.heap.push o).get? b=Y x->d.get? b=Y x)(b:KF)(x:Obj)(e:s.heap.get? b=Y x):d.get? b=Y x :=
 g b x (λf=>YD _ (by have:=ZS e;rw[Zk.mp f]at this;exact this)) (Zn _ e)
def wF(F:X.calm=L):di X (.builtin "sum") (λo H Q=>∃p,∃ns:Vr,o=[.ref p]/\GL X.K H p (ns.map V.int)/\Q (.int ns.sum) H):=by
 intro r s J H o N Q I z h;obtain⟨p,ns,rfl,E,q⟩:=h;obtain⟨u,rfl,j⟩:=z.one;cases j;obtain⟨d,g,pl,R⟩:=I.list E;have w:p<s.heap.objs.size:=by obtain⟨_,e,_⟩:=pl.isList;exact ZS e
 refine call_sum_walkG (wpAny_pyIter_list pl.isList ⟨s.heap.objs.size,[s.heap.objs.size,p],[s.heap.objs.size],d.toArray.size,_,_,λi=>(ns[i]?).getD 0,rfl,Walks.list (A:=X.A.in1) (I.ok.hd F) _ p (Za w) d.toArray,
  ⟨⟨_,ZY _ M,rfl,rfl⟩,pl.isList.push _⟩,λb hb=>?_,λi v G=>?_,λS P y m=>⟨.int ns.sum,H,I.kept (Ab m),⟨y,?_⟩,q⟩⟩)
 ·rw[YT];rcases Zh.mp hb with rfl | hb
  ·exact Yp _
  ·rw[Zk.mp hb];exact Yo w
 ·have f:d[i]?=Y v:=by simpa using G
  cases e:ns[i]? with
  |none =>
   have:=g.none_of (i:=i) (by rw[ZV,e];rfl);rw[this]at f;cases f
  |some n =>
   obtain⟨u,D,j⟩:=g.get (i:=i) (x:=.int n) (by rw[ZV,e];rfl);rw[D]at f;cases f;obtain⟨t,rfl⟩:=j;exact⟨t,by simp[e]⟩
 ·have hlen:d.toArray.size=ns.length:=by have:=g.length;simp at this ⊢;exact Eq.symm this
  have:∀k,k<=ns.length->preSum (λi=>(ns[i]?).getD 0) k=(ns.take k).sum:=λk=>by
   induction k with
   |zero=>intro _;simp[preSum]
   |succ k C =>
    intro m;rw[List.take_succ,List.sum_append,preSum,C (by exact Nat.le_of_succ_le m)];cases e:ns[k]? <;> simp
  rw[hlen,this _ (Zp _),List.take_length]
def wx:OpR X (UF .Gt) (λx y H Q=>∃i j,x=.str i/\y=.str j/\Q (.bl (decide (j.cps.toList<i.cps.toList))) H):=by
 intro d s J H x y v u Q I f e h;obtain⟨i,j,rfl,rfl,q⟩:=h;obtain⟨t,rfl⟩:=f;obtain⟨g,rfl⟩:=e;exact PySem.P.gt_str ⟨.bl _,H,I,rfl,q⟩
end
end L2
end
section
namespace VS
open PySem PySem.Spec PyProof.Rows L2
section
variable{G:Gx}{X:Cx}{a b c e tg:Expr}{es:List Expr}{ca cb cc:Ex}{cs:GY}{pos p p1 p2 apos jj:Pos}{k k':Nat}
def C0(H:Hp)(s:Tx)(l:og s):KS G (L2.Jb (sx s)) (s.map λc=>T.str [c]) [] H:=by
 have sz:(sx s).cps.size=s.length:=rfl;refine⟨λo _ _=>⟨λi t h=>?_,λi h=>(by rw[Zt]at h;show (sx s).cps.size<=i;lia)⟩,λa h=>by simp at h⟩;rw[ZV]at h;obtain⟨c,f,rfl⟩:=Zy.mp h;refine⟨(by show i<(sx s).cps.size;have:=(ZW.mp f).1;lia),λx n ⟨e1,g,j,e2⟩=>?_⟩;subst e1;have:g=c:=by
  have m:(sx s).cps[i]?=Y c:=by simp[sx,f]
  rw[m]at j;exact(Zj j).symm
 subst this;rw[e2];exact⟨aK.refl _,[],.str [g] ⟨(by show 1<=dJ;decide),λd hd=>by rw[Zk.mp hd];exact l.2 g (Yb f)⟩,λa h=>by simp at h⟩
def dY(w:PV G X a ca)(C:X.K=G.K:=by rfl):OX G X tg a (eU ca) :=
 PI.weak (zO w) λJ H R u=>by
  obtain⟨Z,U,m,l,s,e,k⟩:=u;unfold eU at e;obtain⟨⟨t,x⟩,y,e1⟩:=Zz.mp e;refine⟨Z,U,t,x,s,y,λv f F n j q=>?_⟩;cases x with
  |lst r =>
   cases e1;obtain⟨o,g,A,rfl,rfl,d,i⟩:=j.lst_inv;exact .inl ⟨o,rfl,⟨g,GL.of d⟩,k _ f _ n (AX X.K d i) q.c⟩
  |tup r =>
   cases e1;obtain⟨o,g,A,rfl,rfl,d,i⟩:=j.HF;exact .inr (.inl ⟨o,rfl,⟨g,Hi.of d⟩,k _ f _ n (Dc X.K d i) q.c⟩)
  |str z =>
   cases e1;obtain⟨rfl,ok⟩:=j.str_inv;exact .inr (.inr ⟨_,rfl,k _ f [] n (C0 f z ok) λa h=>by simp at h⟩)
  |_=>cases e1
theorem t9{H:Hp}:∀{d:List V}{l:V1}{g:X8}{f:Vr},RpL G H d l g->mF l=Y f->d=f.map V.int
 |_,_,_,_,.nil,e=>by cases e;rfl
 |_,_,_,_,.cons (t:=t) r q,e=>by
  cases t with
  |int s =>
   simp only[mF]at e;obtain⟨h,e1,e2⟩:=Zy.mp e;subst e2;rw[t9 q e1,r.int_inv];rfl
  |_=>cases e
def Ck:fB G (λd H Q=>∃p,∃ns:Vr,d=[.ref p]/\GL G.K H p (ns.map V.int)/\Q (.int ns.sum) H) yw:=by
 intro Z U r H l f n m t Q A e k;unfold yw at e;split at e
 ·rename_i q x;obtain⟨i,e1,e2⟩:=Zz.mp e;cases e2;obtain⟨v,F,rfl,rfl,g⟩:=(show RpL G H f [.lst x] n from A.rp).one;obtain⟨a,o,Gs,rfl,rfl,j,h⟩:=g.lst_inv;exact⟨a,i,rfl,by rw[← t9 h e1];exact GL.of j,bM k (.int _)⟩
 ·cases e
def DW:bootBuiltins ("sum" : Str)=Y (.builtin "sum"):=by decide +kernel
def yx:bootBuiltins ("tuple" : Str)=Y (.type "tuple"):=by decide +kernel
def w_sum(d:X.mg "sum" = O)(h:Hr G X [e] cs)(f:Gl X "sum" := by rfl)(i:X.K=G.K:=by rfl)(g:X.calm=L:=by rfl)(he:K1 e [] X:=by rfl):PV G X (.Call (.Name "sum" p) [e] [] pos) (eN yw cs) :=
 mS (wF g) (i ▸ Ck) f d DW h (he:=he) (hpl:=rfl)
def yq:fB G (λh H Q=>∃p d,h=[.ref p]/\((GL G.K H p d/\∀l,H l=O->Q (.ref l) (upd H l (.tup d)))\/(Hi G.K H p d/\Q (.ref p) H))) jQ:=by
 intro Z U z H l i u m t Q A e k;unfold jQ at e;split at e
 ·rename_i w x;split at e
  ·rename_i y;cases e;obtain⟨v,F,rfl,rfl,j⟩:=(show RpL G H i [.lst x] u from A.rp).one;obtain⟨a,d,Gs,rfl,rfl,s,n⟩:=j.lst_inv;have f:=(A.fp.each 0 _ _ M M).sub (Yh _ _);refine⟨a,d,rfl,.inl ⟨GL.of s,λq o=>?_⟩⟩;have g:aK H (upd H q (.tup d)):=aU o;have r:Rp G (upd H q (.tup d)) (.ref q) (.tup x) Gs.flatten:=.tup aw (n.same g);exact k _ _ _ g r (f.up r)
  ·cases e
 ·cases e
def AQ(d:X.mg "tuple" = O)(g:Hr G X [e] cs)(f:Gl X "tuple" := by rfl)(h:X.K=G.K:=by rfl)(he:K1 e [] X:=by rfl):PV G X (.Call (.Name "tuple" p) [e] [] pos) (eN jQ cs) :=
 jb n8 (h ▸ yq) f d yx g (he:=he) (hpl:=rfl)
noncomputable def Sl:R2:=λx y H Q=>K6 (λi j=>.bl (decide (j<i))) x y H Q\/(∃i j,x=.str i/\y=.str j/\Q (.bl (decide (j.cps.toList<i.cps.toList))) H)
def C5(s t:Tx):decide ((sx s).cps.toList<(sx t).cps.toList)=La s t:=by rw[pL];exact decide_eq_decide.mpr (by simp[sx])
def EO:eV G Sl Lu:=by
 intro Z U i H x y u w l j m t Q d e k;obtain⟨h,x⟩:=x;obtain⟨g,y⟩:=y;obtain⟨same,r1,r2,f1,f2,nd⟩:=d;unfold Lu oLt at e;split at e
 ·rename_i e1 e2;cases e1;cases e2;cases e;exact .inl ⟨_,_,r1.int_inv,r2.int_inv,bM k (.bl _)⟩
 ·rename_i s _ f e1 e2;cases e1;cases e2;cases e;refine .inr ⟨_,_,r1.str_inv.1,r2.str_inv.1,?_⟩;rw[C5];exact bM k (.bl _)
 ·cases e
def xM:Tells Lu:=λx y m t e=>nV y x m t e
def BV(f:PV G X a ca)(d:PV G X b cb):Iw G X (.Compare a [.Gt] [b] pos) (e2 Lu ca cb):=fq (r:=Sl) (Ej.or wx) EO xM f d (g7 _)
def zw{r o:R2}{f g:Val->Val->V0}(P:eV G r f)(UP:eV G o g){J:L2.St}{H:Hp}{Q:VK}(h:tE G (g6 f g ca cb cc) J H Q):zr r o (tE G ca) (tE G cb) (tE G cc) J H Q:=by
 obtain⟨Z,U,m,t,s,e,k⟩:=h;unfold g6 at e;obtain⟨x,ea,e⟩:=Zz.mp e;obtain⟨y,eb,e⟩:=Zz.mp e;obtain⟨⟨R,z⟩,ez,e⟩:=Zz.mp e;refine wX s ea eb λu w H2 F1 A d=>P Z U H H2 x y u w F1 A R z _ d ez λv H3 F e1 r1 f1=>?_;cases z with
 |bl q =>
  refine⟨q,r1.HU,?_⟩;cases q with
  |false =>
   cases e;rw[Zm Zb];exact k _ H3 [] (d.same.trans e1) (.bl B) Fp.nil
  |true =>
   rw[Zo M];obtain⟨l,ec,e⟩:=Zz.mp (show (cc U).bind (λz=>g y z)=Y (m,t) from e);have i:=d.same.trans e1;refine⟨Z,U,l.1,l.2,s.same i,ec,λC H4 F4 n N j=>?_⟩;refine UP Z U H H4 y l w C A F4 m t Q ⟨i.trans n,(d.r2.same e1).same n,N,d.f2,j.back i,λhx S=>?_⟩ e λD H5 F5 e5 E f5=>k D H5 F5 ((i.trans n).trans e5) E f5;have f2:=d.f2;rw[hx]at f2;rw[S]at j;refine ZM.mpr ⟨f2.1,j.1,λa ha b hb z=>?_⟩;subst z;exact Gw.oe ((d.r2.same e1).GG a ha) (j.2 a hb)
 |_=>cases e
end
end VS
end
section
namespace L2
open PySem PySem.Spec PyProof.Rows
section
variable{X:Cx}
def vU{α:Type}(l:List α)(n:Nat):∀acc:List α,List.foldl (λa x2=>a++x2) acc.toArray (List.replicate n l.toArray)=(acc++(List.replicate n l).flatten).toArray:=by
 induction n with
 |zero=>intro acc;simp
 |succ n b =>
  intro acc;rw[XM,Y3];have e:acc.toArray++l.toArray=(acc++l).toArray:=by simp
  rw[e,b (acc++l),XM,ZE,Zd]
def zM:OpR X (binaryOp .Mult) (λx y H Q=>∃(l:Vt)(k:Int),x=.str ⟨l.toArray⟩/\y=.int k/\-(2 ^ 62)<=k/\k<2 ^ 62/\l.length*k.toNat<=KB/\Q (.str ⟨(List.replicate k.toNat l).flatten.toArray⟩) H):=by
 intro f s J H x y v u Q I i g h;obtain⟨l,k,rfl,rfl,z,w,b,q⟩:=h;obtain⟨t,rfl⟩:=i;obtain⟨r,rfl⟩:=g;have hlen:(⟨l.toArray⟩:Str).length=l.length:=rfl;refine PySem.P.mul_str ?_ ?_ ?_ ?_
 ·rw[Bool.or_eq_false_iff];exact⟨ZR (by lia),ZR (by lia)⟩
 ·intro d _ o;rw[hlen]at o;have n:0<k:=by lia
  have:(l.length:Int)*k<=16777216:=by
   have j:l.length*k.toNat<=16777216:=b;have:((l.length*k.toNat:Nat):Int)<=16777216:=by lia
   rw[Int.natCast_mul]at this
   rwa [Int.toNat_of_nonneg (by lia)]at this
  have p:(l.length:Int)*k<=2 ^ 63-1:=by lia
  have:=(Int.le_ediv_iff_mul_le n).mpr p;lia
 ·intro _ _;rw[hlen];exact ZR (by show ¬_ > _;exact Nat.not_lt.mpr b)
 ·by_cases d:k<1
  ·rw[Zo d];have e:k.toNat=0:=by lia
   rw[e]at q;exact⟨by decide,⟨.str ⟨#[]⟩,H,I.tok _,⟨_,rfl⟩,q⟩⟩
  ·rw[Zm d];split
   ·rename_i a;have e:(List.replicate k.toNat l).flatten=l:=by
     rw[Bool.or_eq_true]at a;rcases a with a | a
     ·have:k=1:=by simpa using a
      subst this;show (List.replicate 1 l).flatten=l;simp
     ·have:l=[]:=by
       rw[hlen]at a;exact Wr (by simpa using a)
      subst this;simp
    rw[e]at q;exact⟨.str ⟨l.toArray⟩,H,I,⟨t,rfl⟩,q⟩
   ·have e:=vU l k.toNat [];rw[YY]at e;rw[show (⟨l.toArray⟩:Str).cps=l.toArray from rfl,e];refine⟨?_,⟨.str ⟨(List.replicate k.toNat l).flatten.toArray⟩,H,I.tok _,⟨s.toks,rfl⟩,q⟩⟩;have m:=len_rep l k.toNat;show (⟨(List.replicate k.toNat l).flatten.toArray⟩:Str).length<=KB;show ((List.replicate k.toNat l).flatten.toArray).size<=KB;rw[ZQ,m,Vo];exact b
end
end L2
namespace VS
open PySem PySem.Spec PyProof.Rows L2
section
variable{G:Gx}{X:Cx}{a b c e tg:Expr}{es:List Expr}{ca cb cc:Ex}{cs:GY}{pos p p1 p2 apos jj:Pos}{k k':Nat}
def A7:eV G (λx y H Q=>∃(l:Vt)(k:Int),x=.str ⟨l.toArray⟩/\y=.int k/\-(2 ^ 62)<=k/\k<2 ^ 62/\l.length*k.toNat<=KB/\Q (.str ⟨(List.replicate k.toNat l).flatten.toArray⟩) H) vg:=by
 intro Z U v H x y u w A z m t Q g e k;obtain⟨s,x⟩:=x;obtain⟨r,y⟩:=y;obtain⟨same,r1,r2,f1,f2,nd⟩:=g;unfold vg at e;split at e
 ·rename_i _ h _ j e1 e2;cases e1;cases e2;split at e
  ·rename_i d;cases e;have o:=d.2.1;have n:=d.2.2;unfold M8 at o n;refine⟨h,j,r1.str_inv.1,r2.int_inv,by lia,by lia,d.1,bM k (.str _ ⟨?_,λc q=>?_⟩)⟩
   ·rw[len_rep,Vo];exact d.1
   ·obtain⟨x,i,f⟩:=Vd.mp q;rw[(List.mem_replicate.mp i).2]at f;exact r1.str_inv.2.2 c f
  ·cases e
 ·cases e
def xJ:PV G X (.Dict [] [] pos) (qR 0 []):=PE.weak yp λJ H Q d=>by
 obtain⟨Z,U,m,t,s,e,k⟩:=d;cases (show Y (Md.fr,T.dct 0 [])=Y (m,t) from e);intro q d;have:Rp G (upd H q (.dK [])) (.ref q) (.dct 0 ((([]:List Key).map aO).zip [])) (q :: ([]:X8).flatten):=.dct aw M .nil;exact k _ _ [q] (aU d) this ⟨by simp,λb hb=>by rw[Zk.mp hb];exact d⟩
end
section
variable{G:Gx}{X:Cx}{a b c e tg:Expr}{es:List Expr}{ca cb cc ce:Ex}{cs:GY}{pos p p1 p2 apos jj pos':Pos}{k k':Nat}
def jg{h:List Stmt}{E:Sx}(hp:PassesOwn (IR X.prog X.w) X.A X.env X.xe)(hc:Iw G X c cc)(hb:gD G X h E):PSV G X (.While c h [] pos) (kI cc E) :=
 PS.weak (zc hp hc hb) λD J H hq=>by
  obtain⟨Z,U,o,s,e,k⟩:=hq;refine⟨λn F N=>∃m r,SR G m r F N/\GD Z U H m r N/\dq cc E n r=Y o,⟨vy,Z,U,s,GD.refl Z U H,e⟩,?_⟩;rintro n F N ⟨m,r,R,f2,e2⟩;cases n with
  |zero=>cases (show (O:Option Out)=Y o from e2)
  |succ n =>
   rw[dq]at e2;obtain⟨⟨mx,x⟩,ex,e3⟩:=Zz.mp e2;obtain⟨t,et,C⟩:=Zz.mp e3;refine⟨m,r,mx,x,t,R,ex,et,λH3 P=>?_⟩;have Q:=R.same P;have y:GD Z U H m r H3:=f2.trans (GD.same P);cases t with
   |false =>
    rw[Zm Zb]at C;cases C;show if B=L then _ else _
    rw[Zm Zb];exact k m F H3 Q y
   |true =>
    rw[Zo M]at C;show if L=L then _ else _
    rw[Zo M];obtain⟨S,e5,z⟩:=Zz.mp C;refine⟨λi g=>∃f d,SR G f d i g/\GD Z U H f d g/\dq cc E n d=Y o,λi g q=>⟨n,Yp n,q⟩,m,r,S,Q,e5,?_⟩;cases S with
    |nx d=>exact λf i g j l=>⟨f,d,j,y.trans l,z⟩
    |ct d=>exact λf i g j l=>⟨f,d,j,y.trans l,z⟩
    |bk d =>
     cases (show Y (Out.nx d)=Y o from z);exact λf i g j l=>k f i g j (y.trans l)
    |rt v d =>
     cases (show Y (Out.rt v d)=Y o from z);exact λu g F4 f i j l r5 q5=>k u g F4 f i j (y.trans l) r5 (q5.back y)
def d5{H:Hp}{v:V}{l:List (T×T)}{F:Wf}(r:Rp G H v (.dct 0 l) F):∃(a:KF)(f:List Key)(d:List V)(g:V1)(i:X8),v=.ref a/\F=a :: i.flatten/\H a=Y (.dK (f.zip d))/\f.length=d.length/\l=(f.map aO).zip g/\RpL G H d g i:=by
 cases r with
 |dct h j q=>exact⟨_,_,_,_,_,rfl,rfl,h,j,rfl,q⟩
def du{H:Hp}{v:V}{t:T}{F:Wf}(r:Rp G H v t F)(h:iz t=L):∃k:Key,v=kV k/\t=aO k:=by
 cases t with
 |int i=>exact⟨.inl i,r.int_inv,rfl⟩
 |str s=>exact⟨.inr (sx s),r.str_inv.1,by simp[aO,sx]⟩
 |_=>cases h
theorem j7{H:Hp}{k:Key}:∀{d:List Key}{f:List V}{ts:V1}{Fs:X8},d.length=f.length->RpL G H f ts Fs →
  (eT ((d.map aO).zip ts) (aO k)=O/\fP (d.zip f) k=O)\/∃(i:Nat)(v:V)(t:T)(F:Wf),eT ((d.map aO).zip ts) (aO k)=Y t/\fP (d.zip f) k=Y v/\f[i]?=Y v/\Fs[i]?=Y F/\Rp G H v t F
 |[],[],_,_,_,.nil=>.inl ⟨rfl,rfl⟩
 |k' :: d,v :: f,_,_,o,.cons (t:=t) (F:=F) (ts:=ts) (Fs:=Fs) r q=>by
  have e:eqT (aO k') (aO k)=decide (k'=k):=by
   rw[XG,decide_eq_true_eq];cases k with
   |inl i=>cases k'<;>simp[aO]
   |inr x =>
    obtain⟨⟨x⟩⟩:=x;cases k' with
    |inl j=>simp[aO]
    |inr y=>obtain⟨⟨y⟩⟩:=y;simp[aO]
  by_cases g:k'=k
  ·refine .inr ⟨0,v,t,F,?_,iI g,rfl,rfl,r⟩;have l:eqT (aO k') (aO k)=L:=by rw[e];exact decide_eq_true g
   simp only[eT,Ze,ZO,Yv,l];rfl
  ·have u:eT (((k' :: d).map aO).zip (t :: ts)) (aO k)=eT ((d.map aO).zip ts) (aO k):=by
    have l:eqT (aO k') (aO k)=B:=by rw[e];exact ZR g
    simp only[eT,Ze,ZO,Yv,l]
   have s:fP ((k' :: d).zip (v :: f)) k=fP (d.zip f) k:=by simp[fP,g]
   rw[u,s];rcases j7 (k:=k) (by simpa using o) q with h | ⟨i,m,n,E,D,C,A,z,w⟩
   ·exact .inl h
   ·exact .inr ⟨i+1,m,n,E,D,C,by simpa using A,by simpa using z,w⟩
def pq(m:X.A.units+1<cLine):HL X (λx y H Q=>∃a v,x=.ref a/\gS H a y (Y v)/\Q v H):=by
 intro value slice d s J H x y v u Q I l j h n;obtain⟨a,w,rfl,g,q⟩:=h;cases l;have f:=q9 I g;unfold subscriptTail;refine Zx ?_;rw[getitemInPython_of_ne f.not_modules];refine Zx (wpAny_specialOf f PySem.F.slot_dict_getitem.lookup ?_);have fin:On (IR X.prog X.w) X.A (subscripted slice B (.ref a) u) (λr i=>On (IR X.prog X.w) X.A (letTemporaryGo value (.ref a) r >>= λ_=>pure r) (EP X d J Q) X.xe i) X.xe s:=by
  rw[n];exact wpAny_operating (vI m I g j λz C t o=>Zx (wpAny_letTemporaryGo (Zl ⟨w,H,t,o,q⟩)))
 first
  |exact Zl (Zx fin)
  |exact Zx (Zl (Zx fin))
  |exact Zx fin
noncomputable def Fl(K:Wy):R2:=λx y H Q=>P8 K x y H Q\/∃a v,x=.ref a/\gS H a y (Y v)/\Q v H
def EH:eV G (Fl G.K) HY:=by
 intro Z U J H x y u w N M m t Q d e k;obtain⟨g,x⟩:=x;by_cases hd:∃l,x=.dct 0 l
 ·obtain⟨l,rfl⟩:=hd;simp only[HY]at e;split at e
  ·rename_i o;obtain⟨t',e1,e2⟩:=Zy.mp e;obtain⟨a,ks,P,R,Fs,rfl,rfl,r,n,rfl,q⟩:=d5 d.r1;obtain⟨j,rfl,z⟩:=du d.r2 o;rw[z]at e1;rcases j7 (k:=j) n q with⟨s,_⟩ | ⟨i,v,S,F,E,D,a3,C,h⟩
   ·rw[s]at e1;cases e1
   ·rw[E]at e1;cases e1;cases e2;refine .inr ⟨a,v,rfl,by rw[← D];exact gS.k r,?_⟩;have f:=((d.f1.sub (Yh _ _)).sub (bZ C)).up h;exact k v H F (aK.refl _) h f
  ·cases e
 ·have A:aH (g,x) y=Y (m,t):=by
   simp only[HY]at e;split at e
   ·rename_i l hx;exact absurd ⟨_,rfl⟩ hd
   ·exact e
  exact .inl (tN Z U J H (g,x) y u w N M m t Q d A k)
def wj(f:Gn k X.A)(i:PV G X a ca)(g:PV G X b cb)(d:gh b:=by intro _ _;rfl)(j:X.K=G.K:=by rfl):PV G X (.Subscript a b pos) (e2 HY ca cb) :=
 PE.weak (mR (HL.or jN (pq (ke f))) i g d) λJ H Q h=>by rw[j];exact kP EH h
noncomputable def fV:T->V
 |.bl b=>.bl b
 |.int i=>.int i
 |.str s=>.str (sx s)
 |_=>.non
def BZ{H:Hp}{v:V}{t:T}{F:Wf}(r:Rp G H v t F)(h:flat t=L):v=fV t/\eZ v=L:=by
 cases r with
 |non=>exact⟨rfl,rfl⟩
 |bl b=>exact⟨rfl,rfl⟩
 |int i=>exact⟨rfl,rfl⟩
 |str s d=>exact⟨rfl,rfl⟩
 |_=>cases h
theorem Ei:∀{t u:T},flat t=L->flat u=L->Lh (fV t) (fV u)=eqT t u
 |.non,.non,_,_=>rfl
 |.non,.bl _,_,_=>rfl
 |.non,.int _,_,_=>rfl
 |.non,.str _,_,_=>rfl
 |.bl _,.non,_,_=>rfl
 |.bl _,.bl _,_,_=>rfl
 |.bl _,.int _,_,_=>rfl
 |.bl _,.str _,_,_=>rfl
 |.int _,.non,_,_=>rfl
 |.int _,.bl _,_,_=>rfl
 |.int _,.int _,_,_=>rfl
 |.int _,.str _,_,_=>rfl
 |.str _,.non,_,_=>rfl
 |.str _,.bl _,_,_=>rfl
 |.str _,.int _,_,_=>rfl
 |.str _,.str _,_,_=>xU
def xT{H:Hp}{v w:V}{t u:T}{F h:Wf}(r:Rp G H v t F)(g:Rp G H w u h)(f:flat t=L)(d:flat u=L):Lh v w=eqT t u/\eZ v=L/\eZ w=L:=by
 obtain⟨e1,f1⟩:=BZ r f;obtain⟨e2,f2⟩:=BZ g d;refine⟨?_,f1,f2⟩;rw[e1,e2];exact Ei f d
theorem pE{H:Hp}{x:V}{t:T}{F:Wf}(r:Rp G H x t F)(g:flat t=L):∀{d:List V}{f:V1}{m:X8},RpL G H d f m->f.all flat=L->d.all eZ=L/\N5 x d=f.any λy=>eqT y t
 |_,_,_,.nil,_=>⟨rfl,rfl⟩
 |_,_,_,.cons j q,h=>by
  rw[Wx,ZU]at h;obtain⟨l,i⟩:=pE r g q h.2;obtain⟨e1,e2,n⟩:=xT j r h.1 g;refine⟨by rw[Wx,e2,l];rfl,?_⟩;unfold N5 at i ⊢;rw[Y4,Y4,i,e1]
noncomputable def EM(K:Wy):R2:=λx y H Q=>Pd K B x y H Q\/∃a o,y=.ref a/\gS H a x o/\Q (.bl o.isSome) H
noncomputable def uZ(K:Wy):R2:=λx y H Q=>Pd K L x y H Q\/∃a o,y=.ref a/\gS H a x o/\Q (.bl (!o.isSome)) H
def BD(j:X.A.units+1<cLine):OpR X (UF .In) (λx y H Q=>∃a o,y=.ref a/\gS H a x o/\Q (.bl o.isSome) H):=by
 intro d s J H x y v u Q I i f h;obtain⟨a,o,rfl,g,q⟩:=h;cases f;exact Gc j I g i λm l=>⟨.bl o.isSome,H,l,rfl,q⟩
def yN(j:X.A.units+1<cLine):OpR X (UF .NotIn) (λx y H Q=>∃a o,y=.ref a/\gS H a x o/\Q (.bl (!o.isSome)) H):=by
 intro d s J H x y v u Q I i f h;obtain⟨a,o,rfl,g,q⟩:=h;cases f;exact Al j I g i λm l=>⟨.bl (!o.isSome),H,l,rfl,q⟩
def qK{Z:Gv}{U:VS.Env}{N H:Hp}{x y:Val}{u w:V}{Q P:Wf}{m:Md}{t:T}(f:OV G Z U N H x y u w Q P)(e:j8 x y=Y (m,t)) :
  ∃b,m=.fr/\t=.bl b/\((∃p n,w=.ref p/\(GL G.K H p n\/Hi G.K H p n)/\eZ u=L/\n.all eZ=L/\N5 u n=b)\/∃a o,w=.ref a/\gS H a u o/\o.isSome=b):=by
 obtain⟨m2,y⟩:=y;simp only[j8]at e;split at e
 ·split at e
  ·rename_i d;cases e;obtain⟨a,C,g,R,A,rfl,rfl,h,D,rfl,q⟩:=d5 f.r2;obtain⟨z,rfl,E⟩:=du f.r1 d;refine⟨_,rfl,rfl,.inr ⟨a,fP (C.zip g) z,rfl,gS.k h,?_⟩⟩;rw[E];rcases j7 (k:=z) D q with⟨l,j⟩ | ⟨i,v,S,F,M,J,_⟩
   ·rw[l,j];rfl
   ·rw[M,J];rfl
  ·cases e
 ·split at e
  ·rename_i d;cases e;rw[ZU]at d;obtain⟨a,g,A,rfl,rfl,h,r⟩:=f.r2.lst_inv;obtain⟨l,j⟩:=pE f.r1 d.1 r d.2;have s:eZ u=L:=(xT f.r1 f.r1 d.1 d.1).2.1;exact⟨_,rfl,rfl,.inl ⟨a,g,rfl,.inl (GL.of h),s,l,j⟩⟩
  ·cases e
 ·split at e
  ·rename_i d;cases e;rw[ZU]at d;obtain⟨a,g,A,rfl,rfl,h,r⟩:=f.r2.HF;obtain⟨l,j⟩:=pE f.r1 d.1 r d.2;have s:eZ u=L:=(xT f.r1 f.r1 d.1 d.1).2.1;exact⟨_,rfl,rfl,.inl ⟨a,g,rfl,.inr (Hi.of h),s,l,j⟩⟩
  ·cases e
 ·cases e
def FC:eV G (EM G.K) j8:=by
 intro Z U j H x y u w n l m t Q f e k;obtain⟨b,rfl,rfl,h⟩:=qK f e;rcases h with⟨p,d,rfl,i,f1,f2,hb⟩ | ⟨a,o,rfl,g,hb⟩
 ·refine .inl ⟨p,d,rfl,i,f1,f2,?_⟩;rw[hb];exact bM k (.bl b)
 ·refine .inr ⟨a,o,rfl,g,?_⟩;rw[hb];exact bM k (.bl b)
def CU:eV G (uZ G.K) cG:=by
 intro Z U r H x y u w v s m t Q j e k;unfold cG at e;split at e
 ·rename_i q f n;cases e;obtain⟨b,rfl,d,h⟩:=qK j n;cases d;rcases h with⟨p,i,rfl,l,f1,f2,hb⟩ | ⟨a,o,rfl,g,hb⟩
  ·refine .inl ⟨p,i,rfl,l,f1,f2,?_⟩;rw[hb];exact bM k (.bl (!f))
  ·refine .inr ⟨a,o,rfl,g,?_⟩;rw[hb];exact bM k (.bl (!f))
 ·cases e
def ym:Tells j8:=by
 intro x y m t e;simp only[j8]at e;split at e
 all_goals first | (split at e<;>first | (cases e;exact⟨_,rfl⟩) | cases e) | cases e
def vW:Tells cG:=by
 intro x y m t e;unfold cG at e;split at e
 ·cases e;exact⟨_,rfl⟩
 ·cases e
def BI(d:Gn k X.A)(h:PV G X a ca)(g:PV G X b cb)(f:behindInMarks .In b=B:=by with_unfolding_all rfl)(i:X.K=G.K:=by rfl):Iw G X (.Compare a [.In] [b] pos) (e2 j8 ca cb):=fq (r:=EM X.K) (vA.or (BD (ke d))) (i ▸ FC) ym h g f
def tZ(d:Gn k X.A)(h:PV G X a ca)(g:PV G X b cb)(f:behindInMarks .NotIn b=B:=by with_unfolding_all rfl)(i:X.K=G.K:=by rfl):Iw G X (.Compare a [.NotIn] [b] pos) (e2 cG ca cb):=fq (r:=uZ X.K) (p9.or (yN (ke d))) (i ▸ CU) vW h g f
end
end VS
end
section
open PySem PyProof.Rows
namespace TS
noncomputable def p7:Bool->PP->Array PP->Nat->Nat->Nat->StateT SC Sem (Option Nat):=sortPriv% PySem.Builtin.gallop
noncomputable def nO:Array PP->Array PP->StateT SC Sem (Array PP):=sortPriv% PySem.Builtin.mergeLo
noncomputable def nz:Array PP->Array PP->StateT SC Sem (Array PP):=sortPriv% PySem.Builtin.mergeHi
def all2{e d:Type}{P:e×d->Prop}(h:∀b a,P (b,a)):∀x,P x:=λ(b,a)=>h b a
def iD{g f e:Type}{P:g×f×e->Prop}(h:∀d b a,P (d,b,a)):∀x,P x:=λ(d,b,a)=>h d b a
def vQ{m l j i g:Type}{P:m×l×j×i×g->Prop}(h:∀f e d b a,P (f,e,d,b,a)):∀x,P x:=λ(f,e,d,b,a)=>h f e d b a
def rS{o n m l j i:Type}{P:o×n×m×l×j×i->Prop}(h:∀g f e d b a,P (g,f,e,d,b,a)):∀x,P x:=λ(g,f,e,d,b,a)=>h g f e d b a
def Bx{q p o n m l j:Type}{P:q×p×o×n×m×l×j->Prop}(h:∀i g f e d b a,P (i,g,f,e,d,b,a)):∀x,P x:=λ(i,g,f,e,d,b,a)=>h i g f e d b a
variable{prog:P3}{w:XAA}{A:Re}{E:Yt}{s:GM}
structure Ht(prog:P3)(w:XAA)(A:Re)(E:Yt)(s:GM)(κ:SortKind)(G:PP->Prop)(r:PP->PP->Bool):Prop where
 run:∀(st:SC)(x y:PP)(Q:Option Bool->SC->Prop),kindOf st=κ->G x->G y->Q (some (r x y)) st->wpS (IR prog w) A E s (lt' x y) Q st
 OT:∀x y,G x->G y->r x y=true->r y x=false
 trans:∀x y z,G x->G y->G z->r y x=false->r z y=false->r z x=false
variable{κ:SortKind}{G:PP->Prop}{r:PP->PP->Bool}
noncomputable def le(r:PP->PP->Bool)(x y:PP):Prop:=r y x=B
def dM{a:Array PP}{i:Nat}{Q:PP->SC->Prop}{b:SC}(d:i<a.size)(h:Q a[i] b):wpS (IR prog w) A E s (elem' a i) Q b:=by
 rw[elem'_eq,getElem?_pos a i d];exact Zf h
noncomputable def JU(r:PP->PP->Bool)(left:Bool)(a x:PP):Bool:=if left then r x a else !(r a x)
noncomputable def bf(left:Bool)(a:PP)(b:Array PP)(i:Nat):StateT SC Sem (Option Bool):=do
 let x ← elem' b i
 if left=L then lt' x a else do
  let l ← lt' a x
  pure (Option.map (λx=>!x) l)
def jV(C:Ht prog w A E s κ G r){left:Bool}{b:PP}{a:Array PP}{i:Nat}{Q:Option Bool->SC->Prop}{d:SC}(e:kindOf d=κ)(j:G b)(l:∀x∈a,G x)(f:i<a.size)(h:Q (Y (JU r left b a[i])) d) :
  wpS (IR prog w) A E s (bf left b a i) Q d:=by
 unfold bf;refine ZX (dM f ?_);have g:=l _ (Zc f);cases left with
 |true=>exact C.run d _ _ _ e g j h
 |false=>exact ZX (C.run d _ _ _ e j g (Zf h))
def sW(C:Ht prog w A E s κ G r){left:Bool}{v:PP}{d:Array PP}{b n a:Nat}{Q:Option Nat->SC->Prop}{y:SC}(R:kindOf y=κ)(gk:G v)(ga:∀x∈d,G x)(hb:b+n<=d.size)(hh:a<n)(J:∀i j (g:b+i<d.size) (hj:b+j<d.size),i<=j->j<n->JU r left v d[b+j]=L->JU r left v d[b+i]=L)(h:∀k,k<=n->(∀i (g:b+i<d.size),i<k->JU r left v d[b+i]=L)->(∀i (g:b+i<d.size),k<=i->i<n->JU r left v d[b+i]=B)->Q (Y k) y) :
  wpS (IR prog w) A E s (p7 left v d b n a) Q y:=by
 obtain⟨f,H⟩:∃f:Nat->Bool,∀i (g:b+i<d.size),f i=JU r left v d[b+i]:=⟨λi=>if g:b+i<d.size then JU r left v d[b+i] else B,λi g=>dif_pos g⟩
 have N:∀i j,i<=j->j<n->f j=L->f i=L:=λi j Jr hj e=>by
  rw[H j (by lia)]at e;rw[H i (by lia)];exact J i j (by lia) (by lia) Jr hj e
 have fin:∀k,k<=n->(∀i,i<k->f i=L)->(∀i,k<=i->i<n->f i=B)->Q (Y k) y:=λk Z X U =>
  h k Z (λi g LX=>by rw[← H i g];exact X i LX) λi g S h5=>by rw[← H i g];exact U i S h5
 clear h J;unfold p7;change wpS (IR prog w) A E s (_>>=_) Q y;dsimp only;have h0:b+a<d.size:=by lia
 refine ZX (jV C R gk ga h0 ?_);dsimp only;rw[← H _ h0];cases e0:f a with
 |true =>
  rw[Zo M];refine ZX (Xv (Yg
   (I:=λx c o=>y=o/\c.1=O/\f (a+c.2.1)=L/\c.2.1<c.2.2/\a+c.2.1<n/\x<c.2.2)
   (Q:=λc o=>y=o/\c.1=O/\f (a+c.2.1)=L/\c.2.1<c.2.2/\a+c.2.1<n/\(a+c.2.2<n->f (a+c.2.2)=B)) ?step1 ?fin1 ?init1) ?post1)
  case init1=>exact⟨rfl,rfl,e0,by decide,by dsimp only;omega,by decide⟩
  case fin1 =>
   refine iD λF q p=>?_;rintro o ⟨rfl,e1,u,m,l,t⟩;dsimp only at *;exact⟨rfl,e1,u,m,l,λz=>by(try dsimp only at z);lia⟩
  case step1 =>
   intro x;refine iD λF q p=>?_;rintro o _ hx ⟨rfl,e1,u,m,l,t⟩;dsimp only at *;split
   ·exact Zf ⟨rfl,rfl,u,m,l,λz=>by(try dsimp only at z);lia⟩
   ·have D:b+(a+p)<d.size:=by lia
    refine ZX (jV C R gk ga D ?_);dsimp only;rw[← H _ D];cases e:f (a+p) with
    |true=>exact Zf ⟨rfl,rfl,e,by dsimp only;lia,by dsimp only;lia,by dsimp only;lia⟩
    |false=>exact Zf ⟨rfl,rfl,u,m,l,λ_=>e⟩
  case post1 =>
   refine iD λF q p=>?_;rintro o ⟨rfl,e1,u,m,l,t⟩;dsimp only at *;subst e1;dsimp only;have Z:a+q+1<=a+min p (n-a):=by omega
   have X:a+min p (n-a)<=n:=by omega
   have U:∀i,i<a+q+1->f i=L:=λi g=>N i _ (by exact Wa g) (by omega) u;have S:∀i,a+min p (n-a)<=i->i<n->f i=B:=λi g P=>by
    cases e2:f i with
    |false=>rfl
    |true =>
     have:=t (by lia);rw[N _ i (by lia) P e2]at this;cases this
   clear u m l t;refine ZX (Xv (Yg
    (I:=λx c o=>y=o/\c.1=O/\c.2.1<=c.2.2/\c.2.2<=n/\(∀i,i<c.2.1->f i=L)/\(∀i,c.2.2<=i->i<n->f i=B)/\c.2.2-c.2.1+x<=n)
    (Q:=λc o=>y=o/\c.1=O/\c.2.1=c.2.2/\c.2.2<=n/\(∀i,i<c.2.1->f i=L)/\(∀i,c.2.2<=i->i<n->f i=B)) ?step ?fin ?init) ?post)
   case init=>exact⟨rfl,rfl,Z,X,U,S,by(try dsimp only);omega⟩
   case fin =>
    refine iD λF q p=>?_;rintro o ⟨rfl,e1,u,m,l,t,g5⟩
    try dsimp only at *
    exact⟨rfl,e1,by(try dsimp only at *);lia,m,l,t⟩
   case step =>
    intro x;refine iD λF q p=>?_;rintro o _ hx ⟨rfl,e1,u,m,l,t,g5⟩
    try dsimp only at *
    split
    ·exact Zf ⟨rfl,rfl,by(try dsimp only at *);lia,m,l,t⟩
    ·have D:b+(q+(p-q)/2)<d.size:=by lia
     refine ZX (jV C R gk ga D ?_)
     try dsimp only
     rw[← H _ D];cases e:f (q+(p-q)/2) with
     |true =>
      rw[Zo M];exact Zf ⟨rfl,rfl,by(try dsimp only);lia,m,λi g=>N i _ (by(try dsimp only at g);exact Wa g) (by lia) e,t,by(try dsimp only);lia⟩
     |false =>
      rw[Zm Zb];refine Zf ⟨rfl,rfl,by(try dsimp only);exact ZI _ _,by(try dsimp only);lia,l,λi g P=>?_,by(try dsimp only);omega⟩
      try dsimp only at g
      cases e2:f i with
      |false=>rfl
      |true=>rw[N _ i g P e2]at e;cases e
   case post =>
    refine iD λF q p=>?_;rintro o ⟨rfl,e1,u,m,l,t⟩
    try dsimp only at *
    subst e1;exact Zf (fin p m (λi g=>l i (by lia)) t)
 |false =>
  rw[Zm Zb];refine ZX (Xv (Yg
   (I:=λx c o=>y=o/\c.1=O/\f (a-c.2.1)=B/\c.2.1<c.2.2/\c.2.1<=a/\x<c.2.2)
   (Q:=λc o=>y=o/\c.1=O/\f (a-c.2.1)=B/\c.2.1<c.2.2/\c.2.1<=a/\(c.2.2<=a->f (a-c.2.2)=L)) ?step1 ?fin1 ?init1) ?post1)
  case init1=>exact⟨rfl,rfl,e0,by decide,by dsimp only;exact ZG _,by decide⟩
  case fin1 =>
   refine iD λF q p=>?_;rintro o ⟨rfl,e1,u,m,l,t⟩;dsimp only at *;exact⟨rfl,e1,u,m,l,λz=>by(try dsimp only at z);lia⟩
  case step1 =>
   intro x;refine iD λF q p=>?_;rintro o _ hx ⟨rfl,e1,u,m,l,t⟩;dsimp only at *;split
   ·exact Zf ⟨rfl,rfl,u,m,l,λz=>by(try dsimp only at z);lia⟩
   ·have D:b+(a-p)<d.size:=by lia
    refine ZX (jV C R gk ga D ?_);dsimp only;rw[← H _ D];cases e:f (a-p) with
    |true=>exact Zf ⟨rfl,rfl,u,m,l,λ_=>e⟩
    |false=>exact Zf ⟨rfl,rfl,e,by dsimp only;lia,by dsimp only;lia,by dsimp only;lia⟩
  case post1 =>
   refine iD λF q p=>?_;rintro o ⟨rfl,e1,u,m,l,t⟩;dsimp only at *;subst e1;dsimp only;have Z:a+1-min p (a+1)<=a-q:=by omega
   have X:a-q<=n:=by lia
   have U:∀i,i<a+1-min p (a+1)->f i=L:=λi g=>N i _ (by omega) (by omega) (t (by omega));have S:∀i,a-q<=i->i<n->f i=B:=λi g P=>by
    cases e2:f i with
    |false=>rfl
    |true=>rw[N _ i (by omega) P e2]at u;cases u
   clear u m l t;refine ZX (Xv (Yg
    (I:=λx c o=>y=o/\c.1=O/\c.2.1<=c.2.2/\c.2.2<=n/\(∀i,i<c.2.1->f i=L)/\(∀i,c.2.2<=i->i<n->f i=B)/\c.2.2-c.2.1+x<=n)
    (Q:=λc o=>y=o/\c.1=O/\c.2.1=c.2.2/\c.2.2<=n/\(∀i,i<c.2.1->f i=L)/\(∀i,c.2.2<=i->i<n->f i=B)) ?step ?fin ?init) ?post)
   case init=>exact⟨rfl,rfl,Z,X,U,S,by(try dsimp only);omega⟩
   case fin =>
    refine iD λF q p=>?_;rintro o ⟨rfl,e1,u,m,l,t,g5⟩
    try dsimp only at *
    exact⟨rfl,e1,by(try dsimp only at *);lia,m,l,t⟩
   case step =>
    intro x;refine iD λF q p=>?_;rintro o _ hx ⟨rfl,e1,u,m,l,t,g5⟩
    try dsimp only at *
    split
    ·exact Zf ⟨rfl,rfl,by(try dsimp only at *);lia,m,l,t⟩
    ·have D:b+(q+(p-q)/2)<d.size:=by lia
     refine ZX (jV C R gk ga D ?_)
     try dsimp only
     rw[← H _ D];cases e:f (q+(p-q)/2) with
     |true =>
      rw[Zo M];exact Zf ⟨rfl,rfl,by(try dsimp only);lia,m,λi g=>N i _ (by(try dsimp only at g);exact Wa g) (by lia) e,t,by(try dsimp only);lia⟩
     |false =>
      rw[Zm Zb];refine Zf ⟨rfl,rfl,by(try dsimp only);exact ZI _ _,by(try dsimp only);lia,l,λi g P=>?_,by(try dsimp only);omega⟩
      try dsimp only at g
      cases e2:f i with
      |false=>rfl
      |true=>rw[N _ i g P e2]at e;cases e
   case post =>
    refine iD λF q p=>?_;rintro o ⟨rfl,e1,u,m,l,t⟩
    try dsimp only at *
    subst e1;exact Zf (fin p m (λi g=>l i (by lia)) t)
end TS
end
section
open PySem PyProof.Rows
namespace TS
variable{prog:P3}{w:XAA}{A:Re}{E:Yt}{s:GM}{κ:SortKind}{G:PP->Prop}{r:PP->PP->Bool}
def Ht.refl(C:Ht prog w A E s κ G r){x:PP}(h:G x):le r x x:=by
 unfold le;cases e:r x x with
 |false=>rfl
 |true=>exact absurd (C.OT x x h h e) (by rw[e];exact λz=>nomatch z)
def Ht.tr(C:Ht prog w A E s κ G r){x y z:PP}(d:G x)(b:G y)(a:G z)(f:le r x y)(e:le r y z):le r x z:=C.trans x y z d b a f e
def Ht.HP(C:Ht prog w A E s κ G r){x y:PP}(b:G x)(a:G y)(h:r x y=L):le r x y:=C.OT x y b a h
noncomputable def Seg(r:PP->PP->Bool)(a:Array PP)(b d:Nat):Prop:=∀i j (f:i<a.size) (e:j<a.size),b<=i->i<=j->j<d->le r a[i] a[j]
def fW(C:Ht prog w A E s κ G r){left:Bool}{d:PP}{b:Array PP}{a n hint:Nat}{Q:Option Nat->SC->Prop}{m:SC}(v:kindOf m=κ)(l:G d)(t:∀x∈b,G x)(z:a+n<=b.size)(y:hint<n)(u:Seg r b a (a+n))(h:∀k,k<=n->(∀i (f:i<b.size),a<=i->i<a+k->le r b[i] d)->(∀i (f:i<b.size),a+k<=i->i<a+n->le r d b[i])->Q (Y k) m) :
  wpS (IR prog w) A E s (p7 left d b a n hint) Q m:=by
 have g:∀i (f:i<b.size),G b[i]:=λi f=>t _ (Zc f);refine sW C v l t z y (λi j f o R P e=>?_) λk J H F=>h k J (λi f q D=>?_) λi f q D=>?_
 ·have s1:=u (a+i) (a+j) f o (by exact ZI _ _) (by lia) (by lia);cases left with
  |true =>
   unfold JU at e ⊢;rw[Zo M]at e ⊢;cases e2:r b[a+i] d with
   |true=>rfl
   |false=>rw[show r b[a+j] d=B from C.tr l (g _ f) (g _ o) e2 s1]at e;cases e
  |false =>
   unfold JU at e ⊢;rw[Zm Zb]at e ⊢;have N:r d b[a+j]=B:=by simpa using e
   have:=C.tr (g _ f) (g _ o) l s1 N;rw[show r d b[a+i]=B from this];rfl
 ·have e:=H (i-a) (by lia) (by lia);have p:a+(i-a)=i:=by exact Vm q
  simp only[p]at e;cases left with
  |true =>
   unfold JU at e;rw[Zo M]at e;exact C.HP (g _ f) l e
  |false =>
   unfold JU at e;rw[Zm Zb]at e;show r d b[i]=B;simpa using e
 ·have e:=F (i-a) (by lia) (by lia) (by omega);have p:a+(i-a)=i:=by lia
  simp only[p]at e;cases left with
  |true =>
   unfold JU at e;rw[Zo M]at e;exact e
  |false =>
   unfold JU at e;rw[Zm Zb]at e;exact C.HP l (g _ f) (by simpa using e)
def qV{a:Array PP}{i:Nat}{x:PP}(h:x∈a.toList.drop i):∃j,∃(d:j<a.size),i<=j/\a[j]=x:=by
 obtain⟨k,b,e⟩:=Ye h;rw[Yz]at b;rw[XZ]at e;have:i+k<a.size:=by simpa using(by omega:i+k<a.toList.length)
 exact⟨i+k,this,by exact ZI _ _,by simpa using e⟩
def jR{a:Array PP}{i k:Nat}{x:PP}(h:x∈(a.toList.drop i).take k):∃j,∃(d:j<a.size),i<=j/\j<i+k/\a[j]=x:=by
 obtain⟨m,b,e⟩:=Ye h;rw[IH,Yz]at b;rw[Xa,XZ]at e;have:i+m<a.size:=by simpa using(by omega:i+m<a.toList.length)
 exact⟨i+m,this,by exact ZI _ _,by lia,by simpa using e⟩
def uN{a:Array PP}{i:Nat}(h:i<a.size):a.toList.drop i=a[i] :: a.toList.drop (i+1):=by
 have:i<a.toList.length:=by simpa using h
 rw[YF this];simp
def i3{a:Array PP}(h:Seg r a 0 a.size):a.toList.Pairwise (le r):=by
 rw[YG];intro i j d b e;simpa using h i j (by simpa using d) (by simpa using b) (ZG _) (by exact ZD e) (by simpa using b)
def yW(C:Ht prog w A E s κ G r){a:Array PP}(f:∀x∈a,G x)(h:a.toList.Pairwise (le r)):Seg r a 0 a.size:=by
 intro i j d e _ g _;rcases Wh i j with l | b
 ·have:=YG.mp h i j (by simpa using d) (by simpa using e) l;simpa using this
 ·have:i=j:=by exact Wp g b
  subst this;exact C.refl (f _ (Zc d))
structure MI(r:PP->PP->Bool)(a b out:Array PP)(ia ib:Nat):Prop where
 pm:(out.toList++(a.toList.drop ia++b.toList.drop ib)).Perm (a.toList++b.toList)
 so:out.toList.Pairwise (le r)
 la:∀x∈out.toList,∀y∈a.toList.drop ia,le r x y
 lb:∀x∈out.toList,∀y∈b.toList.drop ib,le r x y
noncomputable def MR(r:PP->PP->Bool)(a b d:Array PP):Prop:=d.toList.Perm (a.toList++b.toList)/\d.toList.Pairwise (le r)
theorem MI.size{a b out:Array PP}{e d:Nat}(m:MI r a b out e d)(g:e<=a.size)(f:d<=b.size):out.size+(a.size-e)+(b.size-d)=a.size+b.size:=by
 have:=m.pm.length_eq;simp at this;lia
def MI.Ju{a b f:Array PP}{d l k:Nat}(m:MI r a b f d l)(p:Seg r a 0 a.size)(q:∀i (o:i<a.size),d<=i->i<d+k->∀j (n:j<b.size),l<=j->le r a[i] b[j]) :
  MI r a b (f++a.extract d (d+k)) (d+k) l:=by
 have e1:(f++a.extract d (d+k)).toList=f.toList++(a.toList.drop d).take k:=by
  simp[List.extract_eq_drop_take]
 have e2:a.toList.drop d=(a.toList.drop d).take k++a.toList.drop (d+k):=by
  rw[← WD];exact(YR _ _).symm
 have h:(a.toList.drop d).Pairwise (le r):=(i3 p).drop;rw[e2,Jf]at h;refine⟨?_,?_,?_,?_⟩
 ·rw[e1];have:=m.pm;rw[e2]at this;simpa[Zd] using this
 ·rw[e1,Jf];refine⟨m.so,h.1,λx e y g=>m.la x e y ?_⟩;exact YM g
 ·rw[e1];intro x e y g;rcases Zi.mp e with e | e
  ·exact m.la x e y (by rw[e2];exact ZL _ g)
  ·exact h.2.2 x e y g
 ·rw[e1];intro x e y g;rcases Zi.mp e with e | e
  ·exact m.lb x e y g
  ·obtain⟨i,o,v,u,rfl⟩:=jR e;obtain⟨j,n,t,rfl⟩:=qV g;exact q i o v u j n t
def MI.swap{a b d:Array PP}{f e:Nat}(m:MI r a b d f e):MI r b a d e f :=
 ⟨((YE.append_left _).trans m.pm).trans YE,m.so,m.lb,m.la⟩
def MI.KP{a b e:Array PP}{f d k:Nat}(m:MI r a b e f d)(g:Seg r b 0 b.size)(h:∀i (n:i<b.size),d<=i->i<d+k->∀j (l:j<a.size),f<=j->le r b[i] a[j]) :
  MI r a b (e++b.extract d (d+k)) f (d+k):=(m.swap.Ju g h).swap
def yU{a b:Array PP}{i:Nat}(h:i<a.size):b.push a[i]=b++a.extract i (i+1):=by
 apply Array.ext';have:(a.extract i (i+1)).toList=[a[i]]:=by
  have e:i<a.toList.length:=by simpa using h
  simp[List.extract_eq_drop_take,YF e]
 rw[Yd,this,X2]
def MI.GW{a b e:Array PP}{d f:Nat}(m:MI r a b e d f)(l:Seg r a 0 a.size)(h:d<a.size)(n:∀j (g:j<b.size),f<=j->le r a[d] b[j]):MI r a b (e.push a[d]) (d+1) f:=by
 rw[yU h];refine m.Ju l λi p t q j g o=>?_;have:i=d:=by lia
 subst this;exact n j g o
def MI.Hx{a b d:Array PP}{f e:Nat}(m:MI r a b d f e)(g:Seg r b 0 b.size)(h:e<b.size)(i:∀j (l:j<a.size),f<=j->le r b[e] a[j]):MI r a b (d.push b[e]) f (e+1):=(m.swap.GW g h i).swap
def l6{a:Array PP}{i:Nat}:(a.extract i a.size).toList=a.toList.drop i:=by
 rw[Wq,List.extract_eq_drop_take,Yu (by simp)]
def MI.fin{a b d:Array PP}{g f:Nat}(m:MI r a b d g f)(n:Seg r a 0 a.size)(l:Seg r b 0 b.size)(h:g=a.size\/f=b.size):MR r a b (d++a.extract g a.size++b.extract f b.size):=by
 have e:(d++a.extract g a.size++b.extract f b.size).toList=d.toList++(a.toList.drop g++b.toList.drop f):=by
  rw[Yd,Yd,l6,l6,Zd]
 refine⟨by rw[e];exact m.pm,?_⟩;rw[e,Jf];refine⟨m.so,?_,λx j y i=>?_⟩
 ·rcases h with h | h
  ·rw[YV (as:=a.toList) (by simp[h]),YY];exact(i3 l).drop
  ·rw[YV (as:=b.toList) (by simp[h]),ZK];exact(i3 n).drop
 ·rcases Zi.mp i with i | i
  ·exact m.la x j y i
  ·exact m.lb x j y i
def MI.last{a b d:Array PP}{f i:Nat}(m:MI r a b d f i)(o:Seg r b 0 b.size)(h:f+1=a.size)(p:∀j (n:j<b.size),le r b[j] a[f]):MR r a b (d++b.extract i b.size++a.extract f a.size):=by
 have e:(d++b.extract i b.size++a.extract f a.size).toList=d.toList++(b.toList.drop i++a.toList.drop f):=by
  rw[Yd,Yd,l6,l6,Zd]
 have e2:a.toList.drop f=[a[f]]:=by rw[uN (by omega),YV (by simp;lia)]
 refine⟨by rw[e];exact(YE.append_left _).trans m.pm,?_⟩;rw[e,Jf];refine⟨m.so,?_,λx l y g=>?_⟩
 ·rw[Jf];refine⟨(i3 o).drop,by rw[e2];exact List.pairwise_singleton _ _,λx l y g=>?_⟩;rw[e2]at g;obtain⟨j,n,_,rfl⟩:=qV l;rw[Zk.mp g];exact p j n
 ·rcases Zi.mp g with g | g
  ·exact m.lb x l y g
  ·exact m.la x l y g
end TS
end
section
open PySem PyProof.Rows
namespace TS
variable{prog:P3}{w:XAA}{A:Re}{E:Yt}{s:GM}{κ:SortKind}{G:PP->Prop}{r:PP->PP->Bool}
noncomputable def gq(a b:SC):Prop:=kindOf b=kindOf a/\arrOf b=arrOf a/\SZ b=SZ a/\failedOf b=failedOf a
noncomputable def d6:Nat->StateT SC Sem Unit:=sortPriv% PySem.Builtin.setMinGallop
def ie{g:Nat}{Q:Unit->SC->Prop}{a d:SC}(e:gq d a)(h:∀b,gq d b->Q () b):wpS (IR prog w) A E s (d6 g) Q a:=by
 unfold d6;exact Wm (h _ e)
def gz{t:String}{Q:Unit->SC->Prop}{a:SC}(h:Q () a):wpS (IR prog w) A E s (liftM (rule t)) Q a:=wpS_lift (W0 ⟨rfl,h⟩)
def aC{α:Type}{c:Prop}[Decidable c]{x y:StateT SC Sem α}{Q:α->SC->Prop}{b:SC}(d:c->wpS (IR prog w) A E s x Q b)(e:¬c->wpS (IR prog w) A E s y Q b) :
  wpS (IR prog w) A E s (if c then x else y) Q b:=by
 by_cases a:c
 ·rw[Zo a];exact d a
 ·rw[Zm a];exact e a
def uo{α:Type}{c:Nat->Prop}[∀n,Decidable (c n)]{d a:Nat->StateT SC Sem α}{Q:α->SC->Prop}{b:SC}(e:∀n,d n=a (n-1))(h:∀n,wpS (IR prog w) A E s (a n) Q b):∀n,wpS (IR prog w) A E s (if c n then d n else a n) Q b :=
 λn=>aC (λ_=>by rw[e];exact h _) λ_=>h n
def bj{α:Type}{a:Array PP}{i:Nat}{c:PP->Prop}[∀v,Decidable (c v)]{x y:PP->StateT SC Sem α}{Q:α->SC->Prop}{b:SC}(e:i<a.size)(d:c a[i]->wpS (IR prog w) A E s (x a[i]) Q b)(f:¬c a[i]->wpS (IR prog w) A E s (y a[i]) Q b) :
  wpS (IR prog w) A E s (elem' a i >>= λv=>if c v then x v else y v) Q b:=ZX (dM e (aC d f))
def x5{α:Type}{c d:Prop}[Decidable c][Decidable d]{x y z:StateT SC Sem α}{Q:α->SC->Prop}{a:SC}(g:c->wpS (IR prog w) A E s x Q a)(f:¬c->d->wpS (IR prog w) A E s y Q a)(b:¬c->¬d->wpS (IR prog w) A E s z Q a) :
  wpS (IR prog w) A E s (if c then x else if d then y else z) Q a:=aC g λe=>aC (f e) (b e)
def iQ{α β:Type}{a:Array PP}{i:Nat}{m:PP->StateT SC Sem β}{f:PP->β->StateT SC Sem α}{Q:α->SC->Prop}{b:SC}(d:i<a.size)(h:wpS (IR prog w) A E s (m a[i]) (λv e=>wpS (IR prog w) A E s (f a[i] v) Q e) b) :
  wpS (IR prog w) A E s (elem' a i >>= λu=>m u >>= λv=>f u v) Q b:=ZX (dM d (ZX h))
structure MC(G:PP->Prop)(r:PP->PP->Bool)(a b:Array PP):Prop where
 ga:∀x∈a,G x
 gb:∀x∈b,G x
 sa:Seg r a 0 a.size
 sb:Seg r b 0 b.size
 na:0<a.size
 nb:0<b.size
 first:le r b[0] a[0]
 last:∀j (hj:j<b.size),le r b[j] a[a.size-1]
def MC.HQ{a b:Array PP}(M:MC G r a b){i:Nat}(f:i<a.size)(h:i+1=a.size):∀j (d:j<b.size),le r b[j] a[i]:=by
 intro j d;have:=M.last j d;have e:a.size-1=i:=by lia
 simpa[e] using this
def MC.bA(C:Ht prog w A E s κ G r){a b:Array PP}(M:MC G r a b){i j:Nat}(e:i<a.size)(f:j<b.size)(h:le r b[j] a[i]):∀k (d:k<a.size),i<=k->le r b[j] a[k]:=λk d g =>
 C.tr (M.gb _ (Zc f)) (M.ga _ (Zc e)) (M.ga _ (Zc d)) h (M.sa i k e d (ZG _) g d)
def MC.aB(C:Ht prog w A E s κ G r){a b:Array PP}(M:MC G r a b){i j:Nat}(f:i<a.size)(e:j<b.size)(h:le r a[i] b[j]):∀k (d:k<b.size),j<=k->le r a[i] b[k]:=λk d g =>
 C.tr (M.ga _ (Zc f)) (M.gb _ (Zc e)) (M.gb _ (Zc d)) h (M.sb j k e d (ZG _) g d)
def jd{a:Array PP}(h:Seg r a 0 a.size)(d e:Nat):Seg r a d e:=λi j g b m f l=>h i j g b (ZG _) f b
def ES(C:Ht prog w A E s κ G r){a b:Array PP}{H:SC}{Q:Array PP->SC->Prop}(hk:kindOf H=κ)(M:MC G r a b)(h:∀res o,gq H o->MR r a b res->Q res o) :
  wpS (IR prog w) A E s (nO a b) Q H:=by
 have S5:=M.na;have V2:=M.nb;unfold nO;change wpS (IR prog w) A E s (_>>=_) Q H;dsimp only;refine ZX (gz ?_);have m0:MI r a b #[] 0 0:=⟨by simp,by simp,by simp,by simp⟩
 have m1:MI r a b #[b[0]] 0 1:=m0.Hx M.sb M.nb λj l _=>M.bA C M.na M.nb M.first j l (ZG _);have Mu:gq H H:=⟨rfl,rfl,rfl,rfl⟩
 refine bj M.nb (λe=>?_) λe1=>?_
 ·exact Zf (h _ _ Mu (m1.fin M.sa M.sb (.inr (by simpa using e))))
 refine aC (λe=>?_) λe2=>?_
 ·exact Zf (h _ _ Mu (m1.last M.sb (by simpa using e) (M.HQ M.na (by simpa using e))))
 have OH:1<b.size:=by simp at e1;lia
 have Hh:0+1<a.size:=by simp at e2;lia
 refine ZX (WI ?_);refine ZX (Xv (Yg
  (I:=λx c o=>gq H o/\c.1=O/\MI r a b c.2.1 c.2.2.1 c.2.2.2.1/\c.2.2.1+1<a.size/\c.2.2.2.1<b.size/\x<c.2.1.size)
  (Q:=λc o=>gq H o/\∃res,c.1=Y res/\MR r a b res) ?step ?fin ?init) ?post)
 case init=>exact⟨Mu,rfl,m1,Hh,OH,by simp⟩
 case fin =>
  refine vQ λU out u D mg o d=>?_;have kp:=d.1;have t:=d.2.1;have m:=d.2.2.1;have p:=d.2.2.2.1;have f:=d.2.2.2.2.1;have N:=d.2.2.2.2.2;clear d;dsimp only at *;have:=m.size (by lia) (by exact ZD f);lia
 case post =>
  refine vQ λU out u D mg=>?_;rintro o ⟨kp,res,t,p⟩;dsimp only at *;subst t;exact Zf (h _ _ kp p)
 case step =>
  intro x;refine vQ λU out u D mg o _ hx d=>?_;have kp:=d.1;have t:=d.2.1;have m:=d.2.2.1;have p:=d.2.2.2.1;have f:=d.2.2.2.2.1;have N:=d.2.2.2.2.2;clear d;dsimp only at *;refine ZX (Xv (Yg
   (I:=λy c o=>gq H o/\c.1=O/\MI r a b c.2.1 c.2.2.1 c.2.2.2.1/\c.2.2.1+1<a.size/\c.2.2.2.1<b.size/\x+y<c.2.1.size)
   (Q:=λc o=>gq H o/\((∃res,c.1=Y res/\MR r a b res)\/(c.1=O/\MI r a b c.2.1 c.2.2.1 c.2.2.2.1/\c.2.2.1+1<a.size/\c.2.2.2.1<b.size/\x+1<c.2.1.size))) ?step2 ?fin2 ?init2) ?post2)
  case init2=>exact⟨kp,rfl,m,p,f,by simpa using N⟩
  case fin2 =>
   refine rS λU out u D ac bc o d=>?_;have kp:=d.1;have t:=d.2.1;have m:=d.2.2.1;have p:=d.2.2.2.1;have f:=d.2.2.2.2.1;have N:=d.2.2.2.2.2;clear d;dsimp only at *;exact⟨kp,.inr ⟨t,m,p,f,by(try dsimp only);lia⟩⟩
  case step2 =>
   intro y;refine rS λU out u D ac bc o _ hy d=>?_;have kp:=d.1;have t:=d.2.1;have m:=d.2.2.1;have p:=d.2.2.2.1;have f:=d.2.2.2.2.1;have N:=d.2.2.2.2.2;clear d;dsimp only at *;have X:u<a.size:=by exact Xb p
   have gA:=M.ga _ (Zc X);have gB:=M.gb _ (Zc f);refine iQ f (dM X ?_);refine ZX (C.run _ _ _ _ (kp.1.trans hk) gB gA ?_);dsimp only;cases e:r b[D] a[u] with
   |true =>
    rw[Zo rfl];have J:=m.Hx M.sb f (M.bA C X f (C.HP gB gA e));refine bj f (λS=>?_) λS=>?_
    ·exact Zf ⟨kp,.inl ⟨_,rfl,J.fin M.sa M.sb (.inr (by simpa using S))⟩⟩
    ·have IE:D+1<b.size:=by simp at S;lia
     refine aC (λ_=>?_) λ_=>?_
     ·exact Zf ⟨kp,.inr ⟨rfl,J,p,IE,by simp;lia⟩⟩
     ·exact Zf ⟨kp,rfl,J,p,IE,by simp;lia⟩
   |false =>
    rw[Zm Zb];have J:=m.GW M.sa X (M.aB C X f e);refine bj X (λS=>?_) λS=>?_
    ·exact Zf ⟨kp,.inl ⟨_,rfl,J.last M.sb (by simpa using S) (M.HQ (by omega) (by simpa using S))⟩⟩
    ·have IE:u+1+1<a.size:=by simp at S;lia
     refine aC (λ_=>?_) λ_=>?_
     ·exact Zf ⟨kp,.inr ⟨rfl,J,IE,f,by simp;lia⟩⟩
     ·exact Zf ⟨kp,rfl,J,IE,f,by simp;lia⟩
  case post2 =>
   refine rS λU out u D ac bc=>?_;rintro o ⟨kp,⟨res,t,p⟩ | ⟨t,m,p,f,N⟩⟩
   ·dsimp only at *;subst t;exact Zf ⟨kp,res,rfl,p⟩
   ·dsimp only at *;subst t;dsimp only;refine ZX (gz ?_);refine ZX (Xv (Yg
     (I:=λy c o=>gq H o/\c.1=O/\MI r a b c.2.1 c.2.2.1 c.2.2.2.1/\c.2.2.1+1<a.size/\c.2.2.2.1<b.size/\x+1<c.2.1.size)
     (Q:=λc o=>gq H o/\((∃res,c.1=Y res/\MR r a b res)\/(c.1=O/\MI r a b c.2.1 c.2.2.1 c.2.2.2.1/\c.2.2.1+1<a.size/\c.2.2.2.1<b.size/\x+1<c.2.1.size))) ?step3 ?fin3 ?init3) ?post3)
    case init3=>exact⟨kp,rfl,m,p,f,N⟩
    case fin3 =>
     refine rS λU out u D ac bc o d=>?_;have kp:=d.1;have t:=d.2.1;have m:=d.2.2.1;have p:=d.2.2.2.1;have f:=d.2.2.2.2.1;have N:=d.2.2.2.2.2;clear d;exact⟨kp,.inr ⟨t,m,p,f,N⟩⟩
    case post3 =>
     refine Bx λU out u D mg ac bc=>?_;rintro o ⟨kp,⟨res,t,p⟩ | ⟨t,m,p,f,N⟩⟩
     ·dsimp only at *;subst t;exact Zf ⟨kp,res,rfl,p⟩
     ·dsimp only at *;subst t;dsimp only;exact ZX (ie kp λG5 n=>Zf ⟨n,rfl,m,p,f,N⟩)
    case step3 =>
     intro y;refine Bx λU out u D mg ac bc o _ hy d=>?_;have kp:=d.1;have t:=d.2.1;have m:=d.2.2.1;have p:=d.2.2.2.1;have f:=d.2.2.2.2.1;have N:=d.2.2.2.2.2;clear d;dsimp only at *;have both:∀{mg:Nat}{F:Unit->StateT SC Sem (ForInStep (Option (Array PP)×Array PP×Nat×Nat×Nat×Nat×Nat))}{P},(∀G5,gq H G5->wpS (IR prog w) A E s (F ()) P G5)->wpS (IR prog w) A E s (d6 mg>>=F) P o:=λhF=>ZX (ie kp λG5 n=>hF G5 n);revert mg;refine uo (λ_=>rfl) λU7=>?_;refine both λG5 n=>?_;have X:u<a.size:=by exact Xb p
     have gB:=M.gb _ (Zc f);refine iQ f (fW C (n.1.trans hk) gB M.ga (by lia) (by exact Vp X) (jd M.sa _ _) λk Le JR Nk=>?_);dsimp only;refine aC (λe5=>?_) λe5=>?_
     ·have J:=m.Ju (k:=k) M.sa (λi R h1 h2 j l h3=>C.tr (M.ga _ (Zc R)) gB (M.gb _ (Zc l)) (JR i R h1 h2) (M.sb _ j f l (ZG _) h3 l));refine x5 (λq=>?_) (λq g=>?_) λq g=>?_
      ·exact Zf ⟨n,.inl ⟨_,rfl,J.last M.sb (by simpa using q) (M.HQ (by simp at q;lia) (by simpa using q))⟩⟩
      ·exact Zf ⟨n,.inl ⟨_,rfl,J.fin M.sa M.sb (.inl (by simpa using g))⟩⟩
      have v:u+k<a.size:=by simp at q g;lia
      have PD:u+k+1<a.size:=by simp at q g;lia
      have hle:∀j (l:j<a.size),u+k<=j->le r b[D] a[j]:=λj l h=>Nk j l h (by lia);clear q;have Z:=J.Hx M.sb f hle;refine bj f (λe4=>?_) λe4=>?_
      ·exact Zf ⟨n,.inl ⟨_,rfl,Z.fin M.sa M.sb (.inr (by simpa using e4))⟩⟩
      have MX:D+1<b.size:=by simp at e4;lia
      refine iQ v (fW C (n.1.trans hk) (M.ga _ (Zc v)) M.gb (by lia) (by exact Vp MX) (jd M.sb _ _) λk2 Ri HR Iq=>?_);dsimp only;have m4:=Z.KP (k:=k2) M.sb (λi R h1 h2 j l h3=>C.tr (M.gb _ (Zc R)) (M.ga _ (Zc v)) (M.ga _ (Zc l)) (HR i R h1 h2) (M.sa _ j v l (ZG _) h3 l));refine aC (λe5=>?_) λe5=>?_
      ·refine aC (λq=>?_) λq=>?_
       ·exact Zf ⟨n,.inl ⟨_,rfl,m4.fin M.sa M.sb (.inr (by simpa using q))⟩⟩
       have z:=m4.GW M.sa v (λj l h=>Iq j l h (by omega));refine bj v (λg=>?_) λg=>?_
       ·exact Zf ⟨n,.inl ⟨_,rfl,z.last M.sb (by simpa using g) (M.HQ (by simp at g;omega) (by simpa using g))⟩⟩
       have HA:=g;simp at HA;refine aC (λ_=>?_) λ_=>?_
       ·exact Zf ⟨n,.inr ⟨rfl,z,by(try dsimp only);lia,by(try dsimp only);(try simp at q);lia,by simp;lia⟩⟩
       ·exact Zf ⟨n,rfl,z,by(try dsimp only);lia,by(try dsimp only);(try simp at q);lia,by simp;lia⟩
      ·have z:=Z.GW M.sa v (λj l h=>Iq j l (by lia) (by omega));refine bj v (λg=>?_) λg=>?_
       ·exact Zf ⟨n,.inl ⟨_,rfl,z.last M.sb (by simpa using g) (M.HQ (by simp at g;omega) (by simpa using g))⟩⟩
       have HA:=g;simp at HA;refine aC (λ_=>?_) λ_=>?_
       ·exact Zf ⟨n,.inr ⟨rfl,z,by(try dsimp only);lia,by(try dsimp only);(try simp at q);omega,by simp;lia⟩⟩
       ·exact Zf ⟨n,rfl,z,by(try dsimp only);lia,by(try dsimp only);(try simp at q);omega,by simp;lia⟩
     ·have J:=m;have v:u<a.size:=by omega
      have hle:∀j (l:j<a.size),u<=j->le r b[D] a[j]:=λj l h=>Nk j l (by lia) (by lia);have Z:=J.Hx M.sb f hle;refine bj f (λe4=>?_) λe4=>?_
      ·exact Zf ⟨n,.inl ⟨_,rfl,Z.fin M.sa M.sb (.inr (by simpa using e4))⟩⟩
      have MX:D+1<b.size:=by simp at e4;lia
      refine iQ v (fW C (n.1.trans hk) (M.ga _ (Zc v)) M.gb (by lia) (by exact Vp MX) (jd M.sb _ _) λk2 Ri HR Iq=>?_);dsimp only;have m4:=Z.KP (k:=k2) M.sb (λi R h1 h2 j l h3=>C.tr (M.gb _ (Zc R)) (M.ga _ (Zc v)) (M.ga _ (Zc l)) (HR i R h1 h2) (M.sa _ j v l (ZG _) h3 l));refine aC (λe5=>?_) λe5=>?_
      ·refine aC (λq=>?_) λq=>?_
       ·exact Zf ⟨n,.inl ⟨_,rfl,m4.fin M.sa M.sb (.inr (by simpa using q))⟩⟩
       have z:=m4.GW M.sa v (λj l h=>Iq j l h (by omega));refine bj v (λg=>?_) λg=>?_
       ·exact Zf ⟨n,.inl ⟨_,rfl,z.last M.sb (by simpa using g) (M.HQ (by simp at g;omega) (by simpa using g))⟩⟩
       have HA:=g;simp at HA;refine aC (λ_=>?_) λ_=>?_
       ·exact Zf ⟨n,.inr ⟨rfl,z,by(try dsimp only);lia,by(try dsimp only);(try simp at q);lia,by simp;lia⟩⟩
       ·exact Zf ⟨n,rfl,z,by(try dsimp only);lia,by(try dsimp only);(try simp at q);lia,by simp;lia⟩
      ·have z:=Z.GW M.sa v (λj l h=>Iq j l (by lia) (by omega));refine bj v (λg=>?_) λg=>?_
       ·exact Zf ⟨n,.inl ⟨_,rfl,z.last M.sb (by simpa using g) (M.HQ (by simp at g;omega) (by simpa using g))⟩⟩
       have HA:=g;simp at HA;refine aC (λ_=>?_) λ_=>?_
       ·exact Zf ⟨n,.inr ⟨rfl,z,by(try dsimp only);lia,by(try dsimp only);(try simp at q);omega,by simp;lia⟩⟩
       ·exact Zf ⟨n,rfl,z,by(try dsimp only);lia,by(try dsimp only);(try simp at q);omega,by simp;lia⟩
end TS
end
section
open PySem PyProof.Rows
namespace TS
variable{prog:P3}{w:XAA}{A:Re}{E:Yt}{s:GM}{κ:SortKind}{G:PP->Prop}{r:PP->PP->Bool}
def yC{a:Array PP}{n:Nat}{x:PP}(h:x∈a.toList.take n):∃j,∃(d:j<a.size),j<n/\a[j]=x:=by
 obtain⟨m,b,e⟩:=Ye h;rw[IH]at b;rw[Xa]at e;have:m<a.size:=by simpa using(by lia:m<a.toList.length)
 exact⟨m,this,by lia,by simpa using e⟩
structure HI(r:PP->PP->Bool)(a b out:Array PP)(na nb:Nat):Prop where
 pm:(a.toList.take na++(b.toList.take nb++out.toList.reverse)).Perm (a.toList++b.toList)
 so:out.toList.reverse.Pairwise (le r)
 la:∀x∈out.toList,∀y∈a.toList.take na,le r y x
 lb:∀x∈out.toList,∀y∈b.toList.take nb,le r y x
theorem HI.size{a b out:Array PP}{e d:Nat}(m:HI r a b out e d)(g:e<=a.size)(f:d<=b.size):out.size+e+d=a.size+b.size:=by
 have:=m.pm.length_eq;simp at this;lia
def HI.Ju{a b d:Array PP}{f n k:Nat}(m:HI r a b d f n)(q:Seg r a 0 a.size)(u:k<=f)(t:∀i (p:i<a.size),k<=i->i<f->∀j (o:j<b.size),j<n->le r b[j] a[i]) :
  HI r a b (d++(a.extract k f).reverse) k n:=by
 have e1:(d++(a.extract k f).reverse).toList.reverse=(a.toList.drop k).take (f-k)++d.toList.reverse:=by
  simp[List.extract_eq_drop_take]
 have e2:a.toList.take f=a.toList.take k++(a.toList.drop k).take (f-k):=by
  rw[← YR k (a.toList.take f),List.take_take,List.drop_take,YH u]
 have l:(a.toList.take f).Pairwise (le r):=(i3 q).take;rw[e2,Jf]at l;have mem:∀x,x∈(d++(a.extract k f).reverse).toList->x∈d.toList\/x∈(a.toList.drop k).take (f-k):=λx e=>by
  have:x∈(d++(a.extract k f).reverse).toList.reverse:=Xn.mpr e;rw[e1]at this;rcases Zi.mp this with h | h
  ·exact .inr h
  ·exact .inl (Xn.mp h)
 refine⟨?_,?_,?_,?_⟩
 ·rw[e1];have:=m.pm;rw[e2]at this;refine List.Perm.trans ?_ this;rw[Zd];refine List.Perm.append_left _ ?_;rw[← Zd,← Zd];exact List.Perm.append_right _ YE
 ·rw[e1,Jf];refine⟨l.2.1,m.so,λx e y g=>m.la y (Xn.mp g) x ?_⟩;rw[e2];exact ZL _ e
 ·intro x e y g;rcases mem x e with e | e
  ·exact m.la x e y (by rw[e2];exact Yj _ g)
  ·exact l.2.2 y g x e
 ·intro x e y g;rcases mem x e with e | e
  ·exact m.lb x e y g
  ·obtain⟨i,p,z,C,rfl⟩:=jR e;obtain⟨j,o,v,rfl⟩:=yC g;exact t i p z (by lia) j o v
def HI.swap{a b d:Array PP}{f e:Nat}(m:HI r a b d f e):HI r b a d e f:=by
 refine⟨?_,m.so,m.lb,m.la⟩;refine List.Perm.trans ?_ (m.pm.trans YE);rw[← Zd,← Zd];exact List.Perm.append_right _ YE
def HI.KP{a b d:Array PP}{f e k:Nat}(m:HI r a b d f e)(g:Seg r b 0 b.size)(l:k<=e)(h:∀i (o:i<b.size),k<=i->i<e->∀j (n:j<a.size),j<f->le r a[j] b[i]) :
  HI r a b (d++(b.extract k e).reverse) f k:=(m.swap.Ju g l h).swap
def zb{a b:Array PP}{i:Nat}(h:i<a.size):b.push a[i]=b++(a.extract i (i+1)).reverse:=by
 apply Array.ext';have:(a.extract i (i+1)).toList=[a[i]]:=by
  have e:i<a.toList.length:=by simpa using h
  simp[List.extract_eq_drop_take,YF e]
 rw[Yd,WA,this,X2];rfl
def HI.GW{a b f:Array PP}{d g:Nat}(m:HI r a b f d g)(n:Seg r a 0 a.size)(v:0<d)(h:d-1<a.size)(o:∀j (l:j<b.size),j<g->le r b[j] a[d-1]):HI r a b (f.push a[d-1]) (d-1) g:=by
 rw[zb h];have e:d-1+1=d:=by lia
 rw[e];refine m.Ju n (by exact Xu _ _) λi q u t j l p=>?_;have:i=d-1:=by lia
 subst this;exact o j l p
def HI.Hx{a b e:Array PP}{f d:Nat}(m:HI r a b e f d)(g:Seg r b 0 b.size)(l:0<d)(h:d-1<b.size)(i:∀j (n:j<a.size),j<f->le r a[j] b[d-1]):HI r a b (e.push b[d-1]) f (d-1):=(m.swap.GW g l h i).swap
def zH{a:Array PP}{n:Nat}:(a.extract 0 n).toList=a.toList.take n:=by
 rw[Wq,List.extract_eq_drop_take,X1,Nat.sub_zero]
def HI.fin{a b d:Array PP}{g f:Nat}(m:HI r a b d g f)(n:Seg r a 0 a.size)(l:Seg r b 0 b.size)(h:g=0\/f=0):MR r a b (a.extract 0 g++b.extract 0 f++d.reverse):=by
 have e:(a.extract 0 g++b.extract 0 f++d.reverse).toList=a.toList.take g++(b.toList.take f++d.toList.reverse):=by
  rw[Yd,Yd,zH,zH,Zd,WA]
 refine⟨by rw[e];exact m.pm,?_⟩;rw[e,← Zd,Jf];refine⟨?_,m.so,λx i y j=>?_⟩
 ·rcases h with h | h
  ·subst h;rw[List.take_zero,YY];exact(i3 l).take
  ·subst h;rw[List.take_zero,ZK];exact(i3 n).take
 ·rcases Zi.mp i with i | i
  ·exact m.la y (Xn.mp j) x i
  ·exact m.lb y (Xn.mp j) x i
def HI.first{a b d:Array PP}{i g:Nat}(m:HI r a b d i g)(o:Seg r a 0 a.size)(h:g=1)(q:0<b.size)(p:∀j (n:j<a.size),le r b[0] a[j]):MR r a b (b.extract 0 g++a.extract 0 i++d.reverse):=by
 have e:(b.extract 0 g++a.extract 0 i++d.reverse).toList=b.toList.take g++(a.toList.take i++d.toList.reverse):=by
  rw[Yd,Yd,zH,zH,Zd,WA]
 have e2:b.toList.take g=[b[0]]:=by
  subst h;have:=uN q;rw[X1]at this;rw[this];rfl
 refine⟨?_,?_⟩
 ·rw[e];exact m.swap.pm.trans YE
 rw[e,← Zd,Jf];refine⟨?_,m.so,λx f y l=>?_⟩
 ·rw[Jf];refine⟨by rw[e2];exact List.pairwise_singleton _ _,(i3 o).take,λx f y l=>?_⟩;rw[e2]at f;obtain⟨j,n,_,rfl⟩:=yC l;rw[Zk.mp f];exact p j n
 ·rcases Zi.mp f with f | f
  ·exact m.lb y (Xn.mp l) x f
  ·exact m.la y (Xn.mp l) x f
def MC.Hv(C:Ht prog w A E s κ G r){a b:Array PP}(M:MC G r a b):∀j (d:j<a.size),le r (b[0]'M.nb) a[j]:=λj d=>M.bA C M.na M.nb M.first j d (ZG _)
def ET(C:Ht prog w A E s κ G r){a b:Array PP}{N:SC}{Q:Array PP->SC->Prop}(hk:kindOf N=κ)(M:MC G r a b)(h:∀res n,gq N n->MR r a b res->Q res n) :
  wpS (IR prog w) A E s (nz a b) Q N:=by
 have S5:=M.na;have V2:=M.nb;unfold nz;change wpS (IR prog w) A E s (_>>=_) Q N;dsimp only;have S8:a.size-1<a.size:=by omega
 refine ZX (gz ?_);have m0:HI r a b #[] a.size b.size:=⟨by simp[Yu],by simp,by simp,by simp⟩
 have m1:HI r a b #[a[a.size-1]] (a.size-1) b.size:=m0.GW M.sa S5 S8 λj g _=>M.last j g;have Mu:gq N N:=⟨rfl,rfl,rfl,rfl⟩
 refine bj S8 (λe=>?_) λe1=>?_
 ·exact Zf (h _ _ Mu (m1.fin M.sa M.sb (.inl (by simpa using e))))
 refine aC (λe=>?_) λe2=>?_
 ·exact Zf (h _ _ Mu (m1.first M.sa (by simpa using e) M.nb (M.Hv C)))
 have OH:0<a.size-1:=by simp at e1;exact II e1
 have Hh:1<b.size:=by simp at e2;lia
 refine ZX (WI ?_);refine ZX (Xv (Yg
  (I:=λx c n=>gq N n/\c.1=O/\HI r a b c.2.2.2.1 c.2.1 c.2.2.1/\0<c.2.1/\c.2.1<=a.size/\1<c.2.2.1/\c.2.2.1<=b.size/\x<c.2.2.2.1.size)
  (Q:=λc n=>gq N n/\∃res,c.1=Y res/\MR r a b res) ?step ?fin ?init) ?post)
 case init=>exact⟨Mu,rfl,m1,OH,by(try dsimp only);exact Xu _ _,Hh,Zp _,by simp⟩
 case fin =>
  refine vQ λc1 na nb out mg n d=>?_;have kp:=d.1;have u:=d.2.1;have m:=d.2.2.1;have o:=d.2.2.2.1;have J:=d.2.2.2.2.1;have v:=d.2.2.2.2.2.1;have H:=d.2.2.2.2.2.2.1;have U:=d.2.2.2.2.2.2.2;clear d;dsimp only at *;have:=m.size (by omega) (by omega);lia
 case post =>
  refine vQ λc1 na nb out mg=>?_;rintro n ⟨kp,res,u,o⟩;dsimp only at *;subst u;exact Zf (h _ _ kp o)
 case step =>
  intro x;refine vQ λc1 na nb out mg n _ hx d=>?_;have kp:=d.1;have u:=d.2.1;have m:=d.2.2.1;have o:=d.2.2.2.1;have J:=d.2.2.2.2.1;have v:=d.2.2.2.2.2.1;have H:=d.2.2.2.2.2.2.1;have U:=d.2.2.2.2.2.2.2;clear d;dsimp only at *;refine ZX (Xv (Yg
   (I:=λy c n=>gq N n/\c.1=O/\HI r a b c.2.2.2.1 c.2.1 c.2.2.1/\0<c.2.1/\c.2.1<=a.size/\1<c.2.2.1/\c.2.2.1<=b.size/\x+y<c.2.2.2.1.size)
   (Q:=λc n=>gq N n/\((∃res,c.1=Y res/\MR r a b res)\/(c.1=O/\HI r a b c.2.2.2.1 c.2.1 c.2.2.1/\0<c.2.1/\c.2.1<=a.size/\1<c.2.2.1/\c.2.2.1<=b.size/\x+1<c.2.2.2.1.size))) ?step2 ?fin2 ?init2) ?post2)
  case init2=>exact⟨kp,rfl,m,o,J,v,H,by simpa using U⟩
  case fin2 =>
   refine rS λc1 na nb out ac bc n d=>?_;have kp:=d.1;have u:=d.2.1;have m:=d.2.2.1;have o:=d.2.2.2.1;have J:=d.2.2.2.2.1;have v:=d.2.2.2.2.2.1;have H:=d.2.2.2.2.2.2.1;have U:=d.2.2.2.2.2.2.2;clear d;dsimp only at *;exact⟨kp,.inr ⟨u,m,o,J,v,H,by(try dsimp only);lia⟩⟩
  case step2 =>
   intro y;refine rS λc1 na nb out ac bc n _ hy d=>?_;have kp:=d.1;have u:=d.2.1;have m:=d.2.2.1;have o:=d.2.2.2.1;have J:=d.2.2.2.2.1;have v:=d.2.2.2.2.2.1;have H:=d.2.2.2.2.2.2.1;have U:=d.2.2.2.2.2.2.2;clear d;dsimp only at *;have f:na-1<a.size:=by lia
   have t:nb-1<b.size:=by lia
   have gA:=M.ga _ (Zc f);have gB:=M.gb _ (Zc t);refine iQ t (dM f ?_);refine ZX (C.run _ _ _ _ (kp.1.trans hk) gB gA ?_);dsimp only;cases e:r b[nb-1] a[na-1] with
   |true =>
    rw[Zo rfl];have S:=m.GW M.sa o f (λj g S9=>C.tr (M.gb _ (Zc g)) gB gA (M.sb j _ g t (ZG _) (by lia) t) (C.HP gB gA e));refine bj f (λZ=>?_) λZ=>?_
    ·exact Zf ⟨kp,.inl ⟨_,rfl,S.fin M.sa M.sb (.inl (by simpa using Z))⟩⟩
    ·have IE:0<na-1:=by simp at Z;exact II Z
     refine aC (λ_=>?_) λ_=>?_
     ·exact Zf ⟨kp,.inr ⟨rfl,S,IE,by(try dsimp only);exact ZD f,v,H,by simp;lia⟩⟩
     ·exact Zf ⟨kp,rfl,S,IE,by(try dsimp only);exact ZD f,v,H,by simp;lia⟩
   |false =>
    rw[Zm Zb];have S:=m.Hx M.sb (by exact Xb v) t (λj g S9=>C.tr (M.ga _ (Zc g)) gA gB (M.sa j _ g f (ZG _) (by lia) f) e);refine bj t (λZ=>?_) λZ=>?_
    ·exact Zf ⟨kp,.inl ⟨_,rfl,S.first M.sa (by simpa using Z) M.nb (M.Hv C)⟩⟩
    ·have IE:1<nb-1:=by simp at Z;lia
     refine aC (λ_=>?_) λ_=>?_
     ·exact Zf ⟨kp,.inr ⟨rfl,S,o,J,IE,by(try dsimp only);exact ZD t,by simp;lia⟩⟩
     ·exact Zf ⟨kp,rfl,S,o,J,IE,by(try dsimp only);exact ZD t,by simp;lia⟩
  case post2 =>
   refine rS λc1 na nb out ac bc=>?_;rintro n ⟨kp,⟨res,u,o⟩ | ⟨u,m,o,J,v,H,U⟩⟩
   ·dsimp only at *;subst u;exact Zf ⟨kp,res,rfl,o⟩
   ·dsimp only at *;subst u;dsimp only;refine ZX (gz ?_);refine ZX (Xv (Yg
     (I:=λy c n=>gq N n/\c.1=O/\HI r a b c.2.2.2.1 c.2.1 c.2.2.1/\0<c.2.1/\c.2.1<=a.size/\1<c.2.2.1/\c.2.2.1<=b.size/\x+1<c.2.2.2.1.size)
     (Q:=λc n=>gq N n/\((∃res,c.1=Y res/\MR r a b res)\/(c.1=O/\HI r a b c.2.2.2.1 c.2.1 c.2.2.1/\0<c.2.1/\c.2.1<=a.size/\1<c.2.2.1/\c.2.2.1<=b.size/\x+1<c.2.2.2.1.size))) ?step3 ?fin3 ?init3) ?post3)
    case init3=>exact⟨kp,rfl,m,o,J,v,H,U⟩
    case fin3 =>
     refine rS λc1 na nb out ac bc n d=>?_;have kp:=d.1;have u:=d.2.1;have m:=d.2.2.1;have o:=d.2.2.2.1;have J:=d.2.2.2.2.1;have v:=d.2.2.2.2.2.1;have H:=d.2.2.2.2.2.2.1;have U:=d.2.2.2.2.2.2.2;clear d;exact⟨kp,.inr ⟨u,m,o,J,v,H,U⟩⟩
    case post3 =>
     refine Bx λc1 na nb out mg ac bc=>?_;rintro n ⟨kp,⟨res,u,o⟩ | ⟨u,m,o,J,v,H,U⟩⟩
     ·dsimp only at *;subst u;exact Zf ⟨kp,res,rfl,o⟩
     ·dsimp only at *;subst u;dsimp only;exact ZX (ie kp λG5 l=>Zf ⟨l,rfl,m,o,J,v,H,U⟩)
    case step3 =>
     intro y;refine Bx λc1 na nb out mg ac bc n _ hy d=>?_;have kp:=d.1;have u:=d.2.1;have m:=d.2.2.1;have o:=d.2.2.2.1;have J:=d.2.2.2.2.1;have v:=d.2.2.2.2.2.1;have H:=d.2.2.2.2.2.2.1;have U:=d.2.2.2.2.2.2.2;clear d;dsimp only at *;have both:∀{mg:Nat}{F:Unit->StateT SC Sem (ForInStep (Option (Array PP)×Nat×Nat×Array PP×Nat×Nat×Nat))}{P},(∀G5,gq N G5->wpS (IR prog w) A E s (F ()) P G5)->wpS (IR prog w) A E s (d6 mg>>=F) P n:=λhF=>ZX (ie kp λG5 l=>hF G5 l);revert mg;refine uo (λ_=>rfl) λU7=>?_;refine both λG5 l=>?_;have Tt:0<nb:=by exact Xb v
     have t:nb-1<b.size:=by lia
     have gB:=M.gb _ (Zc t);refine iQ t (fW C (l.1.trans hk) gB M.ga (by lia) (by lia) (jd M.sa _ _) λk Le JR Nk=>?_);dsimp only;refine aC (λe5=>?_) λe5=>?_
     ·have S:=m.Ju (k:=k) M.sa (by omega) (λi X h1 h2 j g h3=>C.tr (M.gb _ (Zc g)) gB (M.ga _ (Zc X)) (M.sb j _ g t (ZG _) (by lia) t) (Nk i X (by lia) (by lia)));refine aC (λp=>?_) λp=>?_
      ·exact Zf ⟨l,.inl ⟨_,rfl,S.fin M.sa M.sb (.inl (by simpa using p))⟩⟩
      have Ov:0<k:=by simp at p;exact II p
      have f:k-1<a.size:=by lia
      have hle:∀j (g:j<a.size),j<k->le r a[j] b[nb-1]:=λj g h=>JR j g (ZG _) (by lia);clear p;have m3:=S.Hx M.sb Tt t hle;refine bj t (λe4=>?_) λe4=>?_
      ·exact Zf ⟨l,.inl ⟨_,rfl,m3.first M.sa (by simpa using e4) M.nb (M.Hv C)⟩⟩
      have MX:1<nb-1:=by simp at e4;lia
      refine iQ f (fW C (l.1.trans hk) (M.ga _ (Zc f)) M.gb (by lia) (by lia) (jd M.sb _ _) λk2 Ri HR Iq=>?_);dsimp only;have m4:=m3.KP (k:=k2) M.sb (by omega) (λi X h1 h2 j g h3=>C.tr (M.ga _ (Zc g)) (M.ga _ (Zc f)) (M.gb _ (Zc X)) (M.sa j _ g f (ZG _) (by lia) f) (Iq i X (by lia) (by lia)));refine aC (λe5=>?_) λe5=>?_
      ·refine aC (λq=>?_) λq=>?_
       ·exact Zf ⟨l,.inl ⟨_,rfl,m4.first M.sa (by simpa using q) M.nb (M.Hv C)⟩⟩
       refine aC (λR=>?_) λR=>?_
       ·exact Zf ⟨l,.inl ⟨_,rfl,m4.fin M.sa M.sb (.inr (by simpa using R))⟩⟩
       have z:=m4.GW M.sa Ov f (λj g h=>HR j g (ZG _) (by lia));refine bj f (λp=>?_) λp=>?_
       ·exact Zf ⟨l,.inl ⟨_,rfl,z.fin M.sa M.sb (.inl (by simpa using p))⟩⟩
       have D:=p;simp at D;refine aC (λ_=>?_) λ_=>?_
       ·exact Zf ⟨l,.inr ⟨rfl,z,by(try dsimp only);exact II D,by(try dsimp only);exact ZD f,by(try dsimp only);(try simp at q);(try simp at R);lia,by(try dsimp only);(try simp at q);lia,by simp;lia⟩⟩
       ·exact Zf ⟨l,rfl,z,by(try dsimp only);exact II D,by(try dsimp only);exact ZD f,by(try dsimp only);(try simp at q);(try simp at R);lia,by(try dsimp only);(try simp at q);lia,by simp;lia⟩
      ·have z:=m3.GW M.sa Ov f (λj g h=>HR j g (ZG _) (by lia));refine bj f (λp=>?_) λp=>?_
       ·exact Zf ⟨l,.inl ⟨_,rfl,z.fin M.sa M.sb (.inl (by simpa using p))⟩⟩
       have D:=p;simp at D;refine aC (λ_=>?_) λ_=>?_
       ·exact Zf ⟨l,.inr ⟨rfl,z,by(try dsimp only);exact II D,by(try dsimp only);exact ZD f,by(try dsimp only);(try simp at q);(try simp at R);omega,by(try dsimp only);(try simp at q);exact ZD t,by simp;lia⟩⟩
       ·exact Zf ⟨l,rfl,z,by(try dsimp only);exact II D,by(try dsimp only);exact ZD f,by(try dsimp only);(try simp at q);(try simp at R);omega,by(try dsimp only);(try simp at q);exact ZD t,by simp;lia⟩
     ·have S:=m;have Ov:0<na:=o;have f:na-1<a.size:=by lia
      have hle:∀j (g:j<a.size),j<na->le r a[j] b[nb-1]:=λj g h=>JR j g (ZG _) (by lia);have m3:=S.Hx M.sb Tt t hle;refine bj t (λe4=>?_) λe4=>?_
      ·exact Zf ⟨l,.inl ⟨_,rfl,m3.first M.sa (by simpa using e4) M.nb (M.Hv C)⟩⟩
      have MX:1<nb-1:=by simp at e4;lia
      refine iQ f (fW C (l.1.trans hk) (M.ga _ (Zc f)) M.gb (by lia) (by lia) (jd M.sb _ _) λk2 Ri HR Iq=>?_);dsimp only;have m4:=m3.KP (k:=k2) M.sb (by omega) (λi X h1 h2 j g h3=>C.tr (M.ga _ (Zc g)) (M.ga _ (Zc f)) (M.gb _ (Zc X)) (M.sa j _ g f (ZG _) (by lia) f) (Iq i X (by lia) (by lia)));refine aC (λe5=>?_) λe5=>?_
      ·refine aC (λq=>?_) λq=>?_
       ·exact Zf ⟨l,.inl ⟨_,rfl,m4.first M.sa (by simpa using q) M.nb (M.Hv C)⟩⟩
       refine aC (λR=>?_) λR=>?_
       ·exact Zf ⟨l,.inl ⟨_,rfl,m4.fin M.sa M.sb (.inr (by simpa using R))⟩⟩
       have z:=m4.GW M.sa Ov f (λj g h=>HR j g (ZG _) (by lia));refine bj f (λp=>?_) λp=>?_
       ·exact Zf ⟨l,.inl ⟨_,rfl,z.fin M.sa M.sb (.inl (by simpa using p))⟩⟩
       have D:=p;simp at D;refine aC (λ_=>?_) λ_=>?_
       ·exact Zf ⟨l,.inr ⟨rfl,z,by(try dsimp only);exact II D,by(try dsimp only);exact ZD f,by(try dsimp only);(try simp at q);(try simp at R);lia,by(try dsimp only);(try simp at q);lia,by simp;lia⟩⟩
       ·exact Zf ⟨l,rfl,z,by(try dsimp only);exact II D,by(try dsimp only);exact ZD f,by(try dsimp only);(try simp at q);(try simp at R);lia,by(try dsimp only);(try simp at q);lia,by simp;lia⟩
      ·have z:=m3.GW M.sa Ov f (λj g h=>HR j g (ZG _) (by lia));refine bj f (λp=>?_) λp=>?_
       ·exact Zf ⟨l,.inl ⟨_,rfl,z.fin M.sa M.sb (.inl (by simpa using p))⟩⟩
       have D:=p;simp at D;refine aC (λ_=>?_) λ_=>?_
       ·exact Zf ⟨l,.inr ⟨rfl,z,by(try dsimp only);exact II D,by(try dsimp only);exact ZD f,by(try dsimp only);(try simp at q);(try simp at R);omega,by(try dsimp only);(try simp at q);exact ZD t,by simp;lia⟩⟩
       ·exact Zf ⟨l,rfl,z,by(try dsimp only);exact II D,by(try dsimp only);exact ZD f,by(try dsimp only);(try simp at q);(try simp at R);omega,by(try dsimp only);(try simp at q);exact ZD t,by simp;lia⟩
end TS
end
section
open PySem PyProof.Rows
namespace TS
variable{prog:P3}{w:XAA}{A:Re}{E:Yt}{s:GM}{κ:SortKind}{G:PP->Prop}{r:PP->PP->Bool}
noncomputable def K(a:Array PP)(i:Nat):Keyed:=(a[i]?).getD (.none,.none)
def xA{a:Array PP}{i:Nat}(h:i<a.size):K a i=a[i]:=by unfold K;rw[getElem?_pos a i h];rfl
noncomputable def Sg(r:PP->PP->Bool)(a:Array PP)(b d:Nat):Prop:=∀i j,b<=i->i<=j->j<d->le r (K a i) (K a j)
noncomputable def Ds(r:PP->PP->Bool)(a:Array PP)(b d:Nat):Prop:=∀i j,b<=i->i<=j->j<d->le r (K a j) (K a i)
def lC{a:Array PP}{i j:Nat}(b:j<=a.size)(k:Nat):K (mirror a i j ((j-i)/2)) k=if i<=k/\k<j then K a (i+j-1-k) else K a k:=by
 unfold K;rw[getElem?_mirror_all b];split<;>rfl
def B7{b:Array PP}{a d:Nat}(e:a<b.size)(f:d<=a)(k:Nat):K (bubble b a d) k=if k=a-d then K b a else if a-d<k/\k<=a then K b (k-1) else K b k:=by
 unfold K;rw[getElem?_bubble e d f];split
 ·rfl
 ·split<;>rfl
structure Lc(lo:Nat)(He st:SC):Prop where
 kind:kindOf st=kindOf He
 pend:SZ st=SZ He
 fail:failedOf st=failedOf He
 perm:(arrOf st).Perm (arrOf He)
 pre:∀j,j<lo->(arrOf st)[j]?=(arrOf He)[j]?
theorem Lc.refl(b:Nat)(a:SC):Lc b a a:=⟨rfl,rfl,rfl,Array.Perm.refl _,λ_ _=>rfl⟩
theorem Lc.size{d:Nat}{b a:SC}(L:Lc d b a):(arrOf a).size=(arrOf b).size:=L.perm.size_eq
def Lc.good{e:Nat}{b a:SC}(L:Lc e b a)(g:∀x∈arrOf b,G x){i:Nat}(d:i<(arrOf b).size):G (K (arrOf a) i):=by
 rw[xA (by rw[L.size];exact d)];refine g _ ?_;have:(arrOf a)[i]'(by rw[L.size];exact d)∈(arrOf a).toList:=by simp
 have:=(XU.mp L.perm).mem_iff.mp this;simpa using this
def Lc.arr{d:Nat}{f a:SC}(L:Lc d f a){b:Array PP}(h:b.Perm (arrOf a))(g:∀j,j<d->b[j]?=(arrOf a)[j]?):Lc d f (setArr a b) :=
 ⟨L.kind,L.pend,L.fail,h.trans L.perm,λj e=>(g j e).trans (L.pre j e)⟩
def Lc.LR{b:Nat}{d a:SC}(L:Lc b d a){i j:Nat}(g:b<=i)(e:j<=(arrOf d).size):Lc b d (setArr a (mirror (arrOf a) i j ((j-i)/2))) :=
 L.arr (mirror_perm _ _ _ _) λk f=>by rw[getElem?_mirror_all (by rw[L.size];exact e),Zm (by lia)]
def kC(C:Ht prog w A E s κ G r){o:Nat}{b a:SC}(p:kindOf b=κ)(g:∀x∈arrOf b,G x)(L:Lc o b a){i j:Nat}{Q:Option Bool->SC->Prop}(e:i<(arrOf b).size)(d:j<(arrOf b).size)(h:Q (Y (r (K (arrOf a) i) (K (arrOf a) j))) a):wpS (IR prog w) A E s (ltAt' i j) Q a:=by
 have l:=L.good g e;have f:=L.good g d;have m:i<(arrOf a).size:=by rw[L.size];exact e
 have n:j<(arrOf a).size:=by rw[L.size];exact d
 rw[ltAt'_eq];refine ZX (WI ?_);refine ZX (dM m (ZX (dM n ?_)));rw[xA m]at l h;rw[xA n]at f h;exact C.run a _ _ _ (L.kind.trans p) l f h
def Ds.LR(C:Ht prog w A E s κ G r){f:Array PP}{g e i:Nat}(D:Ds r f g e)(h:∀k,k<e->G (K f k))(o:g<=i)(l:e<=f.size)(n:∀k,i<=k->k<e->le r (K f k) (K f (e-1))) :
  Ds r (mirror f i e ((e-i)/2)) g e:=λp q j t m=>by
 rw[lC l,lC l];have eqv:∀u v,i<=u->u<e->i<=v->v<e->le r (K f u) (K f v):=λu v a b c d=>C.tr (h u b) (h _ (by lia)) (h v d) (n u a b) (D v (e-1) (by exact ZA o c) (by lia) (by lia));split
 ·split
  ·exact eqv _ _ (by omega) (by omega) (by lia) (by omega)
  ·exact D p _ j (by lia) (by omega)
 ·split
  ·lia
  ·exact D p q j t m
def Ds.rev{d:Array PP}{b a:Nat}(D:Ds r d b a)(g:a<=d.size):Sg r (mirror d b a ((a-b)/2)) b a:=λp q f h e=>by
 rw[lC g,lC g,Zo ⟨f,by exact Vw h e⟩,Zo ⟨by exact ZA f h,e⟩];exact D _ _ (by omega) (by omega) (by omega)
def Sg.snoc(C:Ht prog w A E s κ G r){b:Array PP}{a n:Nat}(S:Sg r b a (a+n))(d:∀k,k<=a+n->G (K b k))(m:1<=n)(h:le r (K b (a+n-1)) (K b (a+n))):Sg r b a (a+n+1):=λi j f g l=>by
 by_cases e:j<a+n
 ·exact S i j f g e
 ·have:j=a+n:=by lia
  subst this;by_cases e2:i=a+n
  ·subst e2;exact C.refl (d _ (Zp _))
  ·exact C.tr (d i (by omega)) (d _ (by exact Xu _ _)) (d _ (Zp _)) (S i (a+n-1) f (by lia) (by omega)) h
def Ds.snoc(C:Ht prog w A E s κ G r){b:Array PP}{a n:Nat}(S:Ds r b a (a+n))(d:∀k,k<=a+n->G (K b k))(m:1<=n)(h:le r (K b (a+n)) (K b (a+n-1))):Ds r b a (a+n+1):=λi j f g l=>by
 by_cases e:j<a+n
 ·exact S i j f g e
 ·have:j=a+n:=by lia
  subst this;by_cases e2:i=a+n
  ·subst e2;exact C.refl (d _ (Zp _))
  ·exact C.tr (d _ (Zp _)) (d _ (by exact Xu _ _)) (d i (by omega)) h (S i (a+n-1) f (by lia) (by omega))
def lU{a:SC}{i j:Nat}{Q:Unit->SC->Prop}(h:Q () (setArr a (mirror (arrOf a) i j ((j-i)/2)))):wpS (IR prog w) A E s (reverseSlice' i j) Q a:=by
 rw[reverseSlice'_eq];exact Wm h
def rL{α:Type}{c:Prop}[Decidable c]{x R:StateT SC Sem α}{Q:α->SC->Prop}{P:SC->Prop}{b:SC}(D:∀a,P a->wpS (IR prog w) A E s R Q a)(d:¬c->P b)(e:c->(∀a,P a->wpS (IR prog w) A E s R Q a)->wpS (IR prog w) A E s x Q b):wpS (IR prog w) A E s (if c then x else R) Q b :=
 aC (λz=>e z D) λz=>D b (d z)
def CD(C:Ht prog w A E s κ G r){a n:Nat}{t:SC}{Q:Option Nat->SC->Prop}(u:kindOf t=κ)(g:∀x∈arrOf t,G x)(h0:1<=n)(hn:a+n<=(arrOf t).size)(h:∀m b,Lc a t b->1<=m->m<=n->Sg r (arrOf b) a (a+m)->Q (Y m) b):wpS (IR prog w) A E s (countRun' a n) Q t:=by
 unfold countRun';change wpS (IR prog w) A E s (_>>=_) Q t;dsimp only;have L0:=Lc.refl a t;have QD:1<=1:=Zp _;have s0:Sg r (arrOf t) a (a+1):=λi j y F h3=>by
  have e1:i=a:=by lia
  have e2:j=a:=by lia
  subst e1 e2;exact C.refl (L0.good g (by lia))
 refine ZX (Xv (Yg
  (I:=λx c b=>Lc a t b/\c.1=O/\c.2=x/\1<=x/\Sg r (arrOf b) a (a+x))
  (Q:=λc b=>Lc a t b/\c.1=O/\1<=c.2/\c.2<=n/\Sg r (arrOf b) a (a+c.2)/\(c.2<n->r (K (arrOf b) (a+c.2)) (K (arrOf b) (a+c.2-1))=true)) ?stepA ?finA ?initA) ?postA)
 case initA=>exact⟨L0,rfl,rfl,QD,s0⟩
 case finA =>
  refine all2 λN l=>?_;rintro b ⟨L,v,q,p,f⟩;dsimp only at *;subst q;refine⟨L,v,by(try dsimp only);omega,by(try dsimp only);lia,f,λz=>?_⟩
  (try dsimp only at z)
  lia
 case stepA =>
  intro x;refine all2 λN l=>?_;rintro b SO Z ⟨L,v,q,p,f⟩;dsimp only at *;subst q;refine ZX (kC C u g L (by lia) (by omega) ?_);dsimp only;have d:∀k,k<=a+l->G (K (arrOf b) k):=λk u=>L.good g (by lia);cases e:r (K (arrOf b) (a+l)) (K (arrOf b) (a+l-1)) with
  |true=>exact Zf ⟨L,rfl,p,by(try dsimp only);exact ZD Z,f,λ_=>e⟩
  |false=>exact Zf ⟨L,rfl,rfl,by exact Xe _ _,Sg.snoc C f d p e⟩
 case postA =>
  refine all2 λN l=>?_;rintro b ⟨L,v,q,p,f,H⟩;dsimp only at *;subst v;dsimp only;refine aC (λe=>?_) λe=>?_
  ·exact Zf (h l b L q p f)
  have e':l<n:=by simp at e;exact Nat.lt_of_le_of_ne p e
  have sm:=H e';have d:∀k,k<=a+l->G (K (arrOf b) k):=λk u=>L.good g (by lia);have N0:le r (K (arrOf b) (a+l)) (K (arrOf b) (a+l-1)):=C.HP (d _ (by exact Zp _)) (d _ (by exact Xu _ _)) sm;have J:=L.size;refine rL (P:=λG6=>Lc a t G6/\Ds r (arrOf G6) a (a+(l+1))) ?D ?two ?one
  case one =>
   intro e3 Dk;refine ZX (kC C u g L (by lia) (by lia) ?_);dsimp only;cases e4:r (K (arrOf b) a) (K (arrOf b) (a+l-1)) with
   |true=>exact Zf (h l b L q p f)
   |false =>
    rw[Zm Zb];refine ZX (lU ?_);have L1:=L.LR (i:=a) (j:=a+l) (by exact Zp _) (by lia);have d0:Ds r (arrOf b) a (a+l):=λi j y F h3=>C.tr (d j (by exact ZD h3)) (d _ (by exact Xu _ _)) (d i (by lia)) (f j (a+l-1) (by exact ZA y F) (by lia) (by omega))
     (C.tr (d _ (by exact Xu _ _)) (d _ (by exact ZI _ _)) (d i (by lia)) e4 (f a i (by exact Zp _) y (by exact Vw F h3)))
    have U:=Ds.LR C d0 (λk u=>d k (by exact ZD u)) (i:=a) (by exact Zp _) (by lia) (λk y F=>f k _ y (by lia) (by omega));have X:=Ds.snoc C U (λk u=>L1.good g (by lia)) q (by
     rw[lC (by lia),lC (by lia),Zm (by lia),Zo (by omega)];exact C.tr (d _ (by exact Zp _)) (d _ (by exact Xu _ _)) (d _ (by omega)) N0 (d0 _ _ (by omega) (by omega) (by omega)))
    exact Dk _ ⟨L1,X⟩
  case two =>
   intro e3;have e5:l=1:=by lia
   have d0:Ds r (arrOf b) a (a+l):=λi j y F h3=>by
    have e1:i=a:=by lia
    have e2:j=a:=by lia
    subst e1 e2;exact C.refl (d _ (by exact ZI _ _))
   have X:=Ds.snoc C d0 d q N0;exact⟨L,X⟩
  case D =>
   rintro b ⟨L1,X⟩;clear d J;refine ZX (gz ?_);refine ZX (Xv (Yg
    (I:=λx c b=>Lc a t b/\c.1=O/\c.2.1=x/\c.2.2+1<=x/\Ds r (arrOf b) a (a+x)/\(∀k,a+x-(c.2.2+1)<=k->k<a+x->le r (K (arrOf b) k) (K (arrOf b) (a+x-1))))
    (Q:=λc b=>Lc a t b/\c.1=O/\c.2.2+1<=c.2.1/\c.2.1<=n/\Ds r (arrOf b) a (a+c.2.1)/\(∀k,a+c.2.1-(c.2.2+1)<=k->k<a+c.2.1->le r (K (arrOf b) k) (K (arrOf b) (a+c.2.1-1)))) ?stepD ?finD ?initD) ?postD)
   case initD =>
    refine⟨L1,rfl,rfl,by(try dsimp only);exact Xe _ _,X,λk y F=>?_⟩
    (try dsimp only at y F)
    have e:k=a+(l+1)-1:=by lia
    subst e;exact C.refl (L1.good g (by lia))
   case finD =>
    refine iD λN o S=>?_;rintro b ⟨L,v,q,p,f,H⟩;dsimp only at *;subst q;exact⟨L,v,p,by(try dsimp only);lia,f,H⟩
   case stepD =>
    intro x;refine iD λN o S=>?_;rintro b SO Z ⟨L,v,q,p,f,H⟩;dsimp only at *;subst q;refine ZX (kC C u g L (by lia) (by omega) ?_);dsimp only;have d:∀k,k<=a+o->G (K (arrOf b) k):=λk u=>L.good g (by lia);have J:=L.size;cases e:r (K (arrOf b) (a+o)) (K (arrOf b) (a+o-1)) with
    |true =>
     rw[Zo M];have N0:le r (K (arrOf b) (a+o)) (K (arrOf b) (a+o-1)):=C.HP (d _ (by exact Zp _)) (d _ (by exact Xu _ _)) e;refine aC (λz=>?_) λz=>?_
     ·refine ZX (lU ?_);have L2:=L.LR (i:=a+o-(S+1)) (j:=a+o) (by lia) (by lia);have U:=Ds.LR C f (λk u=>d k (by exact ZD u)) (i:=a+o-(S+1)) (by lia) (by lia) H;refine Zf ⟨L2,rfl,rfl,by(try dsimp only);exact Xe _ _,Ds.snoc C U (λk u=>L2.good g (by lia)) (by lia) ?_,λk y F=>?_⟩
      ·show le r (K (mirror _ _ _ _) _) (K (mirror _ _ _ _) _);rw[lC (by lia),lC (by lia),Zm (by lia),Zo (by omega)];exact C.tr (d _ (by exact Zp _)) (d _ (by exact Xu _ _)) (d _ (by omega)) N0 (f _ _ (by lia) (by omega) (by omega))
      ·(try dsimp only at y F)
       have e:k=a+(o+1)-1:=by lia
       subst e;exact C.refl (L2.good g (by lia))
     ·refine Zf ⟨L,rfl,rfl,by(try dsimp only);exact Xe _ _,Ds.snoc C f d (by lia) N0,λk y F=>?_⟩
      (try dsimp only at y F)
      have e:k=a+(o+1)-1:=by lia
      subst e;exact C.refl (L.good g (by lia))
    |false =>
     rw[Zm Zb];refine ZX (kC C u g L (by lia) (by lia) ?_);dsimp only;cases e2:r (K (arrOf b) (a+o-1)) (K (arrOf b) (a+o)) with
     |true=>exact Zf ⟨L,rfl,p,by(try dsimp only);exact ZD Z,f,H⟩
     |false =>
      refine Zf ⟨L,rfl,rfl,by(try dsimp only);exact Y6 p,Ds.snoc C f d (by lia) e2,λk y F=>?_⟩
      (try dsimp only at y F)
      have ee:a+(o+1)-1=a+o:=by lia
      rw[ee];by_cases ek:k=a+o
      ·subst ek;exact C.refl (d _ (by exact Zp _))
      ·exact C.tr (d _ (by lia)) (d _ (by exact Xu _ _)) (d _ (by exact Zp _)) (H k (by lia) (by lia)) e
   case postD =>
    refine iD λN o S=>?_;rintro b ⟨L,v,p,q6,f,H⟩;dsimp only at *;subst v;dsimp only;have d:∀k,k<a+o->G (K (arrOf b) k):=λk u=>L.good g (by lia);have J:=L.size;have QD:1<=o:=by lia
    refine rL (P:=λG6=>Lc a t G6/\Ds r (arrOf G6) a (a+o)) ?R ?two2 ?one2
    case one2 =>
     intro z Dk2;refine ZX (lU ?_);have L2:=L.LR (i:=a+o-(S+1)) (j:=a+o) (by lia) (by lia);have U:=Ds.LR C f d (i:=a+o-(S+1)) (by lia) (by lia) H;exact Dk2 _ ⟨L2,U⟩
    case two2=>exact λ_=>⟨L,f⟩
    case R =>
     clear f H d J L;rintro b ⟨L,f⟩;have J:=L.size;refine ZX (lU ?_);have L0:=L.LR (i:=a) (j:=a+o) (by exact Zp _) (by lia);have s0:=f.rev (by lia);refine ZX (Xv (Yg
      (I:=λx c b=>Lc a t b/\c.1=O/\c.2=x/\1<=x/\Sg r (arrOf b) a (a+x))
      (Q:=λc b=>Lc a t b/\c.1=O/\1<=c.2/\c.2<=n/\Sg r (arrOf b) a (a+c.2)/\(c.2<n->r (K (arrOf b) (a+c.2)) (K (arrOf b) (a+c.2-1))=true)) ?stepA ?finA ?initA) ?postA)
     case initA=>exact⟨L0,rfl,rfl,QD,s0⟩
     case finA =>
      refine all2 λN l=>?_;rintro b ⟨L,v,q,p,f⟩;dsimp only at *;subst q;refine⟨L,v,by(try dsimp only);omega,by(try dsimp only);lia,f,λz=>?_⟩
      (try dsimp only at z)
      lia
     case stepA =>
      intro x;refine all2 λN l=>?_;rintro b SO Z ⟨L,v,q,p,f⟩;dsimp only at *;subst q;refine ZX (kC C u g L (by lia) (by lia) ?_);dsimp only;have d:∀k,k<=a+l->G (K (arrOf b) k):=λk u=>L.good g (by lia);cases e:r (K (arrOf b) (a+l)) (K (arrOf b) (a+l-1)) with
      |true=>exact Zf ⟨L,rfl,p,by(try dsimp only);exact ZD Z,f,λ_=>e⟩
      |false=>exact Zf ⟨L,rfl,rfl,by exact Xe _ _,Sg.snoc C f d p e⟩
     case postA =>
      refine all2 λN c3=>?_;rintro b ⟨L,v,q,p,f,H⟩;dsimp only at *;subst v;exact Zf (h c3 b L q p f)
end TS
end
section
open PySem PyProof.Rows
namespace TS
variable{prog:P3}{w:XAA}{A:Re}{E:Yt}{s:GM}{κ:SortKind}{G:PP->Prop}{r:PP->PP->Bool}
def wN{a:SC}{i j:Nat}{Q:Unit->SC->Prop}(h:Q () (setArr a (bubble (arrOf a) i (i-j)))):wpS (IR prog w) A E s (moveDown' i j) Q a:=by
 rw[moveDown'_eq];exact Wm h
def Lc.bub{b:Nat}{e a:SC}(L:Lc b e a){i d:Nat}(h:b+d<=i)(f:i<(arrOf e).size):Lc b e (setArr a (bubble (arrOf a) i d)) :=
 L.arr (bubble_perm _ _ _) λk g=>by rw[getElem?_bubble (by rw[L.size];exact f) d (by lia),Zm (by lia),Zm (by lia)]
def C1(C:Ht prog w A E s κ G r){a n t:Nat}{m:SC}{Q:Bool->SC->Prop}(hk:kindOf m=κ)(g:∀x∈arrOf m,G x)(h0:1<=t)(Gq:t<=n)(hn:a+n<=(arrOf m).size)(S:Sg r (arrOf m) a (a+t))(h:∀b,Lc a m b->Sg r (arrOf b) a (a+n)->Q true b):wpS (IR prog w) A E s (binarySort' a n t) Q m:=by
 unfold binarySort';change wpS (IR prog w) A E s (_>>=_) Q m;dsimp only;have em:max t 1=t:=by lia
 rw[em];refine ZX (Xv (Yg
  (I:=λx c b=>Lc a m b/\c.1=O/\Sg r (arrOf b) a (a+x))
  (Q:=λc b=>Lc a m b/\c.1=O/\Sg r (arrOf b) a (a+n)) ?step ?fin ?init) ?post)
 case init=>exact⟨Lc.refl _ _,rfl,S⟩
 case fin =>
  refine all2 λD q=>?_;rintro b ⟨L,M,d⟩;have e:max t n=n:=by lia
  rw[e]at d;exact⟨L,M,d⟩
 case post =>
  refine all2 λD q=>?_;rintro b ⟨L,M,d⟩;dsimp only at *;subst M;exact Zf (h b L d)
 case step =>
  intro k;refine all2 λD q=>?_;rintro b Le JR ⟨L,M,d⟩;dsimp only at *;have hsz:=L.size;have p:∀j,j<=a+k->G (K (arrOf b) j):=λj hj=>L.good g (by lia);refine ZX (Xv (Yg
   (I:=λx c y=>b=y/\c.1=O/\c.2.1<=c.2.2/\c.2.2<=k/\c.2.2-c.2.1+x<=k/\(∀i,a<=i->i<a+c.2.1->le r (K (arrOf b) i) (K (arrOf b) (a+k)))/\(∀i,a+c.2.2<=i->i<a+k->le r (K (arrOf b) (a+k)) (K (arrOf b) i)))
   (Q:=λc y=>b=y/\c.1=O/\c.2.1=c.2.2/\c.2.2<=k/\(∀i,a<=i->i<a+c.2.1->le r (K (arrOf b) i) (K (arrOf b) (a+k)))/\(∀i,a+c.2.2<=i->i<a+k->le r (K (arrOf b) (a+k)) (K (arrOf b) i))) ?step2 ?fin2 ?init2) ?post2)
  case init2=>exact⟨rfl,rfl,by(try dsimp only);exact ZG _,by(try dsimp only);exact Zp _,by(try dsimp only);lia,λi f o=>by(try dsimp only at o);lia,λi f o=>by(try dsimp only at f);lia⟩
  case fin2 =>
   refine iD λP l F=>?_;rintro y ⟨e,J,N,H,X,v,u⟩;dsimp only at *;exact⟨e,J,by(try dsimp only);lia,H,v,u⟩
  case step2 =>
   intro x;refine iD λP l F=>?_;rintro y _ hx ⟨e,J,N,H,X,v,u⟩;subst e;dsimp only at *;refine aC (λz=>?_) λz=>?_
   ·exact Zf ⟨rfl,rfl,by(try dsimp only);exact Wp N z,H,v,u⟩
   ·refine ZX (kC C hk g L (by lia) (by lia) ?_);dsimp only;cases e2:r (K (arrOf b) (a+k)) (K (arrOf b) (a+(l+F)/2)) with
    |true =>
     have Z:=C.HP (p _ (by exact Zp _)) (p _ (by lia)) e2;exact Zf ⟨rfl,rfl,by(try dsimp only);lia,by(try dsimp only);lia,by(try dsimp only);lia,v,λi f o=>C.tr (p _ (by exact Zp _)) (p _ (by lia)) (p _ (by exact ZD o)) Z (d _ i (by exact ZI _ _) f o)⟩
    |false =>
     refine Zf ⟨rfl,rfl,by(try dsimp only);lia,by(try dsimp only);omega,by(try dsimp only);lia,λi f o=>?_,u⟩
     (try dsimp only at o)
     exact C.tr (p _ (by lia)) (p _ (by lia)) (p _ (by exact Zp _)) (d i (a+(l+F)/2) f (by lia) (by lia)) e2
  case post2 =>
   refine iD λP l F=>?_;rintro y ⟨e,J,N,H,v,u⟩;subst e;dsimp only at *;subst J;dsimp only;refine ZX (wN ?_);have ed:a+k-(a+l)=k-l:=by lia
   rw[ed];refine Zf ⟨L.bub (by lia) (by lia),rfl,λi j f o h3=>?_⟩;show le r (K (bubble _ _ _) i) (K (bubble _ _ _) j);rw[B7 (by lia) (by lia),B7 (by lia) (by lia)];by_cases D:i=a+k-(k-l)
   ·rw[Zo D];by_cases q:j=a+k-(k-l)
    ·rw[Zo q];exact C.refl (p _ (by exact Zp _))
    ·rw[Zm q,Zo (by omega)];exact u _ (by omega) (by lia)
   ·rw[Zm D];by_cases U:a+k-(k-l)<i/\i<=a+k
    ·rw[Zo U];rw[Zm (by lia),Zo (by omega)];exact d _ _ (by omega) (by lia) (by lia)
    ·rw[Zm U];by_cases q:j=a+k-(k-l)
     ·rw[Zo q];exact v i f (by lia)
     ·rw[Zm q];by_cases R:a+k-(k-l)<j/\j<=a+k
      ·rw[Zo R];exact d _ _ f (by omega) (by lia)
      ·rw[Zm R];exact d _ _ f o (by omega)
theorem ur(b:Nat):∀(l:List PP)(off:Nat)(arr:Array PP),b+off+l.length<=arr.size →
  ((l.zipIdx off).foldl (λa x=>a.setIfInBounds (b+x.snd) x.fst) arr).toList=arr.toList.take (b+off)++l++arr.toList.drop (b+off+l.length)
 |[],off,arr,h=>by simp
 |x :: l,off,arr,h=>by
  rw[List.zipIdx_cons,Y3];rw[Zg]at h;rw[ur b l (off+1) _ (by rw[Array.size_setIfInBounds];lia)];dsimp only;have d:b+off<arr.toList.length:=by simp;lia
  rw[Array.toList_setIfInBounds,List.set_eq_take_append_cons_drop,Zo d];have e1:(arr.toList.take (b+off)++x :: arr.toList.drop (b+off+1)).take (b+(off+1))=arr.toList.take (b+off)++[x]:=by
   have:(arr.toList.take (b+off)).length=b+off:=by rw[IH];lia
   rw[List.take_append,this,Yu (by rw[this];lia)];have:b+(off+1)-(b+off)=1:=by lia
   rw[this];rfl
  have e2:(arr.toList.take (b+off)++x :: arr.toList.drop (b+off+1)).drop (b+(off+1)+l.length)=arr.toList.drop (b+off+(l.length+1)):=by
   have:(arr.toList.take (b+off)).length=b+off:=by rw[IH];lia
   rw[Wz,this,YV (by rw[this];lia),YY];have:b+(off+1)+l.length-(b+off)=l.length+1:=by lia
   rw[this,List.drop_succ_cons,WD];congr 1;lia
  rw[e1,e2];simp
end TS
end
section
open PySem PyProof.Rows
namespace TS
variable{prog:P3}{w:XAA}{A:Re}{E:Yt}{s:GM}{κ:SortKind}{G:PP->Prop}{r:PP->PP->Bool}
def ic{a:Array PP}{P X S:List PP}(e:a.toList=P++X++S)(j:Nat)(b:j<X.length):∃h:P.length+j<a.size,a[P.length+j]=X[j]:=by
 have f:a.size=P.length+X.length+S.length:=by
  have:=congrArg List.length e;simp at this;lia
 have h:P.length+j<a.size:=by lia
 refine⟨h,?_⟩;have d:a[P.length+j]?=X[j]?:=by
  rw[← ZC,e,Zd,Ys (by exact ZI _ _),Y0,KQ b]
 rw[getElem?_pos a _ h,getElem?_pos X _ b]at d;exact Zj d
def vf(C:Ht prog w A E s κ G r){a:Array PP}{P X S:List PP}(e:a.toList=P++X++S)(g:∀x∈a,G x)(f:X.Pairwise (le r)):Seg r a P.length (P.length+X.length):=by
 intro i j h n q p o;obtain⟨d,rfl⟩:∃d,i=P.length+d:=⟨i-P.length,by lia⟩
 obtain⟨b,rfl⟩:∃b,j=P.length+b:=⟨j-P.length,by lia⟩
 obtain⟨_,e1⟩:=ic e d (by lia);obtain⟨_,e2⟩:=ic e b (by lia);rcases Wh d b with m | l
 ·rw[e1,e2];exact YG.mp f d b (by lia) (by lia) m
 ·have:d=b:=by lia
  subst this;exact C.refl (g _ (Zc h))
def DT(C:Ht prog w A E s κ G r){i R Qq:Nat}{b:SC}{Q:Bool->SC->Prop}{P X Y S:List PP}(U:kindOf b=κ)(g:∀x∈arrOf b,G x)(hf:failedOf b=O)(u:(arrOf b).toList=P++X++(Y++S))(p1:(SZ b)[i]?=some (P.length,X.length,R))(p2:(SZ b)[i+1]?=some (P.length+X.length,Y.length,Qq))(F:X.Pairwise (le r))(H:Y.Pairwise (le r))(nX:0<X.length)(nY:0<Y.length)(h:∀N M,M.Perm (X++Y)->M.Pairwise (le r)->(arrOf N).toList=P++M++S->kindOf N=kindOf b->failedOf N=O →
   SZ N=((SZ b).setIfInBounds i (P.length,X.length+Y.length,R)).eraseIdxIfInBounds (i+1)->Q L N):wpS (IR prog w) A E s (mergeAt' i) Q b:=by
 have e2:(arrOf b).toList=(P++X)++Y++S:=by rw[u];simp
 have hs:(arrOf b).size=P.length+X.length+Y.length+S.length:=by
  have:=congrArg List.length u;simp at this;lia
 have gm:∀x,x∈(arrOf b).toList->G x:=λx d=>g x (by simpa using d);have gX:∀x∈X,G x:=λx d=>gm x (by rw[u];simp[d]);have J:∀x∈Y,G x:=λx d=>gm x (by rw[u];simp[d]);have P6:=vf C u g F;have Mm:=vf C e2 g H;rw[Zw]at Mm;obtain⟨hb,eb⟩:=ic e2 0 nY;simp only[Zw,Nat.add_zero]at hb eb;obtain⟨hl,el⟩:=ic u (X.length-1) (by lia);have gb:G (arrOf b)[P.length+X.length]:=g _ (Zc hb);unfold mergeAt';change wpS (IR prog w) A E s (_>>=_) Q b;dsimp only;refine ZX (WI ?_);rw[show (sortPriv% PySem.Builtin.SortState.pending) b=SZ b from rfl,p1,p2];dsimp only;refine ZX (show wpS _ _ _ _ (set _) _ _ from ?_);refine(show wpS (IR prog w) A E s (modify (λ_=>SortSt.mk' (kindOf b) (arrOf b) (((SZ b).setIfInBounds i (P.length,X.length+Y.length,R)).eraseIdxIfInBounds (i+1)) (gallopOf b) (failedOf b))) _ b from Wm ?_);refine ZX (dM hb ?_);refine ZX (fW C (hint:=0) (by exact U) gb g (by show P.length+X.length<=(arrOf b).size;exact ZD hb) nX P6 λk Le JR Nk=>?_);dsimp only;have z1:∀x∈X.take k,le r x (arrOf b)[P.length+X.length]:=λx d=>by
  obtain⟨j,o,rfl⟩:=Ye d;rw[IH]at o;obtain⟨t,f⟩:=ic u j (by lia);rw[Xa,← f];exact JR _ t (by exact ZI _ _) (by lia)
 have z2:∀x∈X.drop k,le r (arrOf b)[P.length+X.length] x:=λx d=>by
  obtain⟨j,o,rfl⟩:=Ye d;rw[Yz]at o;obtain⟨t,f⟩:=ic u (k+j) (by lia);rw[XZ,← f];exact Nk _ t (by lia) (by lia)
 have RZ:∀y∈Y,le r (arrOf b)[P.length+X.length] y:=λy e=>by
  obtain⟨j,o,rfl⟩:=Ye e;obtain⟨t,f⟩:=ic e2 j o;simp only[Zw]at t f;rw[← f];exact Mm _ _ hb t (by exact Zp _) (by exact ZI _ _) (by lia)
 refine aC (λf=>?_) λf=>?_
 ·have IE:X.length<=k:=by simp at f;lia
  refine Zf (h _ (X++Y) (YJ _) ?_ (by show (arrOf b).toList=_;rw[u];simp) rfl hf rfl);rw[Jf];refine⟨F,H,λx d y e=>C.tr (gX x d) gb (J y e) (z1 x (by rw[Yu IE];exact d)) (RZ y e)⟩
 have Pr:k<X.length:=by simp at f;lia
 have ei:P.length+k+(X.length-k)-1=P.length+(X.length-1):=by lia
 refine ZX (dM (show P.length+k+(X.length-k)-1<(arrOf b).size by omega) ?_);have RT:∀(q:P.length+k+(X.length-k)-1<(arrOf b).size),(arrOf b)[P.length+k+(X.length-k)-1]=X[X.length-1]:=λq=>by
  simp only[ei];exact el
 rw[RT];have gl:G X[X.length-1]:=gX _ (Yy _);refine ZX (fW C (hint:=Y.length-1) (by exact U) gl g (by show P.length+X.length+Y.length<=(arrOf b).size;lia) (by lia) Mm λm V4 LA Rb=>?_);dsimp only;have y1:∀x∈Y.take m,le r x X[X.length-1]:=λx d=>by
  obtain⟨j,o,rfl⟩:=Ye d;rw[IH]at o;obtain⟨t,f⟩:=ic e2 j (by lia);simp only[Zw]at t f;rw[Xa,← f];exact LA _ t (by exact ZI _ _) (by lia)
 have y2:∀x∈Y.drop m,le r X[X.length-1] x:=λx d=>by
  obtain⟨j,o,rfl⟩:=Ye d;rw[Yz]at o;obtain⟨t,f⟩:=ic e2 (m+j) (by lia);simp only[Zw]at t f;rw[XZ,← f];exact Rb _ t (by lia) (by lia)
 have xl:∀x∈X,le r x X[X.length-1]:=λx d=>by
  obtain⟨j,o,rfl⟩:=Ye d;rcases Wh j (X.length-1) with GZ | hge
  ·exact YG.mp F j _ o (by omega) GZ
  ·have:j=X.length-1:=by omega
   subst this;exact C.refl gl
 refine aC (λZ=>?_) λZ=>?_
 ·have MX:m=0:=by simpa using Z
  subst MX;refine Zf (h _ (X++Y) (YJ _) ?_ (by show (arrOf b).toList=_;rw[u];simp) rfl hf rfl);rw[Jf];exact⟨F,H,λx d y e=>C.tr (gX x d) gl (J y e) (xl x d) (y2 y e)⟩
 have Hz:0<m:=by simp at Z;exact II Z
 have ex:((arrOf b).extract (P.length+k) (P.length+X.length)).toList=X.drop k:=by
  rw[Wq,List.extract_eq_drop_take,u,Zd,Wz,YV (by exact ZI _ _),YY];have:P.length+k-P.length=k:=by exact Y0 _ _
  rw[this,Wz,Nat.sub_eq_zero_of_le (by omega:k<=X.length),X1];rw[Wt (by rw[Yz];lia),Yu (by rw[Yz];lia)]
 have D:((arrOf b).extract (P.length+X.length) (P.length+X.length+m)).toList=Y.take m:=by
  rw[Wq,List.extract_eq_drop_take,e2,Zd,Wz,YV (by simp),YY];have:P.length+X.length-(P++X).length=0:=by simp
  rw[this,X1];have:P.length+X.length+m-(P.length+X.length)=m:=by exact Y0 _ _
  rw[this,Wt (by omega)]
 obtain⟨n,Ru⟩:∃n,n=(arrOf b).extract (P.length+k) (P.length+X.length):=⟨_,rfl⟩
 obtain⟨v,Rt⟩:∃v,v=(arrOf b).extract (P.length+X.length) (P.length+X.length+m):=⟨_,rfl⟩
 rw[← Ru]at ex;rw[← Rt]at D;have mx:∀x,x∈n->x∈X.drop k:=λx d=>by rw[← ex];simpa using d
 have my:∀x,x∈v->x∈Y.take m:=λx d=>by rw[← D];simpa using d
 have szx:n.size=X.length-k:=by have:=congrArg List.length ex;simpa using this
 have szy:v.size=m:=by have:=congrArg List.length D;simp at this;lia
 have Tw:∀x∈n,G x:=λx d=>gX x (YC (mx x d));have Tv:∀x∈v,G x:=λx d=>J x (YM (my x d));have y0:∀(q:0<v.size),v[0]=(arrOf b)[P.length+X.length]:=λq=>by
  rw[eb];have:v[0]?=Y[0]?:=by rw[← ZC,D,List.getElem?_take_of_lt Hz]
  rw[getElem?_pos v 0 q,getElem?_pos Y 0 nY]at this;exact Zj this
 have Ue:∀(q:n.size-1<n.size),n[n.size-1]=X[X.length-1]:=λq=>by
  have:n[n.size-1]?=X[X.length-1]?:=by
   rw[← ZC,ex,List.getElem?_drop];congr 1;lia
  rw[getElem?_pos n _ q,getElem?_pos X _ (by omega)]at this;exact Zj this
 have M:MC G r n v:=by
  refine⟨Tw,Tv,yW C Tw (by rw[ex];exact F.drop),yW C Tv (by rw[D];exact H.take),by lia,by lia,?_,λj o=>?_⟩
  ·rw[y0];exact z2 _ (mx _ (Zc _))
  ·rw[Ue];exact y1 _ (my _ (Zc o))
 have fin:∀(l:SC)(res:Array PP),gq (SortSt.mk' (kindOf b) (arrOf b) (((SZ b).setIfInBounds i (P.length,X.length+Y.length,R)).eraseIdxIfInBounds (i+1)) (gallopOf b) (failedOf b)) l->MR r n v res →
   Q (failedOf l).isNone (SortSt.mk' (kindOf l) (res.toList.zipIdx.foldl (λa x=>a.setIfInBounds (P.length+k+x.snd) x.fst) (arrOf l)) (SZ l) (gallopOf l) (failedOf l)):=λl res kp z=>by
  obtain⟨k1,k2,k3,k4⟩:=kp;have VF:failedOf l=O:=k4.trans hf;have QL:arrOf l=arrOf b:=k2;rw[VF];have hl:res.toList.length=X.length-k+m:=by
   rw[z.1.length_eq,ex,D];simp;exact YH V4
  have mem:∀x,x∈res.toList->x∈X.drop k\/x∈Y.take m:=λx d=>by
   have:=z.1.mem_iff.mp d;rw[ex,D]at this;exact Zi.mp this
  have bk:=ur (P.length+k) res.toList 0 (arrOf l) (by rw[QL];omega);rw[QL,Nat.add_zero]at bk;have t1:(arrOf b).toList.take (P.length+k)=P++X.take k:=by
   rw[u,Zd,List.take_append,Yu (by exact ZI _ _),Y0,Wt (by omega)]
  have t2:(arrOf b).toList.drop (P.length+k+res.toList.length)=Y.drop m++S:=by
   rw[e2,Zd,Wz,YV (by rw[Zw];omega),YY];have:P.length+k+res.toList.length-(P++X).length=m:=by rw[Zw];omega
   rw[this,List.drop_append_of_le_length (by omega)]
  refine h _ (X.take k++res.toList++Y.drop m) ?_ ?_ ?_ k1 rfl k3
  ·have p:(X.take k++(X.drop k++Y.take m)++Y.drop m)=X++Y:=by
    rw[← Zd,YR,Zd,YR]
   rw[← p];have:=z.1;rw[ex,D]at this;exact(this.append_left _).append_right _
  ·rw[Jf,Jf];refine⟨⟨F.take,z.2,λx d y e=>?_⟩,H.drop,λx d y e=>?_⟩
   ·rcases mem y e with e | e
    ·have:=F;rw[← YR k X,Jf]at this;exact this.2.2 x d y e
    ·exact C.tr (gX _ (YM d)) gb (J _ (YM e)) (z1 x d) (RZ y (YM e))
   ·rcases Zi.mp d with d | d
    ·exact C.tr (gX _ (YM d)) gb (J _ (YC e)) (z1 x d) (RZ y (YC e))
    ·rcases mem x d with d | d
     ·exact C.tr (gX _ (YC d)) gl (J _ (YC e)) (xl x (YC d)) (y2 y e)
     ·have:=H;rw[← YR m Y,Jf]at this;exact this.2.2 x d y e
  ·show (List.foldl _ (arrOf l) _).toList=_;rw[QL,bk,t1,t2];simp
 refine aC (λ_=>?_) λ_=>?_
 ·refine ZX (?_:wpS (IR prog w) A E s (nO ((arrOf b).extract (P.length+k) (P.length+X.length)) ((arrOf b).extract (P.length+X.length) (P.length+X.length+m))) _ _);rw[← Ru,← Rt];refine ES C (by exact U) M λres l kp z=>?_;exact ZX (Wm (ZX (WI (Zf (fin l res kp z)))))
 ·refine ZX (?_:wpS (IR prog w) A E s (nz ((arrOf b).extract (P.length+k) (P.length+X.length)) ((arrOf b).extract (P.length+X.length) (P.length+X.length+m))) _ _);rw[← Ru,← Rt];refine ET C (by exact U) M λres l kp z=>?_;exact ZX (Wm (ZX (WI (Zf (fin l res kp z)))))
end TS
end
section
open PySem PyProof.Rows
namespace TS
variable{prog:P3}{w:XAA}{A:Re}{E:Yt}{s:GM}{κ:SortKind}{G:PP->Prop}{r:PP->PP->Bool}
noncomputable def jl:Nat->List (List PP)->List (Nat×Nat)
 |_,[]=>[]
 |o,R :: Rs=>(o,R.length) :: jl (o+R.length) Rs
theorem iT:∀(a b:List (List PP))(o:Nat),jl o (a++b)=jl o a++jl (o+a.flatten.length) b
 |[],b,o=>by simp[jl]
 |R :: a,b,o=>by
  show (o,R.length) :: jl (o+R.length) (a++b)=(o,R.length) :: (jl (o+R.length) a++_);rw[iT a b];simp[Nat.add_assoc]
theorem iV:∀(a:List (List PP))(o:Nat),(jl o a).length=a.length
 |[],o=>rfl
 |R :: a,o=>by show (jl _ a).length+1=_;rw[iV a];rfl
theorem oW{α β:Type}(f:α->β):∀(l:List α)(i:Nat),(l.eraseIdx i).map f=(l.map f).eraseIdx i
 |[],i=>rfl
 |x :: l,0=>rfl
 |x :: l,i+1=>by show f x :: (l.eraseIdx i).map f=f x :: (l.map f).eraseIdx i;rw[oW f l i]
structure RI(κ:SortKind)(r:PP->PP->Bool)(a₀:Array PP)(st:SC)(runs:List (List PP))(rest:List PP):Prop where
 kind:kindOf st=κ
 fail:failedOf st=none
 arr:(arrOf st).toList=runs.flatten++rest
 pend:(SZ st).toList.map (λp=>(p.1,p.2.1))=jl 0 runs
 ok:∀R∈runs,0<R.length/\R.Pairwise (le r)
 perm:(arrOf st).Perm a₀
def RI.good{d:Array PP}{b:SC}{a:List (List PP)}{rest:List PP}(h:RI κ r d b a rest)(g:∀x∈d,G x):∀x∈arrOf b,G x:=λx e=>by
 have:x∈(arrOf b).toList:=by simpa using e
 exact g x (by simpa using(XU.mp h.perm).mem_iff.mp this)
def RI.LP{d:Array PP}{b:SC}{a:List (List PP)}{rest:List PP}(h:RI κ r d b a rest):(SZ b).size=a.length:=by
 have:=congrArg List.length h.pend;rw[Zt,iV]at this;simpa using this
theorem RI.at{g:Array PP}{f:SC}{d post:List (List PP)}{X:List PP}{rest:List PP}(h:RI κ r g f (d++X :: post) rest):∃pw,(SZ f)[d.length]?=Y (d.flatten.length,X.length,pw):=by
 have e:((SZ f).toList.map (λp=>(p.1,p.2.1)))[d.length]?=Y (d.flatten.length,X.length):=by
  rw[h.pend,iT,Ys (by rw[iV];exact Zp _),iV,Nat.sub_self,XS];rfl
 rw[ZV,ZC]at e;obtain⟨⟨a,b,c⟩,e1,e2⟩:=Zy.mp e;injection e2 with e3 e4
 dsimp only at e3 e4;exact⟨c,by rw[e1,e3,e4]⟩
theorem qN{α:Type}:∀{l:List α}{i:Nat},i+1<l.length->∃pre X Y post,l=pre++X :: Y :: post/\pre.length=i
 |[],i,h=>by simp at h
 |[x],i,h=>by simp at h
 |x :: y :: l,0,h=>⟨[],x,y,l,rfl,rfl⟩
 |x :: y :: l,i+1,h=>by
  obtain⟨pre,X,Y,post,e,a⟩:=qN (l:=y :: l) (i:=i) (by simp at h ⊢;omega);exact⟨x :: pre,X,Y,post,by rw[e];rfl,by rw[Zg,a]⟩
def RI.merge(C:Ht prog w A E s κ G r){j:Array PP}{d:SC}{a:List (List PP)}{rest:List PP}{i:Nat}{Q:Bool->SC->Prop}(h:RI κ r j d a rest)(g:∀x∈j,G x)(hi:i+1<a.length)(hq:∀f m,RI κ r j f m rest->m.length+1=a.length->m.flatten.length=a.flatten.length->Q L f):wpS (IR prog w) A E s (mergeAt' i) Q d:=by
 obtain⟨pre,X,Y,post,rfl,rfl⟩:=qN hi;obtain⟨pw,H⟩:=h.at;have h':RI κ r j d ((pre++[X])++Y :: post) rest:=by
  have e:(pre++[X])++Y :: post=pre++X :: Y :: post:=by simp
  rw[e];exact h
 obtain⟨Qq,F⟩:=h'.at;have o:=h.ok X (by simp);have n:=h.ok Y (by simp);have UM:(SZ d)[pre.length+1]?=some (pre.flatten.length+X.length,Y.length,Qq):=by
  simpa using F
 refine DT C (P:=pre.flatten) (X:=X) (Y:=Y) (S:=post.flatten++rest) h.kind (h.good g) h.fail (by rw[h.arr];simp) H UM o.2 n.2 o.1 n.1 λf M q Z p U N J=>?_;have D:=q.length_eq;rw[Zw]at D;refine hq f (pre++M :: post) ⟨U.trans h.kind,N,by rw[p];simp,?_,λR b=>?_,?_⟩ (by simp;exact Nat.add_assoc _ _ _) (by simp;lia)
 ·rw[J];have e0:(((SZ d).setIfInBounds pre.length (pre.flatten.length,X.length+Y.length,pw)).eraseIdxIfInBounds (pre.length+1)).toList=((SZ d).toList.set pre.length (pre.flatten.length,X.length+Y.length,pw)).eraseIdx (pre.length+1):=by
   simp
  rw[e0,oW,Vk,h.pend];show ((jl 0 (pre++X :: Y :: post)).set pre.length (pre.flatten.length,X.length+Y.length)).eraseIdx (pre.length+1)=jl 0 (pre++M :: post);rw[iT,iT];have ol:=iV pre 0;have e1:∀(u v t:List (Nat×Nat))(x y z:Nat×Nat),u.length=pre.length->((u++x :: y :: t).set pre.length z).eraseIdx (pre.length+1)=u++z :: t:=λu v t x y z l=>by
   rw[List.set_append_right _ _ (by exact XQ l),l,Nat.sub_self,List.eraseIdx_append_of_length_le (by lia),l];have:pre.length+1-pre.length=1:=by exact Y0 _ _
   rw[this];rfl
  show ((jl 0 pre++(0+pre.flatten.length,X.length) :: (0+pre.flatten.length+X.length,Y.length) :: jl (0+pre.flatten.length+X.length+Y.length) post).set _ _).eraseIdx _=jl 0 pre++(0+pre.flatten.length,M.length) :: jl (0+pre.flatten.length+M.length) post;rw[e1 _ [] _ _ _ _ ol,D,XS,Nat.add_assoc]
 ·rcases Zi.mp b with b | b
  ·exact h.ok R (by simp[b])
  ·rcases Zh.mp b with rfl | b
   ·exact⟨by lia,Z⟩
   ·exact h.ok R (by simp[b])
 ·refine Array.Perm.trans ?_ h.perm;rw[XU,p,h.arr];have e:(pre++X :: Y :: post).flatten++rest=pre.flatten++(X++Y)++(post.flatten++rest):=by simp
  rw[e];exact(q.append_left _).append_right _
end TS
end
section
open PySem PyProof.Rows
namespace TS
variable{prog:P3}{w:XAA}{A:Re}{E:Yt}{s:GM}{κ:SortKind}{G:PP->Prop}{r:PP->PP->Bool}
def RI.loc{f:Array PP}{d b:SC}{a:List (List PP)}{rest:List PP}(h:RI κ r f d a rest)(L:Lc a.flatten.length d b):RI κ r f b a ((arrOf b).toList.drop a.flatten.length):=by
 refine⟨L.kind.trans h.kind,L.fail.trans h.fail,?_,by rw[L.pend];exact h.pend,h.ok,L.perm.trans h.perm⟩;have e:(arrOf b).toList.take a.flatten.length=a.flatten:=by
  have e2:(arrOf d).toList.take a.flatten.length=a.flatten:=by rw[h.arr,WE]
  refine Eq.trans ?_ e2;apply X0;intro i;rw[List.getElem?_take,List.getElem?_take];split
  ·rename_i g;rw[ZC,ZC];exact L.pre i g
  ·rfl
 conv=>lhs;rw[← YR a.flatten.length (arrOf b).toList,e]
theorem RI.push{f:Array PP}{b:SC}{a:List (List PP)}{rest:List PP}{n d:Nat}(h:RI κ r f b a rest)(j:a.flatten.length=d)(l:0<n)(i:n<=rest.length)(g:(rest.take n).Pairwise (le r)) :
  RI κ r f (setPending b ((SZ b).push (d,n,0))) (a++[rest.take n]) (rest.drop n):=by
 refine⟨h.kind,h.fail,?_,?_,λR e=>?_,h.perm⟩
 ·show (arrOf b).toList=_;rw[h.arr];simp
 ·show ((SZ b).push (d,n,0)).toList.map _=_;rw[X2,Yx,h.pend,iT,XS,j];show _++[(d,n)]=_++[(d,(rest.take n).length)];rw[IH,YH i]
 ·rcases Zi.mp e with e | e
  ·exact h.ok R e
  ·rw[Zk.mp e];exact⟨by rw[IH];lia,g⟩
theorem uK{α β:Type}(f:α->β)(g:α->α)(a:∀x,f (g x)=f x):∀(l:List α)(i:Nat),(l.modify i g).map f=l.map f
 |[],i=>by simp
 |x :: l,0=>by simp[a]
 |x :: l,i+1=>by simp[uK f g a l i]
def RI.mod{e:Array PP}{b:SC}{a:List (List PP)}{rest:List PP}(h:RI κ r e b a rest)(i d:Nat):RI κ r e (setPending b ((SZ b).modify i λx=>(x.1,x.2.1,d))) a rest :=
 ⟨h.kind,h.fail,h.arr,by
  show ((SZ b).modify i λx=>(x.1,x.2.1,d)).toList.map _=_;rw[Array.toList_modify,uK (λp:Nat×Nat×Nat=>(p.1,p.2.1)) (λx=>(x.1,x.2.1,d)) (λx=>rfl),h.pend],h.ok,h.perm⟩
def Sg.pw{b:Array PP}{a n:Nat}(h:Sg r b a (a+n))(f:a+n<=b.size):((b.toList.drop a).take n).Pairwise (le r):=by
 rw[YG];intro i j e d g;rw[IH,Yz]at e d;rw[Xa,Xa,XZ,XZ];have:=h (a+i) (a+j) (by exact ZI _ _) (by lia) (by lia);rw[xA (by lia),xA (by lia)]at this;simpa using this
theorem RI.size{b:Array PP}{d:SC}{a:List (List PP)}{rest:List PP}(h:RI κ r b d a rest):a.flatten.length+rest.length=b.size:=by
 have e:=congrArg List.length h.arr;rw[Zw,I0,h.perm.size_eq]at e;exact e.symm
def AI{a:List (List PP)}(h:∀R∈a,0<R.length/\R.Pairwise (le r)):a.length<=a.flatten.length:=by
 induction a with
 |nil=>exact Zp _
 |cons R Rs b =>
  have f:=(h R (Zu ..)).1;have e:=b λx d=>h x (Zv _ d);simp only[Zg,ZE,Zw];lia
def C9{c:Prop}[Decidable c]{a b n:Nat}(e:a+1<n)(d:b+1<n):(if c then a else b)+1<n:=by
 split
 ·exact e
 ·exact d
def wb{α:Type}{a b d:Nat->Prop}{c:Nat->Prop}[∀n,Decidable (c n)]{x R:Nat->StateT SC Sem α}{Q:α->SC->Prop}{P:Nat->SC->Prop}{f:SC}(D:∀n e,P n e->wpS (IR prog w) A E s (R n) Q e)(g:∀m,a m->b m->d m->¬c m->P m f)(h:∀m,a m->b m->d m->c m->(∀n e,P n e->wpS (IR prog w) A E s (R n) Q e)->wpS (IR prog w) A E s (x m) Q f):∀m,a m->b m->d m->wpS (IR prog w) A E s (if c m then x m else R m) Q f :=
 λm p q z=>aC (λy=>h m p q z y D) λy=>D m f (g m p q z y)
def AW(C:Ht prog w A E s κ G r){a₀:Array PP}{st:SC}{Q:Unit->SC->Prop}(hk:kindOf st=κ)(g:∀x∈a₀,G x)(ha:arrOf st=a₀)(hp:SZ st=#[])(hf:failedOf st=O)(h:∀d,(arrOf d).Perm a₀->failedOf d=O->(arrOf d).toList.Pairwise (le r)->Q () d):wpS (IR prog w) A E s sortRuns' Q st:=by
 have R0:RI κ r a₀ st [] a₀.toList:=⟨hk,hf,by rw[ha];rfl,by rw[hp];rfl,λR q=>by simp at q,by rw[ha]⟩
 unfold sortRuns';change wpS (IR prog w) A E s (_>>=_) Q st;dsimp only;refine ZX (WI ?_);have esz:((sortPriv% PySem.Builtin.SortState.a) st).size=a₀.size:=by rw[← ha]
 rw[esz];refine ZX (Xv (Yg
  (I:=λx c d=>c.1=O/\∃runs rest,RI κ r a₀ d runs rest/\runs.flatten.length=c.2/\x<=c.2)
  (Q:=λc d=>c.1=O/\∃runs,RI κ r a₀ d runs []) ?step ?fin ?init) ?post)
 case init=>exact⟨rfl,_,_,R0,rfl,Zp _⟩
 case fin =>
  refine all2 λu lo=>?_;rintro d ⟨i,runs,rest,R,j,hx⟩;dsimp only at *;have:=R.size;have e:rest=[]:=Wr (by lia);subst e;exact⟨i,runs,R⟩
 case step =>
  intro x;refine all2 λu lo=>?_;rintro d _ hx ⟨i,runs,rest,R,j,hxl⟩;dsimp only at *;have N:=R.size;refine aC (λe=>?_) λe=>?_
  ·have e:rest=[]:=Wr (by lia);subst e;exact Zf ⟨rfl,runs,R⟩
  have asz:(arrOf d).size=a₀.size:=R.perm.size_eq;refine ZX (CD C R.kind (R.good g) (by lia) (by rw[asz];lia) λm Z L2 m1 m2 S2=>?_);dsimp only;have U:RI κ r a₀ Z runs ((arrOf Z).toList.drop runs.flatten.length):=R.loc (by rw[j];exact L2);have R3:(arrOf Z).size=a₀.size:=U.perm.size_eq;revert m;refine wb (P:=λnn o=>∃f,RI κ r a₀ o runs f/\f.length=a₀.size-lo/\0<nn/\nn<=f.length/\(f.take nn).Pairwise (le r)) ?D ?two ?one
  case one =>
   intro m m1 m2 S2 e2 Dk;refine ZX (gz ?_);refine ZX (C1 C U.kind (U.good g) m1 (by omega) (by lia) S2 λo L3 S3=>?_);refine aC (λe=>absurd e (by decide)) λ_=>?_;have T7:RI κ r a₀ o runs ((arrOf o).toList.drop runs.flatten.length):=U.loc (by rw[j];exact L3);have R1:(arrOf o).size=a₀.size:=T7.perm.size_eq;obtain⟨f,y⟩:∃l,l=(arrOf o).toList.drop runs.flatten.length:=⟨_,rfl⟩
   have M:RI κ r a₀ o runs f:=by rw[y];exact T7
   have Iq:=j;have PF:f.length=a₀.size-lo:=by rw[y,Yz,I0,R1,j]
   obtain⟨n3,en3⟩:∃n,n=min (a₀.size-lo) ((sortPriv% PySem.Builtin.minRun) a₀.size a₀.size 0):=⟨_,rfl⟩
   rw[← en3]at S3 ⊢;have F:0<n3:=by lia
   have H:n3<=f.length:=by omega
   have J:(f.take n3).Pairwise (le r):=by rw[y,j];exact S3.pw (by lia)
   exact Dk n3 o ⟨f,M,PF,F,H,J⟩
  case two =>
   intro m m1 m2 S2 e2;obtain⟨f,y⟩:∃l,l=(arrOf Z).toList.drop runs.flatten.length:=⟨_,rfl⟩
   have M:RI κ r a₀ Z runs f:=by rw[y];exact U
   have Iq:=j;have PF:f.length=a₀.size-lo:=by rw[y,Yz,I0,R3,j]
   have F:0<m:=by exact Nat.lt_of_succ_le m1
   have H:m<=f.length:=by lia
   have J:(f.take m).Pairwise (le r):=by rw[y,j];exact S2.pw (by lia)
   exact⟨f,M,PF,F,H,J⟩
  case D =>
   rintro nn o ⟨f,M,PF,F,H,J⟩;have Iq:=j;refine ZX (WI ?_);cases hb:(SZ o).back? with
   |none =>
    dsimp only;refine ZX (Wm ?_);refine Zf ⟨rfl,_,_,M.push Iq F H J,?_,by(try dsimp only);lia⟩;rw[Yw,Zw,WR,IH]
    (try dsimp only)
    lia
   |some v =>
    obtain⟨s1,n1,pw1⟩:=v;dsimp only;refine ZX (Xv (Yg
     (I:=λx c d=>c.1=O/\∃p,RI κ r a₀ d p f/\p.flatten.length=lo)
     (Q:=λc d=>c.1=O/\∃p,RI κ r a₀ d p f/\p.flatten.length=lo) ?stepM ?finM ?initM) ?postM)
    case initM=>exact⟨rfl,_,M,Iq⟩
    case finM=>exact λc d h=>h
    case stepM =>
     intro x;refine all2 λu c2=>?_;rintro d _ hx ⟨i,p,R,q⟩;refine ZX (WI ?_);split
     ·rename_i a b c hh;refine aC (λ_=>?_) λ_=>?_
      ·exact Zf ⟨rfl,p,R,q⟩
      ·have SX:(SZ d).size > 1:=by
        by_cases z:(SZ d).size > 1
        ·exact z
        ·rw[Zm z]at hh;cases hh
       have MF:=R.LP;refine ZX (R.merge C g (show (SZ d).size-2+1<p.length by omega) λUy Kk R4 l4 f4=>?_);refine aC (λe=>absurd e (by decide)) λ_=>?_;exact Zf ⟨rfl,Kk,R4,by rw[f4,q]⟩
     ·exact Zf ⟨rfl,p,R,q⟩
    case postM =>
     refine all2 λu c2=>?_;rintro d ⟨i,p,R,q⟩;dsimp only at *;subst i;dsimp only;refine ZX (Wm ?_);refine ZX (Wm ?_);refine Zf ⟨rfl,_,_,(R.mod _ _).push q F H J,?_,by(try dsimp only);lia⟩;rw[Yw,Zw,WR,IH]
     (try dsimp only)
     lia
 case post =>
  refine all2 λu lo=>?_;rintro d ⟨i,runs,R⟩;dsimp only at *;subst i;dsimp only;have rl:=AI R.ok;have N:=R.size;simp only[WN,Nat.add_zero]at N;refine ZX (Xv (Yg
   (I:=λx c d=>c.1=O/\∃runs,RI κ r a₀ d runs []/\(runs.length<=1\/runs.length+x<=a₀.size))
   (Q:=λc d=>c.1=O/\∃runs,RI κ r a₀ d runs []/\runs.length<=1) ?step2 ?fin2 ?init2) ?post2)
  case init2=>exact⟨rfl,runs,R,.inr (by lia)⟩
  case fin2 =>
   refine all2 λu c2=>?_;rintro d ⟨i,runs,R,S⟩;exact⟨i,runs,R,by lia⟩
  case step2 =>
   intro x;refine all2 λu c2=>?_;rintro d _ hx ⟨i,runs,R,S⟩;have MF:=R.LP;refine ZX (WI ?_);refine aC (λe=>?_) λe=>?_
   ·exact Zf ⟨rfl,runs,R,by rw[← MF];exact e⟩
   ·have e':1<runs.length:=by rw[← MF];exact Nat.lt_of_not_le e
    refine ZX (R.merge C g ?_ λUy Kk R4 l4 f4=>?_)
    ·exact C9 (show (SZ d).size-2-1+1<_ by omega) (show (SZ d).size-2+1<_ by lia)
    ·refine aC (λe=>absurd e (by decide)) λ_=>?_;exact Zf ⟨rfl,Kk,R4,by lia⟩
  case post2 =>
   refine all2 λu c2=>?_;rintro d ⟨i,runs,R,S⟩;dsimp only at *;subst i;refine Zf (h d R.perm R.fail ?_);rw[R.arr,ZK]
   match runs,S,R.ok with
   |[],_,_=>exact List.Pairwise.nil
   |[X],_,ok =>
    rw[WR];exact(ok X (Zu ..)).2
   |X :: Yq0 :: t,S,_=>simp at S
end TS
end
section
open PySem PyProof.Rows
namespace TS
variable{prog:P3}{w:XAA}{A:Re}{E:Yt}{s:GM}{G:PP->Prop}{r:PP->PP->Bool}
noncomputable def hU(h:UV)(a:KF)(b:Vy):Heap:=((h.update a (Obj.mapSeq λ_=>#[])).push (seqObj "tuple" b.toArray 0)).push (seqObj "list" #[] 0)
def kJ{d:Vy}{a:Array PP}(e:a.Perm (pairsOf d)):(a.map (·.2)).toList.Perm d/\(a.map (·.2)).toList.map (λv=>(v,v))=a.toList:=by
 have b:=XU.mp e;rw[pairsOf_toList]at b;constructor
 ·rw[Array.toList_map];refine(b.map _).trans ?_;rw[show (λx:PP=>x.2)=Prod.snd from rfl,List.map_snd_zip (Zp _)]
 ·rw[Array.toList_map,Yq]
  conv=>rhs;rw[← List.map_id a.toList]
  apply W4;intro p f;have:=mem_zip_self (b.mem_iff.mp f);exact Prod.ext this.1.symm M
def Dz{h:UV}{a:KF}{vs:Vy}{o:Obj}(b:a<h.objs.size)(g:(h.update a (Obj.mapSeq λ_=>#[])).get? a=Y o):(hU h a vs).get? a=Y o:=by
 have e:a≠(h.update a (Obj.mapSeq λ_=>#[])).objs.size:=by rw[WC];exact Za b
 have d:a≠((h.update a (Obj.mapSeq λ_=>#[])).push (seqObj "tuple" vs.toArray 0)).objs.size:=by rw[size_push',WC];exact Za (Yo b)
 exact(Xk _ _ _ d).trans ((Xk _ _ _ e).trans g)
def yY{a:KF}{vs:Vy}{n:Nat}{P:PySem.Fin->GM->Prop}{l:SortKind}(i:s.heap.get? a=Y (seqObj "list" vs.toArray n))(D:Ht prog w A E { s with heap:=hU s.heap a vs } l G r)(C:∀v∈vs,G (v,v))(f:vs.length<=KB)(N:2<=vs.length->∀Q:SortKind->GM->Prop,Q l { s with heap:=hU s.heap a vs }->On (IR prog w) A (keyKind' vs.toArray) Q E { s with heap:=hU s.heap a vs })(h:∀out:Vy,out.Perm vs->(out.map λv=>(v,v)).Pairwise (le r)->P (.done (.ret .none)) { s with heap:=sortedHeap s.heap a vs out.toArray }) :
  On (IR prog w) A (Builtin.«list.sort» ⟨[.ref a],[]⟩) P E s:=by
 have Ho:vs.toArray.size=vs.length:=rfl;obtain⟨S,o⟩:∃k,(s.heap.update a (Obj.mapSeq λ_=>#[])).get? a=Y (seqObj "list" #[] k):=⟨_,get?_update_seq i _⟩
 have at2:=Dz (vs:=vs) (ZS i) o;have done:∀b:Array PP,b.Perm (pairsOf vs)->b.toList.Pairwise (le r)->P (.done (.ret .none)) { s with heap:=sortedHeap s.heap a vs (b.map (·.2)) }:=λb d j=>by
  obtain⟨u,t⟩:=kJ d;have:=h _ u (by rw[t];exact j)
  rwa [Array.toArray_toList]at this
 have room:∀b:Array PP,b.Perm (pairsOf vs)->(b.map (·.2)).size<=KB+1:=λb d=>by
  rw[Array.size_map,d.size_eq,pairsOf_size];exact Vn f
 rw[list_sort_plain];refine Zx (listItems_at i M (Zx (listUpdate_at i M (Zx (seqEpoch_at o M (Zx (wpAny_newTuple (Zx (wpAny_newList (YN ?_))))))))));refine(show On (IR prog w) A _ P E { s with heap:=hU s.heap a vs } from ?_);dsimp only;by_cases two:2<=vs.length
 ·have no:¬(vs.toArray.size<2):=by lia
  rw[Zm no,Zm no];have good:∀x∈pairsOf vs,G x:=λx z=>by
   have m:x∈(pairsOf vs).toList:=by simpa using z
   rw[pairsOf_toList]at m;obtain⟨e1,e2⟩:=mem_zip_self m;have:=C x.1 e2;obtain⟨p,q⟩:=x;dsimp only at e1 this;rw[← e1];exact this
  refine Zx (N two _ (Zx (YB (AW D (a₀:=pairsOf vs) (st:=SortSt.mk' l (vs.toArray.zip vs.toArray) #[] 7 O)
   (Q:=λ_ g=>(arrOf g).Perm (pairsOf vs)/\failedOf g=O/\(arrOf g).toList.Pairwise (le r)) M good M M M λg J H F=>⟨J,H,F⟩) ?_ λ_ _ e=>e)))
  rintro⟨⟨⟩,g⟩ R ⟨rfl,d,j,y⟩;refine Zx (seqEpoch_at at2 M (Zx (listUpdate_at at2 M ?_ (hsz2:=room _ d))));rw[j];simp only[bne_self_eq_false,Xh,↓reduceIte];exact Zl (done _ d y)
 ·have no:vs.toArray.size<2:=by lia
  rw[Zo no,Zo no];refine Zx (Zl (Zx ?_));rw[StateT.run_pure];refine Zl (Zx (seqEpoch_at at2 M (Zx (listUpdate_at at2 M ?_ (hsz2:=room _ (Array.Perm.refl _))))));simp only[bne_self_eq_false,Xh,↓reduceIte];refine Zl (done (vs.toArray.zip vs.toArray) (Array.Perm.refl _) ?_)
  match vs,two with
  |[],_=>simp
  |[_],_=>simp
  |_ :: _ :: _,q=>simp at q
def nl{b n:Nat}(h:b<n)(k:Nat):b≠n+k:=Za (ZP h (ZI _ _))
structure JI(prog:P3)(w:XAA)(Q:Yt)(vs:Vy)(s1:GM) where
 G:PP->Prop
 r:PP->PP->Bool
 kd:SortKind
 hC:∀(A:Re)(E:Yt)(h:UV),(∀b o,s1.heap.get? b=some o->h.get? b=some o)->Ht prog w A E { s1 with heap:=h } kd G r
 hG:∀v∈vs,G (v,v)
 hlen:vs.length<=KB
 Pq:2<=vs.length->∀(A:Re)(E:Yt)(h:UV),(∀b o,s1.heap.get? b=some o->h.get? b=some o)->∀Q:SortKind->GM->Prop,Q kd { s1 with heap:=h }->On (IR prog w) A (keyKind' vs.toArray) Q E { s1 with heap:=h }
 h:∀(out:Vy)(h':UV)(e:Nat),out.Perm vs->(out.map λv=>(v,v)).Pairwise (le r)->(∀b o,s1.heap.get? b=some o->h'.get? b=some o)->h'.get? s1.heap.objs.size=some (seqObj "list" out.toArray e)->Q (.ref s1.heap.objs.size) { s1 with heap:=h' }
def tW{x:KM}{Q:Yt}(p:∀(g:Re)(q:Yt),g.handled=A.handled->On (IR prog w) g (collect x) (λa s1=>Nonempty (JI prog w Q a s1)) q s) :
  On (IR prog w) A (call (.builtin "sorted") [x]) Q E s:=by
 refine Calls.call_function_entry kind_sorted plain_sorted entry_sorted (args_sorted1 _) (show On _ _ (Builtin.«sorted» _) _ _ _ from ?_);unfold Builtin.«sorted»;refine Zx (m:=checkCount "sorted" 1 1 _) (Zl (Zx (YB (p A.in1 (λ_ _=>False) M) ?_ λ_ _ e=>e.elim)));rintro a s1 ⟨⟨G,r,kd,hC,hG,hlen,Pq,h⟩⟩;refine Zx (wpAny_newList ?_ (by exact hlen));have d:(s1.heap.push (seqObj "list" a.toArray 0)).get? s1.heap.objs.size=Y (seqObj "list" a.toArray 0):=ZY _ M;have old:∀b o,s1.heap.get? b=Y o->(hU (s1.heap.push (seqObj "list" a.toArray 0)) s1.heap.objs.size a).get? b=Y o:=λb o e=>by
  have hb:=ZS e;unfold hU;rw[Xk _ _ _ (by rw[size_push',WC,size_push'];exact nl hb 2),Xk _ _ _ (by rw[WC,size_push'];exact nl hb 1),Heap.get?_update_ne _ _ _ _ (Za hb),Xk _ _ _ (Za hb)];exact e
 show On _ _ _ _ _ { s1 with heap:=s1.heap.push (seqObj "list" a.toArray 0) };refine Zx (YN (Y8 slot_list_sort ⟨_,d,rfl⟩ entry_list_sort (yY d (hC _ _ _ old) hG hlen (λn=>Pq n _ _ _ old) λout j i=>⟨_,rfl,?_⟩) (args_list_sort _)));obtain⟨e,l⟩:=sortedHeap_at (out:=out.toArray) d;exact Zl ⟨_,rfl,h out _ e j i (λb o f=>by
  have hb:=ZS f;show (sortedHeap (s1.heap.push (seqObj "list" a.toArray 0)) s1.heap.objs.size a out.toArray).get? b=Y o;rw[sortedHeap_old (Za hb) (by rw[size_push'];exact Yo hb),Xk _ _ _ (Za hb)];exact f) l⟩
def C4{κ:KeyKind}(j:κ.OneLt):Ht prog w A E s oneType' (λp=>∃a,κ.keyOf p.1=Y a) (λp q=>match κ.keyOf p.1,κ.keyOf q.1 with | some a,some b=>κ.blt a b | _,_=>false):=by
 refine⟨?_,?_,?_⟩
 ·rintro st x y Q i ⟨a,d⟩ ⟨b,hb⟩ h;rw[lt'_eq];refine ZX (WI ?_);rw[i,keyLt'_oneType];refine ZX (wpS_lift (wpAny_attempt (j prog w A _ s x.1 y.1 a b d hb ⟨rfl,?_⟩)));rw[d,hb]at h;exact Zf h
 ·rintro x y ⟨a,d⟩ ⟨b,hb⟩ h;rw[d,hb]at h ⊢;exact KeyOrd.klt_asymm (O:=κ.toKeyOrd) h
 ·rintro x y z ⟨a,d⟩ ⟨b,hb⟩ ⟨c,e⟩ g f;rw[d,hb]at g;rw[hb,e]at f;rw[d,e];exact KeyOrd.kle_trans (O:=κ.toKeyOrd) g f
end TS
end
section
namespace L2
open PySem PySem.Spec PyProof.Rows TS
section
variable{X:Cx}
theorem qy:∀{b:List Str}{a:Vy},aP (b.map V.str) a->(∀v∈a,∃x t,v=Value.str x t)/\a.map strOf=b
 |[],[],_=>⟨λv h=>by simp at h,rfl⟩
 |s :: b,u :: a,h=>by
  cases h with
  |cons r q =>
   obtain⟨f,e⟩:=qy q;obtain⟨t,rfl⟩:=r;refine⟨λv d=>?_,?_⟩
   ·rcases Zh.mp d with rfl | d
    ·exact⟨s,t,rfl⟩
    ·exact f v d
   ·rw[Ze,e];rfl
theorem md:∀{a:Vy},(∀v∈a,∃x t,v=Value.str x t)->aP ((a.map strOf).map V.str) a
 |[],_=>.nil
 |u :: a,h=>by
  obtain⟨x,t,rfl⟩:=h u (Zu ..);exact .cons ⟨t,rfl⟩ (md λv b=>h v (Zv _ b))
def AC{d:Yr}{J:St}{H:Hp}{s j:GM}{Q:VK}{ss:List Str}{g:Vy}(I:Inv X d J H j)(i:∀v∈g,∃x t,v=Value.str x t)(N:g.map strOf=ss)(f:g.length<=KB)(q:∀(l:KF)(p:List Str),H l=O->p.Perm ss->p.Pairwise (λa b=>¬b.cps.toList<a.cps.toList)->Q (.ref l) (upd H l (.lst (p.map V.str)))) :
  Nonempty (JI X.prog X.w (EP X d J Q) g j):=by
 refine⟨⟨_,_,oneType',λA E h _=>C4 strKind_oneLt,λv n=>?_,f,λG A E h _ Q C=>?_,λout M e m r kp D=>?_⟩⟩
 ·obtain⟨x,t,rfl⟩:=i v n;exact⟨_,rfl⟩
 ·match g,G,i with
  |S :: R :: U,_,i =>
   rw[keyKind_strs (strsAre_map _ i)];exact Zl C
 ·have o:∀v∈out,∃x t,v=Value.str x t:=λv n=>i v (m.mem_iff.mp n);have z:((out.map strOf).map V.str).length<=sizeLine:=by rw[Zt,Zt,m.length_eq];exact f
  refine⟨.ref j.heap.objs.size,_,I.laid (t':=j.toks) kp (Zp _) (show bx X.prog X.w _ M _ (.lst ((out.map strOf).map V.str)) from⟨z,out,e,md o,D⟩),rfl,q _ _ (I.Gq.fresh (Zp _)) (by rw[← N];exact m.map _) ?_⟩;rw[WZ]at r ⊢;refine List.Pairwise.imp_of_mem (λ{a b} F hb P=>?_) r;obtain⟨x,t,rfl⟩:=o a F;obtain⟨y,u,rfl⟩:=o b hb;have:decide (y.cps.toList<x.cps.toList)=B:=P;exact of_decide_eq_false this
end
end L2
end
section
namespace VS
def Do{α:Type}(l:List α)(a b:Option Int):(cut l a b).length<=l.length:=by
 unfold cut;simp only[IH,Yz];omega
def zN{α:Type}(l:List α)(a b:Option Int){x:α}(h:x∈cut l a b):x∈l:=by
 unfold cut at h;exact YC (YM h)
def sU{α:Type}(l:List α)(k:Nat):cut l O (Y (k:Int))=l.take k:=by
 have h:¬((k:Int)<0):=by lia
 by_cases a:k<=l.length
 ·simp[cut,clip,h,YH a]
 ·rw[Yu (by lia)];simp[cut,clip,h,WW (XR a)]
def An{α β:Type}(f:α->β)(l:List α)(a b:Option Int):cut (l.map f) a b=(cut l a b).map f:=by
 unfold cut;simp only[Zt,List.map_take,List.map_drop]
def qM{a:Ex}{U:Env}{m:Md}{l:V1}(e:a U=Y (m,.lst l)):eU a U=Y (m,l):=by
 simp[eU,e]
def d7{tg:Tg}{it:Jb}{body:Sx}{U:Env}{m:Md}{l:V1}(e:it U=Y (m,l))(h:Sr m=L):ig tg it body U=forL tg body l U:=by
 unfold ig;rw[e];exact Zo h
def dF{g:Fn}{b:GY}{U:Env}{a:Va}{t:T}(h:b U=Y a)(d:g (trees a)=Y (.fr,t)):b6 g b U=Y (.fr,t):=by
 simp only[b6,h,Zs,d]
def aS{i:Nat}{e:Ex}{U:Env}{m:Md}{t:T}(h:e U=Y (m,t))(a:m ≠ .bo)(b:i<U.length):aQ i e U=Y (.nx (U.set i (Y (.pu t)))):=by
 simp only[aQ,h,Zs];cases m with
 |bo=>exact absurd M a
 |_=>simp[b]
def Ac{i:Nat}{e:Ex}{U:Env}{t:T}(h:e U=Y (.fr,t))(a:m8 t=L)(b:i<U.length):iC i e U=Y (.nx (U.set i (Y (.ow t)))):=by
 simp only[iC,h,Zs,cellOf,a,if_true,Zo b]
end VS
end
section
namespace VS
open PySem PySem.Spec PyProof.Rows L2
def FG{a b c:Tx}(h:a<b)(d:¬c<b):a<c:=by
 by_cases e:a<c
 ·exact e
 ·exact absurd (List.lt_of_le_of_lt (List.not_lt.mp e) h) d
theorem jD(x:Tx):∀l:List Tx,(nr x l).Perm (x :: l)
 |[]=>YJ _
 |y :: r=>by
  unfold nr;split
  ·exact((jD x r).cons y).trans (List.Perm.swap _ _ _)
  ·exact YJ _
theorem eD:∀l:List Tx,(cK l).Perm l
 |[]=>YJ _
 |x :: l=>(jD x _).trans ((eD l).cons x)
theorem qz(x:Tx):∀{l:List Tx},l.Pairwise (λa b=>¬b<a)->(nr x l).Pairwise (λa b=>¬b<a)
 |[],_=>by simp[nr]
 |y :: r,h=>by
  unfold nr;rw[pL];obtain⟨f,g⟩:=Vv.mp h;split
  ·rename_i c;have e:y<x:=by simpa using c
   refine Vv.mpr ⟨λz d=>?_,qz x g⟩;rcases Zh.mp ((jD x r).mem_iff.mp d) with rfl | d
   ·exact λz=>List.lt_irrefl _ (List.lt_trans e z)
   ·exact f z d
  ·rename_i c;have e:¬y<x:=by simpa using c
   refine Vv.mpr ⟨λz d=>?_,h⟩;rcases Zh.mp d with rfl | d
   ·exact e
   ·exact λw=>f z d (FG w e)
theorem oF:∀l:List Tx,(cK l).Pairwise (λa b=>¬b<a)
 |[]=>List.Pairwise.nil
 |x :: l=>qz x (oF l)
def oM{l d:List Tx}(h:d.Perm l)(e:d.Pairwise (λa b=>¬b<a)):d=cK l :=
 List.Perm.eq_of_pairwise (le:=λa b=>¬b<a) (λa b _ _ g f=>List.le_antisymm (List.not_lt.mp g) (List.not_lt.mp f)) e (oF l) (h.trans (eD l).symm)
def xu(s:Tx):(sx s).cps.toList=s:=rfl
def yS{f:List Tx}{d:List Str}(h:d.Perm (f.map sx))(i:d.Pairwise (λa b=>¬b.cps.toList<a.cps.toList)):d=(cK f).map sx:=by
 have e:d=(d.map λx=>x.cps.toList).map sx:=by
  rw[Yq]
  conv=>lhs;rw[← List.map_id d]
  apply W4;intro x g;obtain⟨s,_,rfl⟩:=Hq.mp (h.mem_iff.mp g);show sx s=sx (sx s).cps.toList;rw[xu]
 have e2:(d.map λx=>x.cps.toList)=cK f:=by
  refine oM ?_ ?_
  ·have:=h.map λx:Str=>x.cps.toList;rw[Yq]at this;have j:((λx:Str=>x.cps.toList) ∘ sx)=id:=by
    funext s;exact xu s
   rw[j,List.map_id]at this;exact this
  ·rw[WZ];exact i
 rw[e,e2]
noncomputable def Na(s:Tx):Bool:=decide (s.length<=dJ)&&s.all (λc=>decide (c<1114112))
def Cy{s:Tx}(h:Na s=L):og s:=by
 unfold Na at h;simp at h;exact h
section
variable{G:Gx}{X:Cx}{e:Expr}{cs:GY}{p pos:Pos}
theorem sE{H:Hp}:∀{ss:List Tx},(∀s∈ss,og s)->RpL G H (ss.map λs=>V.str (sx s)) (ss.map T.str) (ss.map λ_=>[])
 |[],_=>.nil
 |s :: ss,h=>.cons (.str s (h s (Zu ..))) (sE λx a=>h x (Zv _ a))
theorem r6{α β:Type}:∀(l:List α),(l.map λ_=>([]:List β)).flatten=[]
 |[]=>rfl
 |_ :: l=>by simp
theorem u4{H:Hp}:∀{d:List V}{l:V1}{f:X8}{b:List Tx},RpL G H d l f->strs? l=Y b->∀s∈b,og s
 |_,_,_,_,.nil,e,s,a=>by cases e;simp at a
 |_,_,_,_,.cons (t:=t) r q,e,s,a=>by
  cases t with
  |str x =>
   simp only[strs?]at e;obtain⟨g,e1,e2⟩:=Zy.mp e;subst e2;rcases Zh.mp a with rfl | a
   ·exact r.str_inv.2
   ·exact u4 q e1 s a
  |_=>cases e
def rh{Z:Gv}{U:VS.Env}{H0 H:Hp}{ss:List Tx}{Q:VK}(k:∀v f F,aK H f->Rp G f v (.lst ((cK ss).map T.str)) F->Fp Z U H0 .fr F->Q v f)(j:aK H0 H)(h:∀s∈ss,og s) :
  ∀(l:KF)(d:List Str),H l=O->d.Perm (ss.map sx)->d.Pairwise (λa b=>¬b.cps.toList<a.cps.toList)->Q (.ref l) (upd H l (.lst (d.map V.str))):=λq d g o hw=>by
 rw[yS o hw];have i:aK H (upd H q (.lst (((cK ss).map sx).map V.str))):=aU g;have m:=sE (G:=G) (H:=upd H q (.lst (((cK ss).map sx).map V.str))) λs n=>h s ((eD ss).mem_iff.mp n);have r:Rp G (upd H q (.lst (((cK ss).map sx).map V.str))) (.ref q) (.lst ((cK ss).map T.str)) (q :: ((cK ss).map λ_=>[]).flatten):=.lst (by rw[aw,Yq];rfl) m;rw[r6]at r;exact k _ _ _ i r (Fp.new (j.free g) (by simp) Fp.nil)
theorem keys_str:∀{a:List Key}{b:List Tx},strs? (a.map aO)=Y b->a=(b.map sx).map Sum.inr
 |[],_,e=>by cases e;rfl
 |.inl i :: a,_,e=>by cases e
 |.inr x :: a,b,e=>by
  simp only[Ze,aO,strs?]at e;obtain⟨d,e1,e2⟩:=Zy.mp e;subst e2;rw[keys_str e1];simp[sx]
def oy:bootBuiltins ("sorted" : Str)=Y (.builtin "sorted"):=by decide +kernel
end
end VS
end
section
namespace ST
open PySem PySem.Spec PyProof.Rows
variable{prog:P3}{w:XAA}{A:Re}{E:Yt}{s:GM}
noncomputable def KL(w:XAA):Bool:=w.params.followText "set-order"
structure Tb(w:XAA)(n:Nat)(t:SetTable):Prop where
 fit:t.fits n=true
 led:t.led=!KL w
 pl:n≠0->t.plain=false
noncomputable def O3(w:XAA)(l:List (Int×KM)):Prop:=∀e∈l,∃x a,e=(hashStr w x,Value.str x a)
noncomputable def nm(l:List (Int×KM)):List Str:=l.map λe=>strOf e.2
structure Ts(w:XAA)(h:UV)(a:KF)(ss:List Str)(es:Array (Int×KM))(ep:Nat)(t:SetTable):Prop where
 at_:h.get? a=some { cls:=.type "set",dict:=none,data:=.set es ep t }
 tb:Tb w es.size t
 Li:O3 w es.toList
 pm:(nm es.toList).Perm ss
 nd:ss.Nodup
 Ho:es.size<scanBound
def O3.of{l:List (Int×KM)}(h:O3 w l):ElemsOf (strKind prog w) l:=λe b=>by
 obtain⟨x,a,rfl⟩:=h e b;exact⟨⟨x,strKind_is prog w x a,rfl⟩,rfl⟩
def yV{l:List (Int×KM)}(h:O3 w l){e:Int×KM}(d:e∈l){k:Str}:(strKind prog w).is k e.2=L↔strOf e.2=k:=by
 obtain⟨x,b,rfl⟩:=h e d;constructor
 ·intro a;obtain⟨u,e⟩:=Ve (show Value.isStrOf k (.str x b)=L from a);cases e;rfl
 ·intro a;cases a;exact strKind_is prog w _ b
def Dh(t:SetTable)(n:Nat):(t.orStandIn n).led=t.led/\(t.plain=B->(t.orStandIn n).plain=B):=by
 unfold SetTable.orStandIn;by_cases a:t.fits n=L
 ·rw[Zo a];exact⟨rfl,λq=>q⟩
 ·rw[Zm a];exact⟨rfl,λ_=>rfl⟩
def AV(t:SetTable)(a:Array (Int×KM))(h:Int)(x:KM):(layNew t a h x).2.1.led=t.led/\(t.plain=B->(layNew t a h x).2.1.plain=B):=by
 unfold layNew;split
 ·exact Dh _ _
 ·exact⟨rfl,λ_=>rfl⟩
def vT(t:SetTable)(b:Array (Int×KM))(n:Nat):(relayAll t b n).2.1.led=t.led/\(t.plain=B->(relayAll t b n).2.1.plain=B):=by
 unfold relayAll;cases a:t.relaid (b.map λy=>y.1) n with
 |none=>exact⟨rfl,λ_=>rfl⟩
 |some p =>
  obtain⟨d,ord⟩:=p;have e:d.led=t.led/\d.plain=t.plain:=by
   unfold SetTable.relaid SetTable.laid at a;cases f:SetTable.layClean (SetTable.sizeAbove n-1) (b.map λy=>y.1) with
   |none=>rw[f]at a;cases a
   |some o =>
    rw[f]at a;cases a;exact⟨rfl,rfl⟩
  dsimp only;split
  ·exact⟨e.1,λq=>by rw[e.2];exact q⟩
  ·exact⟨rfl,λ_=>rfl⟩
def yO{a:KF}{i:List Str}{x:Str}{p:Tok}{v:Array (Int×KM)}{U:Nat}{t:SetTable}{Q:Bool->GM->Prop}(T:Ts w s.heap a i v U t)(hr:i.length+1<scanBound)(h:∀u GP ID KG t' b,Heap.SameBut a s.heap u->Ts w u a GP ID KG t'->(∀y,y∈GP↔y∈i\/y=x)->GP.length<=i.length+1->Q b { s with heap:=u }) :
  On (IR prog w) A (setAddHashed a (.str x p) (hashStr w x)) Q E s:=by
 have Te:=T.Li.of (prog:=prog);have ML:=strKind_is prog w x p;have hsz:v.size=i.length:=by rw[← T.pm.length_eq];simp[nm]
 unfold setAddHashed setAddHashedIn;refine YN (Zx (Xr T.at_ M T.tb.fit ?_));dsimp only;rw[byScan_of (knd:=strKind prog w) M T.Ho Te,Zo M];unfold setAddByScan;refine Zx (Zx (W0 (Zx (wpAny_setScan_of (knd:=strKind prog w) ML T.at_ M T.tb.fit Te ?_))));cases S:List.findIdx? (λe=>(strKind prog w).is x e.2) v.toList with
 |some j =>
  obtain⟨hj,VU,_⟩:=List.findIdx?_eq_some_iff_getElem.mp S;have hx:x∈i:=T.pm.mem_iff.mp (Hq.mpr ⟨_,Yy hj,(yV T.Li (Yy hj)).mp VU⟩);refine Zl (Zl ?_);exact h s.heap i v U t _ (Heap.SameBut.refl a s.heap) T (λy=>⟨.inl,λz=>z.elim id λe=>e ▸ hx⟩) (Xj _)
 |none =>
  have hx:x∉i:=λD=>by
   obtain⟨e,C,q⟩:=Hq.mp (T.pm.mem_iff.mpr D);have:=List.findIdx?_eq_none_iff.mp S e C;rw[(yV T.Li C).mpr q]at this;cases this
  have G:=layNew_perm t v (hashStr w x) (.str x p);have Z:=layNew_fits t v (hashStr w x) (.str x p);have X:=AV t v (hashStr w x) (.str x p);dsimp only;generalize layNew t v (hashStr w x) (.str x p)=L at G Z X ⊢;obtain⟨g,t1,wd,gv⟩:=L;dsimp only at G Z X ⊢;rw[X2]at G;have RU:O3 w g.toList:=λe C=>by
   rcases Zi.mp (G.mem_iff.mp C) with q | q
   ·exact T.Li e q
   ·exact⟨x,p,Zk.mp q⟩
  have So:(nm g.toList).Perm (i++[x]):=(G.map _).trans (by
   rw[Yx];exact T.pm.append_right _)
  have Kp:(i++[x]).Nodup:=ZM.mpr ⟨T.nd,by simp,λy hy z hz e=>hx (by rw[← Zk.mp hz,← e];exact hy)⟩;have Ux:g.size=i.length+1:=by
   have:=So.length_eq;simpa[nm] using this
  have MU:g.size<scanBound:=by rw[Ux];exact hr
  have fin:∀(n:Array (Int×KM))(OC:Nat)(d:SetTable)(u:UV)(b:Bool),n.toList.Perm g.toList->d.fits n.size=true->d.led=t.led->d.plain=B->Heap.SameBut a s.heap u →
    u.get? a=Y { cls:=.type "set",dict:=O,data:=.set n OC d }->Q b { s with heap:=u }:=λn OC d u b p2 f2 P N sb F =>
   h u (i++[x]) n OC d b sb ⟨F,⟨f2,P.trans T.tb.led,λ_=>N⟩,λe C=>RU e (p2.mem_iff.mp C),(p2.map _).trans So,Kp,by
    rw[← I0,p2.length_eq,I0];exact MU⟩ (λy=>by simp) (by simp)
  have rest:∀(d:SetTable),d.fits g.size=true->d.led=t.led->d.plain=B->On (IR prog w) A (do
    storeSet a g d
    if (!wd&&d.tooFull)=true then
     let r:=relayAll d g (SetTable.grown g.size)
     (match r.2.2 with
      |true=>rule "set.scan.the-table-gave-way"
      |false=>pure ())
     storeSet a r.1 r.2.1
     pure (Y true)
    else pure (Y true)) (λo l=>∃b,o=Y b/\Q b l) E s:=λd f2 P N=>by
   refine Zx (wpAny_storeSet_of T.at_ M ?_ (Wv MU));have F:(s.heap.update a (Obj.putSet g d)).get? a=Y { cls:=.type "set",dict:=O,data:=.set g (U+1) d }:=Yl _ T.at_ M;have Si:Heap.SameBut a s.heap (s.heap.update a (Obj.putSet g d)):=Xg ..;by_cases hq:(!wd&&d.tooFull)=true
   ·rw[Zo hq];have rp:=relayAll_perm d g (SetTable.grown g.size);have rf:=relayAll_fits d g (SetTable.grown g.size);have J:=vT d g (SetTable.grown g.size);generalize relayAll d g (SetTable.grown g.size)=R at rp rf J ⊢;obtain⟨n,H,gv2⟩:=R;dsimp only at rp rf J ⊢;have RG:n.size<scanBound:=by rw[← I0,rp.length_eq,I0];exact MU
    have g3:((s.heap.update a (Obj.putSet g d)).update a (Obj.putSet n H)).get? a=Y { cls:=.type "set",dict:=O,data:=.set n (U+1+1) H }:=Yl _ F M;have st:On (IR prog w) A (storeSet a n H >>= λ_=>pure (Y true)) (λo l=>∃b,o=Y b/\Q b l) E { s with heap:=s.heap.update a (Obj.putSet g d) } :=
     Zx (wpAny_storeSet_of F M (Zl ⟨true,rfl,fin n _ H _ _ rp rf (J.1.trans P) (J.2 N) (Si.trans (Xg ..)) g3⟩) (Wv RG))
    cases gv2 with
    |true=>exact Zx (W0 st)
    |false=>exact Zx (Zl st)
   ·rw[Zm hq];exact Zl ⟨true,rfl,fin g _ d _ _ (YJ _) f2 P N Si F⟩
  have out:∀(m:Sem (Option Bool)),On (IR prog w) A m (λo l=>∃b,o=Y b/\Q b l) E s->On (IR prog w) A m (λo l=>On (IR prog w) A (match o with | some added=>pure added | none=>setAddHashedIn a (.str x p) (hashStr w x) 99999) Q E l) E s:=λm D =>
   YB D (λo l ⟨b,e,q⟩=>by subst e;exact Zl q) λ_ _ e=>e
  refine out _ ?_;have mid:∀(m:Sem Unit),(∀(s1:GM)(Q1:Unit->GM->Prop),Q1 () s1->On (IR prog w) A m Q1 E s1)->∀(f:Unit->Sem (Option Bool)),On (IR prog w) A (f ()) (λo l=>∃b,o=Y b/\Q b l) E s->On (IR prog w) A (m>>=f) (λo l=>∃b,o=Y b/\Q b l) E s:=λm D f S=>Zx (D s _ S);refine mid _ (λs1 Q1 q1=>by cases gv<;>first | exact Zl q1 | exact W0 q1) _ ?_;by_cases hp:t1.plain=true
  ·rw[Zo hp];refine Zx (m:=hashByValue 8 (.str x p)) (Zl ?_);simp only[Xh,↓reduceIte];exact rest { t1 with plain:=false } (SetTable.fits_plain_off Z) X.1 rfl
  ·rw[Zm hp];refine Zx (Zl ?_);simp only[↓reduceIte];exact rest t1 Z X.1 (by simpa using hp)
theorem rq{R:Result->GM->Prop}{I S:KF}{Z M:Wf}{G:Array GenState->Array GenState->Prop}{n:Nat}{P:Nat->KM->Prop}{St:Nat->GM->Prop}{q:List Str}(W:WalksS prog w A.in1 I Z M G n P St)(a:S∉Z)(Q:n=q.length)(X:∀i v,P i v->∃x t,v=.str x t/\q[i]?=Y x)(g:n+1<scanBound) :
  ∀(k i:Nat)(s:GM)(d:List Str)(j:Array (Int×KM))(l:Nat)(t:SetTable),i+k=n->St i s->Ts w s.heap S d j l t->(∀y,y∈d↔y∈q.take i)->d.length<=i →
   (∀f p J H r,Moved (S :: M) G s f->Ts w f.heap S p J H r->(∀y,y∈p↔y∈q)->p.length<=n->R (.ok (.ret .none)) f) →
   codeAny (IR prog w) A (.builtin "set.update.loop" ⟨[.ref S,.ref I],[]⟩) R s
 |0,i,s,d,j,l,t,hk,st,T,u,U,C=>by
  have hi:i=n:=by omega
  subst hi;refine Y5 F.entry_set_update_loop ?_;rw[YI Vh];refine Zx (m:=pyNext (.ref I)) (W.done s _ _ st λf mv=>Zl (C f d j l t (mv.mono λb g=>Zv _ g) ⟨mv.heap S _ (λh=>a (W.sub _ h)) T.at_,T.tb,T.Li,T.pm,T.nd,T.Ho⟩ (λy=>?_) U));rw[u y,Q,List.take_length]
 |k+1,i,s,d,j,l,t,hk,st,T,u,U,C=>by
  refine Y5 F.entry_set_update_loop ?_;rw[YI Vh];refine Zx (m:=pyNext (.ref I)) (W.item i s _ _ (by lia) st λv s1 pv G6 mv=>?_);obtain⟨x,N,rfl,hx⟩:=X i v pv;have T1:Ts w s1.heap S d j l t:=⟨mv.heap S _ (λh=>a (W.sub _ h)) T.at_,T.tb,T.Li,T.pm,T.nd,T.Ho⟩
  refine Zx (m:=holding [Value.str x N] (setAdd S (.str x N))) (YN ?_);unfold setAdd;refine YN (Zx (wpAny_pyHash_str (yO (s:={ s1 with toks:=s1.toks+1 }) T1 (by lia) λh' p J H r b sb T2 LA HR=>?_)));refine Zl ⟨XD Vh _,rq W a Q X g k (i+1) _ p J H r (by lia) (W.frame _ s1 _ _ G6 (Xj _) λc z o e=>?_) T2 (λy=>?_) (by lia) λs2 Uz JT OC t2 U6 T3 Rb Iq=>?_⟩
  ·rw[sb.2 c λD=>a (D ▸ z)];exact e
  ·rw[LA y,u y,List.take_add_one,hx,Zi];simp
  ·refine C s2 Uz JT OC t2 (Moved.trans W.gtrans (Moved.then_heap (mv.mono λb g=>Zv _ g) (Xj _) λc o z e=>?_) U6) T3 Rb Iq;rw[sb.2 c λD=>z (by rw[D];exact Zu)];exact e
noncomputable abbrev bare(w:XAA):Obj:={ cls:=.type "set",dict:=O,data:=.set #[] 0 (.fresh 0 0 (!KL w)) }
def Bd(v:KM){Q:Yt}(h:Q (.ref s.heap.objs.size) { s with heap:=s.heap.push (bare w) }) :
  codeAny (IR prog w) A (.call (.builtin "set.__new__") ⟨[.type "set",v],[]⟩) (wants Q E) s:=by
 refine codeAny_of_tree (Zx (m:=checkBuiltinCall "set.__new__" ⟨[.type "set",v],[]⟩) (wpAny_of_eq (F.newCall_set_1 v) (Zl ⟨XD F.plain_set_new _,Y5 F.entry_set_new ?_⟩)));rw[YI F.plain_set_new];have own:=sub_set_self;cases s;unfold Builtin.«set.__new__» Builtin.Frozenset.newClass
 wp_walk
 refine Wj (Zl ?_);simp only[newObj];exact Zx (wpAny_alloc (Zl (Zl h)))
theorem Ts.bare(h:UV):Ts w (h.push (ST.bare w)) h.objs.size [] #[] 0 (.fresh 0 0 (!KL w)) :=
 ⟨ZY _ M,⟨rfl,rfl,λe=>absurd M e⟩,λe he=>by simp at he,YJ _,Iv,by decide⟩
def yG{l:KF}{j:Array KM}{xs:List Str}{Q:Yt}(Z:A.handled=O)(X:s.heap.IsList l j)(S:∀(i:Nat)(v:KM),j[i]?=Y v->∃x t,v=.str x t/\xs[i]?=Y x)(P:j.size=xs.length)(hb:xs.length+1<scanBound)(h:∀(n:UV)(H:Nat) ss es ep t,Ts w n s.heap.objs.size ss es ep t->(∀y,y∈ss↔y∈xs)->(∀b o,s.heap.get? b=Y o->n.get? b=Y o)->Q (.ref s.heap.objs.size) { s with heap:=n,toks:=H }) :
  On (IR prog w) A (call (.type "set") [.ref l]) Q E s:=by
 have f:=F.called_set;obtain⟨c,tl,mro⟩:=f.mro;have made:=f.made;have sub:=f.sub;have nt:=f.notType;have cc:=f.canCreate;have tc:=F.typeCall_set_1 (.ref l);refine wpAny_call (codeAny_of_tree (Zl (show _/\codeAny _ _ (.builtin "type.__call__" _) _ _ from⟨Code.quiet_builtin _ (by decide +kernel),Y5 F.entry_type_call ?_⟩)));rw[Around.under_plain (weight_type_call_type "set" [.ref l] []) M]
 repeat any_goals first | assumption | wp_step
 refine Wu (Bd (.ref l) (E:=E) (Q:=λv s1=>v=.ref s.heap.objs.size/\s1={ s with heap:=s.heap.push (bare w) }) ⟨rfl,rfl⟩) λr s1 a=>?_
 match r,a with
 |.error e,a=>exact a
 |.ok (.ret v),⟨e1,e2⟩ =>
  subst e1 e2;have g:=Ts.bare (w:=w) s.heap;have ty:Shared.TypeIs { s with heap:=s.heap.push (bare w) } (.ref s.heap.objs.size) "set" := ⟨_,g.at_,rfl⟩
  have il:=f.init.lookup;have ib:=f.init.bind (.ref s.heap.objs.size)
  repeat any_goals first | assumption | wp_step
  refine Wu (codeAny_call_builtin (R:=wants (λv u=>v=.none/\Q (.ref s.heap.objs.size) u) E) f.init.plain F.entry_set_init (check_set_init_1 ty ?_)) λr2 u d=>?_
  ·obtain⟨ol,C,D,nl,z⟩:=X;cases ol;dsimp only at D z;subst D z;have G:=ZS C;have M7:=Zn (bare w) C;have lst:(s.heap.push (bare w)).IsList l j:=⟨_,M7,rfl,nl,rfl⟩
   have n1:=F.sub_list_set;have n2:=F.sub_list_frozenset;have n3:(Value.type "list" == Value.type "dict")=B:=rfl;unfold Builtin.«set.__init__» noKeywords Builtin.Frozenset.updateFrom;generalize eP:pyIter=VI
   wp_walk
   subst eP;refine wpAny_pyIter_list lst (Zx (wpAny_runValue ?_));have out:l≠(s.heap.push (bare w)).objs.size:=by rw[YT];exact Za (Yo G)
   have off:s.heap.objs.size∉[(s.heap.push (bare w)).objs.size,l]:=by
    rw[YT];simp only[Zh,Xo,or_false,not_or];exact⟨Za (Yp _),XB G⟩
   have T1:Ts w ((s.heap.push (bare w)).push { cls:=.type "list_iterator",data:=.fields #[.ref l,.int 0 0] }) s.heap.objs.size [] #[] 0 (.fresh 0 0 (!KL w)) :=
    ⟨Zn _ g.at_,g.tb,g.Li,g.pm,g.nd,g.Ho⟩
   refine rq ((Walks.list (by simp[Z]) _ l out j).toS) off P S (by lia) j.size 0 _ [] #[] 0 _ (by exact XS _) ⟨⟨_,ZY _ M,rfl,rfl⟩,lst.push _⟩ T1 (by simp) (Zp _) λN GP ID KG J mv T U _=>?_;obtain⟨n,g',d',Ki,Mo⟩:=N;have e1:g'=s.gens:=mv.gens;have e2:d'=s.drawn:=mv.drawn;have e3:Mo=s.os:=mv.os;subst e1 e2 e3;refine Zl (Zl ⟨rfl,h n Ki GP ID KG J T U λb o e=>mv.heap b o (λp=>?_) (Zn _ (Zn _ e))⟩);have m:=ZS e;rw[YT]at p;simp only[Zh,Xo,or_false]at p;rcases p with q | q
   ·exact Za m q
   ·exact Za (Yo m) q
  ·match r2,d with
   |.error e,d=>exact d
   |.ok (.ret v),⟨e1,e2⟩ =>
    subst e1
    repeat any_goals first | assumption | wp_step
   |.ok .next,d=>exact d.elim
   |.ok .brk,d=>exact d.elim
   |.ok .cont,d=>exact d.elim
 |.ok .next,a=>exact a.elim
 |.ok .brk,a=>exact a.elim
 |.ok .cont,a=>exact a.elim
end ST
end
section
namespace ST
open PySem PySem.Spec PyProof.Rows
variable{prog:P3}{w:XAA}{A:Re}{E:Yt}{s:GM}
def lR:Slot "set_iterator" "__next__" "set_iterator.__next__" := .of (owner := "set_iterator") (n := "__next__") (by rw[Vz,Wk];kernel_rfl) (by decide +kernel) (by decide +kernel)
 (by decide +kernel) (by first | exact .inl (by decide +kernel) | exact .inr (by decide +kernel)) (by rw[Vs];kernel_rfl)
def uC:Slot "set_iterator" "__iter__" "set_iterator.__iter__" := .of (owner := "set_iterator") (n := "__iter__") (by rw[Vz,Wk];kernel_rfl) (by decide +kernel) (by decide +kernel)
 (by decide +kernel) (by first | exact .inl (by decide +kernel) | exact .inr (by decide +kernel)) (by rw[Vs];kernel_rfl)
def zY:entryFor table "set_iterator.__next__" = Y Builtin.«set_iterator.__next__» := entryFor_of_fast (by kernel_rfl)
def Bi:entryFor table "set_iterator.__iter__" = Y Builtin.«dict_keyiterator.__iter__» := entryFor_alias (id' := "dict_keyiterator.__iter__") (by kernel_rfl) M (by decide +kernel) (by kernel_rfl)
def AJ:entryFor table "set.__iter__" = Y Builtin.«frozenset.__iter__» := entryFor_alias (id' := "frozenset.__iter__") (by kernel_rfl) M (by decide +kernel) (by kernel_rfl)
def Ax(v:KM):argsOk "set_iterator.__next__" ⟨[v],[]⟩:=by unfold argsOk;kernel_rfl
def By(v:KM):argsOk "set_iterator.__iter__" ⟨[v],[]⟩:=by unfold argsOk;kernel_rfl
def wp_choose{a:Source}{n:Nat}{Q:Nat->GM->Prop}(b:n≠0)(h:∀i d,i<n->Q i { s with drawn:=d }):On (IR prog w) A (choose a n) Q E s:=λΓ p _=>by
 show n≠0/\_;exact⟨b,h _ _ (Nat.mod_lt _ (II b))⟩
theorem pH{α:Type}:∀(l:List α){i:Nat}(h:i<l.length),(l[i] :: l.eraseIdx i).Perm l
 |a :: l,0,_=>YJ _
 |a :: l,i+1,h=>((List.Perm.swap _ _ _).trans ((pH l (by simpa using h)).cons a))
def zQ{α:Type}:∀(n:Nat)(a:List α)(s:GM)(Q:List α->GM->Prop),n=a.length->(∀b d,b.Perm a->Q b { s with drawn:=d })->On (IR prog w) A (drawOrder n a) Q E s:=by
 intro n
 induction n with
 |zero =>
  intro a s Q e h;cases a with
  |nil=>exact Zl (h [] s.drawn (YJ _))
  |cons x a=>exact absurd e (by simp)
 |succ n g =>
  intro a s Q e h;cases a with
  |nil=>exact absurd e (by simp)
  |cons x a =>
   unfold drawOrder;refine Zx (wp_choose (by simp) λi d f=>?_);rw[Zq f];refine Zx (g _ _ _ (by rw[List.length_eraseIdx,Zo f];simp at e ⊢;omega) λb l j=>Zl (h _ l ?_));exact(List.Perm.cons _ j).trans (pH _ f)
noncomputable abbrev Lb(first:KM)(i:Nat)(a:KF)(n b:Nat):Obj:={ cls:=.type "set_iterator",data:=.fields #[first,.int i 0,.ref a,.int n 0,.int b 0] }
def xY{t:SetTable}{n:Nat}(h:t.fits n=L):¬((t.place.size != n||decide (t.fill > t.mask))=L):=by
 unfold SetTable.fits at h;simp at h;simp[h.1];exact h.2
def xo{Q:PySem.Fin->GM->Prop}{f:Yt}(g:A.handled=O)(h:∀(d:UV)(x:KF),(∀b o,s.heap.get? b=Y o->d.get? b=Y o)->(∃o,d.get? x=Y o/\o.cls=.type "StopIteration")->f (.ref x) { s with heap:=d }) :
  On (IR prog w) A (newExc (.type "StopIteration") [] >>= λe=>raiseNew e) Q f s:=by
 simp only[newExc,newTuple];refine Zx (Zx (Xq (Zx (m:=firstArgMember _ _) (wpAny_of_eq (a:=Value.none) (by first | rfl | (simp only[firstArgMember];rfl)) (Xq ?_ (by size_fits)))) (by size_fits)));simp only[raiseNew];refine Zx (wpAny_handled ?_);rw[g];exact Zx (Zl (wpAny_throw (h _ _ (λb o e=>Zn _ (Zn _ e)) ⟨_,ZY _ M,rfl⟩)))
def ux{I:KF}{m:Array KM}{Q:Vx->GM->Prop}(l:s.heap.get? I=Y { cls:=.type "set_iterator",data:=.fields m })(h:On (IR prog w) A.in1 (Builtin.«set_iterator.__next__» ⟨[.ref I],[]⟩) (λf a=>∃v,f=.done (.ret v)/\Q (Y v) a) (λe a=>∃x,e=.ref x/\(∃o,a.heap.get? x=Y o/\o.cls=.type "StopIteration")/\Q O a) s) :
  On (IR prog w) A (pyNext (.ref I)) Q E s:=by
 unfold pyNext;have ty:s.TypeIs (.ref I) "set_iterator" := ⟨_,l,rfl⟩
 refine Zx (wpAny_attempt (wpAny_callSpecial?_slot (name:=Str.ofString "__next__") ty lR (Y8 lR ty zY (YB h (λf a g=>?_) λe a i=>?_) (Ax _))))
 ·obtain⟨v,rfl,q⟩:=g;exact⟨v,rfl,Zl q⟩
 ·obtain⟨x,rfl,⟨o,d,j⟩,q⟩:=i;exact Zx (wpAny_isInstance (T := "StopIteration") (b:=L) ⟨o,d,j⟩ isSubtype_stop (Zl q))
noncomputable abbrev oo(a:Array (Int×KM))(b:Nat)(t:SetTable):Obj:={ cls:=.type "set",dict:=O,data:=.set a b t }
def nW{I a p:KF}{i m:Nat}{q:Vt}{f:Array (Int×KM)}{t:SetTable}{n:Obj}{u:Nat}{Q:Vx->GM->Prop}(C:A.handled=O)(v:s.heap.get? a=Y (oo f m t))(r:t.fits f.size=L)(l:s.heap.get? I=Y (Lb (.ref p) i a f.size m))(y:s.heap.get? p=Y n)(D:n.data=.seq (q.map λ(k:Nat)=>rawInt k).toArray u)(H:∀j x,q[i]?=Y j->f[j]?=Y x->∀d,Heap.SameBut I s.heap d->d.get? I=Y (Lb (.ref p) (i+1) a f.size m)->Q (Y x.2) { s with heap:=d })(G:∀j,q[i]?=Y j->j<f.size)(F:q[i]?=O->∀d,(∀b o,b≠I->s.heap.get? b=Y o->d.get? b=Y o)->Q O { s with heap:=d }) :
  On (IR prog w) A (pyNext (.ref I)) Q E s:=by
 refine ux l ?_;unfold Builtin.«set_iterator.__next__»
 wp_walk
 rw[Zm (xY r)];refine Zl (Zl ?_);dsimp only;rw[Zm (by simp)];refine Zx (wpAny_seqItems y D ?_);dsimp only;rw[Y2];cases g:q[i]? with
 |some j =>
  have e1:(q.map λ(k:Nat)=>rawInt k).toArray[i]?=Y (rawInt j):=by simp[g]
  rw[e1];have z:=G j g;unfold setNextDrawn;refine Zx (Zx (Xr v M r ?_));dsimp only;rw[Y2,Zm (by simp)];show On _ _ (match f[(j:Int).toNat]? with | some (_,x)=>pure x | _=>unsupported "internal:set_iterator") _ _ _;rw[Y2];cases h:f[j]? with
  |none=>rw[Xy z]at h;cases h
  |some x =>
   refine Zl (Zx (Xf l M (by show 1<5;decide) (Zl ⟨_,rfl,H j x g h _ (Xg ..) ?_⟩)));exact Yl _ l M
 |none =>
  have e1:(q.map λ(k:Nat)=>rawInt k).toArray[i]?=O:=by simp at g ⊢;exact g
  rw[e1];dsimp only;have J:=Yl (Obj.mapFields (·.setIfInBounds 0 (rawInt 0))) l M;refine Zx (Xf l M (by show 0<5;decide) (Zx (Xf J M (by show 2<5;decide) (xo C λd x kp h=>⟨x,rfl,h,F g d λb o hb e=>kp b o ?_⟩))));exact(YS _ _ (YK hb)).trans ((YS _ _ (YK hb)).trans e)
def gO{I a:KF}{i h m:Nat}{g:Array (Int×KM)}{t:SetTable}{r:Option (KM×Nat)}{Q:Vx->GM->Prop}(u:A.handled=O)(z:s.heap.get? a=Y (oo g h t))(v:t.fits g.size=L)(f:s.heap.get? I=Y (Lb (.int m 0) i a g.size h))(q:∀(Q:Option (KM×Nat)->GM->Prop)(E:Yt),Q r s->On (IR prog w) A.in1 (setNext a m i h) Q E s)(l:∀x nx,r=Y (x,nx)->∀d,Heap.SameBut I s.heap d->d.get? I=Y (Lb (.int nx 0) (i+1) a g.size h)->Q (Y x) { s with heap:=d })(j:r=O->∀d,(∀b o,b≠I->s.heap.get? b=Y o->d.get? b=Y o)->Q O { s with heap:=d }) :
  On (IR prog w) A (pyNext (.ref I)) Q E s:=by
 refine ux f ?_;unfold Builtin.«set_iterator.__next__»
 wp_walk
 rw[Zm (xY v)];refine Zl (Zl ?_);dsimp only;rw[Zm (by simp)];simp only[Y2];refine Zx (q _ _ ?_)
 match r,l,j with
 |some (x,nx),l,_ =>
  have n:=Yl (Obj.mapFields (·.setIfInBounds 0 (rawInt nx))) f M;have y:=Yl (Obj.mapFields (·.setIfInBounds 1 (rawInt ((i:Int)+1)))) n M;exact Zx (Xf f M (by show 0<5;decide) (Zx (Xf n M (by show 1<5;decide) (Zl ⟨x,rfl,l x nx M _ (Heap.SameBut.trans (Xg ..) (Xg ..)) y⟩))))
 |none,_,j =>
  refine Zx (Xf f M (by show 2<5;decide) (xo u λd x kp p=>⟨x,rfl,p,j M d λb o hb e=>kp b o ?_⟩));exact(YS _ _ (YK hb)).trans e
theorem uy{α:Type}(f:Nat->Nat):∀(n k:Nat)(l:List α)(out:Array α),l.length=n->(pickOrder.go f n k l out).toList.Perm (out.toList++l)
 |0,k,l,out,h=>by
  cases l with
  |nil=>unfold pickOrder.go;simp
  |cons a l=>simp at h
 |n+1,k,l,out,h=>by
  have b:f k%l.length<l.length:=Nat.mod_lt _ (by lia);unfold pickOrder.go;rw[Zq b];dsimp only;refine(uy f n (k+1) _ _ (by rw[List.length_eraseIdx,Zo b];lia)).trans ?_;rw[X2,Zd];exact List.Perm.append_left _ (pH l b)
def k9{α:Type}(f:Nat->Nat)(a:Array α):(pickOrder f a).toList.Perm a.toList:=by
 unfold pickOrder;simpa using uy f a.size 0 a.toList #[] M
def ue{a:KF}{i d f:Nat}{b:Array (Int×KM)}{t:SetTable}(l:KL w=L)(g:s.heap.get? a=Y (oo b d t))(j:t.fits b.size=L)(Q:Option (KM×Nat)->GM->Prop)(E:Yt)(h:Q (((pickOrder (w.params.setOrder a d) b)[i]?).map λe=>(e.2,f)) s):On (IR prog w) A (setNext a f i d) Q E s:=by
 have sb:∀(Q:Bool->GM->Prop),Q L s->On (IR prog w) A setsByText Q E s:=λQ q=>Zx (Wj (Zl (by show Q (KL w) s;rw[l];exact q)));unfold setNext;refine Zx (Xr g M j (Zx (sb _ ?_)));dsimp only;rw[Zo M,Zm (by simp)];unfold setWalk;refine Zx (Zx (Xr g M j (Zx (sb _ ?_))));rw[Zo M];exact Zx (Wj (Zl (Zl h)))
def yQ{a:KF}{i f e:Nat}{d:Array (Int×KM)}{t:SetTable}(n:KL w=B)(g:s.heap.get? a=Y (oo d f t))(m:t.fits d.size=L)(l:t.led=L)(p:d.size<=1)(Q:Option (KM×Nat)->GM->Prop)(E:Yt)(h:Q (match d[SetTable.below t.place e]?,t.place[SetTable.below t.place e]? with | some (_,x),some j=>some (x,j+1) | _,_=>none) s):On (IR prog w) A (setNext a e i f) Q E s:=by
 have sb:∀(Q:Bool->GM->Prop),Q B s->On (IR prog w) A setsByText Q E s:=λQ q=>Zx (Wj (Zl (by show Q (KL w) s;rw[n];exact q)));unfold setNext;refine Zx (Xr g M m (Zx (sb _ ?_)));dsimp only;rw[Zm Zb];have o:∀b:Bool,¬((b&&decide (d.size > 1))=L):=λb=>by cases b<;>simp<;>omega
 refine(show On _ _ (if (!t.plain&&decide (d.size > 1))=L then _ else _) _ _ _ from ?_);rw[Zm (o _)];refine Zx (show On _ _ (if (!t.led && !d.isEmpty)=L then _ else _) _ _ _ from ?_);rw[Zm (by rw[l];simp)];exact Zl (Zl h)
end ST
end
section
namespace ST
open PySem PySem.Spec PyProof.Rows
variable{prog:P3}{w:XAA}{A:Re}{E:Yt}{s:GM}
def zy{α:Type}{a:Array α}(h:a.size=1):∃x,a=#[x]:=by
 obtain⟨l⟩:=a
 match l,h with
 |[x],_=>exact⟨x,rfl⟩
noncomputable abbrev Gs:Array GenState->Array GenState->Prop:=λa b=>b=a
def i8{I a:KF}{n:Wf}{j:Array (Int×KM)}{ep:Nat}{t:SetTable}{l:Vy}(first:Nat->KM)(d:UV->Prop)(u:I∈n)(z:a∈n)(C:a≠I)(r:∀h f:UV,d h->(∀b∈n,b≠I->∀o,h.get? b=Y o->f.get? b=Y o)->d f)(step:∀(i:Nat)(s:GM)(Q:Vx->GM->Prop)(E:Yt),i<j.size->s.heap.get? a=Y (oo j ep t)->s.heap.get? I=Y (Lb (first i) i a j.size ep)->d s.heap →
   (∀v f,l[i]?=Y v->Heap.SameBut I s.heap f->f.get? I=Y (Lb (first (i+1)) (i+1) a j.size ep)->Q (Y v) { s with heap:=f })->On (IR prog w) A (pyNext (.ref I)) Q E s)(stop:∀(s:GM)(Q:Vx->GM->Prop)(E:Yt),s.heap.get? a=Y (oo j ep t)->s.heap.get? I=Y (Lb (first j.size) j.size a j.size ep)->d s.heap →
   (∀f,(∀b o,b≠I->s.heap.get? b=Y o->f.get? b=Y o)->Q O { s with heap:=f })->On (IR prog w) A (pyNext (.ref I)) Q E s) :
  WalksS prog w A I n [I] Gs j.size (λi v=>l[i]?=Y v) (λi s=>s.heap.get? a=Y (oo j ep t)/\s.heap.get? I=Y (Lb (first i) i a j.size ep)/\d s.heap) where
 sub:=λb hb=>by rw[Zk.mp hb];exact u
 grefl:=λ_=>rfl
 gtrans:=λ_ _ _ p q=>q.trans p
 frame:=λi s f D st _ kp=>⟨kp a z _ st.1,kp I u _ st.2.1,r _ _ st.2.2 λb hb _ o e=>kp b hb o e⟩
 item:=λi s Q E y st m=>step i s Q E y st.1 st.2.1 st.2.2 λv f x sb g=>m v _ x ⟨(sb.2 a C).trans st.1,g,r _ _ st.2.2 λb _ hb o e=>(sb.2 b hb).trans e⟩ ⟨λb o hb e=>(sb.2 b λq=>hb (by rw[q];exact Zk.mpr M)).trans e,rfl,rfl,rfl,Zp _⟩
 done:=λs Q E st m=>stop s Q E st.1 st.2.1 st.2.2 λf kp=>m _ ⟨λb o hb e=>kp b o (λq=>hb (by rw[q];exact Zk.mpr M)) e,rfl,rfl,rfl,Zp _⟩
 self:=λi s Q E st m=>WO ⟨_,st.2.1,rfl⟩ uC (Y8 uC ⟨_,st.2.1,rfl⟩ Bi (show On _ _ (ret (.ref I)) _ _ _ from Zl ⟨_,rfl, "set_iterator",_,⟨_,st.2.1,rfl⟩,lR.lookup,m⟩) (By _))
noncomputable def Ready(b:P3)(w:XAA)(d:Nat)(a:KF)(e:Array (Int×KM))(I:KF)(s:GM):Prop :=
 ∃(ord:Vy)(p:KF),ord.Perm (e.toList.map (·.2))/\d<=I/\d<=p/\∃St:Nat->GM->Prop,(∀A:Re,A.handled=O->WalksS b w A I [I,a,p] [I] Gs e.size (λi v=>ord[i]?=Y v) St)/\St 0 s
def zx{a:KF}{ss:List Str}{l:Array (Int×KM)}{ep:Nat}{t:SetTable}{Q:Yt}(T:Ts w s.heap a ss l ep t)(h:∀(I:KF)(p:UV) d,(∀b o,s.heap.get? b=Y o->p.get? b=Y o)->Ready prog w s.heap.objs.size a l I { s with heap:=p,drawn:=d }->I<p.objs.size->Q (.ref I) { s with heap:=p,drawn:=d }) :
  On (IR prog w) A (pyIter (.ref a)) Q E s:=by
 have H:s.heap.get? a=Y (oo l ep t):=T.at_;have GZ:=ZS H;have ty:s.TypeIs (.ref a) "set" := ⟨_,H,rfl⟩
 refine WO ty F.slot_set_iter (Y8 F.slot_set_iter ty AJ ?_ (F.args_set_iter_1 _));unfold Builtin.«frozenset.__iter__» Builtin.Frozenset.slot0 Builtin.Frozenset.sizeOf setEntries;refine Zx (m:=(do Builtin.Frozenset.addrOf (← slotArgs "__iter__" 0 ⟨[.ref a],[]⟩).1)) (Zl ?_);refine Zx (Zx (Zx (Xr H M T.tb.fit (Zl (Zl ?_)))));unfold setDrawn;have sb:∀(Q:Bool->GM->Prop)(E:Yt),Q (KL w) s->On (IR prog w) A.in1 setsByText Q E s:=λQ E q=>Zx (Wj (Zl q));refine Zx (Zx (Xr H M T.tb.fit (Zx (sb _ _ (Zl ?_)))));refine(show On _ _ (if (!KL w&&(!t.plain&&decide (l.size > 1)))=L then _ else _) _ _ _ from ?_);dsimp only;have fin:∀(first:KM)(n:UV)(d:_),(∀b o,s.heap.get? b=Y o->n.get? b=Y o)->Ready prog w s.heap.objs.size a l n.objs.size { s with heap:=n.push (Lb first 0 a l.size ep),drawn:=d } →
   On (IR prog w) A.in1 (do
    let e ← setEpoch a
    let v ← newFields "set_iterator" [first,rawInt 0,Value.ref a,rawInt l.size,rawInt e]
    ret v) (λf s'=>∃v,f=.done (.ret v)/\∃T' r,s'.TypeIs v T'/\typeLookup (Value.type T') (Str.ofString "__next__")=pure (Y r)/\Q v s') E { s with heap:=n,drawn:=d }:=λfirst n d kp rd=>by
  refine Zx (wpAny_setEpoch_of (s:={ s with heap:=n,drawn:=d }) (kp _ _ H) rfl T.tb.fit (Zx (Xq (Zl ⟨_,rfl, "set_iterator",_,⟨_,ZY _ M,rfl⟩,lR.lookup,?_⟩))));exact h n.objs.size _ d (λb o e=>Zn _ (kp b o e)) rd (by rw[YT];exact Yp _)
 have Hy:a≠s.heap.objs.size:=Za GZ;cases hb:KL w with
 |true =>
  rw[Zm (by simp)];refine Zx (Zl (fin (rawInt 0) s.heap s.drawn (λb o e=>e) ⟨(pickOrder (w.params.setOrder a ep) l).toList.map (·.2),s.heap.objs.size,(k9 _ _).map _,Zp _,Zp _,_,λP D =>
   i8 (ep:=ep) (t:=t) (λ_=>rawInt 0) (λ_=>True) (by simp) (by simp) Hy (λ_ _ _ _=>trivial) ?step ?stop,⟨Zn _ H,ZY _ M,trivial⟩⟩))
  case step =>
   intro i s1 J N C n h2 _ q;have hl:(pickOrder (w.params.setOrder a ep) l).size=l.size:=by rw[← I0,(k9 _ l).length_eq,I0]
   refine gO D n T.tb.fit h2 (λQ E z=>ue hb n T.tb.fit Q E z) (λx nx e p sb g=>?_) λe=>?_
   ·rw[Xy (by lia)]at e;cases e;exact q _ p (by rw[ZV,ZC,Xy (by lia)];rfl) sb g
   ·rw[Xy (by lia)]at e;cases e
  case stop =>
   intro s1 J N n h2 _ q;have hl:(pickOrder (w.params.setOrder a ep) l).size=l.size:=by rw[← I0,(k9 _ l).length_eq,I0]
   refine gO D n T.tb.fit h2 (λQ E z=>ue hb n T.tb.fit Q E z) (λx nx e p sb g=>?_) λe=>q;rw[X3 (by exact XQ hl)]at e;cases e
 |false =>
  by_cases n:l.size > 1
  ·rw[Zo (by rw[T.tb.pl (by exact Nat.ne_zero_of_lt n)];simp[n])];refine Zx (zQ _ _ _ _ (by simp) λq d z=>Zx (Xq (fin _ _ d (λb o e=>Zn _ e) ?_) ?_))
   ·have SV:q.length=l.size:=by rw[z.length_eq,ZF]
    have SU:∀j∈q,j<l.size:=λj hj=>Yc.mp (z.mem_iff.mp hj);refine⟨q.map λj=>((l[j]?).map (·.2)).getD .none,s.heap.objs.size,?_,by rw[YT];exact Xj _,Zp _,_,λP D =>
     i8 (ep:=ep) (t:=t) (λ_=>.ref s.heap.objs.size) (λh=>h.get? s.heap.objs.size=Y { cls:=.type "tuple",data:=.seq (q.map λ(k:Nat)=>rawInt k).toArray }) (by simp) (by simp)
      (by rw[YT];exact Za (Yo GZ)) (λx y e k=>k _ (by simp) (by rw[YT];exact Za (Yp _)) _ e) ?step ?stop,⟨Zn _ (Zn _ H),ZY _ M,Zn _ (ZY _ M)⟩⟩
    case step =>
     intro i s1 J N C u G R q1;refine nW D u T.tb.fit G R M (λj x e1 e2 p sb g=>q1 _ p ?_ sb g) (λj e=>SU j (Yb e)) λe=>?_
     ·rw[ZV,e1];simp[e2]
     ·rw[Zq (by lia)]at e;cases e
    case stop =>
     intro s1 J N u G R q1;refine nW D u T.tb.fit G R M (λj x e1 e2 p sb g=>?_) (λj e=>SU j (Yb e)) λe=>q1;rw[JH (by exact XQ SV)]at e1;cases e1
    refine(z.map _).trans (List.Perm.of_eq ?_);apply X0;intro i;rw[ZV,ZV];by_cases C:i<l.size
    ·rw[List.getElem?_range C,ZC,Xy C];simp[C]
    ·rw[JH (by rw[ZF];exact ZJ C),ZC,X3 (by exact ZJ C)];rfl
   ·show _<=KB;have SV:q.length=l.size:=by rw[z.length_eq,ZF]
    have:=Wv T.Ho;simp;lia
  ·rw[Zm (by simp[n])];have JQ:t.led=L:=by rw[T.tb.led,hb];rfl
   have N9:t.place.size=l.size:=by
    have:=T.tb.fit;unfold SetTable.fits at this;simp at this;exact this.1
   have Rq:∀(i S:Nat)(s1:GM),s1.heap.get? a=Y (oo l ep t)->∀(P:Re)(Q:Option (KM×Nat)->GM->Prop)(E:Yt),Q (match l[SetTable.below t.place S]?,t.place[SetTable.below t.place S]? with | some (_,x),some j=>some (x,j+1) | _,_=>none) s1 →
     On (IR prog w) P (setNext a S i ep) Q E s1:=λi S s1 g P Q E z=>yQ hb g T.tb.fit JQ (by exact ZJ n) Q E z
   by_cases h0:l.size=0
   ·have he:l=#[]:=Array.eq_empty_of_size_eq_zero h0;refine Zx (Zl (fin (rawInt 0) s.heap s.drawn (λb o e=>e) ⟨[],s.heap.objs.size,by rw[he];exact YJ _,Zp _,Zp _,_,λP D =>
     i8 (ep:=ep) (t:=t) (λ_=>rawInt 0) (λ_=>True) (by simp) (by simp) Hy (λ_ _ _ _=>trivial) ?step ?stop,⟨Zn _ H,ZY _ M,trivial⟩⟩))
    case step=>exact λi s1 J N C=>absurd C (by lia)
    case stop =>
     intro s1 J N u G _ q;refine gO D u T.tb.fit G (Rq l.size 0 s1 u _) (λx nx e p sb g=>?_) λe=>q;rw[X3 (by lia)]at e;cases e
   ·have Z:l.size=1:=by lia
    obtain⟨x0,Ni⟩:∃x,l=#[x]:=zy Z;obtain⟨U,X⟩:∃j,t.place=#[j]:=zy (by exact Eq.trans N9 Z);have b0:SetTable.below t.place 0=0:=by rw[X];simp[SetTable.below,SetTable.below.go]
    have b1:SetTable.below t.place (U+1)=1:=by rw[X];simp[SetTable.below,SetTable.below.go]
    refine Zx (Zl (fin (rawInt 0) s.heap s.drawn (λb o e=>e) ⟨[x0.2],s.heap.objs.size,by rw[Ni];exact YJ _,Zp _,Zp _,_,λP D =>
     i8 (ep:=ep) (t:=t) (λi=>.int ((if i=0 then 0 else U+1:Nat):Int) 0) (λ_=>True) (by simp) (by simp) Hy (λ_ _ _ _=>trivial) ?step ?stop,⟨Zn _ H,ZY _ M,trivial⟩⟩))
    case step =>
     intro i s1 J N C u G _ q;have Z7:i=0:=by lia
     subst Z7;refine gO D u T.tb.fit G (Rq 0 0 s1 u _) (λx nx e p sb g=>?_) λe=>?_
     ·rw[b0,Ni,X]at e;cases e;exact q x0.2 p M sb g
     ·rw[b0,Ni,X]at e;cases e
    case stop =>
     intro s1 J N u G _ q;rw[Z]at G;have R:s1.heap.get? s.heap.objs.size=Y (Lb (.int ((U+1:Nat):Int) 0) 1 a l.size ep):=by rw[Z];exact G
     refine gO D u T.tb.fit R (Rq 1 (U+1) s1 u _) (λx nx e p sb g=>?_) λe=>q;rw[b1,X3 (by exact ZJ n)]at e;cases e
def yD{a:KF}{Q:Bool->GM->Prop}(d:s.TypeIs (.ref a) "set")(h:Q B s):On (IR prog w) A (Builtin.List.listLengthHint (.ref a)) Q E s:=by
 unfold Builtin.List.listLengthHint;refine Zx (wpAny_specialOf d PySem.F.slot_set_len.lookup ?_);generalize f:("set.__len__" : String)=nm
 wp_delta
 rw[show splitId nm=Y ("set", "__len__") from by subst f;decide +kernel];subst f;exact Zx (wpAny_isInstance (T := "set") (b:=L) d sub_set_self (wpAny_ite_split (λe=>absurd e (by decide)) λ_=>wpAny_ite_split (λ_=>Zx (wpAny_typeOf d (Zl h))) λe=>absurd (by decide +kernel) e))
def BF{a:KF}{ss:List Str}{l:Array (Int×KM)}{J:Nat}{t:SetTable}{R:Vy->GM->Prop}(hh:A.handled=O)(T:Ts w s.heap a ss l J t)(h:∀(X:UV) d (tk:Nat) (z:Vy),(∀b o,s.heap.get? b=Y o->X.get? b=Y o)->(∀v∈z,∃x u,v=Value.str x u)->(z.map strOf).Perm ss->R z { s with heap:=X,drawn:=d,toks:=tk }) :
  On (IR prog w) A (collect (.ref a)) R E s:=by
 have S:s.heap.get? a=Y (oo l J t):=T.at_;have GZ:=ZS S;have hz:=Wv T.Ho;unfold collect;refine Zx (wpAny_runValue (Y5 entry_proto_collect' ?_));rw[YI PySem.F.plain_proto_collect];refine Zx (m:=newList []) (Xq (Zl ⟨XD PySem.F.plain_list_iadd _,Y5 entry_list_iadd' ?_⟩));rw[YI PySem.F.plain_list_iadd];refine(show On _ A.in1 (Builtin.List.listExtendWith (.ref s.heap.objs.size) (.ref a) (.ref s.heap.objs.size)) _ _ _ from ?_);have L0:(s.heap.push { cls:=.type "list",data:=.seq ([]:Vy).toArray }).get? s.heap.objs.size=Y { cls:=.type "list",data:=.seq #[] }:=ZY _ M;have N:Ts w (s.heap.push { cls:=.type "list",data:=.seq ([]:Vy).toArray }) a ss l J t:=⟨Zn _ S,T.tb,T.Li,T.pm,T.nd,T.Ho⟩
 unfold Builtin.List.listExtendWith;have ty:Shared.TypeIs { s with heap:=s.heap.push { cls:=.type "list",data:=.seq ([]:Vy).toArray } } (.ref a) "set" := ⟨_,N.at_,rfl⟩
 refine Zx (wpAny_typeOf (T := "set") ty ?_);rw[Zm (by
  have:Builtin.List.listSameRef (.ref s.heap.objs.size) (.ref a)=B:=by simp[Builtin.List.listSameRef];exact XB GZ
  rw[this];decide)]
 refine Zx (zx N λI D d kp rd hI=>?_);obtain⟨ord,p,P,C,Ld,St,W,st⟩:=rd;have Uo:Shared.TypeIs { s with heap:=D,drawn:=d } (.ref a) "set" := ⟨_,kp _ _ N.at_,rfl⟩
 refine Zx (YN (yD Uo ?_));have Tq:s.heap.objs.size<I:=ZP (by rw[YT];exact Yp _) C;have N9:s.heap.objs.size<p:=ZP (by rw[YT];exact Yp _) Ld;have off:s.heap.objs.size∉[I,a,p]:=by
  simp only[Zh,Xo,or_false,not_or];exact⟨Za Tq,XB GZ,Za N9⟩
 have W1:=W A.in1 hh;have loop:∀(f:UV)(c:Nat),(∀b o,b≠s.heap.objs.size->D.get? b=Y o->f.get? b=Y o)->f.get? s.heap.objs.size=Y { cls:=.type "list",data:=.seq #[] c } →
   codeAny (IR prog w) A (.builtin "list.extend.loop" ⟨[.ref s.heap.objs.size,.ref I,.ref s.heap.objs.size],[]⟩) (λr g=>∃acc y,r=.ok (.ret (.ref s.heap.objs.size))/\g.heap.get? s.heap.objs.size=Y { cls:=.type "list",data:=.seq acc y }/\R acc.toList g) { s with heap:=f,drawn:=d }:=λf c n j=>by
  refine codeAny_extend_loopS W1 hz s.heap.objs.size off _ l.size 0 _ #[] c M (ZG _) (W1.frame 0 _ f s.toks st (Zp _) λb hb o e=>n b o (λq=>off (q ▸ hb)) e) j (ItemsOf.nil _) λg acc y mv H U=>⟨acc,y,rfl,H,?_⟩
  obtain⟨h3,G,d3,Ur,UN⟩:=g;have e1:G=s.gens:=mv.gens;have e2:d3=d:=mv.drawn;have e3:UN=s.os:=mv.os;subst e1 e2 e3;have OF:acc.toList=ord:=by
   apply X0;intro i;rw[ZC];cases e:acc[i]? with
   |some v=>exact(U.2 i v e).symm
   |none =>
    have h4:acc.size<=i:=Array.getElem?_eq_none_iff.mp e;have h5:ord.length=l.size:=by rw[P.length_eq];simp
    exact(JH (by rw[h5,← U.1];exact h4)).symm
  refine h h3 d3 Ur acc.toList (λb o e=>?_) (λv Q=>?_) ?_
  ·have hb:=ZS e;refine mv.heap b o (λHH=>?_) (n b o (Za hb) (kp b o (Zn _ e)));simp only[Zh,Xo,or_false]at HH;rcases HH with q | q
   ·exact Za hb q
   ·exact Za (WU hb Tq) q
  ·rw[OF]at Q;obtain⟨e,he,rfl⟩:=Hq.mp (P.mem_iff.mp Q);obtain⟨x,u,rfl⟩:=T.Li e he;exact⟨x,u,rfl⟩
  ·rw[OF];refine(P.map strOf).trans (List.Perm.trans (List.Perm.of_eq ?_) T.pm);rw[Yq];rfl
 have Z:=kp _ _ L0;have end_:∀(f:UV)(c:Nat),(∀b o,b≠s.heap.objs.size->D.get? b=Y o->f.get? b=Y o)->f.get? s.heap.objs.size=Y { cls:=.type "list",data:=.seq #[] c }->_:=λf c n j =>
  Wu (loop f c n j) (R':=λr g=>match r with | .ok (.ret v)=>On (IR prog w) A (match v with | .ref a=>load a >>= λo=>(match o.data with | .seq xs _=>pure xs.toList | _=>unsupported "internal:collect") | _=>unsupported "internal:collect") R E g | .ok _=>False | .error e=>E e g) λr g hq=>by
   obtain⟨acc,y,e,H,q⟩:=hq;subst e;exact Zx (wpAny_load H (Zl q))
 rw[Zo (by decide)];have j:=Yl (Obj.mapSeq (·.push Value.none)) Z M;have G:=Yl (Obj.mapSeq (·.pop)) j M;refine Zx (W0 (Zx ?_));refine(show On _ _ (updateSeq s.heap.objs.size (·.push .none) >>= λ_=>updateSeq s.heap.objs.size (·.pop)) _ _ _ from ?_);refine Zx (wpAny_updateSeq Z M (wpAny_updateSeq (hz:=by seq_fits) j M (Zl ⟨XD PySem.F.plain_extend_loop _,end_ _ _ (λb o hb e=>?_) G⟩)));exact(YS _ _ (YK hb)).trans ((YS _ _ (YK hb)).trans e)
end ST
end
section
namespace L2
open PySem PySem.Spec PyProof.Rows TS
section
variable{X:Cx}
noncomputable def zZ(w:XAA)(a:KF)(b:List Str):HO:=.ext λ_ h=>∃ss d e t,ST.Ts w h a ss d e t/\∀y,y∈ss↔y∈b
def Inv.drew{a:Yr}{J:St}{H:Hp}{s:GM}(I:Inv X a J H s)(d:Drawn):Inv X a J H { s with drawn:=d } :=
 ⟨I.ok,I.os,I.bare,I.base,I.loc,I.cell,I.free,I.Ha,I.pin,I.Gq,I.len⟩
def vS(z:X.calm=L):di X (.type "set") (λxs H Q=>∃p,∃a:List Str,xs=[.ref p]/\GL X.K H p (a.map V.str)/\a.length+1<scanBound/\∀l,H l=O->Q (.ref l) (upd H l (zZ X.w l a))):=by
 intro f s J H xs S Q I g h;obtain⟨p,a,rfl,o,hb,q⟩:=h;obtain⟨u,rfl,j⟩:=g.one;cases j;obtain⟨m,e,pl,Z⟩:=I.list o;obtain⟨n,C⟩:=qy e;have y:m.length=a.length:=by have:=e.length;simpa using this.symm
 refine ST.yG (I.ok.hd z) pl.isList (xs:=a) (λi v d=>?_) (by simpa using y) hb λA U R P D t T r kp=>?_
 ·rw[List.getElem?_toArray]at d;obtain⟨x,t,rfl⟩:=n v (Yb d);refine⟨x,t,rfl,?_⟩;rw[← C,ZV,d];rfl
 ·refine⟨.ref s.heap.objs.size,_,I.laid kp (Zp _) (show bx X.prog X.w _ A _ (zZ X.w s.heap.objs.size a) from⟨⟨R,P,D,t,T,r⟩,⟨_,T.at_⟩,λh1 h2 ⟨N,M,G,F,b,E⟩ k=>⟨N,M,G,F,⟨k _ b.at_,b.tb,b.Li,b.pm,b.nd,b.Ho⟩,E⟩⟩),rfl,q _ (I.Gq.fresh (Zp _))⟩
def lI(E:X.calm=L):di X (.builtin "sorted") (λi H Q=>∃p,∃ss:List Str,i=[.ref p]/\H p=Y (zZ X.w p ss) ∧
  ∀(l:KF)(e:List Str),H l=O->e.Nodup->(∀y,y∈e↔y∈ss)->e.Pairwise (λa b=>¬b.cps.toList<a.cps.toList)->Q (.ref l) (upd H l (.lst (e.map V.str)))):=by
 intro f s J H i S Q I v h;obtain⟨p,ss,rfl,A,q⟩:=h;obtain⟨u,rfl,x⟩:=v.one;cases x;obtain⟨⟨r,Z,ep,t,T,C⟩,_,_⟩:=I.Gq p _ A;refine tW λA' E' F=>ST.BF (F.trans (I.ok.hd E)) T λP d o n kp z g=>?_;have R:Inv X f J H { s with heap:=P,drawn:=d,toks:=o }:=(I.kept kp).drew d;refine AC (s:=s) (ss:=n.map strOf) R z M ?_ λl e D j m=>q l e D (((j.trans g).nodup_iff).mpr T.nd) (λy=>((j.trans g).mem_iff).trans (C y)) m;have U:=Wv T.Ho;have N:=g.length_eq;have G:=T.pm.length_eq;simp[ST.nm]at N G;lia
end
end L2
namespace VS
open PySem PySem.Spec PyProof.Rows L2
section
variable{G:Gx}{X:Cx}{a b c e tg:Expr}{es:List Expr}{ca cb cc ce:Ex}{cs:GY}{pos p p1 p2 apos jj pos':Pos}{k k':Nat}
theorem gI:∀(l:List Tx)(x:Tx),x∈dedup l↔x∈l
 |[],x=>by simp[dedup]
 |a :: l,x=>by
  simp only[dedup,Zh,YO,gI l x,ne_eq,decide_not,Bool.not_eq_eq_eq_not,Bool.not_true,decide_eq_false_iff_not];by_cases h:x=a
  ·simp[h]
  ·simp[h]
theorem iW:∀(l:List Tx),(dedup l).Nodup
 |[]=>by simp[dedup]
 |a :: l=>by
  simp only[dedup,ZZ];exact⟨by simp,(iW l).filter _⟩
noncomputable def nS:Va->V0
 |[(_,.lst l)]=>(strs? l).bind λd=>if d.length+1<4096 then Y (.fr,.lst ((cK (dedup d)).map .str)) else O
 |_=>O
def C6:bootBuiltins ("set" : Str)=Y (.type "set"):=by decide +kernel
def Fo{a b:Tx}(h:sx a=sx b):a=b:=by
 have:=congrArg (λs:Str=>s.cps.toList) h;simpa[sx] using this
def rg(M:X.mg "sorted" = O)(LA:X.mg "set" = O)(P:Hr G X [e] cs)(N:Gl X "sorted" := by rfl)(Oi:Gl X "set" := by rfl)(R:X.K=G.K:=by rfl)(n:X.calm=L:=by rfl)(he:K1 e [] X:=by rfl)(o:Pi [.Call (.Name "set" p2) [e] [] pos'] X.env=(B,eval (.Call (.Name "set" p2) [e] [] pos') X.env) :: Pi [] X.env:=by rfl) :
  PV G X (.Call (.Name "sorted" p) [.Call (.Name "set" p2) [e] [] pos'] [] pos) (eN nS cs):=by
 refine PE.weak (mW (lI n) N M oy (cX (oI (vS n) Oi LA C6 P (he:=he) (hpl:=rfl)) fI o) (he:=o) (hpl:=rfl)) λJ H Q ⟨Z,U,m,t,s,d,k⟩=>?_;unfold eN at d;obtain⟨l,S,d⟩:=Zz.mp d;refine⟨Z,U,l,s,S,λh f r s1 r1 f1=>?_⟩;have A:Args G Z U H f l h r:=⟨s1,r1,f1⟩
 unfold nS at d;split at d
 ·rename_i mx x;obtain⟨ss,e1,e2⟩:=Zz.mp d;split at e2
  ·rename_i hb;cases e2;obtain⟨v,F,rfl,rfl,u⟩:=(show RpL G f h [.lst x] r from A.rp).one;obtain⟨a,ys,Gs,rfl,rfl,Js,j⟩:=u.lst_inv;refine⟨a,ss.map sx,rfl,?_,by rw[Zt];exact hb,λq E=>⟨q,ss.map sx,rfl,aw,λC GP HR QX Ra VQ=>?_⟩⟩
   ·rw[Yq,R];have:=lX j e1;rw[show (V.str ∘ sx)=λs=>V.str (sx s) from rfl,← this];exact GL.of Js
   ·have i:aK f (upd f q (zZ X.w q (ss.map sx))):=aU E;refine rh (G:=G) (Z:=Z) (U:=U) (H0:=H) (ss:=dedup ss) (λv H' F e2 r2 f2=>k v H' F ((A.same.trans i).trans e2) r2 f2) (A.same.trans i) (λs D=>u4 j e1 s ((gI ss s).mp D)) C GP HR ?_ VQ;have Mq:((dedup ss).map sx).Nodup:=(iW ss).map _ λa b Nm e=>Nm (Fo e);refine(List.perm_ext_iff_of_nodup QX Mq).mpr λy=>?_;rw[Ra y,Hq,Hq];exact⟨λ⟨z,g,e⟩=>⟨z,(gI ss z).mpr g,e⟩,λ⟨z,g,e⟩=>⟨z,(gI ss z).mp g,e⟩⟩
  ·cases e2
 ·cases d
end
inductive HD(G:Gx)(H:Hp):List Ky->V->V->Prop
 |nil (v:V):HD G H [] v v
 |fld {c k:Nat} {a dx:KF} {fs:List (Str×V)} {u w:V} {ks:List Ky}:H a=some (.ins (G.ct (c+1)).1 dx fs)->fs.lookup ((G.ct (c+1)).2 k)=some u->HD G H ks u w->HD G H (.fld k :: ks) (.ref a) w
 |ix {a:KF} {vs:List V} {i:Int} {j:Nat} {u w:V} {ks:List Ky}:H a=some (.lst vs)->Hf vs.length i=some j->vs[j]?=some u->HD G H ks u w->HD G H (.at (.int i) :: ks) (.ref a) w
 |key {a:KF} {gV:List (Key×V)} {k:Key} {u w:V} {ks:List Ky}:H a=some (.dK gV)->fP gV k=some u->HD G H ks u w->HD G H (.at (aO k) :: ks) (.ref a) w
 |un {v w:V} {ks:List Ky}:HD G H ks v w->HD G H (.un :: ks) v w
section
variable{G:Gx}
def qk{f:X8}{i j:Nat}{F h:Wf}(d:f.flatten.Nodup)(b:f[i]?=Y F)(e:f[j]?=Y h)(n:i≠j){a:KF}(g:a∈F):a∉h:=by
 intro hb
 induction f generalizing i j with
 |nil=>simp at b
 |cons G Gs l =>
  rw[ZE,ZM]at d;cases i with
  |zero =>
   simp at b;subst b;cases j with
   |zero=>exact n M
   |succ j=>exact d.2.2 a g a (c8 (by simpa using e) hb) M
  |succ i =>
   cases j with
   |zero =>
    simp at e;subst e;exact d.2.2 a hb a (c8 (by simpa using b) g) M
   |succ j=>exact l d.2.1 (by simpa using b) (by simpa using e) (by lia)
def cz{d:X8}{j:Nat}{g:Wf}{a:KF}(h:a∈(d.set j g).flatten):a∈g\/∃i F,i≠j/\d[i]?=Y F/\a∈F:=by
 obtain⟨i,F,b,f⟩:=fJ h;by_cases e:i=j
 ·subst e;rw[List.getElem?_set_self' ]at b;cases q:d[i]? with
  |none=>rw[q]at b;cases b
  |some _=>rw[q]at b;cases b;exact .inl f
 ·rw[Ya (YK e)]at b;exact .inr ⟨i,F,e,b,f⟩
theorem dC:∀{p:X8}{j:Nat}{f:Wf},p.flatten.Nodup->f.Nodup->(∀i F,i≠j->p[i]?=Y F->∀a∈F,a∉f)->(p.set j f).flatten.Nodup
 |[],_,_,h,_,_=>by simpa using h
 |G :: Gs,0,f,h,o,d=>by
  rw[ZE,ZM]at h;rw[List.set_cons_zero,ZE,ZM];refine⟨o,h.2.1,λa g b hb e=>?_⟩;subst e;obtain⟨i,F,m,l⟩:=fJ hb;exact d (i+1) F (by lia) (by simpa using m) a l g
 |G :: Gs,j+1,f,h,o,d=>by
  rw[ZE,ZM]at h;rw[List.set_cons_succ,ZE,ZM];refine⟨h.1,dC h.2.1 o λi F n q=>d (i+1) F (by lia) (by simpa using q),λa g b hb e=>?_⟩;subst e;rcases cz hb with z | ⟨i,F,n,m,l⟩
  ·exact d 0 G (by lia) M a g z
  ·exact h.2.2 a g a (c8 m l) M
theorem RpL.each{H h:Hp}:∀{e:List V}{f:V1}{g:X8},RpL G H e f g->(∀(i:Nat) v t F,e[i]?=Y v->f[i]?=Y t->g[i]?=Y F->Rp G H v t F->Rp G h v t F)->RpL G h e f g
 |_,_,_,.nil,_=>.nil
 |_,_,_,.cons r q,k=>.cons (k 0 _ _ _ M M M r) (RpL.each q λi v t F a b c d=>k (i+1) v t F (by simpa using a) (by simpa using b) (by simpa using c) d)
theorem RpL.setAt{H l:Hp}:∀{e:List V}{f:V1}{m:X8}{j:Nat}{u:V}{o:T}{p:Wf},RpL G H e f m->e[j]?=Y u->Rp G l u o p->(∀(i:Nat) v t F,i≠j->e[i]?=Y v->f[i]?=Y t->m[i]?=Y F->Rp G H v t F->Rp G l v t F)->RpL G l e (f.set j o) (m.set j p)
 |_,_,_,_,_,_,_,.nil,h,_,_=>by simp at h
 |_,_,_,0,_,_,_,.cons r q,h,g,k=>by
  simp at h;subst h;exact .cons g (RpL.each q λi v t F a b c d=>k (i+1) v t F (by lia) (by simpa using a) (by simpa using b) (by simpa using c) d)
 |_,_,_,j+1,_,_,_,.cons r q,h,g,k=>.cons (k 0 _ _ _ (by lia) M M M r) (RpL.setAt q (by simpa using h) g λi v t F n a b c d=>k (i+1) v t F (by lia) (by simpa using a) (by simpa using b) (by simpa using c) d)
def qh{H q:Hp}{a:KF}{o:HO}{s:List V}{J:V1}{d:X8}{j:Nat}{u:V}{E:T}{D f:Wf}(P:H a=Y o)(M:RpL G H s J d)(e:(a :: d.flatten).Nodup)(Q:s[j]?=Y u)(A:d[j]?=Y D)(g:Chg G H u D E q f):q a=Y o/\RpL G q s (J.set j E) (d.set j f)/\(a :: (d.set j f).flatten).Nodup/\(∀b∈a :: (d.set j f).flatten,b∈a :: d.flatten\/H b=O)/\∀b o,b∉a :: d.flatten->H b=Y o->q b=Y o:=by
 rw[ZZ]at e;have p:∀b∈D,b∈d.flatten:=λb hb=>c8 A hb;have C:∀i F,i≠j->d[i]?=Y F->∀b∈F,b∉f:=λi F n N b hb y=>by
  rcases g.sub b y with z | z
  ·exact qk e.2 N A n hb z
  ·exact Gw.oe (M.GG b (c8 N hb)) z
 refine⟨g.keep a o (λz=>e.1 (p a z)) P,M.setAt Q g.rp (λi v t F n m l R r=>r.keep g.kept λb hb w x=>g.keep b w (qk e.2 R A n hb) x),?_,λb hb=>?_,λb w hb x=>g.keep b w (λz=>hb (Zv _ (p b z))) x⟩
 ·rw[ZZ];refine⟨λh=>?_,dC e.2 g.nd C⟩;rcases cz h with z | ⟨i,F,n,m,l⟩
  ·rcases g.sub a z with z | z
   ·exact e.1 (p a z)
   ·rw[P]at z;cases z
  ·exact e.1 (c8 m l)
 ·rcases Zh.mp hb with rfl | hb
  ·exact .inl Zu
  ·rcases cz hb with z | ⟨i,F,n,m,l⟩
   ·rcases g.sub b z with z | z
    ·exact .inl (Zv _ (p b z))
    ·exact .inr z
   ·exact .inl (Zv _ (c8 m l))
theorem o5{α β:Type}:∀(d:List α)(bs:List β)(i:Nat)(a:α)(y:β),d[i]?=Y a->(d.zip bs).set i (a,y)=d.zip (bs.set i y)
 |[],_,_,_,_,h=>by simp at h
 |a :: d,[],i,_,_,_=>by cases i<;>simp
 |a :: d,b :: bs,0,_,y,h=>by simp at h;subst h;rfl
 |a :: d,b :: bs,i+1,_,y,h=>by
  have:=o5 d bs i _ y (by simpa using h);simp[this]
theorem j9{α β:Type}(p:α->Bool):∀{e:List α}{bs:List β}{i:Nat},e.length=bs.length->(e.zip bs).findIdx? (λq=>p q.1)=Y i->∃a b,e[i]?=Y a/\bs[i]?=Y b/\p a=L/\(e.zip bs).find? (λq=>p q.1)=Y (a,b)
 |[],[],_,_,h=>by simp at h
 |a :: e,b :: bs,i,f,h=>by
  rw[ZO,Vu]at h;by_cases d:p a=L
  ·rw[Zo d]at h;cases h;exact⟨a,b,rfl,rfl,d,by simp[d]⟩
  ·rw[Zm d]at h;obtain⟨j,g,rfl⟩:=Zy.mp h;obtain⟨s,r,o,n,m,l⟩:=j9 p (by simpa using f) g;exact⟨s,r,by simpa using o,by simpa using n,m,by simp[d,l]⟩
def jY(k a:Key):eqT (aO a) (aO k)=L↔a=k:=by
 cases k with
 |inl i=>cases a<;>simp[aO]
 |inr x =>
  obtain⟨⟨x⟩⟩:=x;cases a with
  |inl j=>simp[aO]
  |inr y=>obtain⟨⟨y⟩⟩:=y;simp[aO]
theorem um{k:Key}{u:V}:∀{ns:List Key}{d:V1}{a:List V}{i:Nat},ns.length=d.length->ns.length=a.length->((ns.map aO).zip d).findIdx? (λq=>eqT q.1 (aO k))=Y i->a[i]?=Y u->fP (ns.zip a) k=Y u
 |[],_,_,_,_,_,h,_=>by simp at h
 |n :: ns,t :: d,v :: a,i,m,l,h,e=>by
  rw[Ze,ZO,Vu]at h;by_cases b:eqT (aO n) (aO k)=L
  ·rw[Zo b]at h;cases h;simp at e;subst e;exact iI ((jY k n).mp b)
  ·rw[Zm b]at h;obtain⟨j,g,rfl⟩:=Zy.mp h;have f:n≠k:=λz=>b ((jY k n).mpr z);have:fP ((n :: ns).zip (v :: a)) k=fP (ns.zip a) k:=by simp[fP,f]
   rw[this];exact um (by simpa using m) (by simpa using l) g (by simpa using e)
 |_ :: _,[],_,_,h,_,_,_=>by simp at h
 |_ :: _,_ :: _,[],_,_,h,_,_=>by simp at h
def gg{H:Hp}{v:V}{c:Nat}{e:Nat×T}{g:List (Nat×T)}{F:Wf}(r:Rp G H v (.obj (c+1) (e :: g)) F):∃(i:Nat)(a p:KF)(b:Bool)(f:Vt)(d:List V)(j:V1)(o:X8),c+1=i+1/\v=.ref a/\e=(0,.bl b)/\g=f.zip j/\F=a :: o.flatten ∧
  H a=Y (.ins (G.ct (i+1)).1 p ((f.map (G.ct (i+1)).2).zip d))/\f.length=d.length/\(b=L->G.me 0=Y (.ref a))/\RpL G H d j o:=by
 generalize n:T.obj (c+1) (e :: g)=z at r;cases r with
 |ins h l m q =>
  cases n;exact⟨_,_,_,_,_,_,_,_,rfl,rfl,rfl,rfl,rfl,h,l,m,q⟩
 |_=>cases n
def mh{H:Hp}{v:V}{m:Nat}{t:T}{F:Wf}(r:Rp G H v (.obj 0 [(0,.bl L),(m,t)]) F):∃a,v=.ref a/\G.me m=Y (.ref a)/\Rp G H (.ref a) t F:=by
 generalize b:T.obj 0 [(0,.bl L),(m,t)]=z at r;cases r with
 |mk h q =>
  cases b;exact⟨_,rfl,h,q⟩
 |_=>cases b
def qP{c a:Nat}(h:∀c k m:Nat,(G.ct c).2 k=(G.ct c).2 m->k=m){e:Vt}{d:List V}{f:V1}{u:V}{i:Nat}(n:e.length=d.length)(b:(e.zip f).findIdx? (λq=>q.1==a)=Y i)(o:e[i]?=Y a)(g:d[i]?=Y u):((e.map (G.ct c).2).zip d).lookup ((G.ct c).2 a)=Y u:=by
 induction e generalizing d f i with
 |nil=>simp at o
 |cons l v p =>
  cases d with
  |nil=>simp at n
  |cons t bs =>
   cases f with
   |nil=>simp at b
   |cons s f =>
    rw[Ze,ZO,YW];rw[ZO,Vu]at b;by_cases q:(l==a)=L
    ·rw[Zo q]at b;cases b;have:l=a:=by simpa using q
     subst this;simp at g;simp[g]
    ·rw[Zm q]at b;obtain⟨j,r,rfl⟩:=Zy.mp b;have:((G.ct c).2 a==(G.ct c).2 l)=B:=by
      rw[IJ];intro z;exact q (by simpa using(h c _ _ z).symm)
     rw[this];exact p (by simpa using n) r (by simpa using o) (by simpa using g)
def Ff{α:Type}{f:T->Option (T×α)}{d:List Ky}{t a:T}{y:α}(e:pm f (.un :: d) t=Y (a,y)):∃m x z,t=.obj 0 [(0,.bl L),(m,x)]/\pm f d x=Y (z,y)/\a=.obj 0 [(0,.bl L),(m,z)]:=by
 cases t with
 |obj c fs =>
  cases c with
  |succ c=>cases e
  |zero =>
   cases fs with
   |nil=>cases e
   |cons q fs =>
    obtain⟨n,v⟩:=q;cases n with
    |succ n=>cases e
    |zero =>
     cases v with
     |bl b =>
      cases b with
      |false=>cases e
      |true =>
       cases fs with
       |nil=>cases e
       |cons g fs =>
        obtain⟨m,x⟩:=g;cases fs with
        |cons _ _=>cases e
        |nil =>
         obtain⟨⟨z,h⟩,e1,e2⟩:=Zy.mp e;cases e2;exact⟨_,_,_,rfl,e1,rfl⟩
     |_=>cases e
 |_=>cases e
def nB{H:Hp}{α:Type}{f:T->Option (T×α)}:∀(ks:List Ky){v:V}{t t':T}{F:Wf}{y:α},(∀c k k':Nat,(G.ct c).2 k=(G.ct c).2 k'->k=k')->Rp G H v t F->F.Nodup->pm f ks t=Y (t',y) →
  ∃w x A C,HD G H ks v w/\Rp G H w x A/\A.Nodup/\f x=Y (C,y)/\∀q o,Chg G H w A C q o->∃F',Chg G H v F t' q F':=by
 intro ks
 induction ks with
 |nil=>intro v t t' F y _ r nd e;exact⟨v,t,F,t',.nil v,r,nd,e,λq o g=>⟨o,g⟩⟩
 |cons ky ks ih =>
 intro v t t' F y inj r nd e;cases ky with
 |fld k =>
  cases t with
  |obj c fs0 =>
   cases c with
   |zero=>cases e
   |succ c =>
   cases fs0 with
   |nil=>cases e
   |cons q0 fs =>
   obtain⟨i,h1,e⟩:=Zz.mp e;obtain⟨p,h2,e⟩:=Zz.mp e;obtain⟨⟨z,y'⟩,e1,e2⟩:=Zy.mp e;cases e2;obtain⟨c',a,dx,b,ns,vs,X,Fs,ec,rfl,rfl,rfl,rfl,N,Z,hb,d⟩:=gg r;cases ec;have Kr:ns.length=X.length:=Z.trans d.len.1;obtain⟨M,D,g1,g2,g3,g4⟩:=j9 (λn=>n==k) Kr h1;have ek:M=k:=by simpa using g3
   subst ek;have ep:p=(M,D):=by
    have:(ns.zip X)[i]?=Y (M,D):=by rw[Xz];exact⟨g1,g2⟩
    rw[this]at h2;exact(Zj h2).symm
   subst ep;obtain⟨u,Fi,J,E,u3⟩:=d.get i g2;obtain⟨w,x,A,C,U,S,R,Q,P⟩:=ih inj u3 (((ZZ.mp nd).2).sublist (bZ E)) e1;refine⟨w,x,A,C,.fld (c:=c) N (qP inj Z h1 g1 J) U,S,R,Q,λq o g=>?_⟩;obtain⟨T9,h⟩:=P q o g;obtain⟨s1,s2,s3,s4,s5⟩:=qh N d nd J E h;refine⟨_,h.kept,s5,h.GG,?_,s3,s4⟩;rw[o5 ns X i M z g1];exact .ins s1 Z hb s2
  |_=>cases e
 |un =>
  obtain⟨m,x,z,rfl,e1,rfl⟩:=Ff e;obtain⟨a,rfl,hm,rx⟩:=mh r;obtain⟨w,D,A,C,U,S,R,Q,P⟩:=ih inj rx nd e1;refine⟨w,D,A,C,.un U,S,R,Q,λq o g=>?_⟩;obtain⟨F',g'⟩:=P q o g;exact⟨F',g'.kept,g'.keep,g'.GG,.mk hm g'.rp,g'.nd,g'.sub⟩
 | «at» k =>
  cases t with
  |lst l =>
   cases k with
   |int i =>
    obtain⟨j,h1,e⟩:=Zz.mp e;obtain⟨D,h2,e⟩:=Zz.mp e;obtain⟨⟨z,y'⟩,e1,e2⟩:=Zy.mp e;cases e2;obtain⟨a,vs,Fs,rfl,rfl,N,d⟩:=r.lst_inv;obtain⟨u,Fi,J,E,u3⟩:=d.get j h2;obtain⟨w,x,A,C,U,S,R,Q,P⟩:=ih inj u3 (((ZZ.mp nd).2).sublist (bZ E)) e1;refine⟨w,x,A,C,.ix N (by rw[d.len.1];exact h1) J U,S,R,Q,λq o g=>?_⟩;obtain⟨T9,h⟩:=P q o g;obtain⟨s1,s2,s3,s4,s5⟩:=qh N d nd J E h;exact⟨_,h.kept,s5,h.GG,.lst s1 s2,s3,s4⟩
   |_=>cases e
  |dct kd l =>
   cases kd with
   |zero =>
    have hk:iz k=L/\((l.findIdx? λp=>eqT p.1 k).bind λi=>(l[i]?).bind λp=>(pm f ks p.2).map λz=>(T.dct 0 (l.set i (p.1,z.1)),z.2))=Y (t',y):=by
     cases k with
     |int i=>exact⟨rfl,e⟩
     |str s=>exact⟨rfl,e⟩
     |_=>cases e
    obtain⟨hk,e⟩:=hk;obtain⟨i,h1,e⟩:=Zz.mp e;obtain⟨p,h2,e⟩:=Zz.mp e;obtain⟨⟨z,y'⟩,e1,e2⟩:=Zy.mp e;cases e2;obtain⟨a,ns,vs,X,Fs,rfl,rfl,N,Z,rfl,d⟩:=d5 r;have Kr:(ns.map aO).length=X.length:=by rw[Zt];exact Z.trans d.len.1
    obtain⟨M,D,g1,g2,g3,g4⟩:=j9 (λn=>eqT n k) Kr h1;have ep:p=(M,D):=by
     have:((ns.map aO).zip X)[i]?=Y (M,D):=by rw[Xz];exact⟨g1,g2⟩
     rw[this]at h2;exact(Zj h2).symm
    subst ep;obtain⟨kk,LF⟩:∃kk:Key,k=aO kk:=by
     cases k with
     |int i=>exact⟨.inl i,rfl⟩
     |str s=>exact⟨.inr (sx s),by simp[aO,sx]⟩
     |_=>cases hk
    subst LF;obtain⟨u,Fi,J,E,u3⟩:=d.get i g2;obtain⟨w,x,A,C,U,S,R,Q,P⟩:=ih inj u3 (((ZZ.mp nd).2).sublist (bZ E)) e1;refine⟨w,x,A,C,.key N ?_ U,S,R,Q,λq o g=>?_⟩
    ·exact um (by simpa using Kr) Z h1 J
    ·obtain⟨T9,h⟩:=P q o g;obtain⟨s1,s2,s3,s4,s5⟩:=qh N d nd J E h;refine⟨_,h.kept,s5,h.GG,?_,s3,s4⟩;rw[o5 (ns.map aO) X i M z g1];exact .dct s1 Z s2
   |succ kd=>cases e
  |_=>cases e
end
section
variable{G:Gx}
def HD.same{H d:Hp}(e:aK H d){b:List Ky}{v w:V}(p:HD G H b v w):HD G d b v w:=by
 induction p with
 |nil v=>exact .nil v
 |fld h l _ a=>exact .fld (e _ _ h) l a
 |ix h l m _ a=>exact .ix (e _ _ h) l m a
 |key h l _ a=>exact .key (e _ _ h) l a
 |un _ a=>exact .un a
theorem HD.split{H:Hp}{k:Ky}{w:V}:∀{ks:List Ky}{v:V},HD G H (ks++[k]) v w->∃u,HD G H ks v u/\HD G H [k] u w
 |[],v,p=>⟨v,.nil v,p⟩
 |_ :: ks,_,.fld h l p=>let ⟨u,a,b⟩:=HD.split (ks:=ks) p;⟨u,.fld h l a,b⟩
 |_ :: ks,_,.ix h l m p=>let ⟨u,a,b⟩:=HD.split (ks:=ks) p;⟨u,.ix h l m a,b⟩
 |_ :: ks,_,.key h l p=>let ⟨u,a,b⟩:=HD.split (ks:=ks) p;⟨u,.key h l a,b⟩
 |_ :: ks,_,.un p=>let ⟨u,a,b⟩:=HD.split (ks:=ks) p;⟨u,.un a,b⟩
theorem ft{U:VS.Env}{s:Ja}:∀{way:List Ja}{f:List Ky},keys (way++[s]) U=Y f->∃g k,keys way U=Y g/\keys [s] U=Y [k]/\f=g++[k]
 |[],f,e=>by
  cases s with
  |fld k=>cases e;exact⟨[],.fld k,rfl,rfl,rfl⟩
  |un=>cases e;exact⟨[],.un,rfl,rfl,rfl⟩
  |ix c =>
   obtain⟨x,j,i⟩:=Zz.mp (show (c U).bind (λx=>(keys [] U).map (Ky.at x.2 :: ·))=Y f from e);cases i;exact⟨[],.at x.2,rfl,by simp[keys,j],rfl⟩
 |.fld k :: way,f,e=>by
  obtain⟨m,j,i⟩:=Zy.mp (show (keys (way++[s]) U).map (Ky.fld k :: ·)=Y f from e);obtain⟨g,l,a,b,c⟩:=ft j;exact⟨.fld k :: g,l,by simp[keys,a],b,by rw[← i,c];rfl⟩
 |.un :: way,f,e=>by
  obtain⟨m,j,i⟩:=Zy.mp (show (keys (way++[s]) U).map (Ky.un :: ·)=Y f from e);obtain⟨g,l,a,b,c⟩:=ft j;exact⟨.un :: g,l,by simp[keys,a],b,by rw[← i,c];rfl⟩
 |.ix c :: way,f,e=>by
  obtain⟨x,n,h⟩:=Zz.mp (show (c U).bind (λx=>(keys (way++[s]) U).map (Ky.at x.2 :: ·))=Y f from e);obtain⟨m,j,i⟩:=Zy.mp h;obtain⟨g,l,a,b,d⟩:=ft j;exact⟨.at x.2 :: g,l,by simp[keys,n,a],b,by rw[← i,d];rfl⟩
noncomputable def O9(G:Gx)(i:Nat)(a:List Ja):TE:=λJ H Q=>∃Z U t b v w,SR G Z U J H/\U[i]?=Y (Y (.ow t))/\J[i]?=Y (Y v)/\keys a U=Y b/\HD G H b v w/\∀d,aK H d->Q w d
noncomputable def Jv(G:Gx)(X:Cx)(e:Expr)(i:Nat)(a:List Ja):Prop:=PE X e (O9 G i a)
def PE.Jx{X:Cx}{e:Expr}{t:TE}{i:Nat}{a:List Ja}(h:PE X e t)(w:∀J H Q,O9 G i a J H Q->t J H Q):Jv G X e i a:=λb s J H Q I q=>h b s J H Q I (w J H Q q)
variable{X:Cx}{e:Expr}{es:List Expr}{i:Nat}{way:List Ja}{pos pos' p1 apos jj:Pos}{c:Ex}{cs:GY}{b:Expr}{k:Nat}
def bX(i:Nat){x:Str}(j:X.N[i]?=Y x:=by exact rfl)(f:Ic X.env.scope x:=by exact .inl M)(h:K3 x:=by exact rfl)(a:K4 x:=by exact rfl):Jv G X (.Name x pos) i [] :=
 PE.Jx (dP j f h a) λJ H Q g=>by
  obtain⟨Z,U,t,d,v,w,s,p,o,n,m,l⟩:=g;cases (show Y ([]:List Ky)=Y d from n);cases m;exact⟨v,o,l H (aK.refl _)⟩
def EY(h:Jv G X e i way):Jv G X e i (way++[.un]) :=
 PE.Jx h λJ H Q g=>by
  obtain⟨Z,U,t,r,v,w,s,o,n,m,l,j⟩:=g;obtain⟨p,f,a,b,rfl⟩:=ft m;cases (show Y [Ky.un]=Y [f] from b);obtain⟨u,p1,d⟩:=l.split;cases d with
  |un q =>
   cases q;exact⟨Z,U,t,p,v,w,s,o,n,a,p1,j⟩
structure HW(G:Gx)(K:Wy)(k:Nat)(f:Str):Prop where
 nm:∀c,(G.ct (c+1)).2 k=f
 cl:∀c,HX K (G.ct (c+1)).1
 no:∀c,cI K (G.ct (c+1)).1 f
def jJ(k:Nat){f:Str}(F:HW G X.K k f)(h:Jv G X e i way)(n:XAB e f X.env (eval e X.env)=eval e X.env:=by exact rfl):Jv G X (.Attribute e f pos) i (way++[.fld k]) :=
 PE.Jx (yh h n) λJ H Q m=>by
  obtain⟨Z,U,t,M,v,w,s,z,y,x,r,p⟩:=m;obtain⟨C,l,a,b,rfl⟩:=ft x;cases (show Y [Ky.fld k]=Y [l] from b);obtain⟨u,p1,j⟩:=r.split;refine⟨Z,U,t,C,v,u,s,z,y,a,p1,λD d=>?_⟩;cases j with
  |@fld c _ a A fs E _ _ o g q =>
   cases q;rw[F.nm c]at g;exact⟨a,_,A,fs,w,rfl,d a _ o,F.cl c,F.no c,g,p D d⟩
def BP{F:Nat}(hr:Gn F X.A)(h:Jv G X e i way)(hb:PV G X b c)(S:gh b)(hK:X.K=G.K):Jv G X (.Subscript e b pos) i (way++[.ix c]) :=
 PE.Jx (mR (HL.or jN (pq (ke hr))) h hb S) λJ H Q hq=>by
  obtain⟨Z,U,t,ks,v,w,s,h1,h2,h3,h4,h5⟩:=hq;obtain⟨JC,M,a,b',rfl⟩:=ft h3;obtain⟨⟨E,x⟩,ec,e2⟩:=Zz.mp (show (c U).bind (λx=>(keys [] U).map (Ky.at x.2 :: ·))=Y [M] from b');cases e2;obtain⟨u,p1,D⟩:=h4.split;refine⟨Z,U,t,JC,v,u,s,h1,h2,a,p1,λH1 d=>⟨Z,U,E,x,s.same d,ec,λy H2 F2 o r2 f2=>?_⟩⟩;have C:=(D.same d).same o;have q:=h5 H2 (d.trans o);cases C with
  |@ix a p N j r _ _ l g R f =>
   cases f;refine .inl (.inl ⟨a,p,N,w,rfl,r2.int_inv,GL.of l,jF g R,q⟩)
  |@key a gV m r _ _ l g f =>
   cases f;refine .inr ⟨a,w,rfl,?_,q⟩;have P:y=kV m:=by
    cases m with
    |inl n=>exact r2.int_inv
    |inr z =>
     have:=r2.str_inv.1;rw[this];simp[kV,sx]
   rw[P,← g];exact gS.k l
@[simp] noncomputable def lA(i:Nat)(a:List Ja)(f:T->Va->Option (T×Val))(h:GY)(U:VS.Env):Option (Val×VS.Env):=match U[i]? with
 |some (some (.ow t))=>(keys a U).bind λg=>(h U).bind λd=>(pm (λx=>f x d) g t).map λz=>(z.2,U.set i (Y (.ow z.1)))
 |_=>O
noncomputable def kF(G:Gx):Prop:=∀c k a:Nat,(G.ct c).2 k=(G.ct c).2 a->k=a
def zu{p m:String}{a:Str}{o:Expr}{r:V->List V->Hp->VK->Prop}{f:T->Va->Option (T×Val)}(Jq:kF G)(pa:PlainAttrs p)(d:Slot p a m)(MB:typeOf (.builtin m)=pure (.type "method_descriptor"))(hm:O0 X m r)(ok:uk G r f)(hT:∀H v t F l z,Rp G H v t F->f t l=Y z->Ln G.K p v H)(ho:Jv G X o i way)(ha:Hr G X (e :: es) cs)(hK:X.K=G.K)(GF:XAB o a X.env (eval o X.env)=eval o X.env)(GU:((backTo jj (Pi (e :: es) X.env)).all (λx=>!x.1)&&(backToKw jj (SL [] X.env)).all (λx=>x.1.isSome)
   && decide ((e :: es).length+([]:List Keyword).length+(if ([]:List Keyword).isEmpty then 0 else 1)<30))=L)(Gz:(apos.endLine==jj.line)=L)(hs:K1 e es X)(Gy:K2 jj es X)(IV:swapsWith (.Call (.Attribute o a apos) (e :: es) [] jj) O pos.line X.env=pure B) :
  PSV G X (.Expr (.Call (.Attribute o a apos) (e :: es) [] jj) pos) (sX (lA i way f cs)) :=
 PS.weak (jS (ou pa d MB hm ho ha GF GU Gz hs Gy) IV) λD J H hq=>by
  obtain⟨Z,U,out,s,e,k⟩:=hq;refine L2.ku λP_ k_=>?_;unfold sX lA at e;obtain⟨⟨x',U'⟩,e1,e2⟩:=Zy.mp e;split at e1
  ·rename_i t h;obtain⟨E,ek,e3⟩:=Zz.mp e1;obtain⟨l,el,e4⟩:=Zz.mp e3;obtain⟨⟨t',x2⟩,e5,e6⟩:=Zy.mp e4;cases e6;cases e2;obtain⟨v,M,h2⟩:=s.rp _ _ h;obtain⟨w,x,F1,R,w1,A,w3,y,S⟩:=nB E Jq h2 (s.nd i t h) e5;refine k_ ?_;refine⟨Z,U,t,E,v,w,s,h,M,ek,w1,λH0 j=>⟨by rw[hK];exact hT H0 w x _ l _ (A.same j) y,Z,U,l,s.same j,el,λvs H' Fs q1 q2 C=>?_⟩⟩;refine ok Z U H H' w x R F1 l vs Fs x2 _ A w3 ⟨j.trans q1,q2,⟨λn v' q a1 a2=>(C.each n v' q a1 a2).back j,C.nd⟩⟩ y λu N q g=>?_;obtain⟨F2,g2⟩:=S N q g;obtain⟨Q,P⟩:=s.mut h M g2;exact k _ J N Q P
  ·cases e1
end
section
variable{G:Gx}{X:Cx}{e o:Expr}{es:List Expr}{i:Nat}{way:List Ja}{pos pos' p1 apos jj:Pos}{c:Ex}{cs:GY}{b:Expr}{k:Nat}{ce ck:Ex}
noncomputable def qi(k v:Val):T->Option (T×Unit)
 |.lst l=>match k.2 with
  |.int n=>(fit v).bind λt=>(Hf l.length n).map λj=>(.lst (l.set j t),())
  |_=>O
 |.dct 0 l=>if iz k.2/\Gu v.2/\l.length<dJ then Y (.dct 0 (dput l k.2 v.2),()) else O
 |_=>O
noncomputable def fN(i:Nat)(a:List Ja)(k e:Ex)(U:VS.Env):Option Out:=(e U).bind λv=>match U[i]? with
 |some (some (.ow t))=>(keys a U).bind λf=>(k U).bind λd=>(pm (qi d v) f t).map λz=>.nx (U.set i (Y (.ow z.1)))
 |_=>O
theorem RpL.putAt{H:Hp}:∀{d:List V}{f:V1}{g:X8}(j:Nat){u:V}{x:T}{F:Wf},RpL G H d f g->Rp G H u x F->RpL G H (d.set j u) (f.set j x) (g.set j F)
 |_,_,_,_,_,_,_,.nil,_=>.nil
 |_,_,_,0,_,_,_,.cons r q,a=>.cons a q
 |_,_,_,j+1,_,_,_,.cons r q,a=>.cons r (RpL.putAt j q a)
theorem vp{H:Hp}{kk:Key}{l:V}{t:T}(n:Rp G H l t []):∀{a:List Key}{h:List V}{ts:V1}{Fs:X8},a.length=h.length->RpL G H h ts Fs →
  ∃d f g,(a.zip h).map (λm=>if m.1=kk then (m.1,l) else m)=a.zip d/\a.length=d.length/\((a.map aO).zip ts).map (λp=>if eqT p.1 (aO kk) then (p.1,t) else p)=(a.map aO).zip f/\RpL G H d f g/\g.flatten.Sublist Fs.flatten
 |[],[],_,_,_,.nil=>⟨[],[],[],rfl,rfl,rfl,.nil,XY _⟩
 |k :: a,v :: h,_,_,C,.cons (t:=A) (F:=F) (ts:=ts) (Fs:=Fs) r q=>by
  obtain⟨d,f,g,y,x,w,u,s⟩:=vp n (by simpa using C) q;by_cases j:k=kk
  ·have e:eqT (aO k) (aO kk)=L:=(jY kk k).mpr j;refine⟨l :: d,t :: f,[] :: g,?_,by simp[x],?_,.cons n u,?_⟩
   ·rw[ZO,Ze,y,ZO];simp[j]
   ·rw[Ze,ZO,Ze,w,ZO];simp[e]
   ·rw[ZE,ZE];exact s.trans (Y9 _ _)
  ·have e:¬eqT (aO k) (aO kk)=L:=λz=>j ((jY kk k).mp z);refine⟨v :: d,A :: f,F :: g,?_,by simp[x],?_,.cons r u,?_⟩
   ·rw[ZO,Ze,y,ZO];simp[j]
   ·rw[Ze,ZO,Ze,w,ZO];simp[e]
   ·rw[ZE,ZE];exact W8 (XY _) s
theorem qG{kk:Key}:∀{a:List Key}{d:List V}{f:V1},a.length=d.length->a.length=f.length->((a.zip d).any λg=>decide (g.1=kk))=(((a.map aO).zip f).any λp=>eqT p.1 (aO kk))
 |[],_,_,_,_=>by simp
 |k :: a,v :: d,t :: f,l,j=>by
  rw[Ze,ZO,ZO,Y4,Y4,qG (by simpa using l) (by simpa using j)];have:decide (k=kk)=eqT (aO k) (aO kk):=by rw[XG,decide_eq_true_eq];exact(jY kk k).symm
  rw[this]
 |_ :: _,[],_,h,_=>by simp at h
 |_ :: _,_ :: _,[],_,h=>by simp at h
def pO{H:Hp}{kk:Key}{q:V}{t:T}(u:Rp G H q t []){a:List Key}{g:List V}{j:V1}{s:X8}(d:a.length=g.length)(l:RpL G H g j s) :
  ∃(r:List Key)(f:List V)(m:V1)(n:X8),putK (a.zip g) kk q=r.zip f/\r.length=f.length/\dput ((a.map aO).zip j) (aO kk) t=(r.map aO).zip m/\RpL G H f m n/\n.flatten.Sublist s.flatten:=by
 have an:=qG (kk:=kk) d (d.trans l.len.1);unfold putK dput;rw[an];by_cases h:(((a.map aO).zip j).any λp=>eqT p.1 (aO kk))=L
 ·rw[Zo h,Zo h];obtain⟨f,m,n,z,y,x,w,v⟩:=vp (kk:=kk) u d l;exact⟨a,f,m,n,z,y,x,w,v⟩
 ·rw[Zm h,Zm h];refine⟨a++[kk],g++[q],j++[t],s++[[]],?_,by simp[d],?_,l.append (.cons u .nil),by simp⟩
  ·rw[List.zip_append d];rfl
  ·rw[Yx,List.zip_append (by rw[Zt];exact d.trans l.len.1)];rfl
noncomputable def BY:Bq:=λo i v H Q=>B6 o i v H Q\/∃a d,o=.ref a/\tK H a i v d/\Q d
def xp(m:X.A.units+1<cLine):CM X BY:=by
 intro d s J H o i v ov iv u Q I j l f h;rcases h with h | ⟨a,p,rfl,g,q⟩
 ·exact set_list d s J H o i v ov iv u Q I j l f h
 ·cases j;exact vL m I g l f λr n=>⟨p,n,q⟩
def kh{kr:Nat}(Jq:kF G)(hr:Gn kr X.A)(ho:Jv G X o i way)(hk:PV G X b ck)(he:PV G X e ce)(ha:∀v,assign (.Subscript o b pos') X.env v=(do
   let ov ← holding [v] (eval o X.env)
   let iv ← holding [v,ov] (eval b X.env)
   standAt pos'
   holding [v,ov,iv] (setItem ov iv v)
   release [v,ov,iv] []):=by exact λ_=>rfl)(hs:swapsWithSole [.Subscript o b pos'] e pos.line X.env=pure B:=by exact rfl)(hw:swappedStores [.Subscript o b pos'] e X.env=pure O:=by exact rfl)(P:(assignEach [.Subscript o b pos'] X.env).map (·.2)=[assign (.Subscript o b pos') X.env]:=by exact rfl):PSV G X (.Assign [.Subscript o b pos'] e pos) (fN i way ck ce) :=
 PS.weak (tJ he (sQ ho hk (xp (ke hr)) ha) hs hw P) λD J H hq=>by
  obtain⟨Z,U,out,s,e,k⟩:=hq;refine L2.ku λP_ k_=>?_;unfold fN at e;obtain⟨⟨mv,m⟩,ev,e⟩:=Zz.mp e;split at e
  ·rename_i t ht;obtain⟨ks,ek,e⟩:=Zz.mp e;obtain⟨⟨mk,q⟩,LF,e⟩:=Zz.mp e;obtain⟨⟨t',y'⟩,e5,e6⟩:=Zy.mp e;cases e6;obtain⟨v,g1,g2⟩:=s.rp _ _ ht;obtain⟨w,x,F1,x3,w1,w2,w3,N,w5⟩:=nB ks Jq g2 (s.nd i t ht) e5;refine k_ ?_;refine⟨Z,U,mv,m,s,ev,λxv H1 Fv HG rv fv=>?_⟩;refine⟨Z,U,t,ks,v,w,s.same HG,ht,g1,ek,w1.same HG,λH2 Hw=>⟨Z,U,mk,q,(s.same HG).same Hw,LF,λkv f Fk IT rk fk=>?_⟩⟩;have y:aK H f:=(HG.trans Hw).trans IT;have KZ:Rp G f xv m Fv:=(rv.same Hw).same IT;have fin:∀R M,Chg G H w F1 x3 R M->D.nx J R:=λR M g=>by
    obtain⟨F2,Nt⟩:=w5 R M g;obtain⟨z1,z2⟩:=s.mut ht g1 Nt;exact k _ J R z1 z2
   refine L2.ku λP_ k_=>?_;cases x with
   |lst l =>
    cases q with
    |int n =>
     obtain⟨tt,et,e7⟩:=Zz.mp (show ((fit (mv,m)).bind λt=>(Hf l.length n).map λj=>(T.lst (l.set j t),()))=Y (x3,y') from N);obtain⟨j,ej,e8⟩:=Zy.mp e7;cases e8;have em:=km et;cases em;obtain⟨a,p,Fs,rfl,rfl,S,C⟩:=w2.lst_inv;have Q:f a=Y (.lst p):=y a _ S;have nd:=ZZ.mp w3;have na:a∉Fv:=λz=>by rw[fv.2 a z]at S;cases S
     have E:Gw (f a):=by rw[Q];exact True.intro
     have off:∀d∈Fs.flatten,d∉Fv:=λd hb hv=>Gw.oe (C.GG d hb) (fv.2 d hv);refine k_ ?_;refine .inl ⟨a,p,n,j,rfl,rk.int_inv,Q,by rw[← sC,C.len.1];exact ej,fin _ (a :: (Fs.set j Fv).flatten) ?_⟩;have keep:∀{u:V}{x:T}{F:Wf},Rp G f u x F->a∉F->Rp G (upd f a (.lst (p.set j xv))) u x F:=λr hn=>r.keep (Kept.upd (.inl E)) λd hb o' JO=>by rw[aF (λz=>hn (by rw[← z];exact hb))];exact JO
     refine Chg.upd y Zu E (.lst aw ((((C.same y).off E nd.1)).putAt j (keep KZ na))) ?_ ?_
     ·rw[ZZ];refine⟨λh=>?_,dC nd.2 fv.1 λi' M _ hi d hb=>off d (c8 hi hb)⟩;rcases cz h with z | ⟨i',M,_,P,h2⟩
      ·exact na z
      ·exact nd.1 (c8 P h2)
     ·intro d hb;rcases Zh.mp hb with rfl | hb
      ·exact .inl Zu
      ·rcases cz hb with z | ⟨i',M,_,P,h2⟩
       ·exact .inr (fv.2 d z)
       ·exact .inl (Zv _ (c8 P h2))
    |_=>cases N
   |dct kd l =>
    cases kd with
    |zero =>
     have hc:(iz q=L/\Gu m=L/\l.length<dJ)/\x3=.dct 0 (dput l q m):=by
      have Mj:(if iz q/\Gu m/\l.length<dJ then Y (T.dct 0 (dput l q m),()) else O)=Y (x3,y'):=N;split at Mj
      ·rename_i hc;cases Mj;exact⟨hc,rfl⟩
      ·cases Mj
     obtain⟨⟨c1,c2,c3⟩,rfl⟩:=hc;have eF:=KZ.Gu c2;subst eF;obtain⟨a,ns,p,ts,Fs,rfl,rfl,S,hl,rfl,C⟩:=d5 w2;obtain⟨kk,rfl,KH⟩:=du rk c1;subst KH;have Q:f a=Y (.dK (ns.zip p)):=y a _ S;have E:Gw (f a):=by rw[Q];exact True.intro
     have nd:=ZZ.mp w3;obtain⟨Ms,Ih,Hg,HM,q1,q2,q3,q4,q5⟩:=pO (kk:=kk) KZ hl (C.same y);have ln:(ns.zip p).length<sizeLine:=by
      have:((ns.map aO).zip ts).length<16777216:=c3;rw[YX,Zt]at this;rw[YX];have:=C.len.1;have:(KB:Nat)=16777216:=rfl;lia
     refine k_ ?_;refine .inr ⟨a,_,rfl,tK.k Q ln,fin _ (a :: HM.flatten) ?_⟩;rw[q1,q3];refine Chg.upd y Zu E (.dct aw q2 (q4.off E λz=>nd.1 (q5.subset z))) ?_ ?_
     ·exact ZZ.mpr ⟨λz=>nd.1 (q5.subset z),nd.2.sublist q5⟩
     ·intro d hb;rcases Zh.mp hb with rfl | hb
      ·exact .inl Zu
      ·exact .inl (Zv _ (q5.subset hb))
    |succ n=>cases N
   |_=>cases N
  ·cases e
end
def DK{K:Wy}{H:Hp}{a:KF}{b:Vr}(e:xw H)(d:GL K H a (b.map V.int)):lq K H a b:=by
 rcases d with h | h
 ·rcases h with h | h
  ·rcases e a with z | ⟨o,f,z⟩
   ·rw[z]at h;cases h
   ·rw[z]at h;cases h
  ·exact .inl h
 ·exact .inr h
def Cr{G:Gx}{g:Fn}{H:Hp}{a:KF}{b:Vr}{E:XK}(d:g [.scr b]=Y (.fr,.bl L))(f:xw H)(e:GL G.K H a (b.map V.int)):Jc G g [.ref a] H (λv _=>v=.bl L) E :=
 ⟨[.scr b],[[]],.fr,.bl L,.cons (.scr (DK f e)) .nil,d,λv h F _ r _=>r.HU⟩
noncomputable def Ow(K:Wy):Gx:=⟨K,λ_=>(0,λk=>⟨#[k]⟩),λ_=>O⟩
end VS
end
section
namespace L2
open PySem PySem.Spec PyProof.Rows
section
variable{X:Cx}
def sJ(z:X.calm=L):di X (.type "list") (λf H Q=>∃x:Str,f=[.str x]/\x.cps.size<=KB/\∀l,H l=O->Q (.ref l) (upd H l (.lst (x.cps.toList.map λc=>V.str ⟨#[c]⟩)))):=by
 intro j s J H f C Q I p h;obtain⟨x,rfl,m,q⟩:=h;obtain⟨u,rfl,t,rfl⟩:=vals1 p;refine call_list_str (I.ok.hd z) x t (λA D acc c kp g o=>?_) m;have y:aP (x.cps.toList.map λc=>V.str ⟨#[c]⟩) acc.toList:=by
  have key:∀(b:Vt)(a:Vy),b.length=a.length->(∀(i:Nat)(v:KM),a[i]?=Y v->∃c u,b[i]?=Y c/\v=.str ⟨#[c]⟩ u)->aP (b.map λc=>V.str ⟨#[c]⟩) a:=by
   intro b
   induction b with
   |nil =>
    intro a e _;cases a with
    |nil=>exact .nil
    |cons v a=>simp at e
   |cons c b r =>
    intro a e hg;cases a with
    |nil=>simp at e
    |cons v a =>
     obtain⟨d,u,e1,e2⟩:=hg 0 v M;cases e1;exact .cons ⟨u,e2⟩ (r a (by simpa using e) λi w hw=>by simpa using hg (i+1) w (by simpa using hw))
  refine key _ _ (by rw[I0,I0,o.1]) λi v n=>?_;rw[ZC]at n;obtain⟨d,u,e1,e2⟩:=o.2 i v n;exact⟨d,u,by rw[ZC];exact e1,e2⟩
 refine⟨.ref s.heap.objs.size,_,I.laid kp (Zp _) (show bx X.prog X.w _ A _ (.lst (x.cps.toList.map λc=>V.str ⟨#[c]⟩)) from⟨by rw[Zt,I0];exact m,acc.toList,c,y,g⟩),rfl,q _ (I.Gq.fresh (Zp _))⟩
end
end L2
namespace VS
open PySem PySem.Spec PyProof.Rows L2
section
variable{G:Gx}{X:Cx}{a b c e tg:Expr}{es:List Expr}{ca cb cc ce ck:Ex}{cs:GY}{pos p p1 p2 apos jj pos':Pos}{k k' kr:Nat}
@[simp] noncomputable def jI:Va->V0
 |[(m,.lst l)]=>Ji m l
 |[(m,.tup l)]=>Ji m l
 |[(_,.str s)]=>Ji .fr (s.map λc=>.str [c])
 |_=>O
def yL:fB G (λg H Q=>BR G.K g H Q\/∃x:Str,g=[.str x]/\x.cps.size<=KB/\∀l,H l=O->Q (.ref l) (upd H l (.lst (x.cps.toList.map λc=>V.str ⟨#[c]⟩)))) jI:=by
 intro Z U j H l d f m t Q A e k;unfold jI at e;split at e
 ·exact .inl (uh Z U j H _ d f m t Q A e k)
 ·exact .inl (uh Z U j H _ d f m t Q A e k)
 ·rename_i D x;obtain⟨v,F,rfl,rfl,i⟩:=(show RpL G H d [.str x] f from A.rp).one;have h:=i.str_inv.2;refine .inr ⟨sx x,by rw[i.str_inv.1],?_,λq u=>?_⟩
  ·have:=h.1;simp only[sx,ZQ];exact this
  ·have C:(sx x).cps.toList.map (λc=>V.str ⟨#[c]⟩)=(x.map λc=>[c]).map λs=>V.str (sx s):=by
    simp[sx]
   have z:(x.map λc=>T.str [c])=(x.map λc=>[c]).map T.str:=by simp
   rw[C];rw[z]at e;have n:=sE (G:=G) (H:=H) (ss:=x.map λc=>[c]) λs r=>by
    obtain⟨c,w,rfl⟩:=Hq.mp r;exact⟨by show 1<=dJ;decide,λy o=>by rw[Zk.mp o];exact h.2 c w⟩
   refine jh A.same e n ?_ k q u;rw[r6];exact Fp.nil
 ·cases e
def BE(d:X.mg "list" = O)(h:Hr G X [e] cs)(f:Gl X "list" := by rfl)(i:X.K=G.K:=by rfl)(g:X.calm=L:=by rfl)(he:K1 e [] X:=by rfl):PV G X (.Call (.Name "list" p) [e] [] pos) (eN jI cs) :=
 jb (pR.or (sJ g)) (i ▸ yL) f d BH h (he:=he) (hpl:=rfl)
end
end VS
end
section
namespace ST
open PySem PySem.Spec PyProof.Rows
variable{prog:P3}{w:XAA}{A:Re}{E:Yt}{s:GM}
noncomputable abbrev dO(a:Array DictEntry)(b:Nat):Obj:={ cls:=.type "dict",data:=.dict a b }
noncomputable abbrev kO(d:KF)(i n a:Nat):Obj:={ cls:=.type "dict_keyiterator",data:=.fields #[.ref d,.int i 0,.int n 0,.int a 0] }
def yu{d:KF}{b:Array DictEntry}{e:Nat}{Q:Yt}(f:(d==sysModules)=B)(a:s.heap.get? d=Y (dO b e))(q:Q (.ref s.heap.objs.size) { s with heap:=s.heap.push (kO d 0 b.size e) }) :
  On (IR prog w) A (pyIter (.ref d)) Q E s:=by
 have ty:s.TypeIs (.ref d) "dict" := ⟨_,a,rfl⟩
 refine WO ty F.slot_dict_iter (Y8 F.slot_dict_iter ty F.entry_dict_iter (show On _ _ (Builtin.«dict.__iter__» _) _ _ _ from ?_) (F.args_dict_iter_1 _));unfold Builtin.«dict.__iter__» Builtin.Dict.dictSlotNone Builtin.Dict.showsAll;refine Zx (Zx (wpAny_notOrdered_dict ty (show On _ _ (pure (Value.ref d)) _ _ s from Zl (Zx (m:=Builtin.Dict.addrOf (.ref d)) (Zl ?_)))));rw[Zm (by rw[f];exact Zb)];exact Zx (Zl (Zx (wpAny_dictEntries a M (Zx (wpAny_dictEpoch a M (Zx (Xq (Zl ⟨_,rfl, "dict_keyiterator",_,⟨_,ZY _ M,rfl⟩,XW.lookup,q⟩))))))))
def qW{I d:KF}{i m:Nat}{h:Array DictEntry}{Q:Vx->GM->Prop}(u:A.handled=O)(l:s.heap.get? I=Y (kO d i h.size m))(n:s.heap.get? d=Y (dO h m))(z:∀e,h[i]?=Y e->∀a,Heap.SameBut I s.heap a->a.get? I=Y (kO d (i+1) h.size m)->Q (Y e.key) { s with heap:=a })(y:h[i]?=O->∀a,(∀b o,b≠I->s.heap.get? b=Y o->a.get? b=Y o)->Q O { s with heap:=a }):On (IR prog w) A (pyNext (.ref I)) Q E s:=by
 have ty:s.TypeIs (.ref I) "dict_keyiterator" := ⟨_,l,rfl⟩
 unfold pyNext;refine Zx (wpAny_attempt (wpAny_callSpecial?_slot (name:=Str.ofString "__next__") ty XW (Y8 XW ty F.entry_dict_keyiterator_next (YB
  (Q:=λf j=>∃v,f=.done (.ret v)/\Q (Y v) j) (E:=λe j=>∃x,e=.ref x/\(∃o,j.heap.get? x=Y o/\o.cls=.type "StopIteration")/\Q O j) ?_ (λf j ⟨v,e,q⟩=>⟨v,e,Zl q⟩) λe j ⟨x,e1,⟨o,g,c⟩,q⟩=>?_) (F.args_dict_keyiterator_next_1 _))))
 ·refine Zx (Zl (Zx (Zx (Zx (Wg ty (Zl (Zx (wpAny_fieldsOf l M ?_))))))));have own:Builtin.Dict_items.ownsTuple "dict_keyiterator" = B:=rfl;simp only[own,Xh,↓reduceIte];refine(show On _ _ (if (Value.ref d==Value.none)=L then _ else _) _ _ s from ?_);rw[Zm (λe:(Value.ref d==Value.none)=true=>Zb e)];refine Zx (Zl (Zx (wpAny_dictEntries n M ?_)));rw[Zm (by simp)];refine Zx (Zl (Zx (wpAny_dictEpoch n M ?_)));rw[Zm (by simp)];refine Zl ?_;simp only[show ¬((i:Int)<0) from by lia,↓reduceIte,Y2];cases p:h[i]? with
  |some e =>
   dsimp only;have r:(s.heap.update I (Obj.mapFields (·.setIfInBounds 1 (rawInt ((i:Int)+1))))).get? I=Y (kO d (i+1) h.size m):=Yl _ l M;refine Zx (Zx (Wg ty (Zl (Zx (wpAny_isOneOf_keyiter ty ?_)))));refine(show On _ _ (setField (.ref I) 1 (rawInt ((i:Int)+1))>>=_) _ _ s from Zx (Xf l M (by show 1<4;decide) (Zx (YN ?_))));refine Zx (wpAny_isOneOf_keyiter (s:={ s with heap:=s.heap.update I (Obj.mapFields (·.setIfInBounds 1 (rawInt ((i:Int)+1)))) }) ⟨_,r,rfl⟩ ?_);refine(show On _ _ (pure e.key) _ _ _ from Zl (Zl ⟨_,rfl,z e p _ (Xg ..) r⟩))
  |none =>
   dsimp only;refine Zx (Zx (Wg ty (Zl ?_)));refine(show On _ _ (setField (.ref I) 0 .none>>=_) _ _ s from Zx (Xf l M (by show 0<4;decide) (xo u λa x kp t=>⟨x,rfl,t,y p a λb o hb e=>kp b o ?_⟩)));rw[YS _ _ (YK hb)];exact e
 ·subst e1;exact Zx (wpAny_isInstance (T := "StopIteration") (b:=L) ⟨o,g,c⟩ isSubtype_stop (Zl q))
end ST
end
section
namespace VS
open PySem PySem.Spec PyProof.Rows L2
def ED{G:Gx}{X:Cx}{i:Int}{j:Nat}{a p:Pos}:PV G X (.UnaryOp .USub (.Constant (.int i) j p) a) (Q3 (-i)) :=
 PE.weak (Fh DS p6) λJ H Q b=>by
  obtain⟨Z,U,m,t,s,e,k⟩:=b;cases (show Y (Md.fr,T.int (-i))=Y (m,t) from e);exact⟨i,rfl,k _ H [] (aK.refl _) (.int _) Fp.nil⟩
end VS
end
section
namespace VS
open PySem PySem.Spec PyProof.Rows L2
section
variable{G:Gx}{X:Cx}{a b c e o tg:Expr}{es:List Expr}{ca cb cc ce ck cv:Ex}{cs:GY}{pos p p1 p2 apos jj pos' ap1 cp1 lp:Pos}{k k' kr i:Nat}
def Rp.IP{H:Hp}{v:V}{ts:V1}{F:Wf}(r:Rp G H v (.tup ts) F):∃b vs Fs,v=.ref b/\H b=Y (.tup vs)/\RpL G H vs ts Fs:=by
 cases r with
 |tup h q=>exact⟨_,_,_,rfl,h,q⟩
end
end VS
end
section
namespace L2
open PySem PySem.Spec PyProof.Rows
section
variable{X:Cx}{tg:Expr}{pos:Pos}
def yk{o:Obj}{g:Array DictEntry}{i:Nat}(h:o.ExactDict)(e:o.data=.dict g i):o=ST.dO g i:=by
 obtain⟨c,d,l,j⟩:=o;obtain⟨f,b,a⟩:=h;simp only at f b a e;subst f b a e;rfl
end
end L2
end
section
namespace VS
open PySem PySem.Spec PyProof.Rows L2
section
variable{G:Gx}{X:Cx}{a b e:Expr}{ca ck ce:Ex}{pos pos' p1:Pos}{kr:Nat}
def Cq{j pos'}(g:PV G X a ca):Iw G X (.Compare a [.Is] [.Constant .none j pos'] pos) (Be ca) :=
 PT.weak (wL (CF g)) λJ H Q h=>BQ h (λU m r e=>by
  unfold Be at e;obtain⟨x,_,e⟩:=Zz.mp e;cases e;exact⟨_,rfl⟩) λQ f=>by
   obtain⟨Z,U,m,r,s,e,q⟩:=f;unfold Be at e;obtain⟨⟨n,x⟩,i,e⟩:=Zz.mp e;cases e;refine⟨Z,U,n,x,s,i,λv d F e1 r1 f1=>?_⟩;show Q (.bl (decide (v=.non))) d;rw[vb r1];exact q _ d _ e1 (.bl _) Fp.nil
def pC{j pos'}(g:PV G X a ca):Iw G X (.Compare a [.IsNot] [.Constant .none j pos'] pos) (gF ca) :=
 PT.weak (wL (zV g)) λJ H Q h=>BQ h (λU m r e=>by
  unfold gF at e;obtain⟨x,_,e⟩:=Zz.mp e;cases e;exact⟨_,rfl⟩) λQ f=>by
   obtain⟨Z,U,m,r,s,e,q⟩:=f;unfold gF at e;obtain⟨⟨n,x⟩,i,e⟩:=Zz.mp e;cases e;refine⟨Z,U,n,x,s,i,λv d F e1 r1 f1=>?_⟩;show Q (.bl (!decide (v=.non))) d;rw[vb r1];exact q _ d _ e1 (.bl _) Fp.nil
noncomputable def rD(i:Nat)(k e:Ex)(U:VS.Env):Option Out:=(e U).bind λv=>match U[i]? with
 |some (some (.ow (.dct 0 l)))=>(k U).bind λd=>if iz d.2/\Gu v.2/\l.length<dJ then Y (.nx (U.set i (Y (.ow (.dct 0 (dput l d.2 v.2)))))) else O
 |_=>O
def DY(i:Nat){x:Str}(hr:Gn kr X.A)(hk:PV G X b ck)(he:PV G X e ce)(hN:X.N[i]?=Y x)(hv:Ic X.env.scope x)(hd:K3 x)(o:K4 x)(ha:∀v,assign (.Subscript (.Name x p1) b pos') X.env v=(do
   let ov ← holding [v] (eval (.Name x p1) X.env)
   let iv ← holding [v,ov] (eval b X.env)
   standAt pos'
   holding [v,ov,iv] (setItem ov iv v)
   release [v,ov,iv] []))(hs:swapsWithSole [.Subscript (.Name x p1) b pos'] e pos.line X.env=pure B)(hw:swappedStores [.Subscript (.Name x p1) b pos'] e X.env=pure O)(h1:(assignEach [.Subscript (.Name x p1) b pos'] X.env).map (·.2)=[assign (.Subscript (.Name x p1) b pos') X.env]):PSV G X (.Assign [.Subscript (.Name x p1) b pos'] e pos) (rD i ck ce) :=
 PS.weak (tJ he (sQ (dP hN hv hd o) hk (xp (ke hr)) ha) hs hw h1) λD J H hq=>by
  obtain⟨Z,U,out,s,e,k⟩:=hq;unfold rD at e;obtain⟨⟨mv,j⟩,ev,e⟩:=Zz.mp e;split at e
  ·rename_i l n;obtain⟨⟨mk,S⟩,LF,e⟩:=Zz.mp e;split at e
   ·rename_i hc;obtain⟨c1,c2,c3⟩:=hc;cases e;obtain⟨w,u,R⟩:=s.rp _ _ n;have p:=s.nd i _ n;refine⟨Z,U,mv,j,s,ev,λxv H1 Fv M rv fv=>⟨w,u,Z,U,mk,S,s.same M,LF,λkv d Fk F rk fk=>?_⟩⟩;have m:aK H d:=M.trans F;have C:Rp G d xv j Fv:=rv.same F;have eF:=C.Gu c2;subst eF;obtain⟨a,ns,h,q,Fs,rfl,y,GB,hl,rfl,r⟩:=d5 R;rw[y]at p;obtain⟨kk,rfl,KH⟩:=du rk c1;subst KH;have E:d a=Y (.dK (ns.zip h)):=m a _ GB;have t:Gw (d a):=by rw[E];exact True.intro
    have nd:=ZZ.mp p;obtain⟨Ms,Ih,Hg,HM,q1,q2,q3,q4,f⟩:=pO (kk:=kk) C hl (r.same m);have ln:(ns.zip h).length<sizeLine:=by
     have:((ns.map aO).zip q).length<16777216:=c3;rw[YX,Zt]at this;rw[YX];have:=r.len.1;have:(KB:Nat)=16777216:=rfl;lia
    refine .inr ⟨a,_,rfl,tK.k E ln,?_⟩;have g:Chg G H (.ref a) (Z i) (.dct 0 (dput ((ns.map aO).zip q) (aO kk) j)) (upd d a (.dK (putK (ns.zip h) kk xv))) (a :: HM.flatten):=by
     rw[y,q1,q3];refine Chg.upd m Zu t (.dct aw q2 (q4.off t λz=>nd.1 (f.subset z))) ?_ ?_
     ·exact ZZ.mpr ⟨λz=>nd.1 (f.subset z),nd.2.sublist f⟩
     ·intro bb hb;rcases Zh.mp hb with rfl | hb
      ·exact .inl Zu
      ·exact .inl (Zv _ (f.subset hb))
    obtain⟨Q,P⟩:=s.mut n u g;exact k _ J _ Q P
   ·cases e
  ·cases e
end
end VS
end
section
namespace DP
open PySem PySem.Spec PyProof.Rows
variable{prog:P3}{w:XAA}{A:Re}{E:Yt}
def AS:typeLookup (.type "tuple") "keys" = pure O:=by rw[Vz,Wk];kernel_rfl
def Ah{h:UV}{g:Array GenState}{d:Drawn}{o:Nat}{os}{a:KF}{i:Array KM}{k:Nat}{j:Array (Vx)}{u:Tok}{Q:Yt}(l:h.get? a=Y { cls:=.type "tuple",dict:=O,data:=.seq i k,slots:=j })(q:A.handled=O)(p:∀f b e,Heap.NewExcOf h f e "AttributeError" → E (.ref e) ⟨f,g,d,b,os⟩):On (IR prog w) A (getAttrBy (.ref a) (.str "keys" u) B) Q E ⟨h,g,d,o,os⟩:=by
 have m:∀b,(⟨h,g,d,b,os⟩:GM).TypeIs (.ref a) "tuple" := λ_=>⟨_,l,rfl⟩
 have f1:=sub_AttributeError;have y:=WQ.lookup;have x:=WQ.bind (.ref a);have v:=am_tuple_getattr_none;unfold getAttrBy
 repeat (any_goals (first | assumption | exact m _ | ((with_reducible show On _ _ (call (Value.builtin "tuple.__getattribute__") _ _) _ _ _);refine call_meets WQ (m _) am_entry_tuple_getattribute (F.args_tuple_getattribute_2 _ _) (meets_getattribute_miss_tuple a i k j "keys" _ AS (by decide +kernel)) ⟨l,q,λf b e n=>?_⟩) | wp_step))
 obtain⟨s,r,t⟩:=n.there;show On _ _ (getattributeRaised _ _ _ _ _ _ _) _ _ _;unfold getattributeRaised
 repeat (any_goals (first | assumption | wp_step))
 exact p _ _ _ n.of
end DP
end
section
namespace DP
open PySem PySem.Spec PyProof.Rows L2
variable{prog:P3}{w:XAA}{A:Re}{E:Yt}
def vz{h:UV}{g:Array GenState}{d:Drawn}{l:Nat}{os}{a:KF}{j:Array KM}{k:Nat}{m:Array (Vx)}{Q:Vx->GM->Prop}(n:h.get? a=Y { cls:=.type "tuple",dict:=O,data:=.seq j k,slots:=m })(r:A.handled=O)(o:∀b i e,Heap.NewExcOf h b e "AttributeError" → Q O ⟨b,g,d,i,os⟩):On (IR prog w) A (getAttr? (.ref a) "keys") Q E ⟨h,g,d,l,os⟩:=by
 have f1:=sub_AttributeError;unfold getAttr? getAttrBy?
 repeat (any_goals (first | assumption | (with_reducible refine Ah n (by assumption) λb i e f=>?_) | wp_step))
 obtain⟨⟨oc,q,s,t⟩,p,ge,ce,_,_⟩:=f.there;dsimp only at ce;subst ce
 repeat (any_goals (first | assumption | wp_step))
 exact o _ _ _ f
def mQ:entryFor table "dict.update.loop" = Y Builtin.«dict.update.loop» := entryFor_of_tree (by kernel_rfl)
def ik:plainId "dict.update.loop" = L:=by decide +kernel
section
variable{R:Result->GM->Prop}{I:KF}{fp wr:Wf}{G:Array GenState->Array GenState->Prop}{n:Nat}{P:Nat->KM->Prop}{St:Nat->GM->Prop}
theorem loop(W:WalksS prog w A.in1 I fp wr G n P St)(d:KF)(Z:d∉fp)(S:UV)(a:Nat->Key×KM)(hP:∀i v,P i v->∃p m t l,v=.ref p/\S.get? p=Y { cls:=.type "tuple",dict:=O,data:=.seq #[l,(a i).2] m,slots:=t }/\(aN prog w).is (a i).1 l=L/\p∉d :: wr)(g:n<=KB) :
  ∀(k i:Nat)(s:GM),n-i=k->i<=n->St i s->(∀b o,b∉d :: wr->S.get? b=Y o->s.heap.get? b=Y o)->s.heap.DictOf (aN prog w) d (merged [] ((List.range i).map a)) →
   (∀f,Moved (d :: wr) G s f->f.heap.DictOf (aN prog w) d (merged [] ((List.range n).map a))->R (.ok (.ret .none)) f) →
   codeAny (IR prog w) A (.builtin "dict.update.loop" ⟨[.ref d,.ref I,rawInt i,.none],[]⟩) R s:=by
 have U:d∉wr:=λh=>Z (W.sub _ h);have q:∀b∈wr,b∈d :: wr:=λb g=>Zv _ g;intro k
 induction k with
 |zero =>
  intro i s hk hi N y D F;have HH:i=n:=by lia
  subst HH;refine Y5 mQ ?_;rw[YI ik _];show On _ A.in1 (pyNext (.ref I)>>=_) _ _ s;refine Zx (W.done s _ _ N λf j=>?_);show On _ A.in1 (Builtin.Dict.addKeywords d [] >>= λ_=>ret Value.none) _ _ f;refine Zx (Zl ?_);exact Zl (F f (j.mono q) (by
   obtain⟨o,J,M,x,rest⟩:=D;exact⟨o,J,M,j.heap d _ U x,rest⟩))
 |succ k ih =>
  intro i s hk hi N y D F;have GZ:i<n:=by omega
  refine Y5 mQ ?_;rw[YI ik _];show On _ A.in1 (pyNext (.ref I)>>=_) _ _ s;refine Zx (W.item i s _ _ GZ N λv f H QT j=>?_);obtain⟨p,m,t,l,rfl,hp,V8,X⟩:=hP i v H;have Oa:f.heap.get? p=Y { cls:=.type "tuple",dict:=O,data:=.seq #[l,(a i).2] m,slots:=t }:=j.heap p _ (λz=>X (q p z)) (y p _ X hp);have C:f.heap.DictOf (aN prog w) d (merged [] ((List.range i).map a)):=by
   obtain⟨o,J,M,x,rest⟩:=D;exact⟨o,J,M,j.heap d _ U x,rest⟩
  show On _ A.in1 (holding [Value.ref p] _>>=_) _ _ f;refine Zx (YN ?_);have ty:f.TypeIs (.ref p) "tuple" := ⟨_,Oa,rfl⟩
  refine Zx (thn (Q:=λr u=>r=[l,(a i).2]/\u=f) ?pair λr u hr=>?rest)
  case pair =>
   refine wpAny_tryCatch ?_;unfold Builtin.Dict.pairItems
   repeat (any_goals (first | assumption | wp_step))
   exact⟨rfl,rfl⟩
  case rest =>
   obtain⟨rfl,rfl⟩:=hr;dsimp only;refine YN ?_;refine wpAny_dictSet_pairs V8 C (λh' dd sb=>?_) (by have:=merged_length_le (K:=Key) [] ((List.range i).map a);simp at this;lia);have e1:((i:Int)+1)=((i+1:Nat):Int):=by lia
   rw[e1];have KJ:h'.DictOf (aN prog w) d (merged [] ((List.range (i+1)).map a)):=by
    rw[List.range_succ,Yx,show merged ([]:List (Key×KM)) ((List.range i).map a++[i].map a)=stored (merged [] ((List.range i).map a)) (a i).1 (a i).2 by unfold merged;rw[List.foldl_append];rfl];exact dd
   refine Zl ⟨XD ik _,ih (i+1) _ (by omega) GZ (W.frame _ u _ _ QT (Xj _) λb g o e=>?_) (λb o g e=>?_) KJ λNL Rc Ry=>?_⟩
   ·rw[sb.2 b (λh:b=d=>Z (by rw[← h];exact g))];exact e
   ·rw[sb.2 b (λh:b=d=>g (by rw[h];exact Zu))];exact j.heap b _ (λz=>g (q b z)) (y b o g e)
   ·refine F NL (Moved.trans W.gtrans ((j.mono q).then_heap (Xj _) λb o g e=>?_) Rc) Ry;rw[sb.2 b (λh:b=d=>g (by rw[h];exact Zu))];exact e
end
end DP
end
section
namespace DP
open PySem PySem.Spec PyProof.Rows L2
variable{prog:P3}{w:XAA}{A:Re}{E:Yt}{s:GM}
def ng:mroOf (.type "dict")=pure [.type "dict",.type "object"]:=by rw[mroOf_type];kernel_rfl
def lN:typeLookup (.type "dict") "__new__" = pure (Y (.builtin "dict.__new__")):=by rw[Vz,Wk];kernel_rfl
def rm:TypeCalled "dict" "dict.__new__" "dict.__init__" :=
 ⟨by decide +kernel,by decide +kernel,⟨_,_,ng⟩,madeBy_type ng lN (by decide +kernel),by decide +kernel,by rw[Vs];kernel_rfl,F.slot_dict_init⟩
def lJ(a:KM):checkTypeCall "dict" ⟨[a],[]⟩=pure ():=by kernel_rfl
def mL(a:KM):checkBuiltinCall "dict.__new__" ⟨[.type "dict",a],[]⟩=pure ():=by kernel_rfl
def mD:entryFor table "dict.__new__" = Y Builtin.«dict.__new__» := entryFor_of_tree (by kernel_rfl)
def iS:plainId "dict.__new__" = L:=by decide +kernel
def oj:isSubtype (.type "dict") (.type "dict")=pure L:=by rw[Vs];kernel_rfl
def oi(a:KM){b:Yt}(h:b (.ref s.heap.objs.size) { s with heap:=s.heap.push { cls:=.type "dict",data:=.dict #[] } }) :
  codeAny (IR prog w) A (.call (.builtin "dict.__new__") ⟨[.type "dict",a],[]⟩) (wants b E) s:=by
 refine codeAny_of_tree (Zx (m:=checkBuiltinCall "dict.__new__" ⟨[.type "dict",a],[]⟩) (wpAny_of_eq (mL a) (Zl ⟨XD iS _,Y5 mD ?_⟩)));rw[YI iS];have own:=oj;have mro:=ng;cases s;unfold Builtin.«dict.__new__»
 wp_walk
 exact h
def v8{a:KF}{j:Array KM}{C:Nat}{UB:Array (Vx)}{kv:Nat->Key×KM}{Q:Yt}(G:A.handled=O)(D:s.heap.get? a=Y { cls:=.type "tuple",dict:=O,data:=.seq j C,slots:=UB })(U:j.size<=KB)(hp:∀(i:Nat)(v:KM),j[i]?=Y v->∃p m u n,v=.ref p/\s.heap.get? p=Y { cls:=.type "tuple",dict:=O,data:=.seq #[n,(kv i).2] m,slots:=u }/\(aN prog w).is (kv i).1 n=L)(h:∀(l:UV)(y:Nat),l.DictOf (aN prog w) s.heap.objs.size (merged [] ((List.range j.size).map kv))->(∀b o,s.heap.get? b=Y o->l.get? b=Y o)->Q (.ref s.heap.objs.size) { s with heap:=l,toks:=y }) :
  On (IR prog w) A (call (.type "dict") [.ref a]) Q E s:=by
 refine callType_codes (Q₁:=λobj z=>obj=.ref s.heap.objs.size/\z={ s with heap:=s.heap.push { cls:=.type "dict",data:=.dict #[] } }) rm (lJ _) F.entry_dict_init (oi _ ⟨rfl,rfl⟩) λobj z Z=>?_;obtain⟨rfl,rfl⟩:=Z;have ty:Shared.TypeIs { s with heap:=s.heap.push { cls:=.type "dict",data:=.dict #[] } } (.ref s.heap.objs.size) "dict" := ⟨_,ZY _ M,rfl⟩
 refine⟨ty,F.args_dict_init_2 _ _,?_⟩;obtain⟨f,g,d,y,os⟩:=s;have N:=Zn { cls:=.type "dict",data:=.dict #[] } D;unfold Builtin.«dict.__init__» Builtin.Dict.updateCommon Builtin.Dict.updateFrom;generalize eP:pyIter=VI;generalize eG:getAttr?=ga
 repeat (any_goals (first | assumption | wp_step))
 subst eG;dsimp only at *;refine vz N (by simp[G]) λr R e ne=>?_;simp only[Option.isNone_none,if_true];refine Zx (W0 ?_);subst eP;have at2:=ne.keeps _ _ N;have dat:=ne.keeps f.objs.size { cls:=.type "dict",data:=.dict #[] } (ZY _ M);have t:=ZS dat;have x:∀{b:KF}{o:Obj},f.get? b=Y o->b<f.objs.size:=λe=>ZS e;have J:∀b o,f.get? b=Y o->r.get? b=Y o:=λb o e=>ne.keeps _ _ (Zn _ e);have tup:r.IsTuple a j:=⟨_,at2,rfl,C,rfl⟩
 refine Zx (wpAny_pyIter_tuple tup (Zl ⟨XD ik _,?_⟩));have alt:=x D;have D0:(r.push { cls:=.type "tuple_iterator",data:=.fields #[.ref a,.int 0 0] }).DictOf (aN prog w) f.objs.size (merged [] ((List.range 0).map kv)):=by
  obtain⟨o,es,ep,ho,rest⟩:=(Heap.DictOf.new (knd:=aN prog w) f)
  exact⟨o,es,ep,Zn _ (ne.keeps _ _ ho),rest⟩
 refine loop (A:=A.in1) ((Walks.tuple (by simp[G]) r.objs.size a (Za (WU alt t)) j).toS) f.objs.size (by simp only[Zh,Xo,or_false,not_or];exact⟨Za t,XB alt⟩) f kv (λi v X=>?_) U j.size 0 _ (by lia) (ZG _) ?_ (λb o hb e=>Zn _ (J b o e)) D0 λS mv dd=>?_
 ·obtain⟨p,m,u,n,rfl,H,g2⟩:=hp i v X;have:=x H;exact⟨p,m,u,n,rfl,H,g2,by simp only[Zh,Xo,or_false,not_or];exact⟨Za this,Za (WU this t)⟩⟩
 ·exact⟨⟨_,ZY _ M,rfl,rfl⟩,tup.push _⟩
 ·obtain⟨l,g',d',Ki,Mo⟩:=S;have e1:g'=g:=mv.gens;have e2:d'=d:=mv.drawn;have e3:Mo=os:=mv.os;subst e1 e2 e3;refine⟨rfl,h l Ki dd λb o e=>mv.heap b o (λP=>?_) (Zn _ (J b o e))⟩;have:=x e;simp only[Zh,Xo,or_false]at P;rcases P with q | q
  ·exact Za this q
  ·exact Za (WU this t) q
end DP
end
section
namespace L2
open PySem PySem.Spec PyProof.Rows
section
variable{X:Cx}
noncomputable abbrev Kc:=KF×Key×V
def Ad{a:Yr}{J:St}{H:Hp}{s:GM}(I:Inv X a J H s){q:Kc}(h:H q.1=Y (.tup [kV q.2.1,q.2.2])):∃b m i d,RelV q.2.2 b/\s.heap.get? q.1=Y { cls:=.type "tuple",dict:=O,data:=.seq #[d,b] m,slots:=i }/\(aN X.prog X.w).is q.2.1 d=L:=by
 obtain⟨_,o,j,nd,⟨oc,p,r,l⟩,g,f,n,e⟩:=(show bx X.prog X.w H s.heap q.1 (.tup [kV q.2.1,q.2.2]) from I.Gq _ _ h)
 have hd:=nd _ g;dsimp only at f e hd;subst f e hd;obtain⟨d,b,rfl,r1,r2⟩:=vals2 j;exact⟨b,n,l,d,r2,g,lD r1⟩
theorem qU{a:Yr}{J:St}{H:Hp}{s:GM}(I:Inv X a J H s):∀(ps:List Kc),(∀q∈ps,H q.1=Y (.tup [kV q.2.1,q.2.2])) →
  ∃f:List (Key×KM),Paired (λ(q:Kc) (d:Key×KM)=>q.2.1=d.1/\RelV q.2.2 d.2/\∃m e b,s.heap.get? q.1=Y { cls:=.type "tuple",dict:=O,data:=.seq #[b,d.2] m,slots:=e }/\(aN X.prog X.w).is d.1 b=L) ps f
 |[],_=>⟨[],.nil⟩
 |q :: ps,h=>by
  obtain⟨i,m,e,b,r,g,k⟩:=Ad I (h q Zu);obtain⟨f,p⟩:=qU I ps λx j=>h x (Zv _ j);exact⟨(q.2.1,i) :: f,.cons ⟨rfl,r,m,e,b,g,k⟩ p⟩
theorem oR{R:Kc->Key×KM->Prop}(e:∀q d,R q d->q.2.1=d.1/\RelV q.2.2 d.2):∀{ps:List Kc}{f:List (Key×KM)},Paired R ps f->∀{a:List (Key×V)}{b:List (Key×KM)},KV a b->KV (ps.foldl (λacc q=>putK acc q.2.1 q.2.2) a) (merged b f)
 |_,_,.nil,_,_,r=>r
 |_,_,.cons (a:=q) (b:=d) h t,a,b,r=>by
  obtain⟨e1,e2⟩:=e _ _ h;have:=oR e t (r.put d.1 e2);simp only[Y3,merged];rw[e1];exact this
theorem rH:∀(ps:List Kc)(a:List (Key×V)),(ps.foldl (λacc q=>putK acc q.2.1 q.2.2) a).length<=a.length+ps.length
 |[],a=>Zp _
 |q :: ps,a=>by
  have d:=rH ps (putK a q.2.1 q.2.2);have b:=fT a q.2.1 q.2.2;simp only[Y3,Zg];lia
theorem Paired.at_{α β:Type}{R:α->β->Prop}:∀{l:List α}{m:List β},Paired R l m->∀(i:Nat){a:α},l[i]?=Y a->∃b,m[i]?=Y b/\R a b
 |_,_,.nil,i,a,h=>by simp at h
 |_,_,.cons r t,0,a,h=>by simp at h;subst h;exact⟨_,rfl,r⟩
 |_,_,.cons r t,i+1,a,h=>by simpa using Paired.at_ t i (by simpa using h)
def t5(N:X.calm=L):di X (.type "dict") (λf H Q=>∃(p:KF)(ps:List Kc),f=[.ref p]/\H p=Y (.tup (ps.map λq=>V.ref q.1))/\(∀q∈ps,H q.1=Y (.tup [kV q.2.1,q.2.2])) ∧
  ∀l,H l=O->Q (.ref l) (upd H l (.dK (ps.foldl (λacc q=>putK acc q.2.1 q.2.2) [])))):=by
 intro o s J H f Z Q I D h;obtain⟨p,ps,rfl,M,G,q⟩:=h;obtain⟨u,rfl,E⟩:=D.one;cases E;obtain⟨t,r,j,nd,⟨oc,od,Ss,JZ⟩,g,y,n,x⟩:=(show bx X.prog X.w H s.heap p (.tup (ps.map λq=>V.ref q.1)) from I.Gq _ _ M)
 have hd:=nd _ g;dsimp only at y x hd;subst y x hd;obtain⟨d,pr⟩:=qU I ps G;have l1:r.length=ps.length:=by have:=j.length;simpa using this.symm
 have l2:d.length=ps.length:=pr.length.symm;rw[Zt]at t;have U:(List.range r.toArray.size).map (λi=>(d[i]?).getD (.inl 0,.none))=d:=by
  apply X0;intro i;rw[ZV];by_cases b:i<d.length
  ·rw[List.getElem?_range (by simp;lia),Zq b];simp[b]
  ·rw[JH (by simp;lia),JH (by exact ZJ b)];rfl
 refine DP.v8 (kv:=λi=>(d[i]?).getD (.inl 0,.none)) (I.ok.hd N) g (by simp;lia) (λi v e=>?_) λh' A z kp=>?_
 ·rw[List.getElem?_toArray]at e;have b:i<ps.length:=by have:=(ZW.mp e).1;lia
  obtain⟨w,e1,e2⟩:=Paired.at_ j i (a:=V.ref ps[i].1) (by rw[ZV,Zq b];rfl);rw[e]at e1;cases e1;obtain⟨kv,S,e4,_,m,C,F,R,P⟩:=Paired.at_ pr i (Zq b);rw[S];exact⟨ps[i].1,m,C,F,e2,R,P⟩
 ·rw[U]at z;have rel:=oR (λ_ _ h=>⟨h.1,h.2.1⟩) pr (.nil:KV [] []);have ln:=rH ps [];exact⟨.ref s.heap.objs.size,_,I.laid (t':=A) kp (Zp _) (pQ (by simp at ln;exact ZA ln t) (IJ.mpr (YK (Za I.big))) rel z),rfl,q _ (I.Gq.fresh (Zp _))⟩
end
end L2
end
section
namespace VS
open PySem PySem.Spec PyProof.Rows L2
noncomputable def qb:V1->Option (List (T×T))
 |[]=>Y []
 |.tup [k,v] :: r=>if iz k/\Gu v then (qb r).map ((k,v) :: ·) else O
 |_=>O
noncomputable def kR:Va->V0
 |[(_,.tup l)]=>(qb l).map λps=>(.fr,.dct 0 (ps.foldl (λd q=>dput d q.1 q.2) []))
 |_=>O
section
variable{G:Gx}{X:Cx}{e:Expr}{cs:GY}{p pos:Pos}
def Bl{t:T}{l:V1}{d:List (T×T)}(h:qb (t :: l)=Y d):∃k v a,t=.tup [k,v]/\iz k=L/\Gu v=L/\qb l=Y a/\d=(k,v) :: a:=by
 unfold qb at h;split at h
 ·rename_i b;cases b
 ·rename_i k v r b;cases b;split at h
  ·rename_i c;obtain⟨a,e1,e2⟩:=Zy.mp h;exact⟨k,v,a,rfl,c.1,c.2,e1,e2.symm⟩
  ·cases h
 ·cases h
theorem r9{H:Hp}:∀{ts:V1}{ws:List V}{Gs:X8}{a:List (T×T)},RpL G H ws ts Gs->qb ts=Y a →
  ∃ps:List Kc,ws=ps.map (λq=>V.ref q.1)/\(∀q∈ps,H q.1=Y (.tup [kV q.2.1,q.2.2]))/\Paired (λ(q:Kc) (x:T×T)=>x.1=aO q.2.1/\Rp G H q.2.2 x.2 []) ps a
 |[],_,_,a,r,h=>by
  cases r;cases (show Y ([]:List (T×T))=Y a from h);exact⟨[],rfl,λq m=>by simp at m,.nil⟩
 |t :: ts,_,_,a,r,h=>by
  obtain⟨k,v,i,rfl,n,l,o,rfl⟩:=Bl h;cases r with
  |cons r1 r2 =>
   obtain⟨ps,e1,e2,w⟩:=r9 r2 o;obtain⟨b,vs,Fs,rfl,hb,q⟩:=Rp.IP r1;cases q with
   |cons g q =>
    cases q with
    |cons f q =>
     cases q;obtain⟨j,rfl,s⟩:=du g n;have u:=f.Gu l;subst u;refine⟨(b,j,_) :: ps,by rw[e1];rfl,λx d=>?_,.cons ⟨s,f⟩ w⟩;rcases Zh.mp d with rfl | d
     ·exact hb
     ·exact e2 x d
theorem qO{H:Hp}:∀{ps:List Kc}{o:List (T×T)},Paired (λ(q:Kc) (x:T×T)=>x.1=aO q.2.1/\Rp G H q.2.2 x.2 []) ps o->∀{ns:List Key}{vs:List V}{ts:V1}{Fs:X8},ns.length=vs.length->RpL G H vs ts Fs->Fs.flatten=[] →
  ∃(m:List Key)(f:List V)(n:V1)(g:X8),ps.foldl (λacc q=>putK acc q.2.1 q.2.2) (ns.zip vs)=m.zip f/\o.foldl (λd q=>dput d q.1 q.2) ((ns.map aO).zip ts)=(m.map aO).zip n/\m.length=f.length/\RpL G H f n g/\g.flatten=[]
 |_,_,.nil,ns,vs,ts,Fs,i,r,l=>⟨ns,vs,ts,Fs,rfl,rfl,i,r,l⟩
 |_,_,.cons (a:=q) (b:=x) h t,ns,vs,ts,Fs,i,r,l=>by
  obtain⟨P,f,n,g,A,z,y,w,s⟩:=pO (kk:=q.2.1) h.2 i r;rw[l]at s;have j:g.flatten=[]:=List.sublist_nil.mp s;obtain⟨C,u,v,N,M,J,F,E,D⟩:=qO t z w j;refine⟨C,u,v,N,?_,?_,F,E,D⟩
  ·rw[Y3,A];exact M
  ·rw[Y3,h.1,y];exact J
def yF:fB G (λj H Q=>∃(p:KF)(ps:List Kc),j=[.ref p]/\H p=Y (.tup (ps.map λq=>V.ref q.1))/\(∀q∈ps,H q.1=Y (.tup [kV q.2.1,q.2.2])) ∧
  ∀l,H l=O->Q (.ref l) (upd H l (.dK (ps.foldl (λacc q=>putK acc q.2.1 q.2.2) [])))) kR:=by
 intro Z U E H l vs Fs m t Q A e k;unfold kR at e;split at e
 ·rename_i D ts;obtain⟨n,e1,e2⟩:=Zy.mp e;cases e2;obtain⟨v,F,rfl,rfl,r⟩:=(show RpL G H vs [.tup ts] Fs from A.rp).one;obtain⟨b,ws,Gs,rfl,hb,q⟩:=Rp.IP r;obtain⟨ps,rfl,y,pr⟩:=r9 q e1;refine⟨b,ps,rfl,hb,y,λl i=>?_⟩;obtain⟨ns,g,z,C,x,w,u,s,o⟩:=qO pr (ns:=[]) (vs:=[]) (ts:=[]) (Fs:=[]) M .nil M;have f:ps.foldl (λacc q=>putK acc q.2.1 q.2.2) []=ns.zip g:=x;have a:n.foldl (λd q=>dput d q.1 q.2) []=(ns.map aO).zip z:=w;rw[f];have h:aK H (upd H l (.dK (ns.zip g))):=aU i;refine k _ _ (l :: C.flatten) h (by rw[a];exact .dct aw u (s.same h)) ?_;rw[o];exact Fp.new (A.same.free i) (by simp) Fp.nil
 ·cases e
def vn:bootBuiltins ("dict" : Str)=Y (.type "dict"):=by decide +kernel
def As(a:X.mg "dict" = O)(f:Hr G X [e] cs)(b:Gl X "dict" := by rfl)(d:X.calm=L:=by rfl)(he:K1 e [] X:=by rfl):PV G X (.Call (.Name "dict" p) [e] [] pos) (eN kR cs) :=
 jb (t5 d) yF b a vn f (he:=he) (hpl:=rfl)
end
end VS
end
section
namespace L2
open PySem PySem.Spec PyProof.Rows
section
variable{X:Cx}{pins:Yr}{J:St}{H:Hp}{s:GM}
def pT{d:KF}{a:List (Key×V)}{o:Obj}(I:Inv X pins J H s)(e:H d=Y (.dK a))(g:s.heap.get? d=Y o):Inv X pins J (upd H d (.frz o (.dK a))) s :=
 l5 (t':=s.toks) I (by rw[e];exact True.intro) ⟨rfl,λ_ _=>rfl⟩ ⟨o,g⟩ ⟨g,I.Gq d _ e⟩
end
noncomputable def R8(d:KF)(o:Obj)(a:List (Key×V)):It :=
 ⟨λi H=>H d=Y (.frz o (.dK a))/\i<a.length,λi H x b=>b=H/\∃p,a[i]?=Y p/\x=kV p.1,λi H=>H d=Y (.frz o (.dK a))/\a.length<=i⟩
def zS{k:Key}{v:KM}(h:lB k v=L):RelV (kV k) v:=by
 rcases bI h with⟨i,t,rfl,rfl⟩ | ⟨x,t,rfl,rfl⟩
 ·exact⟨t,rfl⟩
 ·exact⟨t,rfl⟩
def oV{P:P3}{w:XAA}{a:List DictEntry}{m:List (Key×KM)}(r:Pairs (aN P w) a m){i:Nat}{e:DictEntry}(h:a[i]?=Y e):∃q,m[i]?=Y q/\lB q.1 e.key=L:=by
 induction r generalizing i with
 |nil=>simp at h
 |@cons l b a j f g _ d =>
  cases i with
  |zero =>
   simp at h;subst h;exact⟨b,rfl,f⟩
  |succ i=>simpa using d (by simpa using h)
def DU{l:List (Key×V)}{m:List (Key×KM)}(r:KV l m){i:Nat}{q:Key×KM}(h:m[i]?=Y q):∃p,l[i]?=Y p/\p.1=q.1:=by
 induction r generalizing i with
 |nil=>simp at h
 |@cons a f ps e d t b =>
  cases i with
  |zero=>simp at h;subst h;exact⟨a,rfl,d.1⟩
  |succ i=>simpa using b (by simpa using h)
section
variable{X:Cx}{tg:Expr}{pos:Pos}
def CK{P:P3}{w:XAA}{K:Wy}(d j:KF){U:List (Key×V)}{n:Array DictEntry}{t:Nat}{Q:List (Key×KM)}(f:KV U Q)(x:Pairs (aN P w) n.toList Q) :
  Turn P w K tg (R8 d (ST.dO n t) U) [j] j (λi h=>h.get? j=Y (ST.kO d i n.size t)) where
 mem:=by simp
 obj:=λi h st b hb=>by
  rw[Zk.mp hb];exact⟨_,st,λv z=>by cases z⟩
 keep:=λi h m st k=>k j (by simp) _ st
 item:=by
  intro X A hw C y i a s J H E I r st hg;subst A hw C;obtain⟨N,f1,f2,M,G,D⟩:=r j (by simp);refine ST.qW (I.ok.hd y) st (show s.heap.get? d=Y (ST.dO n t) from(I.Gq d _ hg.1).1) (λe l m sb g=>?_) λR=>?_
  ·have I1:Inv X a J H { s with heap:=m }:=I.turned (t':=s.toks) (λb o hb e=>(sb.2 b hb).trans e) N f1 M G D;rw[← ZC]at l;obtain⟨q,u,S⟩:=oV x l;obtain⟨p,Z,hb⟩:=DU f u;exact⟨_,rfl,rB (s:={ s with heap:=m }) g rfl rfl rfl ⟨kV p.1,H,I1,by rw[hb];exact zS S,⟨rfl,p,Z,rfl⟩,g,λb hb=>(r b hb).1⟩⟩
  ·exfalso;rw[← ZC,YU,x.length,← XC f]at R;exact absurd hg.2 (by lia)
 done:=by
  intro X A hw C y i a s J H E I r st hg;subst A hw C;obtain⟨N,f1,f2,M,G,D⟩:=r j (by simp);refine ST.qW (I.ok.hd y) st (show s.heap.get? d=Y (ST.dO n t) from(I.Gq d _ hg.1).1) (λe l m sb g=>?_) λR m kp=>⟨rfl,I.turned (t':=s.toks) (λb o hb e=>kp b o hb e) N f1 M G D⟩
  exfalso;rw[← ZC]at l;obtain⟨q,u,S⟩:=oV x l;have:=(ZW.mp u).1;have h2:=hg.2;rw[XC f]at h2;lia
 self:=λ_ _ _ _ _ st hQ=>WO ⟨_,st,rfl⟩ F.slot_dict_keyiterator_iter (Y8 F.slot_dict_keyiterator_iter ⟨_,st,rfl⟩ F.entry_dict_keyiterator_iter (show On _ _ (ret (.ref j)) _ _ _ from Zl ⟨_,rfl, "dict_keyiterator",_,⟨_,st,rfl⟩,XW.lookup,hQ⟩) (F.args_dict_keyiterator_iter_1 _))
noncomputable def VJ(e:TE):TI:=λJ H R=>e J H λx b=>∃d a,x=.ref d/\b d=Y (.dK a)/\∀o,R (R8 d o a) (upd b d (.frz o (.dK a)))
def EA{l:Expr}{i:TE}(m:PE X l i):PI X tg l (VJ i):=by
 intro a s J H R I h;refine thn (m a s J H _ I h) λv s1 ⟨x,D,f,r1,j⟩=>?_;obtain⟨d,w,ex,e,q⟩:=j;subst ex;cases r1;obtain⟨z,y,t,rel,o,A,C,g,ex,hd,_,n,u⟩:=qS f.Gq e;have p:=yk ex hd;subst p;refine ST.yu y g ?_;refine⟨s1.heap.objs.size,[s1.heap.objs.size],_,_,_,rfl,(pT f e g).kept (t':=s1.toks) λb o e=>Zn _ e,CK d _ rel n,ZY _ M,λb hb=>?_,q _⟩;have r:b=s1.heap.objs.size:=by simpa using hb
 subst r;exact(pT f e g).LC (Zp _) ((pT f e g).Gq.fresh (Zp _))
end
end L2
end
section
namespace L2
def DO{α:Type}{n:Nat}{b:List α}(d:b.length=n+1):∃a t,b=a :: t/\t.length=n:=by
 obtain⟨a,t,e⟩:=List.exists_cons_of_length_eq_add_one d;subst e;exact⟨a,t,rfl,Nat.succ.inj d⟩
def vD{α:Type}{b:List α}(d:b.length=1):∃a,b=[a]:=List.length_eq_one_iff.mp d
def dN{α:Type}{d:List α}(f:d.length=2):∃a b,d=[a,b]:=by
 obtain⟨a,t,rfl,e⟩:=DO f;obtain⟨b,rfl⟩:=vD e;exact⟨a,b,rfl⟩
def tQ{α:Type}{d:List α}(f:d.length=3):∃a b c,d=[a,b,c]:=by
 obtain⟨a,t,rfl,e⟩:=DO f;obtain⟨b,c,rfl⟩:=dN e;exact⟨a,b,c,rfl⟩
def FS{α:Type}{e:List α}(g:e.length=4):∃a b c d,e=[a,b,c,d]:=by
 obtain⟨a,t,rfl,f⟩:=DO g;obtain⟨b,c,d,rfl⟩:=tQ f;exact⟨a,b,c,d,rfl⟩
end L2
end
section
namespace VS
open PySem PySem.Spec PyProof.Rows L2
inductive Res where | ok (v:Val) | ex (x:Str)
inductive R5 where | ok (o:Out) | ex (x:Str) (U:VS.Env)
noncomputable abbrev ExX:=VS.Env->Option Res
noncomputable abbrev SxX:=VS.Env->Option R5
end VS
end
section
namespace VS
open PySem PySem.Spec PyProof.Rows L2
section
variable{G:Gx}{X:Cx}{a b:Expr}{ca cb:Ex}{pos apos jj:Pos}
noncomputable def nI:Val->Val->V0
 | (_,.str x),(_,.str y)=>Y (.fr,.bl (!Txt.contains (sx y) (sx x)))
 |_,_=>O
noncomputable def Ez(n:Bool):V->V->Hp->VK->Prop:=λx y H Q=>∃u w,x=.str u/\y=.str w/\Q (.bl (n != Txt.contains w u)) H
def AF:OpR X (UF .NotIn) (Ez L):=by
 intro d s J H x y v u Q I f e h;obtain⟨z,g,rfl,rfl,q⟩:=h;obtain⟨t,rfl⟩:=f;obtain⟨i,rfl⟩:=e;exact SB.notContains (show EP X d J Q _ s from⟨.bl _,H,I,rfl,by simpa using q⟩)
def Am:eV G (Ez L) nI:=by
 intro Z U h H x y u w j i m t Q d e k;obtain⟨g,x⟩:=x;obtain⟨f,y⟩:=y;obtain⟨same,r1,r2,f1,f2,nd⟩:=d;unfold nI at e;split at e
 ·rename_i e1 e2;cases e1;cases e2;cases e;exact⟨_,_,r1.str_inv.1,r2.str_inv.1,by rw[Bool.true_bne];exact bM k (.bl _)⟩
 ·cases e
def sZ:Tells nI:=by
 intro x y m t e;unfold nI at e;split at e
 ·cases e;exact⟨_,rfl⟩
 ·cases e
end
end VS
end
section
namespace TS
open PySem PySem.Spec PyProof.Rows
variable{prog:P3}{w:XAA}{A:Re}{E:Yt}{s:GM}
def v7{f:Vy}(o:∀v∈f,∃x t,v=Value.str x t){d:Array PP}(g:d.Perm (pairsOf f))(p:SortedToK strKind d (pairsOf f).size):((d.map (·.2)).toList.map strOf).Pairwise (λa b=>¬b.cps.toList<a.cps.toList):=by
 obtain⟨n,m⟩:=kJ g;rw[WZ,YG];intro i j r l u;have key:∀i (h:i<(d.map (·.2)).toList.length),KK strKind d i=(strOf (d.map (·.2)).toList[i]).cps.toList:=λi h=>by
  have e:d[i]?=Y ((d.map (·.2)).toList[i],(d.map (·.2)).toList[i]):=by
   rw[← ZC,← m,ZV,Zq h];rfl
  obtain⟨x,t,ex⟩:=o _ (n.mem_iff.mp (Yy h));unfold KK;rw[e];rw[ex];rfl
 have q:=p i j (ZD u) (by rw[← g.size_eq];simpa using l);rw[key i r,key j l]at q;exact of_decide_eq_false q
def pZ{x:KM}{Q:Yt}(z:∀(q:Re)(C:Yt),q.handled=A.handled->On (IR prog w) q (collect x) (λf s1=>(∀v∈f,∃x t,v=Value.str x t)/\f.length<64/\∀(out:Vy)(i:UV)(e:Nat),out.Perm f->(out.map strOf).Pairwise (λa b=>¬b.cps.toList<a.cps.toList)->(∀b o,s1.heap.get? b=Y o->i.get? b=Y o)->i.get? s1.heap.objs.size=Y (seqObj "list" out.toArray e)->Q (.ref s1.heap.objs.size) { s1 with heap:=i }) C s) :
  On (IR prog w) A (call (.builtin "sorted") [x]) Q E s:=by
 refine Calls.call_function_entry kind_sorted plain_sorted entry_sorted (args_sorted1 _) (show On _ _ (Builtin.«sorted» _) _ _ _ from ?_);unfold Builtin.«sorted»;refine Zx (m:=checkCount "sorted" 1 1 _) (Zl (Zx (YB (z A.in1 (λ_ _=>False) M) ?_ λ_ _ e=>e.elim)));rintro d s1 ⟨g,y,h⟩;refine Zx (wpAny_newList ?_ (by show d.length<=KB;rw[X5];omega));have l:(s1.heap.push (seqObj "list" d.toArray 0)).get? s1.heap.objs.size=Y (seqObj "list" d.toArray 0):=ZY _ M;show On _ _ _ _ _ { s1 with heap:=s1.heap.push (seqObj "list" d.toArray 0) };refine Zx (YN (Y8 slot_list_sort ⟨_,l,rfl⟩ entry_list_sort (list_sort_treeK strKind_oneLt l (strsAre_map _ g).keysOf (λF D rest e=>keyKind_strs (by rw[← e];exact strsAre_map _ g)) y λj p u=>⟨_,rfl,?_⟩) (args_list_sort _)));obtain⟨e,r⟩:=sortedHeap_at (out:=(arrOf j).map (·.2)) l;exact Zl ⟨_,rfl,h ((arrOf j).map (·.2)).toList _ e (kJ p).1 (v7 g p u) (λb o n=>by
  have hb:=ZS n;show (sortedHeap (s1.heap.push (seqObj "list" d.toArray 0)) s1.heap.objs.size d ((arrOf j).map (·.2))).get? b=Y o;rw[sortedHeap_old (Za hb) (by rw[size_push'];exact Yo hb),Xk _ _ _ (Za hb)];exact n) r⟩
end TS
namespace L2
open PySem PySem.Spec PyProof.Rows TS
section
variable{X:Cx}
def jz(hc:X.calm=L):di X (.builtin "sorted") (λE H Q=>∃p,∃(d:List Str)(m:List V),E=[.ref p]/\d.length<64/\d.length=m.length/\H p=Y (.dK ((d.map Sum.inr).zip m)) ∧
  ∀(l:KF)(D:List Str),H l=O->D.Perm d->D.Pairwise (λa b=>¬b.cps.toList<a.cps.toList)->Q (.ref l) (upd H l (.lst (D.map V.str)))):=by
 intro f s J H E us Q I R h;obtain⟨p,d,m,rfl,Tu,hl,hq,q⟩:=h;obtain⟨u,rfl,S⟩:=R.one;cases S;obtain⟨Z,hS,z,rel,C⟩:=qS I.Gq hq;obtain⟨ep,C⟩:=C.dictAt;have WH:z.length=d.length:=by
  have:=rel.length;rw[YX,Zt]at this;lia
 have V7:∀i:Nat,(z[i]?).map (λx=>x.1)=(d[i]?).map (Sum.inr:Str->Key):=λi=>by
  have G:((z.map (·.1)))[i]?=(d.map (Sum.inr:Str->Key))[i]?:=by
   rw[← rel.keys];rw[Vb (by rw[Zt];exact XQ hl)]
  rw[ZV,ZV]at G;exact G
 refine TS.pZ λA' E' hA=>PySem.W.kdu_collect (PySem.W.kdl_dict hS) (hA.trans (I.ok.hd hc)) C (by rw[YX,Zt]at Z;lia) λM F acc kp N=>?_;have P:Inv X f J H { s with heap:=M,toks:=F }:=I.kept kp;have r:acc.toList.length=d.length:=by rw[I0,N.1,WH]
 have each:∀i v,acc.toList[i]?=Y v->∃x t,v=Value.str x t/\d[i]?=Y x:=λi v g=>by
  rw[ZC]at g;obtain⟨k,x,e1,e2⟩:=N.2 i v g;have j:=V7 i;rw[e1]at j;cases A:d[i]? with
  |none=>rw[A]at j;cases j
  |some y =>
   rw[A]at j;have e5:k=Sum.inr y:=Zj j;subst e5;obtain⟨t,rfl⟩:=Ve (show Value.isStrOf y v=L from e2);exact⟨y,t,rfl,A⟩
 have g:∀v∈acc.toList,∃x t,v=Value.str x t:=λv o=>by
  obtain⟨i,hi,e⟩:=Ye o;obtain⟨x,t,e1,_⟩:=each i v (by rw[Zq hi,e]);exact⟨x,t,e1⟩
 have es:acc.toList.map strOf=d:=by
  apply X0;intro i;rw[ZV];cases e:acc.toList[i]? with
  |none =>
   have:acc.toList.length<=i:=YU.mp e;rw[YU.mpr (by lia)];rfl
  |some v =>
   obtain⟨x,t,rfl,e1⟩:=each i v e;rw[e1];rfl
 refine⟨g,by omega,λout h2 e n U GH he=>?_⟩;have MA:∀v∈out,∃x t,v=Value.str x t:=λv o=>g v (n.mem_iff.mp o);have VL:((out.map strOf).map V.str).length<=sizeLine:=by rw[Zt,Zt,n.length_eq,r,X5];omega
 exact⟨.ref M.objs.size,_,P.laid (t':=F) GH (Zp _) (show bx X.prog X.w _ h2 _ (.lst ((out.map strOf).map V.str)) from⟨VL,out,e,md MA,he⟩),rfl,q _ _ (P.Gq.fresh (Zp _)) (by rw[← es];exact n.map _) U⟩
end
end L2
namespace VS
open PySem PySem.Spec PyProof.Rows L2
section
variable{G:Gx}{X:Cx}{e:Expr}{cs:GY}{p pos:Pos}
noncomputable def gs:Va->V0
 |[(_,.dct 0 l)]=>(strs? (l.map (·.1))).bind λa=>if a.length<64/\a.all Na=L then Y (.fr,.lst ((cK a).map .str)) else O
 |_=>O
def xS:fB G (λq H Q=>∃p,∃(d:List Str)(f:List V),q=[.ref p]/\d.length<64/\d.length=f.length/\H p=Y (.dK ((d.map Sum.inr).zip f)) ∧
  ∀(l:KF)(h:List Str),H l=O->h.Perm d->h.Pairwise (λa b=>¬b.cps.toList<a.cps.toList)->Q (.ref l) (upd H l (.lst (h.map V.str)))) gs:=by
 intro Z U J H l f D m t Q A e k;unfold gs at e;split at e
 ·rename_i E x;obtain⟨d,e1,e2⟩:=Zz.mp e;split at e2
  ·rename_i hb;cases e2;obtain⟨v,F,rfl,rfl,r⟩:=(show RpL G H f [.dct 0 x] D from A.rp).one;obtain⟨a,g,o,i,Gs,rfl,rfl,y,j,rfl,u⟩:=d5 r;have C:g.length=i.length:=by rw[j,u.len.1]
   have z:((g.map aO).zip i).map (·.1)=g.map aO:=Vb (by rw[Zt];exact XQ C);rw[z]at e1;have n:=keys_str e1;refine⟨a,d.map sx,o,rfl,by rw[Zt];exact hb.1,?_,by rw[← n];exact y,rh k A.same λs w=>Cy (YL.mp hb.2 s w)⟩;rw[← j,n,Zt,Zt,Zt]
  ·cases e2
 ·cases e
def uj(a:X.mg "sorted" = O)(f:Hr G X [e] cs)(b:Gl X "sorted" := by rfl)(g:X.K=G.K:=by rfl)(d:X.calm=L:=by rfl)(he:K1 e [] X:=by rfl):PV G X (.Call (.Name "sorted" p) [e] [] pos) (eN gs cs) :=
 mS (jz d) xS b a oy f (he:=he) (hpl:=rfl)
end
@[simp] noncomputable def N4:T->Bool
 |.bl true=>L
 |_=>B
mutual
@[simp] noncomputable def fz:T->Bool
 |.tup l=>bp l
 |.lst l=>bp l
 |.dct _ l=>oO l
 |.obj _ l=>gp l
 |_=>L
@[simp] noncomputable def bp:V1->Bool
 |[]=>L
 |t :: r=>fz t&&bp r
@[simp] noncomputable def oO:List (T×T)->Bool
 |[]=>L
 | (_,v) :: r=>fz v&&oO r
@[simp] noncomputable def gp:List (Nat×T)->Bool
 |[]=>L
 | (n,v) :: r=>(fz v && !(n==0&&N4 v))&&gp r
end
theorem gT:∀{b:V1}{a:V1},b.length=a.length->oO (b.zip a)=L->bp a=L
 |[],[],_,_=>rfl
 |_ :: _,[],h,_=>by simp at h
 |[],_ :: _,h,_=>by simp at h
 |k :: b,t :: a,h,e=>by
  rw[ZO,oO,ZU]at e;rw[bp,ZU];exact⟨e.1,gT (by simpa using h) e.2⟩
theorem gK:∀{b:Vt}{a:V1},b.length=a.length->gp (b.zip a)=L->bp a=L
 |[],[],_,_=>rfl
 |_ :: _,[],h,_=>by simp at h
 |[],_ :: _,h,_=>by simp at h
 |k :: b,t :: a,h,e=>by
  rw[ZO,gp,ZU,ZU]at e;rw[bp,ZU];exact⟨e.1.1,gK (by simpa using h) e.2⟩
section
variable{G:Gx}{H:Hp}
theorem Rp.at{v:V}{t:T}{F:Wf}(m:Me)(r:Rp G H v t F):fz t=L->Rp (G.at m) H v t F :=
 Rp.rec (G:=G) (H:=H) (motive_1:=λv t F _=>fz t=L->Rp (G.at m) H v t F) (motive_2:=λvs e Fs _=>bp e=L->RpL (G.at m) H vs e Fs)
  (λ_=>.non) (λb _=>.bl b) (λi _=>.int i) (λs h _=>.str s h) (λh _=>.scr h) (λh _ d f=>.tup h (d (by simpa using f))) (λh _ d f=>.lst h (d (by simpa using f)))
  (λh l q d f=>.dct h l (d (gT (by rw[Zt,l];exact q.len.1) (by simpa using f)))) (λh l q d f=>.dctT h l (d (gT (by rw[Zt,l];exact q.len.1) (by simpa using f))))
  (λh l n q d f=>.dctN h l n (d (gT (by rw[Zt,l];exact q.len.1) (by simpa using f)))) (λh l q d f=>.dctZ h l (d (gT (by rw[Zt,l];exact q.len.1) (by simpa using f)))) (λh o _=>.exc h o)
  (λ{c a w b u vs e Fs} h l p q d f=>by
   rw[fz,gp,ZU]at f;have hb:b=B:=by
    cases b with
    |false=>rfl
    |true=>simp at f
   refine .ins h l (λz=>?_) (d (gK (by rw[l];exact q.len.1) f.2));rw[hb]at z;cases z)
  (λ_ _ _ f=>by simp[fz,gp,N4]at f)
  (λ_=>.nil) (λ_ _ j g f=>by
   rw[bp,ZU]at f;exact .cons (j f.1) (g f.2)) r
theorem RpL.at(m:Me):∀{vs:List V}{a:V1}{Fs:X8},RpL G H vs a Fs->bp a=L->RpL (G.at m) H vs a Fs
 |_,_,_,.nil,_=>.nil
 |_,_,_,.cons r q,f=>by
  rw[bp,ZU]at f;exact .cons (r.at m f.1) (RpL.at m q f.2)
mutual
theorem mZ:∀t:T,Gu t=L->fz t=L
 |.non,_=>rfl
 |.bl _,_=>rfl
 |.int _,_=>rfl
 |.str _,_=>rfl
 |.scr _,_=>rfl
 |.tup l,h=>by
  rw[fz];exact uL l (by simpa using h)
 |.lst _,h=>by simp at h
 |.dct _ _,h=>by simp at h
 |.obj _ _,h=>by simp at h
theorem uL:∀l:V1,dm l=L->bp l=L
 |[],_=>rfl
 |t :: l,h=>by
  rw[dm,ZU]at h;rw[bp,ZU];exact⟨mZ t h.1,uL l h.2⟩
end
end
noncomputable def vY(k:Nat):T->Option T
 |.obj (_+1) (_ :: fs)=>(fs.findIdx? λp=>p.1==k).bind λi=>(fs[i]?).map (·.2)
 |_=>O
noncomputable def bC(k:Nat)(a:Ex):Ex:=λU=>(a U).bind λx=>(vY k x.2).map λt=>sub x.1 t
section
variable{G:Gx}{X:Cx}{a e o:Expr}{ca ce:Ex}{k i:Nat}{f x:Str}{pos pos' p1:Pos}
def w_fld(Jq:kF G)(F:HW G X.K k f)(ha:PV G X a ca)(C:XAB a f X.env (eval a X.env)=eval a X.env:=by exact rfl):PV G X (.Attribute a f pos) (bC k ca) :=
 PE.weak (yh ha C) λJ H Q hq=>by
  obtain⟨Z,U,m,t,s,e,kq⟩:=hq;unfold bC at e;obtain⟨⟨mx,y⟩,ea,e1⟩:=Zz.mp e;obtain⟨z,d,e2⟩:=Zy.mp e1;refine⟨Z,U,mx,y,s,ea,λv H' F' sm r1 f1=>?_⟩;unfold vY at d;split at d
  ·rename_i c q0 fs w;dsimp only at w;subst w;obtain⟨j,E,e3⟩:=Zz.mp d;obtain⟨p,D,e4⟩:=Zy.mp e3;subst e4;obtain⟨c',a,dx,b,ns,vs,q,Fs,ec,rfl,rfl,rfl,rfl,hA,A,C,r⟩:=gg r1;cases ec;have Kr:ns.length=q.length:=A.trans r.len.1;obtain⟨l,g,N,M,g3,g4⟩:=j9 (λn=>n==k) Kr E;have ek:l=k:=by simpa using g3
   subst ek;have ep:p=(l,g):=by
    have:(ns.zip q)[j]?=Y (l,g):=by rw[Xz];exact⟨N,M⟩
    rw[this]at D;exact(Zj D).symm
   subst ep;obtain⟨u,Fi,S,R,h⟩:=r.get j M;have P:=qP (G:=G) (c:=c+1) Jq A E N S;rw[F.nm c]at P;refine⟨a,_,dx,_,u,rfl,hA,F.cl c,F.no c,P,?_⟩;have fp:=((f1.sub (Yh _ _)).sub (bZ R)).up h;unfold VS.sub at e2;rw[e2]at fp;have et:g=t:=congrArg Prod.snd e2;rw[et]at h;exact kq u H' Fi sm h fp
  ·cases d
noncomputable def rz(i k:Nat)(e:Ex)(U:VS.Env):Option Out:=(e U).bind λv=>match U[i]? with
 |some (some (.ow (.obj (c+1) (q :: fs))))=>(fit v).bind λt=>if fs.length<900/\(fs.all λp=>!(p.1==k))=L then Y (.nx (U.set i (Y (.ow (.obj (c+1) (q :: (fs++[(k,t)]))))))) else O
 |_=>O
theorem qT{g:Nat->Str}{k:Nat}{v:V}(n:∀k m:Nat,g k=g m->k=m):∀{b:Vt}{d:List V}{j:V1},b.length=d.length->b.length=j.length->((b.zip j).all λp=>!(p.1==k))=L->iy (g k) v ((b.map g).zip d)=((b++[k]).map g).zip (d++[v])
 |[],[],_,_,_,_=>rfl
 |[],_ :: _,_,h,_,_=>by simp at h
 |_ :: _,[],_,h,_,_=>by simp at h
 |_ :: _,_ :: _,[],_,h,_=>by simp at h
 |q :: b,t :: d,u :: j,s,r,l=>by
  rw[ZO,Wx,ZU]at l;have ne:g q≠g k:=λz=>by
   have:=n _ _ z;subst this;simp at l
  rw[Ze,ZO,iy,Zm ne,qT n (by simpa using s) (by simpa using r) l.2];rfl
def sO(i k:Nat)(Jq:kF G)(F:HW G X.K k f)(he:PV G X e ce)(hN:X.N[i]?=Y x)(hv:Ic X.env.scope x)(hd:K3 x)(C:K4 x)(hs:swapsWith e (Y (.Attribute (.Name x p1) f pos')) pos.line X.env=pure B):PSV G X (.Assign [.Attribute (.Name x p1) f pos'] e pos) (rz i k ce) :=
 PS.weak (CC (dP hN hv hd C) he hs) λD J H hq=>by
  obtain⟨Z,U,out,s,e,kq⟩:=hq;unfold rz at e;obtain⟨⟨mv,h⟩,ev,e⟩:=Zz.mp e;split at e
  ·rename_i c q0 fs w;obtain⟨t,et,e⟩:=Zz.mp e;have em:=km et;cases em;split at e
   ·rename_i l;cases e;obtain⟨v,S,g2⟩:=s.rp _ _ w;refine⟨Z,U,.fr,h,s,ev,λy P R q ry n=>⟨v,S,?_⟩⟩;obtain⟨c',a,M,b,ns,p,j,Fs,ec,rfl,rfl,rfl,eF,E,A,hb,r⟩:=gg g2;cases ec;have nd:=s.nd i _ w;rw[eF]at nd;have Q:=ZZ.mp nd;have GI:P a=Y (.ins (G.ct (c+1)).1 M ((ns.map (G.ct (c+1)).2).zip p)):=q a _ E;have u:Gw (P a):=by rw[GI];exact True.intro
    have Kr:ns.length=j.length:=A.trans r.len.1;have na:a∉R:=λz=>by rw[n.2 a z]at E;cases E
    have ln:((ns.map (G.ct (c+1)).2).zip p).length<1000:=by
     have:=l.1;rw[YX]at this ⊢;rw[Zt];lia
    refine⟨a,_,M,_,rfl,GI,F.cl c,F.no c,ln,?_⟩;have ep:=qT (g:=(G.ct (c+1)).2) (k:=k) (v:=y) (Jq (c+1)) A Kr l.2;rw[F.nm c]at ep;rw[ep];have off:∀d∈Fs.flatten,d∉R:=λd hb hw=>Gw.oe (r.GG d hb) (n.2 d hw);have g:Chg G H (.ref a) (Z i) (.obj (c+1) ((0,.bl b) :: (ns.zip j++[(k,h)]))) (upd P a (.ins (G.ct (c+1)).1 M (((ns++[k]).map (G.ct (c+1)).2).zip (p++[y])))) (a :: (Fs++[R]).flatten):=by
     rw[eF,show ns.zip j++[(k,h)]=(ns++[k]).zip (j++[h]) from by rw[List.zip_append Kr];rfl];refine Chg.upd q Zu u (.ins aw (by simp[A]) hb (((r.same q).off u Q.1).append (.cons (ry.keep (Kept.upd (.inl u)) λd hb o ho=>by rw[aF (λz=>na (by rw[← z];exact hb))];exact ho) .nil))) ?_ ?_
     ·rw[Yw];refine ZZ.mpr ⟨λm=>?_,ZM.mpr ⟨Q.2,by simpa using n.1,λb hb c l z=>?_⟩⟩
      ·rcases Zi.mp m with m | m
       ·exact Q.1 m
       ·exact na (by simpa using m)
      ·subst z;exact off b hb (by simpa using l)
     ·intro d hb;rcases Zh.mp hb with rfl | hb
      ·exact .inl Zu
      ·rw[Yw]at hb;rcases Zi.mp hb with hb | hb
       ·exact .inl (Zv _ hb)
       ·exact .inr (n.2 d (by simpa using hb))
    obtain⟨z1,z2⟩:=s.mut w S g;exact kq _ J _ z1 z2
   ·cases e
  ·cases e
end
noncomputable abbrev sA:=List (Nat×T)
noncomputable def Jk(a:KF):Me:=λk=>if k=0 then Y (.ref a) else O
noncomputable abbrev Mt:=sA->V1->Option (sA×T)
noncomputable def G1:List Bool->X8->Wf
 |b :: bs,F :: a=>(if b then F else [])++G1 bs a
 |_,_=>[]
noncomputable def Jd:List Bool->X8->Wf
 |b :: bs,F :: a=>(if b then [] else F)++Jd bs a
 |_,_=>[]
theorem fS:∀{mv:List Bool}{e:X8}{j:Nat}{F:Wf},mv[j]?=Y L->e[j]?=Y F->F.Sublist (G1 mv e)
 |[],_,_,_,h,_=>by simp at h
 |_ :: _,[],_,_,_,h=>by simp at h
 |b :: bs,f :: e,0,F,d,a=>by
  simp at d a;subst d a;rw[G1,Zo M];exact WY _ _
 |b :: bs,f :: e,j+1,F,d,a=>by
  rw[G1];exact(fS (by simpa using d) (by simpa using a)).trans (Y9 _ _)
theorem p8:∀{mv:List Bool}{e:X8}{j:Nat}{F:Wf},mv[j]?=Y B->e[j]?=Y F->F.Sublist (Jd mv e)
 |[],_,_,_,h,_=>by simp at h
 |_ :: _,[],_,_,_,h=>by simp at h
 |b :: bs,f :: e,0,F,d,a=>by
  simp at d a;subst d a;rw[Jd];exact WY _ _
 |b :: bs,f :: e,j+1,F,d,a=>by
  rw[Jd];exact(p8 (by simpa using d) (by simpa using a)).trans (Y9 _ _)
theorem uw:∀{mv:List Bool}{d:X8}{i j:Nat}{F m:Wf},(G1 mv d).Nodup->mv[i]?=Y L->mv[j]?=Y L->d[i]?=Y F->d[j]?=Y m->i≠j->∀a∈F,a∉m
 |[],_,_,_,_,_,_,h,_,_,_,_=>by simp at h
 |_ :: _,[],_,_,_,_,_,_,_,h,_,_=>by simp at h
 |b :: bs,q :: d,0,0,F,m,_,_,_,_,_,n=>absurd M n
 |b :: bs,q :: d,0,j+1,F,m,nd,l,g,f,e,n=>λa o p=>by
  simp at l f;subst l f;rw[G1,Zo M,ZM]at nd;exact nd.2.2 a o a ((fS (by simpa using g) (by simpa using e)).subset p) M
 |b :: bs,q :: d,i+1,0,F,m,nd,l,g,f,e,n=>λa o p=>by
  simp at g e;subst g e;rw[G1,Zo M,ZM]at nd;exact nd.2.2 a p a ((fS (by simpa using l) (by simpa using f)).subset o) M
 |b :: bs,q :: d,i+1,j+1,F,m,nd,l,g,f,e,n=>by
  rw[G1,ZM]at nd;exact uw nd.2.1 (by simpa using l) (by simpa using g) (by simpa using f) (by simpa using e) (by lia)
theorem vk:∀{mv:List Bool}{d:X8}{a:KF},a∈G1 mv d->∃(j:Nat)(F:Wf),mv[j]?=Y L/\d[j]?=Y F/\a∈F
 |[],_,_,h=>by simp[G1]at h
 |_ :: _,[],_,h=>by simp[G1]at h
 |b :: bs,i :: d,a,h=>by
  rw[G1]at h;rcases Zi.mp h with h | h
  ·cases b with
   |true=>exact⟨0,i,rfl,rfl,h⟩
   |false=>simp at h
  ·obtain⟨j,F,g,f,e⟩:=vk h;exact⟨j+1,F,by simpa using g,by simpa using f,e⟩
noncomputable def iG(b:Bool)(t:T):Vf:=Y (if b then .ow t else .pu t)
noncomputable def zt(c:Nat)(U:VS.Env):Option sA:=match (U[(0:Nat)]?:Option (Vf)) with
 |some (some (.ow (.obj a ((0,.bl true) :: fs))))=>if a=c+1 then Y fs else O
 |_=>O
noncomputable def Jj(c d f:Nat)(e:List Bool)(body:Sx):Mt:=λfs a=>if a.length+1=d/\e.length=a.length then
 (body ((Y (.ow (.obj (c+1) ((0,.bl L) :: fs))) :: List.zipWith iG e a)++List.replicate (f-d) O)).bind λo=>match o with
  |.rt v U=>(zt c U).bind λb=>if Gu v.2 then Y (b,v.2) else O
  |.nx U=>(zt c U).map λb=>(b,.non)
  |_=>O else O
noncomputable def Lr(G:Gx)(c:Nat)(d:List Bool)(g:Mt):Sp:=λl H Q _=>∃(a:KF)(i:List V)(fs:sA)(f:V1)(F:Wf)(e:X8)(j:sA)(x:T),l=.ref a :: i/\Rp (G.at (Jk a)) H (.ref a) (.obj (c+1) ((0,.bl L) :: fs)) F ∧
 RpL (G.at (Jk a)) H i f e/\d.length=f.length/\(F++G1 d e).Nodup/\(∀b∈F++G1 d e,b∉Jd d e)/\g fs f=Y (j,x) ∧
 ∀u h m,Chg (G.at (Jk a)) H (.ref a) (F++G1 d e) (.obj (c+1) ((0,.bl L) :: j)) h m->Rp (G.at (Jk a)) h u x []->Q u h
section
variable{G:Gx}{H:Hp}
def qX{v:V}{D:List V}{t:T}{d:V1}{F:Wf}{f:X8}{mv:List Bool}(r0:Rp G H v t F)(r:RpL G H D d f)(hm:mv.length=d.length)(s:(F++G1 mv f).Nodup)(U:∀b∈F++G1 mv f,b∉Jd mv f)(n X:Nat)(hn:X=D.length+1) :
  SR G (λi=>(F :: f).getD i []) ((Y (.ow t) :: List.zipWith iG mv d)++List.replicate (n-(d.length+1)) O) ((v :: D).map Y++List.replicate (n-X) O) H ∧
  ∀a,bG (λi=>(F :: f).getD i []) ((Y (.ow t) :: List.zipWith iG mv d)++List.replicate (n-(d.length+1)) O) a->a∈F++G1 mv f:=by
 subst hn;have hl:=r.len;have J:(List.zipWith iG mv d).length=d.length:=by rw[List.length_zipWith,hm,Nat.min_self]
 have back:∀{i:Nat}{c:Cell},((Y (Cell.ow t) :: List.zipWith iG mv d)++List.replicate (n-(d.length+1)) O)[i]?=Y (Y c)->(i=0/\c=.ow t)\/∃(j:Nat)(b:Bool)(u:T),i=j+1/\mv[j]?=Y b/\d[j]?=Y u/\c=(if b then .ow u else .pu u):=λ{i c} h=>by
  cases i with
  |zero=>exact .inl ⟨rfl,(Zj (Zj h)).symm⟩
  |succ j =>
   rw[Xm,WV]at h;by_cases E:j<d.length
   ·rw[KQ (by rw[J];exact E),List.getElem?_zipWith]at h;have e1:mv[j]?=Y mv[j]:=Zq (by rw[hm];exact E);have e2:d[j]?=Y d[j]:=Zq E;rw[e1,e2]at h;exact .inr ⟨j,_,_,rfl,e1,e2,(Zj (Zj h)).symm⟩
   ·rw[Ys (by rw[J];exact ZJ E),Y1]at h;split at h<;>cases h
 have fp:∀{j:Nat}{u:T},d[j]?=Y u->∃w q,D[j]?=Y w/\f[j]?=Y q/\Rp G H w u q:=λ{j u} h=>r.get j h;have ow:∀{i:Nat}{u:T},((Y (Cell.ow t) :: List.zipWith iG mv d)++List.replicate (n-(d.length+1)) O)[i]?=Y (Y (.ow u))->i=0\/∃j:Nat,i=j+1/\mv[j]?=Y L/\d[j]?=Y u:=λ{i u} h=>by
  rcases back h with⟨o,g⟩ | ⟨j,b,S,o,g,m,x⟩
  ·exact .inl o
  ·cases b with
   |true=>cases x;exact .inr ⟨j,o,g,m⟩
   |false=>cases x
 rw[ZM]at s;refine⟨⟨?_,λi c h=>?_,λi u h=>?_,λi j u c o g n=>?_⟩,λa ⟨i,u,o,g⟩=>?_⟩
 ·simp[J];lia
 ·rcases back h with⟨rfl,rfl⟩ | ⟨j,b,u,rfl,g,m,x⟩
  ·exact⟨v,rfl,r0⟩
  ·obtain⟨w,q,y,e,A⟩:=fp m;refine⟨w,?_,?_⟩
   ·rw[Ze,Xm,WV,KQ (by rw[Zt];exact(ZW.mp y).1),ZV,y];rfl
   ·show Rp G H w (iw c) ((F :: f).getD (j+1) []);rw[Xs,Zr,e,x];cases b<;>exact A
 ·rcases ow h with rfl | ⟨j,rfl,g,m⟩
  ·exact s.1
  ·obtain⟨w,q,y,e,A⟩:=fp m;show ((F :: f).getD (j+1) []).Nodup;rw[Xs,Zr,e];exact s.2.1.sublist (fS g e)
 ·rcases ow o with rfl | ⟨Z,rfl,R,a3⟩
  ·rcases back g with⟨rfl,_⟩ | ⟨P,b,S,rfl,C,Q,_⟩
   ·exact absurd M n
   ·obtain⟨w,q,y,e,A⟩:=fp Q;intro a l;show a∉(F :: f).getD (P+1) [];rw[Xs,Zr,e];intro p;cases b with
    |true=>exact s.2.2 a l a ((fS C e).subset p) M
    |false=>exact U a (Yj _ l) ((p8 C e).subset p)
  ·obtain⟨w,Fi,y,e,A⟩:=fp a3;have ei:(F :: f).getD (Z+1) []=Fi:=by rw[Xs,Zr,e];rfl
   show ∀a∈(F :: f).getD (Z+1) [],_;rw[ei];rcases back g with⟨rfl,_⟩ | ⟨P,b,S,rfl,C,Q,_⟩
   ·exact λa l p=>s.2.2 a p a ((fS R e).subset l) M
   ·obtain⟨w',q,k1,N,k3⟩:=fp Q;intro a l;show a∉(F :: f).getD (P+1) [];rw[Xs,Zr,N];intro p;cases b with
    |true=>exact uw s.2.1 R C e N (λz=>n (by rw[z])) a l p
    |false=>exact U a (ZL _ ((fS R e).subset l)) ((p8 C N).subset p)
 ·rcases ow o with rfl | ⟨j,rfl,m,x⟩
  ·exact Yj _ g
  ·obtain⟨w,q,y,e,A⟩:=fp x;have IF:a∈(F :: f).getD (j+1) []:=g;rw[Xs,Zr,e]at IF;exact ZL _ ((fS m e).subset IF)
def xD{c:Nat}{U:VS.Env}{a:sA}(h:zt c U=Y a):U[0]?=Y (Y (.ow (.obj (c+1) ((0,.bl L) :: a)))):=by
 unfold zt at h;split at h
 ·rename_i d f e;split at h
  ·rename_i b;cases h;rw[e,b]
  ·cases h
 ·cases h
end
section
variable{G:Gx}{P:P3}{w:XAA}{K:Wy}{mg:Wi}{base:UV}
def Gb{d:Str}{C:Stmt}{f:KF}{fd:Pv}{N X:List Str}{k np R c:Nat}{Z:List Bool}{m:Sx}(ok:∀{sp:Sp},(∀l H Q E,sp l H Q E->l.length=X.length)->(∀(x:KM)(A:Re)(outer:List PySem.Env)(s:GM)(H:Hp)(l:List V)(Q:VK)(E:XK),Gn k (A.deeper (envOfC d (ai C) s.heap.objs.size f x))->sp l H Q E →
   ∃t,Io (jk G8 P w K mg base N d (ai C) f x A outer s H E).JA (bg C) t/\t { nx:=λ_ j=>Q .non j,rt:=Q } (L2.start N l) H)->FnOk P w K mg base G8 (k+1) f fd X sp)(hp:X.length=np)(hn:N.length=R)(hb:∀(a:KF)(x:KM)(A:Re)(outer:List PySem.Env)(s:GM)(H:Hp)(E:XK),Gn k (A.deeper (envOfC d (ai C) s.heap.objs.size f x))->gD (G.at (Jk a)) (jk G8 P w K mg base N d (ai C) f x A outer s H E).JA (bg C) m) :
  FnOk P w K mg base G8 (k+1) f fd X (Lr G c Z (Jj c np R Z m)):=by
 refine ok (λl H Q E h=>?_) λx A outer s H l Q E hr h=>?_
 ·obtain⟨a,J,fs,ts,F,Fs,Il,y,rfl,r0,r,hm,nd,sp,e,q⟩:=h;unfold Jj at e;split at e
  ·rename_i hl;rw[Zg,r.len.1,hl.1,hp]
  ·cases e
 ·obtain⟨a,J,fs,ts,F,Fs,Il,y,rfl,r0,r,hm,nd,sp,e,q⟩:=h;refine⟨_,hb a x A outer s H E hr,?_⟩;unfold Jj at e;split at e
  ·rename_i hl;obtain⟨o,e1,e2⟩:=Zz.mp e;obtain⟨s0,JM⟩:=qX r0 r hm nd sp R (J.length+1) M;rw[hl.1]at s0 JM;have e3:L2.start N (V.ref a :: J)=(V.ref a :: J).map Y++List.replicate (R-(J.length+1)) O:=by
    unfold L2.start;rw[hn];rfl
   rw[e3];have fin:∀{n:VS.Env}{p:Gv}{J':L2.St}{j:Hp},zt c n=Y Il->SR (G.at (Jk a)) p n J' j->GD (λi=>(F :: Fs).getD i []) ((Y (.ow (.obj (c+1) ((0,.bl L) :: fs))) :: List.zipWith iG Z ts)++List.replicate (R-np) O) H p n j →
     Chg (G.at (Jk a)) H (.ref a) (F++G1 Z Fs) (.obj (c+1) ((0,.bl L) :: Il)) j (p 0):=λ{n p J' j} Ra D fr=>by
    have h0:=xD Ra;obtain⟨v',g1,g2⟩:=D.rp 0 _ h0;have Nt:Rp (G.at (Jk a)) j v' (.obj (c+1) ((0,.bl L) :: Il)) (p 0):=g2;obtain⟨c',a',dx,b,ns,l,Hg,HM,ec,rfl,eb,_,eF,hA,hl',g,ra⟩:=gg Nt;have MP:b=L:=by cases eb;rfl
    have ea:Y (V.ref a)=Y (V.ref a'):=g MP;cases ea;refine⟨fr.kept,λU o' g ho=>(fr.keep U o' ho λz=>g (JM U z)).1,fr.GG,Nt,D.nd 0 _ h0,λU g=>?_⟩;rcases fr.ow U ⟨0,_,h0,g⟩ with z | z
    ·exact .inl (JM U z)
    ·exact .inr z
   refine⟨_,_,o,s0,e1,?_⟩;cases o with
   |nx n =>
    obtain⟨fs2,e4,S⟩:=Zy.mp e2;cases S;intro p J' j D fr;exact q .non j _ (fin e4 D fr) .non
   |rt v n =>
    obtain⟨fs2,e4,S⟩:=Zz.mp e2;split at S
    ·rename_i hi;cases S;intro u j F' p J' D fr r' rf;have:=r'.Gu hi;subst this;exact q u j _ (fin e4 D fr) r'
    ·cases S
   |bk n=>cases e2
   |ct n=>cases e2
  ·cases e
def TB{x d:Str}{g:Stmt}{f:KF}{n:Pv}{N h:List Str}{k i j c:Nat}{m:List Bool}{e:Sx}(F:GN K x d g f n)(S:p0 N h (ai g))(p:h.length=i)(q:N.length=j)(r:∀(a:KF)(o:KM)(A:Re)(outer:List PySem.Env)(s:GM)(H:Hp)(E:XK),Gn k (A.deeper (envOfC d (ai g) s.heap.objs.size f o))->gD (G.at (Jk a)) (jk G8 P w K mg base N d (ai g) f o A outer s H E).JA (bg g) e) :
  FnOk P w K mg base G8 (k+1) f n h (Lr G c m (Jj c i j m e)):=Gb (λl b=>F.ok S l b) p q r
end
noncomputable def argsOk:List Bool->Va->Bool
 |[],[]=>L
 |b :: bs,v :: a=>(if b then v.1 == .fr else Gu v.2)&&argsOk bs a
 |_,_=>B
noncomputable def ub(c:Nat)(e:List Bool)(g:Mt)(a:Va):T->Option (T×Val)
 |.obj d ((0,.bl b) :: fs)=>if d=c+1/\gp fs=L/\argsOk e a=L/\bp (trees a)=L then (g fs (trees a)).bind λz=>if gp z.1=L/\Gu z.2=L then Y (.obj d ((0,.bl b) :: z.1),(.fr,z.2)) else O else O
 |_=>O
noncomputable def bU(i:Nat)(a:List Ja)(c:Nat)(d:List Bool)(g:Mt)(f:GY)(U:VS.Env):Option (Val×VS.Env):=match (U[i]?:Option (Vf)) with
 |some (some (.ow t))=>(keys a U).bind λe=>(f U).bind λb=>(pm (ub c d g b) e t).map λz=>(z.2,U.set i (Y (.ow z.1)))
 |_=>O
noncomputable def tX(G:Gx)(x:Xx):TE:=λJ H Q=>∃Z U v b,SR G Z U J H/\x U=Y (v,b)/\Gu v.2=L/\∀u a d,SR G d b J a->GD Z U H d b a->Rp G a u v.2 []->Q u a
noncomputable def PX(G:Gx)(X:Cx)(e:Expr)(x:Xx):Prop:=PE X e (tX G x)
theorem nP:∀{mv:List Bool}{a:Va},argsOk mv a=L->mv.length=a.length
 |[],[],_=>rfl
 |[],_ :: _,h=>by simp[argsOk]at h
 |_ :: _,[],h=>by simp[argsOk]at h
 |b :: bs,v :: d,h=>by
  rw[argsOk,ZU]at h;rw[Zg,Zg,nP h.2]
theorem rV:∀{mv:List Bool}{d:Va}{Fs:X8},argsOk mv d=L->(G1 mv Fs).Sublist (Hl d Fs)
 |[],[],_,_=>by simp[G1]
 |[],_ :: _,_,h=>by simp[argsOk]at h
 |_ :: _,[],_,h=>by simp[argsOk]at h
 |b :: bs,v :: e,[],h=>by simp[G1]
 |b :: bs,(m,t) :: e,F :: Fs,h=>by
  rw[argsOk,ZU]at h;have a:=rV (Fs:=Fs) h.2;rw[G1];cases b with
  |true =>
   have:m=.fr:=by simpa using h.1
   subst this;exact W8 (XY _) a
  |false =>
   rw[Zm Zb,YY];cases m with
   |fr=>exact a.trans (Y9 _ _)
   |pu=>exact a
   |bo=>exact a
theorem ud{G:Gx}{H:Hp}:∀{mv:List Bool}{a:Va}{e:List V}{d:X8},argsOk mv a=L->RpL G H e (trees a) d->Jd mv d=[]
 |[],[],_,_,_,_=>by simp[Jd]
 |[],_ :: _,_,_,h,_=>by simp[argsOk]at h
 |_ :: _,[],_,_,h,_=>by simp[argsOk]at h
 |b :: bs,(m,t) :: g,_,_,h,r=>by
  rw[argsOk,ZU]at h;cases r with
  |cons f q =>
   rw[Jd,ud h.2 q,ZK];cases b with
   |true=>rfl
   |false=>exact f.Gu (by simpa using h.1)
def Bk{Z:Gv}{U:VS.Env}{H:Hp}{e:List Bool}{d:Va}{m:X8}(h:argsOk e d=L)(f:LJ Z U H d m):∀a∈G1 e m,H a=O:=λa o=>by
 obtain⟨j,F,g,q,p⟩:=vk o;have key:∀{e:List Bool}{d:Va}{j:Nat},argsOk e d=L->e[j]?=Y L->∃v,d[j]?=Y v/\v.1=.fr:=by
  intro e
  induction e with
  |nil=>intro d j _ h;simp at h
  |cons b bs n =>
   intro d j h g;cases d with
   |nil=>simp[argsOk]at h
   |cons v r =>
    rw[argsOk,ZU]at h;cases j with
    |zero =>
     simp at g;subst g;exact⟨v,rfl,by simpa using h.1⟩
    |succ j =>
     obtain⟨w,l,i⟩:=n h.2 (by simpa using g);exact⟨w,by simpa using l,i⟩
 obtain⟨v,l,i⟩:=key h g;have:=f.each j v F l q;rw[i]at this;exact this.2 a p
section
variable{G:Gx}{X:Cx}{CX:Kd}{i c k k':Nat}{way:List Ja}{o e:Expr}{es:List Expr}{cs:GY}{m:Str}{f:KF}{fd:Pv}{ps:List Str}{mv:List Bool}{g:Mt}{apos pos:Pos}
def xO{J:L2.St}{H:Hp}{Q:VK}{E:XK}{t:TA}(Jq:kF G)(hn:∀k,(G.ct (c+1)).2 k≠m)(ht:∀Z U p J H (R:List V->Hp->Prop),SR G Z U J H->cs U=Y p->(∀d l P,aK H l->RpL G l d (trees p) P->LJ Z U H p P->R d l)->t J H R)(h:tX G (bU i way c mv g cs) J H Q):uH (G.ct (c+1)).1 m (Lr G c mv g) [] E (O9 G i way) t J H Q:=by
 obtain⟨Z,U,v,U',s,e,KA,kq⟩:=h;unfold bU at e;split at e
 ·rename_i t0 M;obtain⟨ks,ek,e3⟩:=Zz.mp e;obtain⟨p,el,e4⟩:=Zz.mp e3;obtain⟨⟨t',x2⟩,e5,e6⟩:=Zy.mp e4;cases e6;obtain⟨v0,h1,h2⟩:=s.rp _ _ M;obtain⟨w,x,F1,x3,w1,w2,w3,q,w5⟩:=nB ks Jq h2 (s.nd i t0 M) e5;unfold ub at q;split at q
  ·rename_i c1 b fs;split at q
   ·rename_i hc;obtain⟨rfl,Kx,N,Rv⟩:=hc;obtain⟨⟨Il,y⟩,eg,e7⟩:=Zz.mp q;split at e7
    ·rename_i Oc;cases e7;obtain⟨c',a,dx,b',ns,d,S,P,ec,rfl,eb,rfl,eF,hA,hl,hb,ra⟩:=gg w2;cases ec;cases eb;have Kr:ns.length=S.length:=hl.trans ra.len.1;refine⟨Z,U,t0,ks,v0,.ref a,s,M,h1,ek,w1,λH1 F=>⟨a,dx,_,rfl,F a _ hA,?_,?_⟩⟩
     ·have key:∀(ns:Vt)(d:List V),((ns.map (G.ct (c+1)).2).zip d).lookup m=O:=by
       intro ns
       induction ns with
       |nil=>intro d;simp
       |cons n ns ih =>
        intro d;cases d with
        |nil=>simp
        |cons v d =>
         rw[Ze,ZO,YW];have:(m==(G.ct (c+1)).2 n)=B:=by
          rw[IJ];exact λz=>hn n z.symm
         rw[this];exact ih d
      exact key ns d
     ·refine ht Z U p J H1 _ (s.same F) el λus H2 Gs Hw Pc PJ=>?_;have A:aK H H2:=F.trans Hw;have fp0:LJ Z U H p Gs:=⟨λn v' D a1 a2=>(PJ.each n v' D a1 a2).back F,PJ.nd⟩
      have QE:=Bk N fp0;have P7:RpL (G.at (Jk a)) H2 d S P:=(ra.same A).at (Jk a) (gK Kr Kx);refine⟨a,us,ns.zip S,trees p,F1,Gs,Il,y,by rw[ZK],?_,Pc.at (Jk a) Rv,?_,?_,?_,eg,λu l D r ru=>?_⟩
      ·rw[eF];exact .ins (A a _ hA) hl (λ_=>rfl) P7
      ·rw[nP N];simp[trees]
      ·refine ZM.mpr ⟨w3,PJ.nd.sublist (rV N),λj C b2 Oo z=>?_⟩;subst z;exact Gw.oe (w2.GG j C) (QE j Oo)
      ·rw[ud N Pc];exact λj _ z=>nomatch z
      ·have back:Rp G l (.ref a) (.obj (c+1) ((0,.bl b) :: Il)) D:=by
        obtain⟨c2,a2,dx2,b2,UR,Uk,Up,Fs2,OE,RW,eb2,RV,RX,PD,HR,Oo,K5⟩:=gg r.rp;cases OE;cases RW;subst RV;rw[RX];exact .ins PD HR hb (K5.at G.me (gK (HR.trans K5.len.1) Oc.1))
       have gG:Chg G H (.ref a) F1 (.obj (c+1) ((0,.bl b) :: Il)) l D:=⟨(Kept.of A).trans r.kept,λj o1 C ho=>r.keep j o1 (λz=>(Zi.mp z).elim C λz=>by rw[QE j z]at ho;cases ho) (A j o1 ho),λj h=>r.GG j λz=>h (A.free z),back,r.nd,λj C=>by
        rcases r.sub j C with z | z
        ·rcases Zi.mp z with z | z
         ·exact .inl z
         ·exact .inr (QE j z)
        ·exact .inr (A.free z)⟩
       obtain⟨F2,g2⟩:=w5 l D gG;obtain⟨z1,z2⟩:=s.mut M h1 g2;exact kq u l _ z1 z2 (ru.at G.me (mZ y Oc.2))
    ·cases e7
   ·cases q
  ·cases q
 ·cases e
def Aq{d:Sem Bool}(y:kF G)(p:∀k,(G.ct (c+1)).2 k≠m)(n:Jv G X o i way)(u:HX X.K (G.ct (c+1)).1)(q:Meth X.K (G.ct (c+1)).1 m f)(F:FnOk X.prog X.w X.K X.mg X.base G8 k f fd ps (Lr G c mv g))(l:Gn k' X.A)(r:k<=k')(v:Binds X.K fd ps [])(x:Hr G X (e :: es) cs)(z:K1 e es X)(a:K2 pos es X)(j:eval (.Call (.Attribute o m apos) (e :: es) [] pos) X.env=(do
   let ov ← eval o X.env
   standAt apos.atName
   let (f,first) ← holding [ov] (getMethod ov m d)
   callWith pos f first (backTo pos (Pi (e :: es) X.env)) (backToKw pos (SL [] X.env)))):PX G X (.Call (.Attribute o m apos) (e :: es) [] pos) (bU i way c mv g cs) :=
 PE.weak (uA (E:=E0) n u q F (l.mono r) v .nil oP x z a j) λJ H Q h=>xO (t:=NH G cs) y p (λZ U b J H R s e k=>⟨Z,U,b,s,e,k⟩) h
noncomputable def NK(x:Xx):Sx:=λU=>(x U).bind λz=>if Gu z.1.2 then Y (.nx z.2) else O
noncomputable def cp(j:Nat)(x:Xx):Sx:=λU=>(x U).bind λz=>if Gu z.1.2=L/\j<z.2.length then Y (.nx (z.2.set j (Y (.pu z.1.2)))) else O
noncomputable def kg(x:Xx):Sx:=λU=>(x U).bind λz=>if Gu z.1.2 then Y (.rt (.fr,z.1.2) z.2) else O
variable{x:Xx}
def rM(h:PX G X e x)(n:swapsWith e O pos.line X.env=pure B):PSV G X (.Expr e pos) (NK x) :=
 PS.weak (jS h n) λD J H b=>by
  obtain⟨Z,U,out,s,e,k⟩:=b;unfold NK at e;obtain⟨⟨v,l⟩,e1,e2⟩:=Zz.mp e;split at e2
  ·rename_i d;cases e2;exact⟨Z,U,v,l,s,e1,d,λu p j a f r=>k j J p a f⟩
  ·cases e2
def uP(h:PX G X e x):PSV G X (.Return (Y e) pos) (kg x) :=
 PS.weak (pU h) λD J H d=>by
  obtain⟨Z,U,out,s,e,k⟩:=d;unfold kg at e;obtain⟨⟨v,n⟩,e1,e2⟩:=Zz.mp e;split at e2
  ·rename_i j;cases e2;exact⟨Z,U,v,n,s,e1,j,λu p l b f r=>k u p [] l J b f r ⟨Iv,λa h=>nomatch h⟩⟩
  ·cases e2
def cF{j:Nat}{d:Str}{b:Pos}(h:PX G X e x)(C:X.N.Nodup)(l:X.N[j]?=Y d)(w:Loc X.env.scope d)(y:swapsWith e (Y (.Name d b)) pos.line X.env=pure B:=by exact rfl)(A:X.fn d=L\/X.env.scope.names.lookup d=Y .local:=by exact .inl M) :
  PSV G X (.Assign [.Name d b] e pos) (cp j x) :=
 PS.weak (kK C l w h y A) λD J H z=>by
  obtain⟨Z,U,out,s,e,k⟩:=z;unfold cp at e;obtain⟨⟨v,E⟩,e1,e2⟩:=Zz.mp e;split at e2
  ·rename_i l;cases e2;refine⟨Z,U,v,E,s,e1,l.1,λu n F p f r=>?_⟩;obtain⟨t,q⟩:=p.val (c:=.pu v.2) (m:=.fr) l.2 (aK.refl n) r ⟨Iv,λa h=>nomatch h⟩ (.inl ⟨rfl,by decide⟩);exact k _ _ n t (f.trans q)
  ·cases e2
noncomputable def lH(i:Nat)(a:List Ja)(k:Ex)(x:Xx):Sx:=λU=>(x U).bind λz=>if Gu z.1.2 then fN i a k (λ_=>Y (.fr,z.1.2)) z.2 else O
def yA{Z:Gv}{U:VS.Env}{J:L2.St}{H H1:Hp}{t t':T}{ks:List Ky}{mk mv:Md}{p d:T}{y':Unit}{xv:V}{M:Wf}{ck:Ex}{D:L2.St->Hp->Prop}(Jq:kF G)(s:SR G Z U J H)(ht:U[i]?=Y (Y (.ow t)))(ek:keys way U=Y ks)(LF:ck U=Y (mk,p))(e5:pm (qi (mk,p) (mv,d)) ks t=Y (t',y'))(HG:aK H H1)(rv:Rp G H1 xv d M)(fv:Fp Z U H mv M)(k:∀Z' H',SR G Z' (U.set i (Y (.ow t'))) J H'->GD Z U H Z' (U.set i (Y (.ow t'))) H'->D J H'):D6 (O9 G i way) (tE G ck) BY xv J H1 D:=by
   obtain⟨v,g1,g2⟩:=s.rp _ _ ht;obtain⟨w,x,F1,x3,w1,w2,w3,P,w5⟩:=nB ks Jq g2 (s.nd i t ht) e5;refine⟨Z,U,t,ks,v,w,s.same HG,ht,g1,ek,w1.same HG,λH2 Hw=>⟨Z,U,mk,p,(s.same HG).same Hw,LF,λkv q Fk IT rk fk=>?_⟩⟩;have A:aK H q:=(HG.trans Hw).trans IT;have KZ:Rp G q xv d M:=(rv.same Hw).same IT;have fin:∀R N,Chg G H w F1 x3 R N->D J R:=λR N g=>by
    obtain⟨F2,Nt⟩:=w5 R N g;obtain⟨z1,z2⟩:=s.mut ht g1 Nt;exact k _ R z1 z2
   refine L2.ku λP_ k_=>?_;cases x with
   |lst l =>
    cases p with
    |int n =>
     obtain⟨tt,et,e7⟩:=Zz.mp (show ((fit (mv,d)).bind λt=>(Hf l.length n).map λj=>(T.lst (l.set j t),()))=Y (x3,y') from P);obtain⟨j,ej,e8⟩:=Zy.mp e7;cases e8;have em:=km et;cases em;obtain⟨a,y,Fs,rfl,rfl,S,C⟩:=w2.lst_inv;have Q:q a=Y (.lst y):=A a _ S;have nd:=ZZ.mp w3;have na:a∉M:=λz=>by rw[fv.2 a z]at S;cases S
     have E:Gw (q a):=by rw[Q];exact True.intro
     have off:∀b∈Fs.flatten,b∉M:=λb hb hv=>Gw.oe (C.GG b hb) (fv.2 b hv);refine k_ ?_;refine .inl ⟨a,y,n,j,rfl,rk.int_inv,Q,by rw[← sC,C.len.1];exact ej,fin _ (a :: (Fs.set j M).flatten) ?_⟩;have keep:∀{u:V}{x:T}{F:Wf},Rp G q u x F->a∉F->Rp G (upd q a (.lst (y.set j xv))) u x F:=λr hn=>r.keep (Kept.upd (.inl E)) λb hb o' JO=>by rw[aF (λz=>hn (by rw[← z];exact hb))];exact JO
     refine Chg.upd A Zu E (.lst aw ((((C.same A).off E nd.1)).putAt j (keep KZ na))) ?_ ?_
     ·rw[ZZ];refine⟨λh=>?_,dC nd.2 fv.1 λi' N _ hi b hb=>off b (c8 hi hb)⟩;rcases cz h with z | ⟨i',N,_,h1,h2⟩
      ·exact na z
      ·exact nd.1 (c8 h1 h2)
     ·intro b hb;rcases Zh.mp hb with rfl | hb
      ·exact .inl Zu
      ·rcases cz hb with z | ⟨i',N,_,h1,h2⟩
       ·exact .inr (fv.2 b z)
       ·exact .inl (Zv _ (c8 h1 h2))
    |_=>cases P
   |dct kd l =>
    cases kd with
    |zero =>
     have hc:(iz p=L/\Gu d=L/\l.length<dJ)/\x3=.dct 0 (dput l p d):=by
      have Mj:(if iz p/\Gu d/\l.length<dJ then Y (T.dct 0 (dput l p d),()) else O)=Y (x3,y'):=P;split at Mj
      ·rename_i hc;cases Mj;exact⟨hc,rfl⟩
      ·cases Mj
     obtain⟨⟨c1,c2,c3⟩,rfl⟩:=hc;have eF:=KZ.Gu c2;subst eF;obtain⟨a,ns,y,ts,Fs,rfl,rfl,S,hl,rfl,C⟩:=d5 w2;obtain⟨kk,rfl,KH⟩:=du rk c1;subst KH;have Q:q a=Y (.dK (ns.zip y)):=A a _ S;have E:Gw (q a):=by rw[Q];exact True.intro
     have nd:=ZZ.mp w3;obtain⟨Ms,Ih,Hg,HM,q1,q2,q3,q4,q5⟩:=pO (kk:=kk) KZ hl (C.same A);have ln:(ns.zip y).length<sizeLine:=by
      have:((ns.map aO).zip ts).length<16777216:=c3;rw[YX,Zt]at this;rw[YX];have:=C.len.1;have:(KB:Nat)=16777216:=rfl;lia
     refine k_ ?_;refine .inr ⟨a,_,rfl,tK.k Q ln,fin _ (a :: HM.flatten) ?_⟩;rw[q1,q3];refine Chg.upd A Zu E (.dct aw q2 (q4.off E λz=>nd.1 (q5.subset z))) ?_ ?_
     ·exact ZZ.mpr ⟨λz=>nd.1 (q5.subset z),nd.2.sublist q5⟩
     ·intro b hb;rcases Zh.mp hb with rfl | hb
      ·exact .inl Zu
      ·exact .inl (Zv _ (q5.subset hb))
    |succ n=>cases P
   |_=>cases P
def uQ{q:Nat}{b:Expr}{j:Ex}{d:Pos}(Jq:kF G)(z:Gn q X.A)(E:Jv G X o i way)(F:PV G X b j)(N:PX G X e x)(P:∀v,assign (.Subscript o b d) X.env v=(do
   let ov ← holding [v] (eval o X.env)
   let iv ← holding [v,ov] (eval b X.env)
   standAt d
   holding [v,ov,iv] (setItem ov iv v)
   release [v,ov,iv] []))(y:swapsWithSole [.Subscript o b d] e pos.line X.env=pure B)(hw:swappedStores [.Subscript o b d] e X.env=pure O)(Q:(assignEach [.Subscript o b d] X.env).map (·.2)=[assign (.Subscript o b d) X.env]):PSV G X (.Assign [.Subscript o b d] e pos) (lH i way j x) :=
 PS.weak (tJ N (sQ E F (xp (ke z)) P) y hw Q) λD J H C=>by
  obtain⟨Z,U,out,s,e,k⟩:=C;unfold lH at e;obtain⟨⟨v,U'⟩,e1,e2⟩:=Zz.mp e;split at e2
  ·rename_i M;refine⟨Z,U,v,U',s,e1,M,λu H' Z' p f r=>?_⟩;unfold fN at e2;obtain⟨⟨mv,tv⟩,ev,e2⟩:=Zz.mp e2;cases ev;split at e2
   ·rename_i t w;obtain⟨ks,R,e2⟩:=Zz.mp e2;obtain⟨⟨mk,tk⟩,LF,e2⟩:=Zz.mp e2;obtain⟨⟨t',y'⟩,e5,S⟩:=Zy.mp e2;cases S;exact yA Jq p w R LF e5 (aK.refl H') r (mv:=.fr) ⟨Iv,λa h=>nomatch h⟩ λZ2 H2 n l=>k _ J H2 n (f.trans l)
   ·cases e2
  ·cases e2
end
end VS
end
section
namespace L2
open PySem PySem.Spec PyProof.Rows
def tH{X:Cx}:di X (.type "dict") (λf H Q=>∃(d:KF)(a:List (Key×V)),f=[.ref d]/\H d=Y (.dK a)/\∀l,H l=O->Q (.ref l) (upd H l (.dK a))):=by
 intro g s J H f v Q I j h;obtain⟨d,a,rfl,hd,q⟩:=h;obtain⟨u,rfl,m⟩:=j.one;cases m;obtain⟨i,r,t,rel,n⟩:=qS I.Gq hd;refine PySem.kt_call_dict r n (by rw[← XC rel];exact i) λw p sb=>?_;exact⟨.ref s.heap.objs.size,_,I.laid (t':=s.toks) (λb o e=>(sb.2 b (Za (ZS e))).trans (Zn _ e)) (Zp _) (pQ i (IJ.mpr (YK (Za I.big))) rel p),rfl,q _ (I.Gq.fresh (Zp _))⟩
end L2
namespace VS
open PySem PySem.Spec PyProof.Rows L2
noncomputable def kE:Va->V0
 |[(_,.dct 0 l)]=>if dm (l.map (·.2))=L then Y (.fr,.dct 0 l) else O
 |_=>O
section
variable{G:Gx}{X:Cx}{a b e o:Expr}{ca cb ce:Ex}{cs:GY}{p pos jj apos:Pos}{k kr:Nat}
def xQ:fB G (λs H Q=>∃(d:KF)(n:List (Key×V)),s=[.ref d]/\H d=Y (.dK n)/\∀l,H l=O->Q (.ref l) (upd H l (.dK n))) kE:=by
 intro Z U J H l u C m t Q A e k;unfold kE at e;split at e
 ·rename_i E x;split at e
  ·rename_i j;cases e;obtain⟨v,F,rfl,rfl,r⟩:=(show RpL G H u [.dct 0 x] C from A.rp).one;obtain⟨a,ns,w,D,Gs,rfl,rfl,y,i,rfl,f⟩:=d5 r;refine⟨a,_,rfl,y,λq h=>?_⟩;have g:aK H (upd H q (.dK (ns.zip w))):=aU h;rw[List.map_snd_zip (by rw[Zt,i,f.len.1];exact Zp _)]at j;have z:=f.Gu j;refine k _ _ (q :: Gs.flatten) g (.dct aw i (f.same g)) ?_;rw[z];exact Fp.new (A.same.free h) (by simp) Fp.nil
  ·cases e
 ·cases e
def zK(d:X.mg "dict" = O)(g:Hr G X [e] cs)(f:Gl X "dict")(he:K1 e [] X):PV G X (.Call (.Name "dict" p) [e] [] pos) (eN kE cs) :=
 jb tH xQ f d vn g (he:=he) (hpl:=rfl)
def Co{i d:Int}{j h:Nat}{q g:Pos}:PV G X (.Dict [Y (.Constant (.int i) j q)] [.Constant (.int d) h g] pos) (qR 0 [(Q3 i,Q3 d)]) :=
 PE.weak (Ak (yJ p6 p6 zW) M M (by simp) (by show 1<=15;decide)) λJ H Q l=>by
  obtain⟨Z,U,m,r,s,e,k⟩:=l;cases (show Y (Md.fr,T.dct 0 [(.int i,.int d)])=Y (m,r) from e);intro p f;refine⟨aw,[(Sum.inl i,.int d)],rfl,(by show 1<=15;decide),?_⟩;rw[A9];have:Rp G (upd H p (.dK [(Sum.inl i,V.int d)])) (.ref p) (.dct 0 ((([Sum.inl i]:List Key).map aO).zip [.int d])) (p :: ([[]]:X8).flatten) :=
   .dct (ks:=[Sum.inl i]) (vs:=[V.int d]) aw M (.cons (.int d) .nil)
  exact k _ _ _ (aU f) this ⟨by simp,λb hb=>by simp at hb;rw[hb];exact f⟩
noncomputable def wt(x y:Val):V0:=match x.2 with
 |.dct 0 l=>if iz y.2 then Y (match eT l y.2 with | some t=>sub x.1 t | none=>(.fr,.non)) else none
 |_=>O
def w_get(M:Gn kr X.A)(P:PV G X o ca)(he:PV G X e cb)(GF:XAB o "get" X.env (eval o X.env)=eval o X.env)(GU:((backTo jj (Pi [e] X.env)).all (λx=>!x.1)&&(backToKw jj (SL [] X.env)).all (λx=>x.1.isSome)
   && decide (([e]:List Expr).length+([]:List Keyword).length+(if ([]:List Keyword).isEmpty then 0 else 1)<30))=L)(Gz:(apos.endLine==jj.line)=L)(VM:backTo jj (Pi [e] X.env)=[(B,eval e X.env)]):PV G X (.Call (.Attribute o "get" apos) [e] [] jj) (e2 wt ca cb) :=
 PE.weak (yo (ke M) P he ⟨GF,GU,Gz,VM⟩) λJ H Q N=>by
  obtain⟨Z,U,m,r,s,e,t⟩:=N;unfold e2 at e;obtain⟨⟨D,x⟩,ea,e⟩:=Zz.mp e;obtain⟨⟨C,y⟩,eb,e⟩:=Zz.mp e;unfold wt at e;split at e
  ·rename_i l u;dsimp only at u;subst u;split at e
   ·rename_i S;have d:=Zj e;refine⟨Z,U,D,_,s,ea,λv H1 F1 n r1 f1=>?_⟩;obtain⟨a,ks,vs,ts,Fs,rfl,rfl,h,R,rfl,q⟩:=d5 r1;refine⟨a,rfl,.inl ⟨_,.inl h⟩,Z,U,C,y,s.same n,eb,λv2 w F2 g r2 f2=>?_⟩;obtain⟨E,rfl,ek⟩:=du r2 S;dsimp only at d;rw[ek]at d;rcases j7 (k:=E) R (q.same g) with⟨h1,h2⟩ | ⟨i,v,z,F,a1,a2,a3,a4,j⟩
    ·rw[h1]at d;cases d;refine⟨_,gS.k (g a _ h),?_⟩;rw[h2];exact t .non w [] (n.trans g) .non Fp.nil
    ·rw[a1]at d;refine⟨_,gS.k (g a _ h),?_⟩;rw[a2];have f:=((f1.sub (Yh _ _)).sub (bZ a4)).up j;unfold VS.sub at d;dsimp only at d;rw[d]at f;have et:z=r:=congrArg Prod.snd d;rw[et]at j;exact t v w F (n.trans g) j f
   ·cases e
  ·cases e
noncomputable def qg(x y:Val):V0:=match x.2 with
 |.dct 3 l=>if iz y.2 then (eT l y.2).map (sub x.1) else O
 |_=>O
def rW{H:Hp}{v:V}{l:List (T×T)}{F:Wf}(r:Rp G H v (.dct 3 l) F):∃(a:KF)(o:Obj)(f:List Key)(d:List V)(g:V1)(j:X8),v=.ref a/\F=j.flatten/\H a=Y (.frz o (.dK (f.zip d)))/\f.length=d.length/\l=(f.map aO).zip g/\RpL G H d g j:=by
 generalize i:T.dct 3 l=z at r;cases r with
 |dctZ h m q=>cases i;exact⟨_,_,_,_,_,_,rfl,rfl,h,m,rfl,q⟩
 |_=>cases i
def Dx:eV G (Fl G.K) qg:=by
 intro Z U H0 H x y u w F1 F2 m t Q d e k;obtain⟨R,x⟩:=x;unfold qg at e;split at e
 ·rename_i l h;dsimp only at h;subst h;split at e
  ·rename_i r;obtain⟨P,e1,e2⟩:=Zy.mp e;obtain⟨a,o,S,J,M,Fs,rfl,rfl,s,n,rfl,q⟩:=rW d.r1;obtain⟨g,rfl,A⟩:=du d.r2 r;rw[A]at e1;rcases j7 (k:=g) n q with⟨z,_⟩ | ⟨i,v,N,F,E,D,a3,C,j⟩
   ·rw[z]at e1;cases e1
   ·rw[E]at e1;cases e1;cases e2;refine .inr ⟨a,v,rfl,.inl ⟨_,g,.inr ⟨o,s⟩,rfl,D.symm⟩,?_⟩;have f:=(d.f1.sub (bZ C)).up j;exact k v H F (aK.refl _) j f
  ·cases e
 ·cases e
def Ca(f:Gn kr X.A)(i:PV G X a ca)(g:PV G X b cb)(d:gh b)(j:X.K=G.K):PV G X (.Subscript a b pos) (e2 qg ca cb) :=
 PE.weak (mR (HL.or jN (pq (ke f))) i g d) λJ H Q h=>by rw[j];exact kP Dx h
end
noncomputable def eNew(c:Nat)(g:Mt)(b:GY):Ex:=λU=>(b U).bind λa=>if bp (trees a)=L then (g [] (trees a)).bind λz=>if gp z.1=L/\Nh z.2=L then Y (.fr,.obj (c+1) ((0,.bl B) :: z.1)) else O else O
noncomputable def fY(c:Nat)(g:Fn)(d:Ex)(b:GY):Ex:=λU=>(d U).bind λx=>match x.2 with
 |.obj e (_ :: _)=>if e=c+1 then (b U).bind λa=>(g (x.2 :: trees a)).bind λr=>match r.1 with
  |.fr=>Y r
  |_=>O else O
 |_=>O
theorem x9{α:Type}:∀(l:List α)(a:X8),G1 (l.map λ_=>B) a=[]
 |[],_=>by simp[G1]
 |_ :: _,[]=>by simp[G1]
 |_ :: l,F :: a=>by
  rw[Ze,G1,Zm Zb,YY];exact x9 l a
theorem xm:∀(mv:List Bool)(d:X8),∀a∈Jd mv d,a∈d.flatten
 |[],_,a,h=>by simp[Jd]at h
 |_ :: _,[],a,h=>by simp[Jd]at h
 |b :: bs,F :: d,a,h=>by
  rw[Jd]at h;rw[ZE];rcases Zi.mp h with h | h
  ·cases b with
   |true=>simp at h
   |false=>exact Yj _ (by simpa using h)
  ·exact ZL _ (xm bs d a h)
section
variable{G:Gx}{X:Cx}{i c k k':Nat}{o e:Expr}{es:List Expr}{cs:GY}{ca:Ex}{m x:Str}{f:KF}{fd:Pv}{ps:List Str}{g:Mt}{h:Fn}{apos pos p:Pos}
def Ao{G:Gx}{H:Hp}{u:V}{t:T}{F:Wf}(r:Rp G H u t F)(h:Nh t=L):u=.non:=by
 cases r with
 |non=>rfl
 |_=>cases h
def D4{J:L2.St}{H:Hp}{Q:VK}{E:XK}{t:TA}(F:∀n,FnOk X.prog X.w X.K X.mg X.base G8 k f fd ps (Lr G c (List.replicate n B) g)->True)(ht:∀Z U d J H (R:List V->Hp->Prop),SR G Z U J H->cs U=Y d->(∀vs j Fs,aK H j->RpL G j vs (trees d) Fs->LJ Z U H d Fs->R vs j)->t J H R)(n:Nat)(hn:∀U d,cs U=Y d->d.length=n)(hq:tE G (eNew c g cs) J H Q):Cc (G.ct (c+1)).1 (Lr G c (List.replicate n B) g) [] E t J H Q:=by
 obtain⟨Z,U,mo,r,s,e,kq⟩:=hq;unfold eNew at e;obtain⟨d,el,e1⟩:=Zz.mp e;split at e1
 ·rename_i Rv;obtain⟨⟨Il,y⟩,eg,e2⟩:=Zz.mp e1;split at e2
  ·rename_i hc;cases e2;have lx:=hn U d el;refine ht Z U d J H _ s el λvs H1 Gs HG Sj PK a A N C ne=>?_;have Tr:H a=O:=HG.free N;have S:aK H1 (upd (upd H1 A (.own a)) a (.ins (G.ct (c+1)).1 A [])):=λb v q=>by
    rw[aF (λz=>by rw[z,N]at q;cases q),aF (λz=>by rw[z,C]at q;cases q)];exact q
   have em:List.replicate n B=(List.range n).map λ_=>B:=by rw[List.map_const',ZF]
   have P:G1 (List.replicate n B) Gs=[]:=by rw[em];exact x9 _ _
   have fresh:∀b,(upd (upd H1 A (.own a)) a (.ins (G.ct (c+1)).1 A [])) b=O->H b=O:=λb z=>HG.free (S.free z);refine⟨a,vs,[],trees d,[a],Gs,Il,y,by rw[ZK],.ins (ks:=[]) (vs:=[]) (ts:=[]) (Fs:=[]) aw M (λ_=>rfl) .nil,(Sj.same S).at (Jk a) Rv,?_,?_,?_,eg,λu j F' l ru=>⟨Ao ru hc.2,?_⟩⟩
   ·simp[trees,lx]
   ·rw[P];simp
   ·rw[P];intro b hb D;have:b=a:=by simpa using hb
    subst this;exact Gw.oe (Sj.GG b (xm _ _ b D)) N
   ·rw[P,ZK]at l;have back:Rp G j (.ref a) (.obj (c+1) ((0,.bl B) :: Il)) F':=by
     obtain⟨c2,a2,dx2,b2,UR,Uk,Up,Fs2,OE,RW,eb2,RV,RX,PD,HR,Oo,K5⟩:=gg l.rp;cases OE;cases RW;subst RV;rw[RX];exact .ins PD HR (λz=>nomatch z) (K5.at G.me (gK (HR.trans K5.len.1) hc.1))
    refine kq (.ref a) j F' (λb v q=>l.keep b v (λz=>?_) (S b v (HG b v q))) back ⟨l.nd,λb hb=>?_⟩
    ·have:b=a:=by simpa using z
     rw[this,Tr]at q;cases q
    ·rcases l.sub b hb with z | z
     ·have:b=a:=by simpa using z
      rw[this];exact Tr
     ·exact fresh b z
  ·cases e2
 ·cases e1
def Du(M:Mk X.K (G.ct (c+1)).1 f)(F:FnOk X.prog X.w X.K X.mg X.base G8 k f fd ps (Lr G c [] g))(b:Gn k' X.A)(j:k+1<=k')(l:Gl X x)(d:X.mg x=Y (.ref (G.ct (c+1)).1))(n:Binds X.K fd ps [])(q:K3 x):PV G X (.Call (.Name x p) [] [] pos) (eNew c g ak) :=
 PE.weak (xB (E:=E0) M F (b.mono j) l d n .nil oP q) λJ H Q h=>D4 (X:=X) (k:=k) (f:=f) (fd:=fd) (ps:=ps) (t:=wg) (λ_ _=>True.intro) (λZ U a J H R s e k=>by
  cases (show Y ([]:Va)=Y a from e);exact k [] H [] (aK.refl _) .nil ⟨λi v F h=>by simp at h,by simp[Hl]⟩) 0 (λU a e=>by
  cases (show Y ([]:Va)=Y a from e);rfl) h
theorem u0{g:Nat->Str}(b:∀k,g k≠m):∀(ns:Vt)(a:List V),((ns.map g).zip a).lookup m=O
 |[],a=>by simp
 |_ :: _,[]=>by simp
 |n :: ns,v :: a=>by
  rw[Ze,ZO,YW];have:(m==g n)=B:=by
   rw[IJ];exact λz=>b n z.symm
  rw[this];exact u0 b ns a
def uG{J:L2.St}{H:Hp}{Q:VK}{E:XK}{t:TA}(hn:∀k,(G.ct (c+1)).2 k≠m)(S:∀Z U d J H (R:List V->Hp->Prop),SR G Z U J H->cs U=Y d->(∀l j A,aK H j->RpL G j l (trees d) A->LJ Z U H d A->R l j)->t J H R)(hq:tE G (fY c h ca cs) J H Q):uH (G.ct (c+1)).1 m (Jc G h) [] E (tE G ca) t J H Q:=by
 obtain⟨Z,U,mo,r,s,e,P⟩:=hq;unfold fY at e;obtain⟨⟨N,y⟩,ea,e1⟩:=Zz.mp e;split at e1
 ·rename_i c' q0 fs C;dsimp only at C;subst C;split at e1
  ·rename_i hc;subst hc;obtain⟨d,el,e2⟩:=Zz.mp e1;obtain⟨⟨n,M⟩,eg,q⟩:=Zz.mp e2;refine⟨Z,U,N,_,s,ea,λv H1 F1 z r1 f1=>?_⟩;obtain⟨c2,a,dx,b,ns,l,ts,A,ec,rfl,eb,ef,eF,hA,hl,hb,ra⟩:=gg r1;cases ec;refine⟨a,dx,_,rfl,hA,u0 hn _ _,S Z U d J H1 _ (s.same z) el λus H2 Gs w Pc PJ=>?_⟩;rw[ZK];refine⟨_ :: trees d,F1 :: Gs,n,M,.cons (r1.same w) Pc,eg,λu j F' IT F D=>?_⟩;cases n with
   |fr =>
    cases q;exact P u j F' ((z.trans w).trans IT) F ⟨D.1,λb hb=>z.free (w.free (D.2 b hb))⟩
   |pu=>cases q
   |bo=>cases q
  ·cases e1
 ·cases e1
def CJ{d:Sem Bool}(r:∀k,(G.ct (c+1)).2 k≠m)(n:PV G X o ca)(y:HX X.K (G.ct (c+1)).1)(u:Meth X.K (G.ct (c+1)).1 m f)(F:FnOk X.prog X.w X.K X.mg X.base G8 k f fd ps (Jc G h))(l:Gn k' X.A)(v:k<=k')(z:Binds X.K fd ps [])(C:Hr G X (e :: es) cs)(D:K1 e es X)(a:K2 pos es X)(j:eval (.Call (.Attribute o m apos) (e :: es) [] pos) X.env=(do
   let ov ← eval o X.env
   standAt apos.atName
   let (f,first) ← holding [ov] (getMethod ov m d)
   callWith pos f first (backTo pos (Pi (e :: es) X.env)) (backToKw pos (SL [] X.env)))):PV G X (.Call (.Attribute o m apos) (e :: es) [] pos) (fY c h ca cs) :=
 PE.weak (uA (E:=E0) n y u F (l.mono v) z .nil oP C D a j) λJ H Q q=>uG (t:=NH G cs) r (λZ U b J H R s e k=>⟨Z,U,b,s,e,k⟩) q
def AE{b:Sem Bool}(n:∀k,(G.ct (c+1)).2 k≠m)(l:PV G X o ca)(y:HX X.K (G.ct (c+1)).1)(r:Meth X.K (G.ct (c+1)).1 m f)(F:FnOk X.prog X.w X.K X.mg X.base G8 k f fd ps (Jc G h))(j:Gn k' X.A)(u:k<=k')(z:Binds X.K fd ps [])(d:eval (.Call (.Attribute o m apos) [] [] pos) X.env=(do
   let ov ← eval o X.env
   standAt apos.atName
   let (f,first) ← holding [ov] (getMethod ov m b)
   callWith pos f first (backTo pos (Pi [] X.env)) (backToKw pos (SL [] X.env)))):PV G X (.Call (.Attribute o m apos) [] [] pos) (fY c h ca ak) :=
 PE.weak (yK (E:=E0) l y r F (j.mono u) z .nil oP d) λJ H Q q=>uG (t:=wg) n (λZ U a J H R s e k=>by
  cases (show Y ([]:Va)=Y a from e);exact k [] H [] (aK.refl _) .nil ⟨λi v F h=>by simp at h,by simp[Hl]⟩) q
end
noncomputable def mn(i:Nat)(a:List Ja)(j:Nat)(U:VS.Env):Option Out:=match (U[i]?:Option (Vf)),(U[j]?:Option (Vf)) with
 |some (some (.ow t)),some (some (.ow u))=>if i≠j then (keys a U).bind λb=>(pm (λx=>aT x [(.fr,u)]) b t).map λz=>.nx ((U.set j O).set i (Y (.ow z.1))) else O
 |_,_=>O
open Classical in
noncomputable def less(H:Hp)(F:Wf):Hp:=λb=>if b∈F then O else H b
section
variable{G:Gx}{X:Cx}{i j:Nat}{way:List Ja}{o:Expr}{y:Str}{apos jj pos p1:Pos}
def pK{H:Hp}{F:Wf}{b:KF}(h:b∈F):less H F b=O:=Zo h
def gE{H:Hp}{F:Wf}{b:KF}(h:b∉F):less H F b=H b:=Zm h
def gQ{H:Hp}{F:Wf}{b:KF}{o:HO}(h:less H F b=Y o):H b=Y o/\b∉F:=by
 by_cases q:b∈F
 ·rw[pK q]at h;cases h
 ·rw[gE q]at h;exact⟨h,q⟩
def vN{H:Hp}{F:Wf}(h:∀b∈F,Gw (H b)):Kept H (less H F) :=
 ⟨λb a e=>by
  rw[gE (λz=>by have:=h b z;rw[e]at this;exact this)];exact e,λb o u e=>by
  rw[gE (λz=>by have:=h b z;rw[e]at this;exact this)];exact e⟩
def AL(Jq:kF G)(ho:Jv G X o i way)(hK:X.K=G.K)(hN:X.N[j]?=Y y)(hv:Ic X.env.scope y)(hd:K3 y)(hcd:K4 y)(GF:XAB o "append" X.env (eval o X.env)=eval o X.env)(GU:((backTo jj (Pi [.Name y p1] X.env)).all (λx=>!x.1)&&(backToKw jj (SL [] X.env)).all (λx=>x.1.isSome)
   && decide ([Expr.Name y p1].length+([]:List Keyword).length+(if ([]:List Keyword).isEmpty then 0 else 1)<30))=L)(Gz:(apos.endLine==jj.line)=L)(hs:Pi [.Name y p1] X.env=(B,eval (.Name y p1) X.env) :: Pi [] X.env)(Gy:(backTo jj (Pi [] X.env)).any (·.1)=B)(IV:swapsWith (.Call (.Attribute o "append" apos) [.Name y p1] [] jj) O pos.line X.env=pure B) :
  PSV G X (.Expr (.Call (.Attribute o "append" apos) [.Name y p1] [] jj) pos) (mn i way j) :=
 PS.weak (jS (ou Xp XI XJ gP ho (cX (dP hN hv hd hcd) fI hs) GF GU Gz hs Gy) IV) λD J H hq=>by
  obtain⟨Z,U,out,s,e,k⟩:=hq;unfold mn at e;split at e
  ·rename_i t u ht M;split at e
   ·rename_i Jr;obtain⟨r,ek,e3⟩:=Zz.mp e;obtain⟨⟨S,x2⟩,e5,e6⟩:=Zy.mp e3;cases e6;obtain⟨R,j1,j2⟩:=s.rp _ _ M;have SJ:Rp G H R u (Z j):=j2;have UX:=s.nd j u M;have mj:∀b∈Z j,Gw (H b):=SJ.GG;have kp:=vN mj;have P5:∀f F,f≠j->U[f]?=Y (Y F)->∀b∈Z f,b∉Z j:=λf F n h b hb C=>s.sep j f u F M h (YK n) b C hb;have s0:SR G Z (U.set j O) J (less H (Z j)):=⟨(s.drop j).len,λf F h=>by
     obtain⟨n,h'⟩:=cE h;obtain⟨v,h1,h2⟩:=s.rp f F h';exact⟨v,h1,h2.keep kp λb hb d VW=>by rw[gE (P5 f F n h' b hb)];exact VW⟩,(s.drop j).nd,(s.drop j).sep⟩
    have QR:(U.set j O)[i]?=Y (Y (.ow t)):=by
     rw[Ya (YK Jr)];exact ht
    obtain⟨v,h1,h2⟩:=s0.rp _ _ QR;obtain⟨w,x,F1,x3,w1,w2,w3,Q,w5⟩:=nB r Jq h2 (s0.nd i t QR) e5;unfold aT at Q;split at Q
    ·rename_i l yv heq;cases heq;obtain⟨z,ez,e7⟩:=Zz.mp Q;cases (show Y u=Y z from ez);split at e7
     ·rename_i hl;cases e7;obtain⟨a,us,Gs,rfl,rfl,ha,ra⟩:=w2.lst_inv;obtain⟨Rw,Tn⟩:=gQ ha;have Ui:HD G H r v (.ref a):=by
       have:∀{r:List Ky}{v w:V},HD G (less H (Z j)) r v w->HD G H r v w:=by
        intro r v w p
        induction p with
        |nil v=>exact .nil v
        |fld h l _ A=>exact .fld (gQ h).1 l A
        |ix h l m _ A=>exact .ix (gQ h).1 l m A
        |key h l _ A=>exact .key (gQ h).1 l A
        |un _ A=>exact .un A
       exact this w1
      refine⟨Z,U,t,r,v,.ref a,s,ht,h1,ek,Ui,λH0 E=>⟨.inl ⟨rfl,us,by rw[hK];exact GL.of (E a _ Rw)⟩,R,j1,a,us,R,rfl,rfl,E a _ Rw,by rw[ra.len.1];exact hl,?_⟩⟩;have m0:Gw (H0 a):=by rw[E a _ Rw];exact True.intro
      have Kp:=ZZ.mp w3;have Qu:∀b∈Gs.flatten,b∉Z j:=λb hb C=>by
       have:=ra.GG b hb;rw[pK C]at this;exact this
      have P:∀b d,less H (Z j) b=Y d->H0 b=Y d:=λb d h=>E b d (gQ h).1;have kl:Kept (less H (Z j)) H0:=⟨λb xs h=>P b _ h,λb d u h=>P b _ h⟩
      have g:Chg G (less H (Z j)) (.ref a) (a :: Gs.flatten) (.lst (l++[u])) (upd H0 a (.lst (us++[R]))) (a :: (Gs++[Z j]).flatten):=by
       refine⟨kl.trans (Kept.upd (.inl m0)),λb d hb h=>by rw[aF (λz=>hb (by rw[z];exact Zu))];exact P b d h,λb h z=>?_,.lst aw ((RpL.off (ra.keep kl λb hb d h=>P b d h) m0 Kp.1).append (.cons (((SJ.same E)).keep (Kept.upd (.inl m0)) λb hb d ho=>by rw[aF (λz=>Tn (by rw[← z];exact hb))];exact ho) .nil)),?_,λb hb=>?_⟩
       ·by_cases q:b=a
        ·rw[q,aw]at z;cases z
        ·rw[aF q]at z;cases e:less H (Z j) b with
         |none=>exact h e
         |some d=>rw[P b d e]at z;cases z
       ·rw[Yw];refine ZZ.mpr ⟨λm=>?_,ZM.mpr ⟨Kp.2,by simpa using UX,λb hb c hc z=>?_⟩⟩
        ·rcases Zi.mp m with m | m
         ·exact Kp.1 m
         ·exact Tn (by simpa using m)
        ·subst z;exact Qu b hb (by simpa using hc)
       ·rcases Zh.mp hb with rfl | hb
        ·exact .inl Zu
        ·rw[Yw]at hb;rcases Zi.mp hb with hb | hb
         ·exact .inl (Zv _ hb)
         ·exact .inr (pK (by simpa using hb))
      obtain⟨F2,g2⟩:=w5 _ _ g;obtain⟨z1,z2⟩:=s0.mut QR h1 g2;have back:∀b,less H (Z j) b=O->bG Z U b\/H b=O:=λb h=>by
       by_cases q:b∈Z j
       ·exact .inl ⟨j,u,M,q⟩
       ·rw[gE q]at h;exact .inr h
      have JM:∀b,bG Z (U.set j O) b->bG Z U b:=λb ⟨j',S,q1,q2⟩=>⟨j',S,(cE q1).2,q2⟩
      have UL:∀b,cN Z (U.set j O) b->cN Z U b:=λb ⟨j',S,q1,q2⟩=>⟨j',S,(cE q1).2,q2⟩
      refine k _ J _ z1 ⟨λb d h n=>?_,λb h z=>?_,λb h=>?_,λb h=>?_,(Kept.of E).trans (Kept.upd (.inl m0))⟩
      ·have nj:b∉Z j:=λz=>n ⟨j,u,M,z⟩;exact z2.keep b d (by rw[gE nj];exact h) λz=>n (JM b z)
      ·by_cases q:b=a
       ·rw[q,aw]at z;cases z
       ·rw[aF q]at z;exact h (E.free z)
      ·rcases z2.ow b h with h | h
       ·exact .inl (JM b h)
       ·exact back b h
      ·rcases z2.pu b h with h | h | h
       ·exact .inl (UL b h)
       ·exact .inr (.inl (JM b h))
       ·exact(back b h).elim (λz=>.inr (.inl z)) λz=>.inr (.inr z)
     ·cases e7
    ·cases Q
   ·cases e
  ·cases e
end
end VS
end
section
namespace VS
open PySem PySem.Spec PyProof.Rows L2
noncomputable def isInt:T->Bool
 |.int _=>L
 |_=>B
noncomputable def qZ(i:Nat):Jb:=λU=>match (U[i]?:Option (Vf)) with
 |some (some (.pu (.dct 3 l)))=>if (l.all λp=>isInt p.1)=L then Y (.fr,l.map (·.1)) else O
 |_=>O
noncomputable def wQ(i:Nat)(a:Tg)(b:Ex):Sx:=λU=>match (U[i]?:Option (Vf)) with
 |some (some (.ow (.dct 0 l)))=>(cY 1 a (qZ i) O b (U.set i (Y (.pu (.dct 3 l))))).bind λv=>match v.1 with
  |.fr=>Y (.rt v (U.set i O))
  |_=>O
 |_=>O
theorem zip_inj{α β:Type}:∀{a c:List α}{b d:List β},a.length=b.length->c.length=d.length->a.zip b=c.zip d->a=c
 |[],[],_,_,_,_,_=>rfl
 |[],_ :: _,_,[],_,h,_=>by simp at h
 |[],_ :: _,[],_ :: _,_,_,h=>by simp at h
 |[],_ :: _,_ :: _,_ :: _,h,_,_=>by simp at h
 |_ :: _,_,[],_,h,_,_=>by simp at h
 |_ :: _,[],_ :: _,[],_,_,h=>by simp at h
 |_ :: _,[],_ :: _,_ :: _,_,h,_=>by simp at h
 |_ :: _,_ :: _,_ :: _,[],_,h,_=>by simp at h
 |x :: a,y :: c,z :: b,w :: d,f,e,h=>by
  rw[ZO,ZO]at h;obtain⟨e1,e2⟩:=List.cons.inj h;rw[zip_inj (by simpa using f) (by simpa using e) e2,(Wb e1).1]
section
variable{G:Gx}{X:Cx}{i:Nat}{elt tg:Expr}{sc:Scope}{pos pos' p1:Pos}{N:List Str}{x:Str}{g:Tg}{ce:Ex}
def Dt(i:Nat)(N:List Str)(G4:X.calm=L)(hN:X.N[i]?=Y x)(hv:Ic X.env.scope x)(hd:K3 x)(hcd:K4 x)(HH:za 1 g)(hg:∀cl C s H fp,OY G (cJ X N sc cl C s H fp) tg g)(he:∀cl C s H fp,PV G (cJ X N sc cl C s H fp) elt ce)(Je:pM X.env sc=L)(JP:lM sc (N.drop 1) X.N=L)(JS:1<=N.length)(hs:∀y,XAC (.Name x p1) X.env y=pure y) :
  PSV G X (.Return (Y (.ListComp elt [⟨tg,.Name x p1,[],0⟩] sc pos)) pos') (wQ i g ce) :=
 PS.weak (pU (lY G4 (EA (dP hN hv hd hcd)) Je JP JS (λcl C s H fp=>⟨hg cl C s H fp,nc,he cl C s H fp⟩) hs)) λD J H hq=>by
  obtain⟨Z,U,out,s,e,k⟩:=hq;unfold wQ at e;split at e
  ·rename_i l E;obtain⟨⟨mv,tv⟩,ev,e1⟩:=Zz.mp e;have L4:mv=.fr/\out=.rt (.fr,tv) (U.set i O):=by
    cases mv with
    |fr=>cases e1;exact⟨rfl,rfl⟩
    |pu=>cases e1
    |bo=>cases e1
   obtain⟨rfl,rfl⟩:=L4;obtain⟨v,g1,g2⟩:=s.rp _ _ E;obtain⟨a,ns,d,S,R,rfl,eF,ha,Rf,rfl,ra⟩:=d5 g2;have GZ:i<U.length:=(ZW.mp E).1;have nd:=s.nd i _ E;rw[eF]at nd;have G3:=ZZ.mp nd;refine⟨.ref a,g1,a,ns.zip d,rfl,ha,λo=>?_⟩;have mu:Gw (H a):=by rw[ha];exact True.intro
   have kp:Kept H (upd H a (.frz o (.dK (ns.zip d)))):=Kept.upd (.inl mu);have es:J.set i (Y (.ref a))=J:=by
    obtain⟨h,e⟩:=ZW.mp g1;rw[← e];exact WK h
   have aΦ:a∈Z i:=by rw[eF];exact Zu
   have sub:∀b∈R.flatten,b∈Z i:=λb hb=>by rw[eF];exact Zv _ hb
   have s1:SR G (lK Z i R.flatten) (U.set i (Y (.pu (.dct 3 ((ns.map aO).zip S))))) J (upd H a (.frz o (.dK (ns.zip d)))):=by
    have:=s.put (c:=.pu (.dct 3 ((ns.map aO).zip S))) (v:=.ref a) (F:=R.flatten) (H':=upd H a (.frz o (.dK (ns.zip d)))) GZ (.dctZ aw Rf (ra.off mu G3.1)) (λj c' n hj w q=>q.keep kp λb hb ob ho=>by
     rw[aF (λz=>s.sep i j _ c' E hj (YK n) a aΦ (by rw[← z];exact hb))];exact ho) (λ_ z=>nomatch z) (λ_ z=>nomatch z) λj u n hj b hb hb'=>s.sep j i u _ hj E n b hb (sub b hb')
    rw[es]at this;exact this
   have hT:tE G (cY 1 g (qZ i) O ce) J (upd H a (.frz o (.dK (ns.zip d)))) D.rt:=by
    refine⟨_,_,.fr,tv,s1,ev,λu H' F Q r f=>?_⟩;have ee:(U.set i (Y (.pu (.dct 3 ((ns.map aO).zip S))))).set i O=U.set i O:=by rw[List.set_set]
    have sd:=(s1.drop i).same Q;rw[ee]at sd;have JM:∀b,bG (lK Z i R.flatten) (U.set i O) b->bG Z U b:=λb ⟨j,t,A,m⟩=>by
     obtain⟨n,NN⟩:=cE A;rw[d9 n]at m;exact⟨j,t,NN,m⟩
    refine k u H' F _ J sd ⟨λb ob h n=>?_,λb h z=>?_,λb h=>.inl (JM b h),λb ⟨j,t,A,m⟩=>?_,kp.trans (Kept.of Q)⟩ r ⟨f.1,λb hb=>.inl ?_⟩
    ·have nb:b≠a:=λz=>n ⟨i,_,E,by rw[z];exact aΦ⟩;exact⟨Q b ob (by rw[aF nb];exact h),λz=>n (JM b z)⟩
    ·have P:=Q.free z;by_cases q:b=a
     ·rw[q,aw]at P;cases P
     ·rw[aF q]at P;exact h P
    ·obtain⟨n,NN⟩:=cE A;rw[d9 n]at m;exact .inl ⟨j,t,NN,m⟩
    ·have:=f.2 b hb;by_cases q:b=a
     ·rw[q,aw]at this;cases this
     ·rw[aF q]at this;exact this
   obtain⟨Z2,U2,m2,l2,s2,e2,k2⟩:=pk (cond:=O) HH hT;refine k2 (R8 a o (ns.zip d)) _ [] (aK.refl _) ?_ (λb hb=>nomatch hb);unfold qZ at e2;split at e2
   ·rename_i l3 h3;split at e2
    ·rename_i hint;cases e2;obtain⟨v3,A,m⟩:=s2.rp _ _ h3;rw[g1]at A;cases A;obtain⟨a3,o3,VE,Uj,Sa,Fs3,ea3,_,IZ,Iq,rfl,K5⟩:=rW m;cases ea3;rw[aw]at IZ;have hz:ns.zip d=VE.zip Uj:=HO.dK.inj (HO.frz.inj (Zj IZ)).2;have ek:=zip_inj Rf Iq hz;subst ek;have em:((ns.map aO).zip Sa).map (·.1)=ns.map aO:=Vb (by rw[Zt,Iq,K5.len.1];exact Zp _);have zl:(ns.zip d).length=ns.length:=by rw[YX,Rf,Nat.min_self]
     refine⟨λH2 GH _=>⟨λn t M=>?_,λn M=>?_⟩,λb hb=>nomatch hb⟩
     ·rw[em,ZV]at M;obtain⟨kk,Le,JR⟩:=Zy.mp M;have Od:=(ZW.mp Le).1;refine⟨⟨GH.frz _ _ _ aw,by rw[zl];exact Od⟩,λy H3 hy=>?_⟩;obtain⟨rfl,p,hp,rfl⟩:=hy;refine⟨aK.refl _,[],?_,λb hb=>nomatch hb⟩;have SX:p.1=kk:=by
       have My:(ns.zip d)[n]?=Y p:=hp;rw[Xz]at My;rw[Le]at My;exact(Zj My.1).symm
      have hi:isInt t=L:=by
       have:=YL.mp hint (t,Sa[n]'(by rw[← K5.len.1,← Iq];exact Od)) (by
        refine Yb (i:=n) ?_;rw[Xz];exact⟨by rw[ZV,Le];exact congrArg Y JR,Zq _⟩)
       exact this
      rw[SX,← JR];rw[← JR]at hi;cases kk with
      |inl n=>exact .int n
      |inr z=>cases hi
     ·refine⟨GH.frz _ _ _ aw,?_⟩;rw[em,Zt]at M;rw[zl];exact M
    ·cases e2
   ·cases e2
  ·cases e
end
noncomputable def L8(a:List Str)(k:Nat):Str:=match a[k]? with
 |some x=>x
 |none=>⟨#[k]⟩
noncomputable def MS(a:List Str)(K:Wy)(C D:KF):Gx:=⟨K,λc=>(if c=2 then D else C,L8 a),λ_=>O⟩
def Aa{a:List Str}(i:a.Nodup)(h:∀x∈a,x.cps.size≠1)(k b:Nat)(e:L8 a k=L8 a b):k=b:=by
 unfold L8 at e;by_cases f:k<a.length
 ·by_cases d:b<a.length
  ·rw[Zq f,Zq d]at e;exact(List.getElem_inj i).mp e
  ·rw[Zq f,JH (ZJ d)]at e;have g:a[k]=(⟨#[b]⟩:Str):=e;exact absurd (by rw[g];rfl) (h _ (Yy f))
 ·by_cases d:b<a.length
  ·rw[JH (ZJ f),Zq d]at e;have g:(⟨#[k]⟩:Str)=a[b]:=e;exact absurd (by rw[← g];rfl) (h _ (Yy d))
  ·rw[JH (ZJ f),JH (ZJ d)]at e;have g:(⟨#[k]⟩:Str)=⟨#[b]⟩:=e;cases g;rfl
def AG{a:List Str}{K:Wy}{C D:KF}{m:Me}(b:a.Nodup)(h:∀x∈a,x.cps.size≠1):kF ((MS a K C D).at m):=λ_ k d e=>Aa b h k d e
def jE{a:List Str}{x:Str}(h:x∉a)(d:x.cps.size≠1)(k:Nat):L8 a k≠x:=λe=>by
 unfold L8 at e;split at e
 ·rename_i y b;exact h (e ▸ Yb b)
 ·exact d (by rw[← e];rfl)
def Cf{a:List Str}{K:Wy}{C D:KF}{m:Me}{k:Nat}{f:Str}(b:a[k]?=Y f)(h:HX K C)(g:HX K D)(e:cI K C f)(d:cI K D f):HW ((MS a K C D).at m) K k f :=
 ⟨λc=>by show L8 a k=f;unfold L8;rw[b],λc=>by show HX K (if c+1=2 then D else C);split<;>assumption,λc=>by show cI K (if c+1=2 then D else C) f;split<;>assumption⟩
structure MtAt(P:P3)(w:XAA)(K:Wy)(mg:Wi)(base:UV)(k:Nat)(G:Gx)(c:Nat)(x:Str)(ps:List Str)(mv:List Bool)(g:Mt):Prop where
 ex:∃f fd,FnOk P w K mg base G8 k f fd ps (Lr G c mv g)/\Meth K (G.ct (c+1)).1 x f/\Binds K fd ps []
 cl:HX K (G.ct (c+1)).1
 no:∀k,(G.ct (c+1)).2 k≠x
structure MpAt(P:P3)(w:XAA)(K:Wy)(mg:Wi)(base:UV)(k:Nat)(G:Gx)(c:Nat)(x:Str)(ps:List Str)(h:Fn):Prop where
 ex:∃f fd,FnOk P w K mg base G8 k f fd ps (Jc G h)/\Meth K (G.ct (c+1)).1 x f/\Binds K fd ps []
 cl:HX K (G.ct (c+1)).1
 no:∀k,(G.ct (c+1)).2 k≠x
structure InAt(P:P3)(w:XAA)(K:Wy)(mg:Wi)(base:UV)(k:Nat)(G:Gx)(c n:Nat)(x:Str)(ps:List Str)(g:Mt):Prop where
 ex:∃f fd,FnOk P w K mg base G8 k f fd ps (Lr G c (List.replicate n false) g)/\Mk K (G.ct (c+1)).1 f/\Binds K fd ps []
 mg:mg x=some (.ref (G.ct (c+1)).1)
section
variable{P:P3}{w:XAA}{K:Wy}{mg:Wi}{base:UV}{k c n:Nat}{G:Gx}{x:Str}{ps:List Str}{mv:List Bool}{g:Mt}
theorem MtAt.at{m:Me}(h:MtAt P w K mg base k G c x ps mv g):MtAt P w K mg base k (G.at m) c x ps mv g:=⟨h.ex,h.cl,h.no⟩
theorem InAt.at{m:Me}(h:InAt P w K mg base k G c n x ps g):InAt P w K mg base k (G.at m) c n x ps g:=⟨h.ex,h.mg⟩
def pV{b:Str}{d:Stmt}{f:KF}{m:Pv}{N:List Str}{j l:Nat}{e:Sx}(F:GN K x b d f m)(q:Meth K (G.ct (c+1)).1 x f)(r:HX K (G.ct (c+1)).1)(v:∀k,(G.ct (c+1)).2 k≠x)(S:p0 N ps (ai d))(o:ps.length=j)(p:N.length=l)(u:∀(kV doc pm:KM)(an:Option KF)(h ct:KM)(i:Vy),i.length=ps.length->bindArgs (PySem.W.fnOf x b (dH d) (bg d) (ai d) .none kV doc pm an h ct) ⟨i,[]⟩=pure (ps.zip i))(t:∀(a:KF)(h:KM)(A:Re)(outer:List PySem.Env)(s:GM)(H:Hp)(E:XK),Gn k (A.deeper (envOfC b (ai d) s.heap.objs.size f h))->gD (G.at (Jk a)) (jk G8 P w K mg base N b (ai d) f h A outer s H E).JA (bg d) e) :
  MtAt P w K mg base (k+1) G c x ps mv (Jj c j l mv e):=⟨⟨f,m,TB F S o p t,q,F.binds u⟩,r,v⟩
def DI{y b:Str}{d:Stmt}{f:KF}{m:Pv}{N:List Str}{j l:Nat}{e:Sx}(F:GN K y b d f m)(q:Mk K (G.ct (c+1)).1 f)(r:mg x=Y (.ref (G.ct (c+1)).1))(S:p0 N ps (ai d))(o:ps.length=j)(p:N.length=l)(u:∀(kV doc pm:KM)(an:Option KF)(h ct:KM)(i:Vy),i.length=ps.length->bindArgs (PySem.W.fnOf y b (dH d) (bg d) (ai d) .none kV doc pm an h ct) ⟨i,[]⟩=pure (ps.zip i))(t:∀(a:KF)(h:KM)(A:Re)(outer:List PySem.Env)(s:GM)(H:Hp)(E:XK),Gn k (A.deeper (envOfC b (ai d) s.heap.objs.size f h))->gD (G.at (Jk a)) (jk G8 P w K mg base N b (ai d) f h A outer s H E).JA (bg d) e) :
  InAt P w K mg base (k+1) G c n x ps (Jj c j l (List.replicate n B) e):=⟨⟨f,m,TB F S o p t,q,F.binds u⟩,r⟩
def tM{a:Str}{b:Stmt}{f:KF}{l:Pv}{N:List Str}{i j:Nat}{d:Sx}(F:GN K x a b f l)(p:Meth K (G.ct (c+1)).1 x f)(q:HX K (G.ct (c+1)).1)(u:∀k,(G.ct (c+1)).2 k≠x)(S:p0 N ps (ai b))(m:ps.length=i)(o:N.length=j)(t:∀(kV doc pm:KM)(an:Option KF)(e ct:KM)(h:Vy),h.length=ps.length->bindArgs (PySem.W.fnOf x a (dH b) (bg b) (ai b) .none kV doc pm an e ct) ⟨h,[]⟩=pure (ps.zip h))(r:∀(e:KM)(A:Re)(outer:List PySem.Env)(s:GM)(H:Hp)(E:XK),Gn k (A.deeper (envOfC a (ai b) s.heap.objs.size f e))->gD G (jk G8 P w K mg base N a (ai b) f e A outer s H E).JA (bg b) d) :
  MpAt P w K mg base (k+1) G c x ps (fn i j d):=⟨⟨f,l,RF F S m o r,p,F.binds t⟩,q,u⟩
end
section
variable{G:Gx}{X:Cx}{i j c k k' kr n:Nat}{way:List Ja}{o e b:Expr}{es:List Expr}{cs:GY}{ca ck ce:Ex}{m x:Str}{ps:List Str}{mv:List Bool}{g:Mt}{h:Fn}{xc:Xx}{f:Str}{apos jj pos pos' p p1:Pos}
def g8{d:Sem Bool}(z:kF G)(F:MtAt X.prog X.w X.K X.mg X.base k G c m ps mv g)(q:Gn k' X.A)(s:k<=k')(r:Jv G X o i way)(t:Hr G X (e :: es) cs)(C:K1 e es X:=by exact rfl)(a:K2 pos es X:=by exact rfl)(l:eval (.Call (.Attribute o m apos) (e :: es) [] pos) X.env=(do
   let ov ← eval o X.env
   standAt apos.atName
   let (f,first) ← holding [ov] (getMethod ov m d)
   callWith pos f first (backTo pos (Pi (e :: es) X.env)) (backToKw pos (SL [] X.env))):=by exact rfl):PX G X (.Call (.Attribute o m apos) (e :: es) [] pos) (bU i way c mv g cs):=by
 obtain⟨f,fd,y,v,u⟩:=F.ex;exact Aq z F.no r F.cl v y q s u t C a l
def Bu{d:Sem Bool}(F:MpAt X.prog X.w X.K X.mg X.base k G c m ps h)(q:Gn k' X.A)(s:k<=k')(r:PV G X o ca)(t:Hr G X (e :: es) cs)(z:K1 e es X)(a:K2 pos es X)(l:eval (.Call (.Attribute o m apos) (e :: es) [] pos) X.env=(do
   let ov ← eval o X.env
   standAt apos.atName
   let (f,first) ← holding [ov] (getMethod ov m d)
   callWith pos f first (backTo pos (Pi (e :: es) X.env)) (backToKw pos (SL [] X.env)))):PV G X (.Call (.Attribute o m apos) (e :: es) [] pos) (fY c h ca cs):=by
 obtain⟨f,fd,y,v,u⟩:=F.ex;exact CJ F.no r F.cl v y q s u t z a l
def qY{a:Sem Bool}(F:MpAt X.prog X.w X.K X.mg X.base k G c m ps h)(l:Gn k' X.A)(r:k<=k')(q:PV G X o ca)(d:eval (.Call (.Attribute o m apos) [] [] pos) X.env=(do
   let ov ← eval o X.env
   standAt apos.atName
   let (f,first) ← holding [ov] (getMethod ov m a)
   callWith pos f first (backTo pos (Pi [] X.env)) (backToKw pos (SL [] X.env)))):PV G X (.Call (.Attribute o m apos) [] [] pos) (fY c h ca ak):=by
 obtain⟨f,fd,u,t,s⟩:=F.ex;exact AE F.no q F.cl t u l r s d
def Av(F:InAt X.prog X.w X.K X.mg X.base k G c 0 x ps g)(a:Gn k' X.A)(d:k+1<=k')(l:Gl X x)(t:K3 x):PV G X (.Call (.Name x p) [] [] pos) (eNew c g ak):=by
 obtain⟨f,fd,s,r,q⟩:=F.ex;exact Du r s a d l F.mg q t
def zd(u:kF G)(d:Jv G X o i way)(q:Hr G X [e] cs)(s:X.K=G.K)(D:XAB o "append" X.env (eval o X.env)=eval o X.env)(C:((backTo jj (Pi [e] X.env)).all (λx=>!x.1)&&(backToKw jj (SL [] X.env)).all (λx=>x.1.isSome)
   && decide ([e].length+([]:List Keyword).length+(if ([]:List Keyword).isEmpty then 0 else 1)<30))=L)(y:(apos.endLine==jj.line)=L)(a:K1 e [] X)(A:(backTo jj (Pi [] X.env)).any (·.1)=B)(w:swapsWith (.Call (.Attribute o "append" apos) [e] [] jj) O pos.line X.env=pure B) :
  PSV G X (.Expr (.Call (.Attribute o "append" apos) [e] [] jj) pos) (sX (lA i way aT cs)) :=
 zu u Xp XI XJ gP kZ (λH v t F l z r h=>ll r h) d q s D C y a A w
end
noncomputable def K9(m:Nat)(t:T):T:=.obj 0 [(0,.bl L),(m,t)]
noncomputable def Kg:T->Option (Nat×T)
 |.obj 0 [(0,.bl true),(m,t)]=>Y (m,t)
 |_=>O
def lS{t u:T}{m:Nat}(h:Kg t=Y (m,u)):t=K9 m u:=by
 unfold Kg at h;split at h
 ·cases h;rfl
 ·cases h
noncomputable def qL(a:List V):Me:=λk=>match k with
 |0=>O
 |k+1=>a[k]?
noncomputable def markL:Nat->List Bool->V1->V1
 |k,b :: bs,t :: a=>(if b then K9 (k+1) t else t) :: markL (k+1) bs a
 |_,_,_=>[]
noncomputable def lh(U:VS.Env):Nat->List Bool->Option (V1)
 |_,[]=>Y []
 |k,true :: bs=>match (U[k]?:Option (Vf)) with
  |some (some (.ow t))=>(Kg t).bind λz=>if z.1=k+1 then (lh U (k+1) bs).map (z.2 :: ·) else O
  |_=>O
 |k,false :: bs=>lh U (k+1) bs
noncomputable def dg{α:Type}:List Bool->List α->List α
 |true :: bs,x :: a=>x :: dg bs a
 |false :: bs,_ :: a=>dg bs a
 |_,_=>[]
noncomputable def LU(Z:Gv):Nat->List Bool->X8
 |_,[]=>[]
 |k,true :: bs=>Z k :: LU Z (k+1) bs
 |k,false :: bs=>LU Z (k+1) bs
noncomputable def wV:T->Bool
 |.str _=>L
 |_=>B
noncomputable def vX(b:V1)(v:Val):Bool:=Gu v.2||(match b,v with
 |[.lst [.int _]],(.fr,.lst a)=>a.all wV
 |_,_=>B)
def AA{b:V1}{v:Val}(h:vX b v=L):Gu v.2=L\/∃n a,b=[.lst [.int n]]/\v=(.fr,.lst a)/\a.all wV=L:=by
 unfold vX at h;rcases Bool.or_eq_true_iff.mp h with h | h
 ·exact .inl h
 ·split at h
  ·exact .inr ⟨_,_,rfl,rfl,h⟩
  ·cases h
def rY{a:V1}(h:a.all wV=L):dm a=L/\bp a=L:=by
 induction a with
 |nil=>exact⟨rfl,rfl⟩
 |cons t a b =>
  rw[Wx,ZU]at h;cases t<;>first | exact b h.2 | cases h.1
noncomputable def J5(e g:Nat)(a:List Bool)(b:Sx):V1->Option (V1×T)
 |f :: d=>if d.length+1=e/\a.length=d.length then
  (b ((Y (.ow (K9 1 f)) :: List.zipWith iG a (markL 1 a d))++List.replicate (g-e) O)).bind λo=>match o with
   |.rt v U=>(lh U 0 (L :: a)).bind λos=>if vX os v=L/\bp os=L then Y (os,v.2) else O
   |.nx U=>(lh U 0 (L :: a)).bind λos=>if bp os=L then Y (os,.non) else O
   |_=>O else O
 |[]=>O
structure ChI(G:Gx)(H:Hp)(mv:List Bool)(vs:List V)(Fs:X8)(os:V1)(H2:Hp)(Gs:X8):Prop where
 kept:Kept H H2
 keep:∀b o,b∉G1 mv Fs->H b=some o->H2 b=some o
 GG:∀b,H b≠none->H2 b≠none
 rp:RpL G H2 (dg mv vs) os Gs
 nd:Gs.flatten.Nodup
 sub:∀a∈Gs.flatten,a∈G1 mv Fs\/H a=none
noncomputable def NJ(G:Gx)(d:List Bool)(g:V1->Option (V1×T)):Sp:=λm H Q _=>∃(a:KF)(i:List V)(j:T)(f:V1)(F:Wf)(e:X8)(os:V1)(x:T),m=.ref a :: i/\Rp G H (.ref a) j F/\RpL G H i f e/\(∀v∈dg d i,∃b,v=.ref b)/\fz j=L/\bp f=L/\d.length=f.length ∧
 (F++G1 d e).Nodup/\(∀b∈F++G1 d e,b∉Jd d e)/\g (j :: f)=Y (os,x)/\∀u l Gs h,ChI G H (L :: d) m (F :: e) os l Gs->Rp G l u x h->h.Nodup->(∀a∈h,a∉Gs.flatten)->(∀a∈h,H a=O\/a∈F++G1 d e)->Q u l
section
variable{G:Gx}{H:Hp}
def new_apart{w:Gx}{e:List V}{n:Int}{Gs:X8}{u:V}{f:V1}{F:Wf}(r:RpL G H e [.lst [.int n]] Gs)(q:Rp w H u (.lst f) F)(g:f.all wV=L):∀a∈F,a∉Gs.flatten:=by
 cases r with
 |cons j r1 =>
  cases r1;obtain⟨a,e,y,rfl,rfl,v,t⟩:=j.lst_inv;obtain⟨p,ws,x,rfl,rfl,i,h⟩:=q.lst_inv;rw[h.Gu (rY g).1];intro b hb d;rw[Zk]at hb;subst hb;cases t with
  |cons s o =>
   cases o;cases s;have:b=a:=by simpa using d
   subst this;rw[v]at i;cases i;cases h with
   |cons m l =>
    cases l;cases m;cases g
theorem uu{m:Me}:∀{bs:List Bool}{d:List V}{e:V1}{f:X8}(k:Nat),RpL (G.at m) H d e f->(∀v∈dg bs d,∃b,v=.ref b)->(∀j,m (k+1+j)=d[j]?)->bs.length=e.length->RpL (G.at m) H d (markL k bs e) f
 |[],_,_,_,k,.nil,_,_,_=>.nil
 |[],_,_,_,k,.cons _ _,_,_,h=>by simp at h
 |_ :: _,_,_,_,k,.nil,_,_,h=>by simp at h
 |b :: bs,v :: d,t :: e,F :: f,k,.cons r q,i,l,n=>by
  have g:=uu (bs:=bs) (k+1) q (λw hw=>i w (by cases b<;>simp[dg,hw])) (λj=>by rw[show k+1+1+j=k+1+(j+1) by omega,l (j+1)];rfl) (by simpa using n);cases b with
  |false=>exact .cons r g
  |true =>
   obtain⟨a,rfl⟩:=i v (by simp[dg]);exact .cons (.mk (l 0) r) g
theorem tU{d:List V}{Z:Gv}{U:VS.Env}{J:L2.St}(s:SR (G.at (qL d)) Z U J H):∀(bs:List Bool)(k:Nat)(os:V1),lh U k bs=Y os->bp os=L →
  RpL G H (dg bs (d.drop k)) os (LU Z k bs)/\(LU Z k bs).flatten.Nodup/\∀a∈(LU Z k bs).flatten,∃j t,k<=j/\U[j]?=Y (Y (.ow t))/\a∈Z j
 |[],k,os,h,_=>by
  cases h;refine⟨?_,Iv,λa h=>nomatch h⟩;cases d.drop k<;>exact .nil
 |false :: bs,k,os,h,g=>by
  obtain⟨f,o,n⟩:=tU s bs (k+1) os h g;refine⟨?_,o,λa C=>?_⟩
  ·rw[← WD,List.drop_one]at f;cases q:d.drop k with
   |nil=>rw[q]at f;cases bs<;>(try rename_i b _;cases b)<;>exact f
   |cons v r=>rw[q]at f;exact f
  ·obtain⟨j,t,w,i⟩:=n a C;exact⟨j,t,by omega,i⟩
 |true :: bs,k,os,h,g=>by
  unfold lh at h;split at h
  ·rename_i t l;obtain⟨⟨m,u⟩,e1,e2⟩:=Zz.mp h;split at e2
   ·rename_i x;obtain⟨R,P,rfl⟩:=Zy.mp e2;rw[bp,ZU]at g;obtain⟨f,o,n⟩:=tU s bs (k+1) R P g.2;have N:=lS e1;subst N;have S:m=k+1:=x;subst S;obtain⟨v,X,M⟩:=s.rp k _ l;obtain⟨a,rfl,F,E⟩:=mh (show Rp (G.at (qL d)) H v (.obj 0 [(0,.bl L),(k+1,u)]) (Z k) from M);have D:d[k]?=Y (.ref a):=F;have hd:d.drop k=.ref a :: d.drop (k+1):=by
     obtain⟨y,e⟩:=ZW.mp D;rw[YF y,e]
    refine⟨?_,?_,λb hb=>?_⟩
    ·rw[hd];exact .cons (E.at G.me g.1) f
    ·show (Z k++(LU Z (k+1) bs).flatten).Nodup;refine ZM.mpr ⟨s.nd k _ l,o,λb hb c A z=>?_⟩;subst z;obtain⟨j,p,w,i,Q⟩:=n b A;exact s.sep k j _ _ l i (by omega) b hb Q
    ·rcases Zi.mp (show b∈Z k++(LU Z (k+1) bs).flatten from hb) with z | z
     ·exact⟨k,_,Zp _,l,z⟩
     ·obtain⟨j,p,w,i⟩:=n b z;exact⟨j,p,by omega,i⟩
   ·cases e2
  ·cases h
end
section
variable{G:Gx}{P:P3}{w:XAA}{K:Wy}{mg:Wi}{base:UV}
def fnI{x l:Str}{st:Stmt}{f:KF}{fd:Pv}{N ps:List Str}{k np X:Nat}{mv:List Bool}{C:Sx}(F:GN K x l st f fd)(S:p0 N ps (ai st))(hp:ps.length=np)(hn:N.length=X)(hb:∀(m:Me)(GA:KM)(A:Re)(outer:List PySem.Env)(s:GM)(H:Hp)(E:XK),Gn k (A.deeper (envOfC l (ai st) s.heap.objs.size f GA))->gD (G.at m) (jk G8 P w K mg base N l (ai st) f GA A outer s H E).JA (bg st) C) :
  FnOk P w K mg base G8 (k+1) f fd ps (NJ G mv (J5 np X mv C)):=by
 refine F.ok S (λvs H Q E h=>?_) λGA A outer s H vs Q E hr h=>?_
 ·obtain⟨a,g,t0,d,F0,Fs,os,y,rfl,r0,r,rf,no,Sy,hm,nd,sp,e,q⟩:=h;dsimp only[J5]at e;split at e
  ·rename_i hl;rw[Zg,r.len.1,hl.1,hp]
  ·cases e
 ·obtain⟨a,g,t0,d,F0,Fs,os,y,rfl,r0,r,rf,no,Sy,hm,nd,sp,e,q⟩:=h;refine⟨_,hb (qL (.ref a :: g)) GA A outer s H E hr,?_⟩;dsimp only[J5]at e;split at e
  ·rename_i hl;obtain⟨o,e1,e2⟩:=Zz.mp e;have S6:∀(bs:List Bool)(d:V1)(k:Nat),bs.length=d.length->(markL k bs d).length=d.length:=by
    intro bs
    induction bs with
    |nil=>intro d k h;cases d<;>simp_all[markL]
    |cons b bs ih =>
     intro d k h;cases d with
     |nil=>simp at h
     |cons t d=>simp only[markL,Zg];rw[ih d (k+1) (by simpa using h)]
   have m1:=uu (m:=qL (.ref a :: g)) (bs:=mv) 1 (r.at (qL (.ref a :: g)) Sy) rf (λj=>by rw[show 1+1+j=(1+j)+1 by omega];show (V.ref a :: g)[1+j]?=_;rw[Vl 1 j];rfl) hm;obtain⟨s0,JM⟩:=qX (mv:=mv) (Rp.mk (m:=1) (show (G.at (qL (.ref a :: g))).me 1=Y (.ref a) from rfl) (r0.at (qL (.ref a :: g)) no)) m1 (by rw[S6 mv d 1 hm];exact hm) nd sp X (g.length+1) M;rw[S6 mv d 1 hm,hl.1]at s0 JM;have e3:L2.start N (V.ref a :: g)=(V.ref a :: g).map Y++List.replicate (X-(g.length+1)) O:=by
    unfold L2.start;rw[hn];rfl
   rw[e3];have Nd:∀b,bG (λi=>(F0 :: Fs).getD i []) ((Y (.ow (K9 1 t0)) :: List.zipWith iG mv (markL 1 mv d))++List.replicate (X-np) O) b->b∈G1 (L :: mv) (F0 :: Fs):=JM;have fin:∀{D:VS.Env}{Z':Gv}{J':L2.St}{p:Hp}{os:V1},lh D 0 (L :: mv)=Y os->bp os=L->SR (G.at (qL (.ref a :: g))) Z' D J' p->GD (λi=>(F0 :: Fs).getD i []) ((Y (.ow (K9 1 t0)) :: List.zipWith iG mv (markL 1 mv d))++List.replicate (X-np) O) H Z' D p →
     ChI G H (L :: mv) (.ref a :: g) (F0 :: Fs) os p (LU Z' 0 (L :: mv)):=λ{D Z' J' p os} ho Kx U fr=>by
    obtain⟨h1,h2,h3⟩:=tU U (L :: mv) 0 os ho Kx;refine⟨fr.kept,λZ o' J ho=>(fr.keep Z o' ho λz=>J (Nd Z z)).1,fr.GG,h1,h2,λZ J=>?_⟩;obtain⟨j,t,_,a2,a3⟩:=h3 Z J;rcases fr.ow Z ⟨j,t,a2,a3⟩ with z | z
    ·exact .inl (Nd Z z)
    ·exact .inr z
   refine⟨_,_,o,s0,e1,?_⟩;cases o with
   |nx D =>
    obtain⟨UO,e4,R⟩:=Zz.mp e2;split at R
    ·rename_i hi;cases R;intro Z' J' p U fr;exact q .non p _ [] (fin e4 hi U fr) .non Iv (λa h=>nomatch h) λa h=>nomatch h
    ·cases R
   |rt v D =>
    obtain⟨UO,e4,R⟩:=Zz.mp e2;split at R
    ·rename_i hi;cases R;intro u p F' Z' J' U fr r' rf;rcases AA hi.1 with z | ⟨n,Hg,rfl,rfl,z⟩
     ·have:=r'.Gu z;subst this;exact q u p _ [] (fin e4 hi.2 U fr) (r'.at G.me (mZ _ z)) Iv (λa h=>nomatch h) λa h=>nomatch h
     ·have ch:=fin e4 hi.2 U fr;exact q u p _ F' ch (r'.at G.me (rY z).2) rf.1 (new_apart ch.rp r' z) λa ha=>(rf.2 a ha).imp id (Nd a)
    ·cases R
   |bk D=>cases e2
   |ct D=>cases e2
  ·cases e
end
section
variable{G:Gx}
def SR.QG{Z Z':Gv}{U U':VS.Env}{J:L2.St}{H H2:Hp}{S:Nat->Prop}(s:SR G Z U J H)(hl:U'.length=U.length)(m:∀j,¬S j->U'[j]?=U[j]?/\Z' j=Z j)(C:∀j,S j->∃t E v,U[j]?=Y (Y (.ow t))/\U'[j]?=Y (Y (.ow E))/\J[j]?=Y (Y v)/\Rp G H2 v E (Z' j)/\(Z' j).Nodup)(ap:∀i j,S i->S j->i≠j->∀a∈Z' i,a∉Z' j)(x:Kept H H2)(y:∀b o,(∀j,S j->b∉Z j)->H b=Y o->H2 b=Y o)(GG:∀b,H b≠O->H2 b≠O)(A:∀j,S j->∀a∈Z' j,(∃i,S i/\a∈Z i)\/H a=O) :
  SR G Z' U' J H2/\GD Z U H Z' U' H2:=by
 have P:∀j c,¬S j->U[j]?=Y (Y c)->∀a∈Z j,∀i,S i->a∉Z i:=λj c d F a u i f D=>by
  obtain⟨t,_,_,l,_⟩:=C i f;exact s.sep i j t c l F (λe=>d (e ▸ f)) a D u
 have new:∀i,S i->∀a∈Z' i,∀j c,¬S j->U[j]?=Y (Y c)->a∉Z j:=λi f a u j c d F D=>by
  rcases A i f a u with⟨k,hk,z⟩ | z
  ·exact P j c d F a D k hk z
  ·obtain⟨w,_,q⟩:=s.rp j c F;exact Gw.oe (q.GG a D) z
 refine⟨⟨hl.trans s.len,λi c h=>?_,λi t h=>?_,λi j t c l r n=>?_⟩,⟨λa o h n=>⟨y a o (λj d z=>?_) h,λz=>?_⟩,GG,λa h=>?_,λa h=>?_,x⟩⟩
 ·by_cases f:S i
  ·obtain⟨t,E,v,g,p,N,M,_⟩:=C i f;rw[p]at h;cases h;exact⟨v,N,M⟩
  ·obtain⟨g,p⟩:=m i f;rw[g]at h;obtain⟨v,R,Q⟩:=s.rp i c h;rw[p];exact⟨v,R,Q.keep x λa u o X=>y a o (λj d=>P i c f h a u j d) X⟩
 ·by_cases f:S i
  ·exact(C i f).choose_spec.choose_spec.choose_spec.2.2.2.2
  ·obtain⟨g,p⟩:=m i f;rw[g]at h;rw[p];exact s.nd i t h
 ·by_cases f:S i
  ·by_cases d:S j
   ·exact ap i j f d n
   ·obtain⟨g,p⟩:=m j d;rw[g]at r;rw[p];exact λa u=>new i f a u j c d r
  ·obtain⟨g,p⟩:=m i f;rw[g]at l;rw[p];by_cases d:S j
   ·exact λa u D=>new j d a D i _ f l u
   ·obtain⟨N,M⟩:=m j d;rw[N]at r;rw[M];exact s.sep i j t c l r n
 ·obtain⟨t,_,_,l,_⟩:=C j d;exact n ⟨j,t,l,z⟩
 ·obtain⟨j,t,l,r⟩:=z;by_cases d:S j
  ·rcases A j d a r with⟨i,f,z⟩ | z
   ·obtain⟨t,_,_,g,_⟩:=C i f;exact n ⟨i,t,g,z⟩
   ·rw[z]at h;cases h
  ·obtain⟨g,p⟩:=m j d;rw[g]at l;rw[p]at r;exact n ⟨j,t,l,r⟩
 ·obtain⟨j,t,l,r⟩:=h;by_cases d:S j
  ·rcases A j d a r with⟨i,f,z⟩ | z
   ·obtain⟨t,_,_,g,_⟩:=C i f;exact .inl ⟨i,t,g,z⟩
   ·exact .inr z
  ·obtain⟨g,p⟩:=m j d;rw[g]at l;rw[p]at r;exact .inl ⟨j,t,l,r⟩
 ·obtain⟨j,t,l,r⟩:=h;by_cases d:S j
  ·obtain⟨t,E,v,g,p,_⟩:=C j d;rw[p]at l;cases l
  ·obtain⟨g,p⟩:=m j d;rw[g]at l;rw[p]at r;exact .inl ⟨j,t,l,r⟩
end
inductive Ia where | io (i:Nat) (un:Bool) | ex (c:Ex)
noncomputable def Mx(a:Bool):Option (Vf)->Option T
 |some (some (.ow t))=>if a then (Kg t).map (·.2) else if m8 t then Y t else O
 |_=>O
noncomputable def OA(v:Val):Option T:=match v.1 with
 |.bo=>if Gu v.2 then Y v.2 else O
 |_=>Y v.2
noncomputable def jy(U:VS.Env):List Ia->Option (V1)
 |[]=>Y []
 |.io i un :: a=>(Mx un U[i]?).bind λt=>(jy U a).map (t :: ·)
 |.ex c :: a=>(c U).bind λv=>(OA v).bind λt=>(jy U a).map (t :: ·)
noncomputable def Hc:List Ia->List Bool
 |[]=>[]
 |.io _ _ :: a=>L :: Hc a
 |.ex _ :: a=>B :: Hc a
noncomputable def GX:List Ia->Vt
 |[]=>[]
 |.io i _ :: a=>i :: GX a
 |.ex _ :: a=>GX a
noncomputable def oG(a:Bool)(c:Option (Vf))(o:T):T:=if a then (match c with
 |some (some (.ow t))=>(match Kg t with
  |some z=>K9 z.1 o
  |none=>o)
 |_=>o) else o
noncomputable def ir:List Ia->V1->VS.Env->VS.Env
 |.io i un :: a,o :: os,U=>ir a os (U.set i (Y (.ow (oG un U[i]? o))))
 |.ex _ :: a,os,U=>ir a os U
 |_,_,U=>U
noncomputable def k8(a:List Ia)(g:V1->Option (V1×T)):Xx:=λU=>(jy U a).bind λb=>if bp b=L/\(GX a).Nodup then (g b).map λz=>((.fr,z.2),ir a z.1 U) else O
inductive LI(Z:Gv)(U:VS.Env)(J:L2.St)(H:Hp):List Ia->List V->X8->Prop
 |nil:LI Z U J H [] [] []
 |io {i:Nat} {un:Bool} {a:KF} {as:List Ia} {vs:List V} {Fs:X8}:J[i]?=some (some (.ref a))->LI Z U J H as vs Fs->LI Z U J H (.io i un :: as) (.ref a :: vs) (Z i :: Fs)
 |ex {c:Ex} {v:V} {F:Wf} {as:List Ia} {vs:List V} {Fs:X8}:(∀a∈F,H a=none\/cN Z U a)->LI Z U J H as vs Fs->LI Z U J H (.ex c :: as) (v :: vs) (F :: Fs)
section
variable{G:Gx}{X:Cx}{e:Expr}{es:List Expr}{as:List Ia}{c:Ex}{pos:Pos}
def DL{H:Hp}{v:V}{t:T}{F:Wf}(r:Rp G H v t F)(h:m8 t=L):∃a,v=.ref a:=by
 cases r<;>first | exact⟨_,rfl⟩ | (simp at h)
end
section
variable{G:Gx}{Z:Gv}{U:VS.Env}{J:L2.St}{H:Hp}
structure IaF(G:Gx)(Z:Gv)(U:VS.Env)(J:L2.St)(H:Hp)(as:List Ia)(ts:V1)(vs:List V)(Fs:X8):Prop where
 ref:∀v∈dg (Hc as) vs,∃b,v=.ref b
 len:(Hc as).length=ts.length
 mv:∀a,a∈G1 (Hc as) Fs ↔ ∃j∈GX as,a∈Z j
 pu:∀a∈Jd (Hc as) Fs,H a=none\/cN Z U a
 ow:∀i un,Ia.io i un∈as->∃t a,U[i]?=some (some (.ow t))/\J[i]?=some (some (.ref a))/\(un=true->∃m u,Kg t=some (m,u)/\G.me m=some (.ref a))
 nd:(GX as).Nodup->(G1 (Hc as) Fs).Nodup
theorem ja:∀{a:List Ia}{i:Nat},i∈GX a ↔ ∃un,Ia.io i un∈a
 |[],i=>⟨(λh=>nomatch h),λ⟨_,h⟩=>nomatch h⟩
 |.io j un :: a,i=>by
  show i∈j :: GX a↔_;rw[Zh,ja];constructor
  ·rintro (rfl | ⟨u,h⟩)
   ·exact⟨un,Zu⟩
   ·exact⟨u,Zv _ h⟩
  ·rintro⟨u,h⟩;rcases Zh.mp h with h | h
   ·cases h;exact .inl M
   ·exact .inr ⟨u,h⟩
 |.ex c :: a,i=>by
  show i∈GX a↔_;rw[ja];exact⟨λ⟨u,h⟩=>⟨u,Zv _ h⟩,λ⟨u,h⟩=>by
   rcases Zh.mp h with h | h
   ·cases h
   ·exact⟨u,h⟩⟩
def xW(s:SR G Z U J H):∀{d:List Ia}{q:V1}{o:List V}{l:X8},jy U d=Y q->LI Z U J H d o l->IaF G Z U J H d q o l:=by
 intro d
 induction d with
 |nil =>
  intro q o l e r;cases e;cases r;exact⟨(λv h=>nomatch h),rfl,λa=>⟨(λh=>nomatch h),λ⟨_,h,_⟩=>nomatch h⟩,(λa h=>nomatch h),(λi un h=>nomatch h),λ_=>Iv⟩
 |cons x d Q =>
  intro q o l e r;cases r with
  |@io i un a _ o l h r =>
   obtain⟨t,e1,e2⟩:=Zz.mp (show (Mx un U[i]?).bind (λt=>(jy U d).map (t :: ·))=Y q from e);obtain⟨P,e3,rfl⟩:=Zy.mp e2;have f:=Q e3 r;have hi:∃p,U[i]?=Y (Y (.ow p))/\(un=L->∃m u,Kg p=Y (m,u)/\G.me m=Y (.ref a)):=by
    unfold Mx at e1;split at e1
    ·rename_i p w;refine⟨p,w,λE=>?_⟩;rw[E,Zo M]at e1;obtain⟨⟨m,u⟩,A,g2⟩:=Zy.mp e1;obtain⟨v,R,h2⟩:=s.rp _ _ w;rw[h]at R;cases R;have S:Rp G H (.ref a) p (Z i):=h2;rw[lS A]at S;obtain⟨a',q1,q2,_⟩:=mh S;cases q1;exact⟨m,u,A,q2⟩
    ·cases e1
   obtain⟨p,w,E⟩:=hi;have UZ:∀b,b∈Z i++G1 (Hc d) l ↔ ∃j∈i :: GX d,b∈Z j:=λb=>by
    rw[Zi,f.mv];constructor
    ·rintro (z | ⟨j,n,z⟩)
     ·exact⟨i,Zu,z⟩
     ·exact⟨j,Zv _ n,z⟩
    ·rintro⟨j,n,z⟩;rcases Zh.mp n with rfl | n
     ·exact .inl z
     ·exact .inr ⟨j,n,z⟩
   refine⟨λv D=>?_,?_,UZ,?_,λC y g=>?_,λnd=>?_⟩
   ·rcases Zh.mp (show v∈V.ref a :: dg (Hc d) o from D) with rfl | D
    ·exact⟨a,rfl⟩
    ·exact f.ref v D
   ·show (Hc d).length+1=P.length+1;rw[f.len]
   ·exact λb hb=>f.pu b hb
   ·rcases Zh.mp g with g | g
    ·cases g;exact⟨p,a,w,h,E⟩
    ·exact f.ow C y g
   ·have X:=ZZ.mp (show (i :: GX d).Nodup from nd);show (Z i++G1 (Hc d) l).Nodup;refine ZM.mpr ⟨s.nd i _ w,f.nd X.2,λb hb b' N z=>?_⟩;subst z;obtain⟨j,n,z⟩:=(f.mv b).mp N;obtain⟨y,Jp⟩:=ja.mp n;obtain⟨t',_,A,_⟩:=f.ow j y Jp;exact s.sep i j _ _ w A (λe=>X.1 (e ▸ n)) b hb z
  |@ex c v F _ o l h r =>
   obtain⟨⟨m,t⟩,e1,e2⟩:=Zz.mp (show (c U).bind (λv=>(OA v).bind λt=>(jy U d).map (t :: ·))=Y q from e);obtain⟨t',_,e4⟩:=Zz.mp e2;obtain⟨P,e5,rfl⟩:=Zy.mp e4;have f:=Q e5 r;refine⟨f.ref,?_,f.mv,λa ha=>?_,λC y g=>?_,f.nd⟩
   ·show (Hc d).length+1=P.length+1;rw[f.len]
   ·rcases Zi.mp (show a∈F++Jd (Hc d) l from ha) with z | z
    ·exact h a z
    ·exact f.pu a z
   ·rcases Zh.mp g with g | g
    ·cases g
    ·exact f.ow C y g
def wm{H2:Hp}:∀{d:List Ia}{vs:List V}{Fs:X8}{os:V1}{Gs:X8}{U:VS.Env},(∀i un,Ia.io i un∈d->∃t a,U[i]?=Y (Y (.ow t))/\J[i]?=Y (Y (.ref a))/\(un=L->∃m u,Kg t=Y (m,u)/\G.me m=Y (.ref a)))->(GX d).Nodup →
  (∀(n:Nat)(v:V),(dg (Hc d) vs)[n]?=Y v->∃i:Nat,(GX d)[n]?=Y i/\J[i]?=Y (Y v))->RpL G H2 (dg (Hc d) vs) os Gs->(dg (Hc d) vs).length=(GX d).length →
  (ir d os U).length=U.length/\(∀j:Nat,j∉GX d->(ir d os U)[j]?=U[j]?)/\∀(n j:Nat),(GX d)[n]?=Y j->∃(t l:T)(v:V)(F:Wf),U[j]?=Y (Y (Cell.ow t))/\(ir d os U)[j]?=Y (Y (Cell.ow l))/\J[j]?=Y (Y v)/\Gs[n]?=Y F/\Rp G H2 v l F:=by
 intro d
 induction d with
 |nil=>intro vs Fs os Gs U _ _ _ r _;exact⟨rfl,λ_ _=>rfl,λn j h=>by simp[GX]at h⟩
 |cons x d A =>
  intro vs Fs os Gs U ow nd al r q;cases x with
  |ex c =>
   cases vs with
   |nil =>
    have e:(dg (Hc (.ex c :: d)) ([]:List V))=[]:=rfl;have e2:GX d=[]:=XE.mp (by rw[e]at q;exact q.symm);rw[e]at r;cases r;obtain⟨N,s,E⟩:=A (vs:=[]) (os:=[]) (Gs:=[]) (Fs:=Fs) (U:=U) (λi un h=>ow i un (Zv _ h)) nd (λn v h=>by cases Hc d<;>(try rename_i b _;cases b)<;>simp[dg]at h) (by cases Hc d<;>(try rename_i b _;cases b)<;>exact .nil) (by rw[e2];cases Hc d<;>(try rename_i b _;cases b)<;>rfl);exact⟨N,s,E⟩
   |cons v vs=>exact A (Fs:=Fs) (λi un h=>ow i un (Zv _ h)) nd al r q
  |io i un =>
   have y:=ZZ.mp (show (i :: GX d).Nodup from nd);cases vs with
   |nil=>simp[Hc,dg,GX]at q
   |cons v vs =>
    cases r with
    |@cons _ o F _ os Gs P r =>
     obtain⟨t,a,D,R,hu⟩:=ow i un Zu;have XT:i<U.length:=(ZW.mp D).1;have hv:v=.ref a:=by
      obtain⟨p,g,f⟩:=al 0 v M;cases (show Y i=Y p from g);rw[R]at f;cases f;rfl
     subst hv;obtain⟨N,s,E⟩:=A (vs:=vs) (os:=os) (Gs:=Gs) (Fs:=Fs) (U:=U.set i (Y (.ow (oG un U[i]? o)))) (λp X h=>by
      obtain⟨l,a',g,f⟩:=ow p X (Zv _ h);have ne:i≠p:=λe=>y.1 (e ▸ ja.mpr ⟨X,h⟩);exact⟨l,a',by rw[Ya ne];exact g,f⟩) y.2 (λn w h=>by
      obtain⟨p,g,f⟩:=al (n+1) w h;exact⟨p,g,f⟩) r (by simpa[Hc,dg,GX] using q)
     refine⟨by rw[show ir (.io i un :: d) (o :: os) U=ir d os (U.set i (Y (.ow (oG un U[i]? o)))) from rfl,N,Yn],λj Q=>?_,λn j C=>?_⟩
     ·have S:j≠i/\j∉GX d:=⟨λe=>Q (e ▸ Zu),λz=>Q (Zv _ z)⟩
      exact(s j S.2).trans (Ya (YK S.1))
     ·cases n with
      |zero =>
       cases (show Y i=Y j from C);refine⟨t,_,.ref a,F,D,(s i y.1).trans (XA XT),R,rfl,?_⟩;cases un with
       |false=>exact P
       |true =>
        obtain⟨m,u,g,f⟩:=hu M;have:oG L U[i]? o=K9 m o:=by
         unfold oG;rw[Zo M,D];show (match Kg t with | some z=>K9 z.1 o | none=>o)=_;rw[g]
        rw[this];exact .mk f P
      |succ n =>
       obtain⟨l,t2,v',F',g,f,g3,g4,g5⟩:=E n j C;have ne:i≠j:=λe=>y.1 (e ▸ Yb (show (GX d)[n]?=Y j from C));rw[Ya ne]at g;exact⟨l,t2,v',F',g,f,g3,g4,g5⟩
def Ey{j:Hp}:∀{b:List Ia}{d:List V}{f:X8},LI Z U J j b d f->(∀(n:Nat)(v:V),(dg (Hc b) d)[n]?=Y v->∃i:Nat,(GX b)[n]?=Y i/\J[i]?=Y (Y v))/\(dg (Hc b) d).length=(GX b).length:=by
 intro b d f r
 induction r with
 |nil=>exact⟨λn v h=>by simp[Hc,dg]at h,rfl⟩
 |@io i un a b d f h _ e =>
  refine⟨λn v g=>?_,by simpa[Hc,dg,GX] using e.2⟩;cases n with
  |zero=>cases (show Y (V.ref a)=Y v from g);exact⟨i,rfl,h⟩
  |succ n=>exact e.1 n v g
 |ex _ _ e=>exact e
end
section
variable{G:Gx}{X:Cx}{k:Nat}{f:KF}{fd:Pv}{ps:List Str}{x:Str}{p pos:Pos}{e:Expr}{es:List Expr}{as:List Ia}{i:Nat}{un:Bool}{g:V1->Option (V1×T)}
structure OZ(Z:Gv)(U:VS.Env)(H:Hp)(Z':Gv)(U':VS.Env)(F:Wf):Prop where
 nd:F.Nodup
 ap:∀j c,U'[j]?=some (some c)->∀a∈F,a∉Z' j
 of:∀a∈F,H a=none\/bG Z U a
noncomputable def Sd(G:Gx)(x:Xx):TE:=λJ H Q=>∃Z U v a,SR G Z U J H/\x U=Y (v,a)/\∀u b d F,SR G d a J b->GD Z U H d a b->Rp G b u v.2 F->OZ Z U H d a F->Q u b
noncomputable def PXN(G:Gx)(X:Cx)(e:Expr)(x:Xx):Prop:=PE X e (Sd G x)
def PXN.px{x:Xx}(h:PXN G X e x):PX G X e x:=PE.weak h λJ H Q b=>by
 obtain⟨Z,U,v,l,s,e,d,k⟩:=b;exact⟨Z,U,v,l,s,e,λu m j F a f r _=>k u m j a f (r.Gu d ▸ r)⟩
def OZ.back{Z b d:Gv}{U h j:VS.Env}{H l:Hp}{F:Wf}(f:GD Z U H b h l)(n:OZ b h l d j F):OZ Z U H d j F :=
 ⟨n.nd,n.ap,λa m=>(n.of a m).elim (λz=>.inl (f.none z)) λz=>(f.ow a z).elim .inr .inl⟩
def t6{Z:Gv}{U U':VS.Env}{J:L2.St}{H H1:Hp}{v:Val}{ts:V1}{vs:List V}{Fs:X8}{Q:VK}{E:XK}(s:SR G Z U J H)(e:k8 (.io i un :: as) g U=Y (v,U'))(e0:jy U (.io i un :: as)=Y ts)(sm:aK H H1)(rp:RpL G H1 vs ts Fs)(ia:LI Z U J H (.io i un :: as) vs Fs)(kq:∀u P Z' F,SR G Z' U' J P->GD Z U H Z' U' P->Rp G P u v.2 F->OZ Z U H Z' U' F->Q u P):NJ G (Hc as) g vs H1 Q E:=by
 unfold k8 at e;rw[e0,Zs]at e;have e2:=e;have e1:=e0;split at e2
 ·rename_i N;obtain⟨⟨os,y⟩,eg,e3⟩:=Zy.mp e2
  ·cases e3;have r:=xW s e1 ia;have al:=Ey ia;cases ia with
   |@io _ _ a _ us Fs hσ ia =>
    cases rp with
    |@cons _ t0 _ _ Hg _ r0 rp =>
     have no:fz t0=L/\bp Hg=L:=by
      have:=N.1;rw[bp,ZU]at this;exact this
     refine⟨a,us,t0,Hg,Z i,Fs,os,y,rfl,r0,rp,λv hv=>r.ref v (Zv _ hv),no.1,no.2,by simpa[Hc] using r.len,r.nd N.2,λb hb hb'=>?_,eg,λu P Gs Fu ch ru fnd fap fof=>?_⟩
     ·obtain⟨j,d,z⟩:=(r.mv b).mp hb;obtain⟨JJ,R⟩:=ja.mp d;obtain⟨t,_,A,_⟩:=r.ow j JJ R;rcases r.pu b hb' with q | ⟨j2,t2,M,D⟩
      ·exact Gw.oe (s.GQ ⟨j,t,A,z⟩) q
      ·refine s.sep j j2 t _ A M (λe=>?_) b z D;rw[e,M]at A;cases A
     ·obtain⟨p1,p2,p3⟩:=wm (Fs:=[]) (U:=U) r.ow N.2 al.1 ch.rp al.2;have at_:∀j,j∈GX (.io i un :: as)->∃n F,(GX (.io i un :: as))[n]?=Y j/\n=(GX (.io i un :: as)).idxOf j/\Gs[n]?=Y F:=λj d=>by
       have hn:=List.idxOf_lt_length_iff.mpr d;have:(GX (.io i un :: as))[(GX (.io i un :: as)).idxOf j]?=Y j:=by
        rw[Zq hn,List.getElem_idxOf]
       obtain⟨_,_,_,F,_,_,_,q,_⟩:=p3 _ j this;exact⟨_,F,this,rfl,q⟩
      have Φe:∀j,j∈GX (.io i un :: as)->(if j∈GX (.io i un :: as) then Gs.getD ((GX (.io i un :: as)).idxOf j) [] else Z j)=Gs.getD ((GX (.io i un :: as)).idxOf j) []:=λj d=>Zo d;obtain⟨z1,z2⟩:=s.QG (S:=λj=>j∈GX (.io i un :: as)) (H2:=P) (U':=ir (.io i un :: as) os U) (Z':=λj=>if j∈GX (.io i un :: as) then Gs.getD ((GX (.io i un :: as)).idxOf j) [] else Z j) p1 (λj d=>⟨p2 j d,Zm d⟩) (λj d=>by
       obtain⟨n,F,M,D,m⟩:=at_ j d
       obtain⟨t,t',v,F',w1,w2,w3,w4,w5⟩:=p3 n j M;rw[m]at w4;cases w4;have eF:(if j∈GX (.io i un :: as) then Gs.getD ((GX (.io i un :: as)).idxOf j) [] else Z j)=F:=by rw[Φe j d,← D,Zr,m];rfl
       refine⟨t,t',v,w1,w2,w3,?_,?_⟩
       ·rw[eF];exact w5
       ·rw[eF];exact ch.nd.sublist (bZ m)) (λj j' d R n a l C=>by
       rw[Φe j d]at l;rw[Φe j' R]at C;obtain⟨n1,F,M,D,m⟩:=at_ j d
       obtain⟨n2,F',NN,P9,Sn⟩:=at_ j' R
       rw[← D,Zr,m]at l;rw[← P9,Zr,Sn]at C;exact qk ch.nd m Sn (λe=>n (by rw[e,NN]at M;exact(Zj M).symm)) l C) ((Kept.of sm).trans ch.kept) (λb o hb ho=>ch.keep b o (λz=>by
       obtain⟨j,d,z'⟩:=(r.mv b).mp z;exact hb j d z') (sm b o ho)) (λb h=>ch.GG b λz=>h (sm.free z)) (λj d a l=>by
       rw[Φe j d]at l;obtain⟨n1,F,M,D,m⟩:=at_ j d
       rw[← D,Zr,m]at l;rcases ch.sub a ((bZ m).subset l) with z | z
       ·exact .inl ((r.mv a).mp z)
       ·exact .inr (sm.free z))
      have Oy:∀a∈Fu,H a=O\/∃j t,j∈GX (.io i un :: as)/\U[j]?=Y (Y (.ow t))/\a∈Z j:=λa l=>by
       rcases fof a l with z | z
       ·exact .inl (sm.free z)
       ·obtain⟨j,d,z'⟩:=(r.mv a).mp z;obtain⟨JJ,R⟩:=ja.mp d;obtain⟨t,_,A,_⟩:=r.ow j JJ R;exact .inr ⟨j,t,d,A,z'⟩
      refine kq u P _ Fu z1 z2 ru ⟨fnd,λj c N a l C=>?_,λa l=>(Oy a l).imp id λ⟨j,t,_,A,g2⟩=>⟨j,t,A,g2⟩⟩;by_cases d:j∈GX (.io i un :: as)
      ·rw[Φe j d]at C;obtain⟨n1,F,M,D,m⟩:=at_ j d
       rw[← D,Zr,m]at C;exact fap a l ((bZ m).subset C)
      ·rw[Zm d]at C;rw[p2 j d]at N;rcases Oy a l with z | ⟨j2,t,g0,A,g2⟩
       ·obtain⟨w,_,q⟩:=s.rp j c N;exact Gw.oe (q.GG a C) z
       ·exact s.sep j2 j t c A N (λe=>d (e ▸ g0)) a g2 C
 ·cases e2
end
noncomputable def Nu(c:Ex):Ex:=λU=>(c U).bind λv=>(Kg v.2).map λz=>(v.1,z.2)
noncomputable abbrev Xt:=VS.Env->Option (Bool×VS.Env)
noncomputable def Sb(G:Gx)(x:Xt):TT:=λJ H Q=>∃Z U b a,SR G Z U J H/\x U=Y (b,a)/\∀d e,SR G e a J d->GD Z U H e a d->Q b d
noncomputable def Nw(G:Gx)(X:Cx)(e:Expr)(x:Xt):Prop:=PT X e (Sb G x)
noncomputable def OW(G:Gx)(X:Cx)(e:Expr)(x:Xt):Prop:=PW X e (Sb G x)
noncomputable def Lm(x:Xx):Xt:=λU=>(x U).bind λz=>match z.1.2 with
 |.bl b=>Y (b,z.2)
 |_=>O
noncomputable def sV(x:Xt)(a b:Sx):Sx:=λU=>(x U).bind λz=>if z.1 then a z.2 else b z.2
section
variable{G:Gx}{X:Cx}{e a b:Expr}{rest:List Expr}{c cb:Ex}{x:Xx}{xt:Xt}{pos pos':Pos}{c1 c2:Sx}
def FJ(h:PV G X e c):PV G X e (Nu c):=PE.weak h λJ H Q l=>by
 obtain⟨Z,U,m,t,s,e,k⟩:=l;obtain⟨⟨j,y⟩,e1,e2⟩:=Zz.mp e;obtain⟨⟨n,u⟩,p,o⟩:=Zy.mp e2;cases o;refine⟨Z,U,j,y,s,e1,λv g F i r f=>k v g F i ?_ f⟩;have d:Rp G g v y F:=r;rw[lS (show Kg y=Y (n,u) from p)]at d;obtain⟨a,rfl,_,q⟩:=mh d;exact q
def OW.UJ(h:OW G X e xt):Nw G X e xt:=PW.pt h
def yP{h f:List Stmt}(l:Nw G X e xt)(n:gD G X h c1)(m:gD G X f c2):PSV G X (.If e h f pos) (sV xt c1 c2):=PS.weak (BW l n m) λD J H j=>by
 obtain⟨Z,U,o,s,e,k⟩:=j;obtain⟨⟨g,d⟩,e1,e2⟩:=Zz.mp e;refine⟨Z,U,g,d,s,e1,λp i s1 f1=>?_⟩;cases g with
 |true=>exact yi ⟨i,d,o,s1,e2,k.back f1⟩
 |false=>exact wY ⟨i,d,o,s1,e2,k.back f1⟩
end
structure IoAt(P:P3)(w:XAA)(K:Wy)(mg:Wi)(base:UV)(k:Nat)(x:Str)(ps:List Str)(G:Gx)(mv:List Bool)(g:V1->Option (V1×T)):Prop where
 ex:∃f fd,FnOk P w K mg base G8 k f fd ps (NJ G mv g)/\mg x=some (.ref f)/\PySem.W.keepIn K (.ref f)=true/\Binds K fd ps []
section
variable{P:P3}{w:XAA}{K:Wy}{mg:Wi}{base:UV}{k:Nat}{G:Gx}{x:Str}{ps:List Str}{mv:List Bool}
def nA{a:Stmt}{f:KF}{i:Pv}{N:List Str}{g h:Nat}{b:Sx}(F:GN K x x a f i)(n:mg x=Y (.ref f))(S:p0 N ps (ai a))(j:ps.length=g)(l:N.length=h)(p:∀(kV doc pm:KM)(an:Option KF)(d ct:KM)(e:Vy),e.length=ps.length->bindArgs (PySem.W.fnOf x x (dH a) (bg a) (ai a) .none kV doc pm an d ct) ⟨e,[]⟩=pure (ps.zip e))(o:∀(m:Me)(d:KM)(A:Re)(outer:List PySem.Env)(s:GM)(H:Hp)(E:XK),Gn k (A.deeper (envOfC x (ai a) s.heap.objs.size f d))->gD (G.at m) (jk G8 P w K mg base N x (ai a) f d A outer s H E).JA (bg a) b) :
  IoAt P w K mg base (k+1) x ps G mv (J5 g h mv b):=⟨f,i,fnI F S j l o,n,F.kp,F.binds p⟩
end
end VS
end
section
namespace VS
open PySem PySem.Spec PyProof.Rows L2
section
variable{G:Gx}{X:Cx}{e b:Expr}{ck ce:Ex}{pos pos' p1:Pos}{kr:Nat}
def mN{a b c:Expr}{g f d:Ex}(o:PV G X a g)(n:PV G X b f)(l:PV G X c d)(j:lastMarks [.Lt,.Lt] [b,c]=B):Iw G X (.Compare a [.Lt,.Lt] [b,c] pos) (g6 oLt oLt g f d) :=
 PT.weak (xj qd qd o n l j) λJ H Q h=>rO h (λU m r e=>by
  unfold g6 at e;obtain⟨x,v,e⟩:=Zz.mp e;obtain⟨y,u,e⟩:=Zz.mp e;obtain⟨⟨p,z⟩,s,e⟩:=Zz.mp e;cases z with
  |bl q =>
   cases q with
   |false=>cases e;exact⟨_,rfl⟩
   |true =>
    obtain⟨i,t,e⟩:=Zz.mp (show (d U).bind (λz=>oLt y z)=Y (m,r) from e);exact nV y i m r e
  |_=>cases e) λQ h=>zw u7 u7 h
end
noncomputable def xI(c:Ex):Xx:=λU=>(c U).bind λv=>if Gu v.2=L then Y ((.fr,v.2),U) else O
noncomputable def x2(f:Val->Val->V0)(a b:Xx):Xx:=λU=>(a U).bind λz=>(b z.2).bind λw=>(f (.fr,z.1.2) (.fr,w.1.2)).bind λv=>if Gu z.1.2=L/\Gu w.1.2=L/\Gu v.2=L then Y ((.fr,v.2),w.2) else O
noncomputable def iH(c:Ex)(x:Xt):Xt:=λU=>(c U).bind λv=>(KW v.2).bind λb=>if b then x U else Y (B,U)
noncomputable def lE(c:Ex)(b:Xx):Xx:=λU=>(c U).bind λx=>match x with
 | (.fr,.lst a)=>(b U).bind λz=>match z.1.2 with
  |.int i=>(Hf a.length i).bind λj=>(a[j]?).bind λt=>if dm a=L/\Gu t=L then Y ((.fr,t),z.2) else O
  |_=>O
 |_=>O
noncomputable def qD(n:Nat)(b:Xx):Xx:=λU=>match (U[n]?:Option (Vf)) with
 |some (some _)=>(b U).bind λz=>match z.1.2,(z.2[n]?:Option (Vf)) with
  |.int i,some (some c)=>(match iw c with
   |.lst a=>(Hf a.length i).bind λj=>(a[j]?).bind λt=>if Gu t=L then Y ((.fr,t),z.2) else O
   |_=>O)
  |_,_=>O
 |_=>O
section
variable{G:Gx}{X:Cx}{e a b:Expr}{rest:List Expr}{ca cb:Ex}{xa xb:Xx}{xt:Xt}{pos:Pos}{f:Val->Val->V0}{r:R2}
def aG(h:PV G X e ca):PX G X e (xI ca):=PE.weak h λJ H Q g=>by
 obtain⟨Z,U,v,n,s,e,l,k⟩:=g;obtain⟨⟨m,t⟩,e1,e2⟩:=Zz.mp e;split at e2
 ·rename_i i;cases e2;refine⟨Z,U,m,t,s,e1,λu j F d r f=>k u j Z (s.same d) (GD.same d) ?_⟩;have:=r.Gu i;subst this;exact r
 ·cases e2
def yZ(x:eV G r f){J:L2.St}{H:Hp}{Q:VK}(h:tX G (x2 f xa xb) J H Q):Nc r (tX G xa) (tX G xb) J H Q:=by
 obtain⟨Z,U,v,N,s,e,E,k⟩:=h;obtain⟨z,A,e1⟩:=Zz.mp e;obtain⟨w,y,e2⟩:=Zz.mp e1;obtain⟨⟨m,t⟩,ef,g⟩:=Zz.mp e2;split at g
 ·rename_i d;cases g;refine⟨Z,U,z.1,z.2,s,A,d.1,λq P C s1 f1 r1=>⟨C,z.2,w.1,w.2,s1,y,d.2.1,λp n l u f2 r2=>?_⟩⟩;refine x l w.2 n n (.fr,z.1.2) (.fr,w.1.2) q p [] [] m t Q ⟨aK.refl _,r1.keep f2.kept (λa h=>nomatch h),r2,Fp.nil,Fp.nil,λ_ _=>Iv⟩ ef λo D F i j M=>k o D l (u.same i) ((f1.trans f2).trans (GD.same i)) ?_;have:=j.Gu d.2.2;subst this;exact j
 ·cases g
def oB{d:Operator}(i:OpR X (binaryOp d) r)(g:eV G r f)(l:PX G X a xa)(j:PX G X b xb):PX G X (.BinOp a d b pos) (x2 f xa xb):=PE.weak (zD i l j) λJ H Q h=>yZ g h
def uJ{d:CmpOp}(l:OpR X (UF d) r)(j:eV G r f)(p:PX G X a xa)(o:PX G X b xb)(n:behindInMarks d b=B):Nw G X (.Compare a [d] [b] pos) (Lm (x2 f xa xb)):=PT.weak (vi l p o n) λJ H Q h=>by
 obtain⟨Z,U,b,w,s,e,k⟩:=h;obtain⟨⟨⟨m,t⟩,v⟩,e1,e2⟩:=Zz.mp e;dsimp only at e2;split at e2
 ·cases e2;exact yZ (Q:=λx g=>∃k,x=.bl k/\Q k g) j ⟨Z,U,_,_,s,e1,rfl,λu g q i f r=>⟨b,r.HU,k g q i f⟩⟩
 ·cases e2
def zq(i:PX G X a xa)(g:PX G X b xb)(d:gh b:=by exact λ_ _=>rfl)(j:X.K=G.K:=by exact rfl):PX G X (.Subscript a b pos) (x2 aH xa xb):=PE.weak (mR jN i g d) λJ H Q h=>by
 rw[j];exact yZ tN h
def zA(h:Nw G X e xt):OW G X (.BoolOp .And [e] pos) xt:=jU h
def zI(n:Iw G X a ca)(l:OW G X (.BoolOp .And (b :: rest) pos) xt):OW G X (.BoolOp .And (a :: b :: rest) pos) (iH ca xt):=PW.weak (x4 n l) λJ H Q j=>by
 obtain⟨Z,U,r,q,s,e,k⟩:=j;obtain⟨⟨m,t⟩,e1,e2⟩:=Zz.mp e;obtain⟨h,o,g⟩:=Zz.mp e2;refine⟨Z,U,m,t,h,s,e1,o,λu d=>?_⟩;cases h with
 |true=>exact yi ⟨Z,U,r,q,s.same d,g,λv p i f=>k v p i ((GD.same d).trans f)⟩
 |false =>
  cases g;exact wY (k u Z (s.same d) (GD.same d))
def pf(N:PV G X a ca)(M:PX G X b xb)(C:gh b:=by exact λ_ _=>rfl)(P:X.K=G.K:=by exact rfl):PX G X (.Subscript a b pos) (lE ca xb):=PE.weak (mR jN N M C) λJ H Q D=>by
 obtain⟨Z,U,v,U',s,e,hi,k⟩:=D;obtain⟨x,ea,e1⟩:=Zz.mp e;split at e1
 ·rename_i p;obtain⟨z,eb,e2⟩:=Zz.mp e1;split at e2
  ·rename_i y m;obtain⟨j,S,e3⟩:=Zz.mp e2;obtain⟨t,R,d⟩:=Zz.mp e3;split at d
   ·rename_i F;cases d;refine⟨Z,U,.fr,.lst p,s,ea,λu H1 F1 i r1 f1=>⟨Z,U,z.1,z.2,s.same i,eb,by rw[m];rfl,λw H2 Z2 q f2 r2=>?_⟩⟩;obtain⟨a,n,Fs,rfl,rfl,Js,l⟩:=r1.lst_inv;have E:¬bG Z U a:=λz=>Gw.oe (s.GQ z) (f1.2 a Zu);have KD:=(f2.keep a _ Js E).1;obtain⟨x,Fx,o,u2,g⟩:=l.get j R;have A:=g.Gu F.2;subst A;rw[m]at r2;refine .inl ⟨a,n,y,x,rfl,r2.int_inv,by rw[P];exact GL.of KD,jF (by rw[l.len.1];exact S) o,?_⟩;exact k x H2 Z2 q ((GD.same i).trans f2) (g.keep f2.kept (λa h=>nomatch h))
   ·cases d
  ·cases e2
 ·cases e1
end
section
variable{G:Gx}{Z Z5:Gv}{U U5:VS.Env}{J:L2.St}{H H5:Hp}
noncomputable def NP(Z:Gv):Gv:=λi=>match i with
 |0=>[]
 |i+1=>Z i
def xq{t:T}{a:KF}:bG (NP Z) (Y (.pu t) :: U) a↔bG Z U a:=by
 constructor
 ·rintro⟨j,u,b,d⟩;cases j with
  |zero=>cases (show Y (Y (Cell.pu t))=Y (Y (Cell.ow u)) from b)
  |succ j=>exact⟨j,u,b,d⟩
 ·rintro⟨j,u,b,d⟩;exact⟨j+1,u,b,d⟩
def E6{t:T}{a:KF}(h:cN (NP Z) (Y (.pu t) :: U) a):cN Z U a:=by
 obtain⟨j,u,d,b⟩:=h;cases j with
 |zero=>exact nomatch b
 |succ j=>exact⟨j,u,d,b⟩
def SR.ps{v:V}{t:T}(s:SR G Z U J H)(r:Rp G H v t []):SR G (NP Z) (Y (.pu t) :: U) (Y v :: J) H:=by
 refine⟨by rw[Zg,Zg,s.len],λi c h=>?_,λi u h=>?_,λi j u c b d n=>?_⟩
 ·cases i with
  |zero=>cases (show Y (Y (Cell.pu t))=Y (Y c) from h);exact⟨v,rfl,r⟩
  |succ i=>exact s.rp i c h
 ·cases i with
  |zero=>cases (show Y (Y (Cell.pu t))=Y (Y (Cell.ow u)) from h)
  |succ i=>exact s.nd i u h
 ·cases i with
  |zero=>cases (show Y (Y (Cell.pu t))=Y (Y (Cell.ow u)) from b)
  |succ i =>
   cases j with
   |zero=>exact λa _ h=>nomatch h
   |succ j=>exact s.sep i j u c b d (λe=>n (by rw[e]))
def SR.pop{c:Vf}{v:Option V}(s:SR G Z5 (c :: U5) (v :: J) H):SR G (λi=>Z5 (i+1)) U5 J H :=
 ⟨by have:=s.len;simpa using this,λi c h=>s.rp (i+1) c h,λi u h=>s.nd (i+1) u h,λi j u c b a n=>s.sep (i+1) (j+1) u c b a (λe=>n (by omega))⟩
def GD.pop{t:T}{c:Vf}(f:GD (NP Z) (Y (.pu t) :: U) H Z5 (c :: U5) H5):GD Z U H (λi=>Z5 (i+1)) U5 H5:=by
 have ow:∀a,bG (λi=>Z5 (i+1)) U5 a->bG Z5 (c :: U5) a:=λa ⟨j,u,d,b⟩=>⟨j+1,u,d,b⟩
 refine⟨λa o h n=>?_,f.GG,λa h=>?_,λa h=>?_,f.kept⟩
 ·obtain⟨d,b⟩:=f.keep a o h λz=>n (xq.mp z);exact⟨d,λz=>b (ow a z)⟩
 ·exact(f.ow a (ow a h)).imp xq.mp id
 ·obtain⟨j,u,d,b⟩:=h;rcases f.pu a ⟨j+1,u,d,b⟩ with z | z | z
  ·exact .inl (E6 z)
  ·exact .inr (.inl (xq.mp z))
  ·exact .inr (.inr z)
end
noncomputable def iu(x:Xx):Vr->VS.Env->Option (V1×VS.Env)
 |[],U=>Y ([],U)
 |i :: r,U=>(x (Y (.pu (.int i)) :: U)).bind λz=>match z.2 with
  |_ :: a=>if Gu z.1.2=L then (iu x r a).map λw=>(z.1.2 :: w.1,w.2) else O
  |[]=>O
noncomputable def Mw(i n:Nat):Vr:=(List.range' i n).map λ(k:Nat)=>(k:Int)
noncomputable def rN(a x:Xx)(U:VS.Env):Option (V1×VS.Env):=(a U).bind λz=>match z.1.2 with
 |.int j=>if 0<=j/\j<1000000 then iu x (Mw 0 j.toNat) z.2 else O
 |_=>O
noncomputable def O8(G:Gx)(y:VS.Env->Option (V1×VS.Env)):TE:=λJ H Q=>∃Z U e a,SR G Z U J H/\y U=Y (e,a)/\∀D f b d,SR G d a J b->GD Z U H d a b->b D=Y (.lst f)->RpL G b f e (List.replicate e.length [])->H D=O->¬bG d a D->¬cN d a D->Q (.ref D) b
theorem ma{α:Type}:∀n:Nat,(List.replicate n ([]:List α)).flatten=[]
 |0=>rfl
 |n+1=>by rw[XM,ZE,ma n];rfl
section
variable{G:Gx}{X:Cx}{elt a:Expr}{sc:Scope}{pos p p2 p3:Pos}{N:List Str}{nm:Str}{xa x:Xx}{g:TG}
def yj{J:L2.St}{H:Hp}{Q:VK}(hg:∀v J H (R:L2.St->Hp->Prop),R (J.set 0 (Y v)) H->g v J H R)(h:O8 G (rN xa x) J H Q):ua 1 (B4 (BU (tX G xa) wg)) g (λJ H Q=>Q L H) (tX G x) J H Q:=by
 obtain⟨Z,U,ts,S,s,e,kq⟩:=h;obtain⟨z,ea,e1⟩:=Zz.mp e;split at e1
 ·rename_i j hj;split at e1
  ·rename_i hb;obtain⟨n,hn⟩:∃n:Nat,n=j.toNat:=⟨_,rfl⟩
   rw[← hn]at e1;refine⟨Z,U,z.1,z.2,s,ea,by rw[hj];rfl,λu H1 Z1 s1 f1 r1=>⟨j,by rw[hj]at r1;rw[r1.int_inv],by omega,by omega,λD C=>?_⟩⟩;have Ka:H D=O:=f1.none C;rw[← hn];refine⟨λi m J' H'=>m=n-i/\i<=n/\∃F E f d rest c0,J'=c0 :: J/\SR G F E J H'/\GD Z1 z.2 H1 F E H'/\H' D=Y (.lst d)/\¬bG F E D/\¬cN F E D/\RpL G H' d f (List.replicate f.length [])/\iu x (Mw i (n-i)) E=Y (rest,S)/\f++rest=ts,⟨n,by omega,ZG _,Z1,z.2,[],[],ts,O,rfl,?_,GD.same (aU C),aw,?_,?_,.nil,e1,rfl⟩,?_⟩
   ·exact s1.off (.inr C) (λq=>Gw.oe (s1.HN q) C) λq=>Gw.oe (s1.GQ q) C
   ·exact λq=>Gw.oe (s1.GQ q) C
   ·exact λq=>Gw.oe (s1.HN q) C
   ·rintro i m J' H' ⟨rfl,HH,F,E,f,d,rest,c0,rfl,s2,f2,RB,QB,Sw,rp,P,ev⟩;by_cases GZ:i<n
    ·right;refine⟨GZ,λy H2 yl=>hg _ _ _ _ ?_⟩;obtain⟨rfl,rfl⟩:=yl;rw[show n-i=(n-(i+1))+1 by omega]at P;unfold Mw at P;rw[List.range'_succ,Ze,iu]at P;obtain⟨w,ex,OB⟩:=Zz.mp P;split at OB
     ·rename_i c3 U3 hw;split at OB
      ·rename_i KA;obtain⟨q,eq,e3⟩:=Zy.mp OB;cases e3;show (if L=L then _ else _);rw[Zo M];have s3:=s2.ps (v:=.int ((0:Int)+(i:Int))) (t:=.int (i:Int)) (by rw[Int.zero_add];exact .int _);refine⟨NP F,Y (.pu (.int (i:Int))) :: E,w.1,w.2,s3,ex,KA,λu5 H5 Z5 s5 f5 r5=>?_⟩;rw[hw]at s5 f5;have s6:=s5.pop;have f6:=f5.pop;obtain⟨Ou,Sz⟩:=f6.keep D _ RB QB;have Sv:¬cN (λi=>Z5 (i+1)) U3 D:=λq=>by
        rcases f6.pu D q with q | q | q
        ·exact Sw q
        ·exact QB q
        ·rw[RB]at q;cases q
       have Lx:Gw (H5 D):=by rw[Ou];exact True.intro
       have lx:d.length=f.length:=rp.len.1;refine⟨d,Ou,?_,n-(i+1),by omega,rfl,GZ,λi=>Z5 (i+1),U3,f++[w.1.2],d++[u5],q.1,_,rfl,s6.off (.inl Lx) Sv Sz,?_,aw,Sz,Sv,?_,eq,?_⟩
       ·have:f.length<=n:=by
         have hc:∀(l:Vr)(U:VS.Env)(r:V1)(S:VS.Env),iu x l U=Y (r,S)->r.length=l.length:=by
          intro l
          induction l with
          |nil=>intro U r S h;cases h;rfl
          |cons a l ih =>
           intro U r S h;rw[iu]at h;obtain⟨w',_,b⟩:=Zz.mp h;split at b
           ·split at b
            ·obtain⟨q',h3,h4⟩:=Zy.mp b;cases h4;rw[Zg,Zg,ih _ _ _ h3]
            ·cases b
           ·cases b
         have A:=hc _ _ _ _ e1;have b:=hc _ _ _ _ eq;unfold Mw at A;rw[Zt,Wc]at A;rw[← ev,Zw]at A;omega
        have hs:(KB:Nat)=16777216:=rfl;omega
       ·have ff:=f2.trans f6;refine⟨λa o A b=>?_,λa A b=>?_,ff.ow,ff.pu,ff.kept.trans (Kept.upd (.inl Lx))⟩
        ·obtain⟨q1,q2⟩:=ff.keep a o A b;exact⟨by rw[aF (λz=>by rw[z,C]at A;cases A)];exact q1,q2⟩
        ·by_cases q:a=D
         ·rw[q,aw]at b;cases b
         ·rw[aF q]at b;exact ff.GG a A b
       ·have r1:RpL G (upd H5 D (.lst (d++[u5]))) d f (List.replicate f.length []):=(rp.keep f6.kept (by rw[ma];exact λa h=>nomatch h)).keep (Kept.upd (.inl Lx)) (by rw[ma];exact λa h=>nomatch h);have r2:Rp G (upd H5 D (.lst (d++[u5]))) u5 w.1.2 []:=r5.keep (Kept.upd (.inl Lx)) (λa h=>nomatch h);have:=r1.append (.cons r2 .nil);rw[Zw,JV,List.replicate_succ'];exact this
       ·rw[Zd];exact ev
      ·cases OB
     ·cases OB
    ·left;have VZ:n-i=0:=by omega
     rw[VZ]at P;cases (show Y (([]:V1),E)=Y (rest,S) from P);rw[ZK]at ev;subst ev;refine⟨by show n<=i;omega,kq D d H' F s2 (f1.trans f2) RB rp Ka QB Sw⟩
  ·cases e1
 ·cases e1
end
noncomputable def yt(a:Tx)(y:VS.Env->Option (V1×VS.Env)):Xx:=λU=>(y U).bind λz=>(iq (.fr,.str a) [(.fr,.lst z.1)]).map λv=>((.fr,v.2),z.2)
section
variable{G:Gx}{X:Cx}{e a:Expr}{y:VS.Env->Option (V1×VS.Env)}{sep:Tx}{elt:Expr}{sc:Scope}{pos p p2 p3:Pos}{N:List Str}{nm:Str}{xa x:Xx}
def BG{b d:Pos}(w:PV G X a (eC (.str sep)))(g:PE X e (O8 G y))(n:X.K=G.K)(GF:XAB a "join" X.env (eval a X.env)=eval a X.env)(GU:((backTo d (Pi [e] X.env)).all (λx=>!x.1)&&(backToKw d (SL [] X.env)).all (λx=>x.1.isSome)
   && decide ([e].length+([]:List Keyword).length+(if ([]:List Keyword).isEmpty then 0 else 1)<30))=L)(S:(b.endLine==d.line)=L)(l:K1 e [] X)(Gy:(backTo d (Pi [] X.env)).any (·.1)=B) :
  PX G X (.Call (.Attribute a "join" b) [e] [] d) (yt sep y) :=
 PE.weak (ou PySem.F.plainAttrs_str PySem.F.slot_str_join PySem.F.type_str_join u9 w (cX g fI l) GF GU S l Gy) λJ H Q h=>by
  obtain⟨Z,U,v,U',s,e,hi,k⟩:=h;obtain⟨z,A,e1⟩:=Zz.mp e;obtain⟨v0,e2,C⟩:=Zy.mp e1;cases C;unfold iq at e2;obtain⟨f,q,i⟩:=Zz.mp e2;split at i
  ·rename_i m;cases i;refine⟨Z,U,.fr,.str sep,s,rfl,λu H1 F1 j r1 f1=>⟨by rw[n];exact qC r1 ⟨_,rfl⟩,Z,U,z.1,z.2,s.same j,A,λD vs R E r f2 o rp Ka no np=>?_⟩⟩;rw[lX rp q]at o;refine⟨sep,D,f,r1.str_inv.1,rfl,by rw[n];exact GL.of o,m,k _ R E r ((GD.same j).trans f2) (.str _ ⟨ZA (jG sep f) m,λc g=>(jw sep f c g).elim (r1.str_inv.2.2 c) λ⟨t,M,P⟩=>jx rp q t M c P⟩)⟩
  ·cases i
end
inductive Ix where | io (i:Nat) (un:Bool) | px (x:Xx)
noncomputable def ji:List Ix->VS.Env->Option (List Ia×VS.Env)
 |[],U=>Y ([],U)
 |.io i un :: r,U=>match (U[i]?:Option (Vf)) with
  |some (some _)=>(ji r U).map λw=>(.io i un :: w.1,w.2)
  |_=>O
 |.px x :: r,U=>(x U).bind λz=>if Gu z.1.2=L then (ji r z.2).map λw=>(.ex (eC z.1.2) :: w.1,w.2) else O
noncomputable def Kv:List Ix->List Bool
 |[]=>[]
 |.io _ _ :: r=>L :: Kv r
 |.px _ :: r=>B :: Kv r
noncomputable def aL(a:List Ix)(g:V1->Option (V1×T)):Xx:=λU=>(ji a U).bind λw=>k8 w.1 g w.2
inductive HL(G:Gx)(J:L2.St)(H:Hp):List Ia->List V->Prop
 |nil:HL G J H [] []
 |io {i:Nat} {un:Bool} {v:V} {as:List Ia} {vs:List V}:J[i]?=some (some v)->HL G J H as vs->HL G J H (.io i un :: as) (v :: vs)
 |ex {t:T} {v:V} {as:List Ia} {vs:List V}:Gu t=true->Rp G H v t []->HL G J H as vs->HL G J H (.ex (eC t) :: as) (v :: vs)
noncomputable def Uv(G:Gx)(g:List Ix):TA:=λJ H Q=>∃Z U a d,SR G Z U J H/\ji g U=Y (a,d)/\∀e b f,SR G f d J b->GD Z U H f d b->HL G J b a e->Q e b
noncomputable def Mb(G:Gx)(X:Cx)(a:List Expr)(b:List Ix):Prop:=PA X a (Uv G b)
section
variable{G:Gx}{X:Cx}{e:Expr}{es:List Expr}{as:List Ix}{x:Xx}{pos p:Pos}{i:Nat}{un:Bool}{g:V1->Option (V1×T)}{mv:List Bool}
theorem sP:∀{as:List Ix}{U U':VS.Env}{ias:List Ia},ji as U=Y (ias,U')->Hc ias=Kv as
 |[],_,_,_,h=>by cases h;rfl
 |.io i un :: as,U,U',ias,h=>by
  unfold ji at h;split at h
  ·obtain⟨w,b,a⟩:=Zy.mp h;cases a;show L :: Hc w.1=L :: Kv as;rw[sP (ias:=w.1) (U':=w.2) b]
  ·cases h
 |.px x :: as,U,U',ias,h=>by
  unfold ji at h;obtain⟨z,_,d⟩:=Zz.mp h;split at d
  ·obtain⟨w,b,a⟩:=Zy.mp d;cases a;show B :: Hc w.1=B :: Kv as;rw[sP (ias:=w.1) (U':=w.2) b]
  ·cases d
theorem HL.keep{J:L2.St}{H j:Hp}(k:Kept H j){f:List Ia}{d:List V}(h:HL G J H f d):HL G J j f d:=by
 induction h with
 |nil=>exact .nil
 |io h _ b=>exact .io h b
 |ex l r _ b=>exact .ex l (r.keep k (λa h=>nomatch h)) b
def Eo{Z:Gv}{U:VS.Env}{J:L2.St}{H:Hp}(s:SR G Z U J H){f:List Ia}{l:List V}(h:HL G J H f l):∀{d:V1},jy U f=Y d->∃j,RpL G H l d j/\LI Z U J H f l j:=by
 induction h with
 |nil=>intro d e;cases e;exact⟨[],.nil,.nil⟩
 |@io i un v f l y _ o =>
  intro d e;obtain⟨t,e1,e2⟩:=Zz.mp (show (Mx un U[i]?).bind (λt=>(jy U f).map (t :: ·))=Y d from e);obtain⟨Hg,b,rfl⟩:=Zy.mp e2;obtain⟨j,r,q⟩:=o b;unfold Mx at e1;split at e1
  ·rename_i A Q;obtain⟨w,z,P⟩:=s.rp _ _ Q;rw[y]at z;cases z;have n:Rp G H v A (Z i):=P;have key:∃a,v=.ref a/\Rp G H (.ref a) t (Z i):=by
    split at e1
    ·obtain⟨⟨m,u⟩,S,R⟩:=Zy.mp e1;cases R;rw[lS S]at n;obtain⟨a,M,_,F⟩:=mh n;exact⟨a,M,F⟩
    ·split at e1
     ·rename_i N;cases e1;obtain⟨a,rfl⟩:=DL n N;exact⟨a,rfl,n⟩
     ·cases e1
   obtain⟨a,rfl,E⟩:=key;exact⟨Z i :: j,.cons E r,.io y q⟩
  ·cases e1
 |@ex t v f l hi D _ o =>
  intro d e;obtain⟨w,e1,e2⟩:=Zz.mp (show (eC t U).bind (λv=>(OA v).bind λt=>(jy U f).map (t :: ·))=Y d from e);have ev:w.2=t:=by
   unfold eC at e1;cases e1;rfl
  obtain⟨C,b,e4⟩:=Zz.mp e2;obtain⟨Hg,e5,rfl⟩:=Zy.mp e4;have et:C=t:=by
   unfold OA at b;split at b
   ·split at b
    ·cases b;exact ev
    ·cases b
   ·cases b;exact ev
  subst et;obtain⟨j,r,q⟩:=o e5;exact⟨[] :: j,.cons D r,.ex (λa h=>nomatch h) q⟩
def aZ:Mb G X [] []:=PA.weak fI λJ H Q b=>by
 obtain⟨Z,U,a,d,s,e,k⟩:=b;cases e;exact k [] H Z s (GD.refl _ _ _) .nil
def bL(i:Nat)(d:Bool){n:Str}(u:X.N[i]?=Y n)(l:Ic X.env.scope n)(r:K3 n)(a:K4 n)(o:Mb G X es as)(m:Pi (.Name n pos :: es) X.env=(B,eval (.Name n pos) X.env) :: Pi es X.env:=by exact rfl):Mb G X (.Name n pos :: es) (.io i d :: as) :=
 PA.weak (cX (dP u l r a) o m) λJ H Q q=>by
  obtain⟨Z,U,j,C,s,e,k⟩:=q;unfold ji at e;split at e
  ·rename_i c t;obtain⟨w,e1,e2⟩:=Zy.mp e;cases e2;obtain⟨v,b,_⟩:=s.rp _ _ t;exact⟨v,b,Z,U,w.1,w.2,s,e1,λA z y h f ix=>k _ z y h f (.io b ix)⟩
  ·cases e
def bw(h:PX G X e x)(m:Mb G X es as)(l:K1 e es X:=by exact rfl):Mb G X (e :: es) (.px x :: as) :=
 PA.weak (cX h m l) λJ H Q n=>by
  obtain⟨Z,U,j,A,s,e,k⟩:=n;unfold ji at e;obtain⟨z,e1,e2⟩:=Zz.mp e;split at e2
  ·rename_i d;obtain⟨w,q,o⟩:=Zy.mp e2;cases o;exact⟨Z,U,z.1,z.2,s,e1,d,λu C r s1 f1 r1=>⟨r,z.2,w.1,w.2,s1,q,λy v t f b ix=>k _ v t f (f1.trans b) (.ex d (r1.keep b.kept (λa h=>nomatch h)) ix)⟩⟩
  ·cases e2
def oT{k:Nat}{f:KF}{m:Pv}{l:List Str}{n:Str}(F:FnOk X.prog X.w X.K X.mg X.base G8 k f m l (NJ G (Kv as) g))(M:Gn k X.A)(R:Gl X n)(N:X.mg n=Y (.ref f))(P:PySem.W.keepIn X.K (.ref f)=L)(hb:Binds X.K m l [])(ha:Mb G X (e :: es) (.io i un :: as))(Hu:K3 n)(S:K1 e es X)(b:K2 pos es X):PXN G X (.Call (.Name n p) (e :: es) [] pos) (aL (.io i un :: as) g) :=
 PE.weak (uV (E:=E0) F M R N P hb .nil oP ha Hu S b) λJ H Q h=>by
  obtain⟨Z,U,v,U',s,e,C⟩:=h;obtain⟨⟨a,U1⟩,e1,e2⟩:=Zz.mp e;have j:=sP e1;refine⟨Z,U,a,U1,s,e1,λy H1 Z1 s1 f1 ix=>?_⟩;show NJ G (Kv as) g (y++[]) H1 Q _;rw[ZK];cases ix with
  |nil=>cases j
  |ex _ _ _=>cases j
  |@io i' JJ v' q Ih h0 VH =>
   have d:Hc q=Kv as:=(List.cons.inj (show L :: Hc q=L :: Kv as from j)).2;have t:=e2;unfold k8 at t;obtain⟨ts,o,_⟩:=Zz.mp t;obtain⟨Fs,rp,D⟩:=Eo s1 (.io h0 VH) o;rw[← d];exact t6 s1 e2 o (aK.refl _) rp D λu H' Z' F z f' r n=>C u H' Z' F z (f1.trans f') r (n.back f1)
end
noncomputable def ox(j:Nat)(x:Xx):Sx:=λU=>(x U).bind λz=>if j<z.2.length then Y (.nx (z.2.set j (Y (.ow z.1.2)))) else O
section
variable{G:Gx}{X:Cx}{e:Expr}{x:Xx}{pos pos':Pos}{j:Nat}{nm:Str}
def AB{D:Ends}{J:L2.St}{H:Hp}(l:tS G (ox j x) D J H):Sd G x J H λu i=>D.nx (J.set j (Y u)) i:=by
 obtain⟨Z,U,o,s,e,k⟩:=l;obtain⟨z,e1,e2⟩:=Zz.mp e;split at e2
 ·rename_i m;cases e2;refine⟨Z,U,z.1,z.2,s,e1,λu i v F s1 f1 r1 d=>?_⟩;refine k _ _ _ (s1.put (c:=.ow z.1.2) (H':=i) m r1 (λ_ _ _ _ _ q=>q) (λ_ _=>d.nd) (λ_ _ f p _ g a b=>d.ap f p g a b) λf t _ g a b r=>d.ap f _ g a r b) ⟨λa o h n=>⟨(f1.keep a o h n).1,λz=>?_⟩,f1.GG,λa h=>?_,λa h=>?_,f1.kept⟩
  ·rcases jA z with⟨_,_,b⟩ | z
   ·rcases d.of a b with q | q
    ·rw[q]at h;cases h
    ·exact n q
   ·exact(f1.keep a o h n).2 z
  ·rcases jA h with⟨_,_,b⟩ | z
   ·exact(d.of a b).symm
   ·exact f1.ow a z
  ·rcases pP h with⟨_,q,_⟩ | z
   ·cases q
   ·exact f1.pu a z
 ·cases e2
def rA(h:PXN G X e x)(g:X.N.Nodup)(d:X.N[j]?=Y nm)(a:Loc X.env.scope nm)(i:swapsWith e (Y (.Name nm pos')) pos.line X.env=pure B)(f:X.fn nm=L\/X.env.scope.names.lookup nm=Y .local) :
  PSV G X (.Assign [.Name nm pos'] e pos) (ox j x) :=
 PS.weak (kK g d a h i f) λD J H b=>AB b
end
noncomputable def i7(o:Option Xx)(U:VS.Env):Option (Option Int×VS.Env):=match o with
 |none=>Y (O,U)
 |some x=>(x U).bind λz=>match z.1.2 with
  |.int i=>Y (Y i,z.2)
  |_=>O
noncomputable def NC(a:Xx)(b d:Option Xx):Xx:=λU=>(a U).bind λz=>match z.1.2 with
 |.str t=>(i7 b z.2).bind λl=>(i7 d l.2).map λh=>((.fr,.str (cut t l.1 h.1)),h.2)
 |_=>O
noncomputable def oJ(n:Nat)(x:Xx):Sx:=λU=>match (U[n]?:Option (Vf)) with
 |some (some (.ow (.lst _)))=>(x U).bind λz=>match (z.2[n]?:Option (Vf)) with
  |some (some (.ow t))=>if Gu z.1.2=L then (aT t [(.fr,z.1.2)]).map λw=>.nx (z.2.set n (Y (.ow w.1))) else O
  |_=>O
 |_=>O
noncomputable def Nb(G:Gx)(o:Option Xx):TO:=λJ H Q=>∃Z U i a,SR G Z U J H/\i7 o U=Y (i,a)/\∀b d,SR G d a J b->GD Z U H d a b->Q i b
section
variable{G:Gx}{X:Cx}{e a b:Expr}{lo hi:Option Expr}{xl xh:Option Xx}{xa x xb:Xx}{pos p2:Pos}{i:Nat}{n:Str}
def mU:PO X O (Nb G O):=PO.weak vr λJ H Q d=>by
 obtain⟨Z,U,o,f,s,e,k⟩:=d;cases e;exact k H Z s (GD.refl _ _ _)
def mM(h:PX G X e x):PO X (Y e) (Nb G (Y x)):=PO.weak (uf h) λJ H Q l=>by
 obtain⟨Z,U,o,q,s,e,k⟩:=l;obtain⟨z,e1,e2⟩:=Zz.mp e;split at e2
 ·rename_i j d;cases e2;refine⟨Z,U,z.1,z.2,s,e1,by rw[d];rfl,λu p m g f r=>⟨j,?_,k p m g f⟩⟩;rw[d]at r;exact r.int_inv
 ·cases e2
def B0(r:PX G X a xa)(o:PO X lo (Nb G xl))(p:PO X hi (Nb G xh)):PX G X (.Subscript a (.Slice lo hi O p2) pos) (NC xa xl xh) :=
 PE.weak (nM xP r o p) λJ H Q m=>by
  obtain⟨Z,U,v,P,s,e,R,k⟩:=m;obtain⟨z,e1,e2⟩:=Zz.mp e;split at e2
  ·rename_i t f;obtain⟨l,D,C⟩:=Zz.mp e2;obtain⟨h,A,y⟩:=Zy.mp C;cases y;refine⟨Z,U,z.1,z.2,s,e1,by rw[f];rfl,λu H1 M s1 f1 r1=>⟨M,z.2,l.1,l.2,s1,D,λS F j f2=>⟨F,l.2,h.1,h.2,j,A,λN E g w=>?_⟩⟩⟩;rw[f]at r1;obtain⟨rfl,d⟩:=r1.str_inv;refine⟨_,rfl,by rw[dk,← dZ];exact d.1,?_⟩;rw[jm];exact k _ N E g ((f1.trans f2).trans w) (.str _ ⟨ZA (va _ _ _) d.1,λc q=>d.2 c ((lZ _ _ _).subset q)⟩)
  ·cases e2
def Dp(i:Nat)(R:X.N[i]?=Y n)(C:Ic X.env.scope n)(F:K3 n)(d:K4 n)(P:PX G X b xb)(D:gh b)(S:X.K=G.K):PX G X (.Subscript (.Name n p2) b pos) (qD i xb) :=
 PE.weak (mR jN (dP R C F d) P D) λJ H Q E=>by
  obtain⟨Z,U,v,U',s,e,KA,k⟩:=E;unfold qD at e;split at e
  ·rename_i c0 Ol;obtain⟨r,p,_⟩:=s.rp _ _ Ol;obtain⟨z,e1,e2⟩:=Zz.mp e;split at e2
   ·rename_i y c m M;split at e2
    ·rename_i ts QP;obtain⟨j,ej,e3⟩:=Zz.mp e2;obtain⟨t,et,f⟩:=Zz.mp e3;split at f
     ·rename_i hit;cases f;refine⟨r,p,Z,U,z.1,z.2,s,e1,by rw[m];rfl,λw H2 Z2 h f2 r2=>?_⟩;obtain⟨v1,o,r1⟩:=h.rp _ _ M;rw[p]at o;cases o;rw[QP]at r1;rw[m]at r2;obtain⟨a,q,Fs,rfl,eF,Js,l⟩:=r1.lst_inv;obtain⟨x,Fx,u,u2,g⟩:=l.get j et;have A:=g.Gu hit;subst A;exact .inl ⟨a,q,y,x,rfl,r2.int_inv,by rw[S];exact GL.of Js,jF (by rw[l.len.1];exact ej) u,k x H2 Z2 h f2 g⟩
     ·cases f
    ·cases e2
   ·cases e2
  ·cases e
def zF{d f l:Pos}(i:Nat)(hN:X.N[i]?=Y n)(hv:Ic X.env.scope n)(hd:K3 n)(r:K4 n)(h:PX G X e x)(hK:X.K=G.K)(GF:XAB (.Name n l) "append" X.env (eval (.Name n l) X.env)=eval (.Name n l) X.env)(GU:((backTo f (Pi [e] X.env)).all (λx=>!x.1)&&(backToKw f (SL [] X.env)).all (λx=>x.1.isSome)
   && decide ([e].length+([]:List Keyword).length+(if ([]:List Keyword).isEmpty then 0 else 1)<30))=L)(Gz:(d.endLine==f.line)=L)(C:K1 e [] X)(Gy:(backTo f (Pi [] X.env)).any (·.1)=B)(IV:swapsWith (.Call (.Attribute (.Name n l) "append" d) [e] [] f) O pos.line X.env=pure B) :
  PSV G X (.Expr (.Call (.Attribute (.Name n l) "append" d) [e] [] f) pos) (oJ i x) :=
 PS.weak (jS (ou Xp XI XJ gP (dP hN hv hd r) (cX h fI C) GF GU Gz C Gy) IV) λD J H hq=>by
  obtain⟨Z,U,o,s,e,k⟩:=hq;unfold oJ at e;split at e
  ·rename_i l0 Ol;obtain⟨m,y,r0⟩:=s.rp _ _ Ol;obtain⟨z,e1,e2⟩:=Zz.mp e;split at e2
   ·rename_i t q;split at e2
    ·rename_i KA;obtain⟨⟨S,P⟩,e3,e4⟩:=Zy.mp e2;cases e4;refine⟨m,y,by rw[hK];exact mK r0,Z,U,z.1,z.2,s,e1,KA,λw A M p f2 r2=>?_⟩;obtain⟨v1,E,r1⟩:=p.rp _ _ q;rw[y]at E;cases E;show pd m [w] A (λx H1=>D.nx J H1);refine kZ M z.2 A A m t S (M i) [(.fr,z.1.2)] [w] [[]] P _ r1 (p.nd i t q) ⟨aK.refl _,.cons r2 .nil,⟨λj v F a b=>?_,by simp[Hl]⟩⟩ e3 λu H3 F' g=>?_
     ·cases j with
      |zero=>cases (show Y ((.fr,z.1.2):Val)=Y v from a);cases (show Y ([]:Wf)=Y F from b);exact Fp.nil
      |succ j=>simp at a
     ·obtain⟨R,Q⟩:=p.mut q y g;exact k _ J H3 R (f2.trans Q)
    ·cases e2
   ·cases e2
  ·cases e
end
section
variable{G:Gx}{X:Cx}{elt a:Expr}{sc:Scope}{pos p p2 p3:Pos}{N:List Str}{nm:Str}{xa x:Xx}
def yg(N:List Str)(t:X.calm=L)(e:Gl X "range")(d:X.mg "range" = O)(j:PX G X a xa)(l:∀cl C s H fp,PG (cJ X N sc cl C s H fp) (.Name nm p2) (vv 0))(i:∀cl C s H fp,PX G (cJ X N sc cl C s H fp) elt x)(b:K1 a [] X)(q:Pi [a] X.env=[(B,eval a X.env)])(m:pM X.env sc=L)(o:lM sc (N.drop 1) X.N=L)(n:1<=N.length)(f:∀x,XAC (.Call (.Name "range" p) [a] [] p3) X.env x=pure x) :
  PE X (.ListComp elt [⟨.Name nm p2,.Call (.Name "range" p) [a] [] p3,[],0⟩] sc pos) (O8 G (rN xa x)) :=
 PE.weak (lY t (oq e d (cX j fI b) q) m o n (λcl C s H fp=>⟨l cl C s H fp,nc,i cl C s H fp⟩) f) λJ H Q h=>yj (g:=vv 0) (λv J H R r=>r) h
end
noncomputable def yz(j:Nat)(x:Xx):Sx:=λU=>(x U).bind λz=>if Gu z.1.2=L/\j<z.2.length then Y (.nx (z.2.set j (Y (.ow (.lst [z.1.2]))))) else O
noncomputable def pA(j n:Nat)(b d:Option Xx):Sx:=λU=>match (U[n]?:Option (Vf)) with
 |some (some _)=>(i7 b U).bind λl=>(i7 d l.2).bind λh=>match (h.2[n]?:Option (Vf)) with
  |some (some c)=>(match iw c with
   |.lst a=>if dm a=L/\a.length<=dJ/\j<h.2.length then Y (.nx (h.2.set j (Y (.ow (.lst (cut a l.1 h.1)))))) else O
   |_=>O)
  |_=>O
 |_=>O
section
variable{G:Gx}{X:Cx}{e:Expr}{lo hi:Option Expr}{xl xh:Option Xx}{x:Xx}{pos pos' p1 p2 p3:Pos}{j:Nat}{nm n:Str}
def zz(h:PX G X e x)(y:X.N.Nodup)(v:X.N[j]?=Y nm)(q:Loc X.env.scope nm)(r:K1 e [] X)(A:swapsWith (.List [e] p1) (Y (.Name nm pos')) pos.line X.env=pure B)(w:X.fn nm=L\/X.env.scope.names.lookup nm=Y .local) :
  PSV G X (.Assign [.Name nm pos'] (.List [e] p1) pos) (yz j x) :=
 PS.weak (kK y v q (sv (cX h fI r)) A w) λD J H t=>by
  obtain⟨Z,U,o,s,e,k⟩:=t;obtain⟨z,e1,e2⟩:=Zz.mp e;split at e2
  ·rename_i d;cases e2;refine⟨Z,U,z.1,z.2,s,e1,d.1,λu C E s1 f1 r1=>⟨by show 1<=16777216;decide,λp b=>?_⟩⟩;have g:Rp G (upd C p (.lst [u])) (.ref p) (.lst [z.1.2]) (p :: ([[]]:X8).flatten):=.lst aw (.cons (r1.same (aU b)) .nil);obtain⟨l,i⟩:=s1.val (c:=.ow (.lst [z.1.2])) (m:=.fr) d.2 (aU b) g ⟨by simp,λa f=>by simp at f;rw[f];exact b⟩ (.inr ⟨rfl,rfl⟩);exact k _ _ _ l (f1.trans i)
  ·cases e2
def wk(i:Nat)(r:X.N[i]?=Y n)(R:Ic X.env.scope n)(hd:K3 n)(q:K4 n)(S:PO X lo (Nb G xl))(hh:PO X hi (Nb G xh))(hK:X.K=G.K)(hN:X.N.Nodup)(hj:X.N[j]?=Y nm)(Q:Loc X.env.scope nm)(IV:swapsWith (.Subscript (.Name n p1) (.Slice lo hi O p2) p3) (Y (.Name nm pos')) pos.line X.env=pure B)(hf:X.fn nm=L\/X.env.scope.names.lookup nm=Y .local) :
  PSV G X (.Assign [.Name nm pos'] (.Subscript (.Name n p1) (.Slice lo hi O p2) p3) pos) (pA j i xl xh) :=
 PS.weak (kK hN hj Q (nM uz (dP r R hd q) S hh) IV hf) λD J H f=>by
  obtain⟨Z,U,o,s,e,k⟩:=f;unfold pA at e;split at e
  ·rename_i c0 Ol;obtain⟨E,A,_⟩:=s.rp _ _ Ol;obtain⟨l,e1,e2⟩:=Zz.mp e;obtain⟨h,e3,d⟩:=Zz.mp e2;split at d
   ·rename_i c hc;split at d
    ·rename_i v QP;split at d
     ·rename_i f;cases d;refine⟨E,A,Z,U,l.1,l.2,s,e1,λH1 Z1 s1 f1=>⟨Z1,l.2,h.1,h.2,s1,e3,λH2 Z2 w f2=>?_⟩⟩;obtain⟨v1,z,r1⟩:=w.rp _ _ hc;rw[A]at z;cases z;rw[QP]at r1;obtain⟨a,u,t,rfl,eF,Js,y⟩:=r1.lst_inv;refine⟨a,u,rfl,by rw[hK];exact GL.of Js,λp g=>?_⟩;have rc:=y.cut l.1 h.1;have C:(cut t l.1 h.1).flatten=[]:=by
       have:=qw (lZ t l.1 h.1);rw[y.Gu f.1]at this;exact List.sublist_nil.mp this
      have F:Rp G (upd H2 p (.lst (sS u l.1 h.1))) (.ref p) (.lst (cut v l.1 h.1)) (p :: (cut t l.1 h.1).flatten):=.lst aw (rc.same (aU g));obtain⟨P,M⟩:=w.val (c:=.ow (.lst (cut v l.1 h.1))) (m:=.fr) f.2.2 (aU g) F ⟨by rw[C];simp,λb hb=>by rw[C]at hb;simp at hb;rw[hb];exact g⟩ (.inr ⟨rfl,rfl⟩);exact k _ _ _ P ((f1.trans f2).trans M)
     ·cases d
    ·cases d
   ·cases d
  ·cases e
end
noncomputable def TZ(G:Gx)(X:Cx)(e:Expr)(y:VS.Env->Option (V1×VS.Env)):Prop:=PE X e (O8 G y)
section
variable{G:Gx}{X:Cx}{e a b elt:Expr}{es rest:List Expr}{ca cb:Ex}{xa xb xc:Xx}{xt:Xt}{as:List Ix}{lo hi:Option Expr}{xl xh:Option Xx}{y:VS.Env->Option (V1×VS.Env)}{sep:Tx}{sc:Scope}{N:List Str}{p pos pos' p1 p2 p3 apos jj:Pos}{i j k k':Nat}{un:Bool}{n nm x:Str}{ps:List Str}{g:V1->Option (V1×T)}
def uW(f:Iw G X a ca)(d:Nw G X b xt):Nw G X (.BoolOp .And [a,b] pos) (iH ca xt):=(zI f (zA d)).UJ
def bh(F:IoAt X.prog X.w X.K X.mg X.base k x ps G (Kv as) g)(h:Gn k' X.A)(q:Mb G X (e :: es) (.io i un :: as))(l:k<=k':=by decide)(m:Gl X x:=by exact rfl)(v:K3 x:=by exact rfl)(o:K1 e es X:=by exact rfl)(d:K2 pos es X:=by exact rfl) :
  PX G X (.Call (.Name x p) (e :: es) [] pos) (aL (.io i un :: as) g):=by
 obtain⟨f,fd,u,t,s,r⟩:=F.ex;exact(oT u (h.mono l) m t s r q v o d).px
def zP(F:IoAt X.prog X.w X.K X.mg X.base k x ps G (Kv as) g)(h:Gn k' X.A)(q:Mb G X (e :: es) (.io i un :: as))(l:k<=k')(m:Gl X x)(v:K3 x)(o:K1 e es X)(d:K2 pos es X) :
  PXN G X (.Call (.Name x p) (e :: es) [] pos) (aL (.io i un :: as) g):=by
 obtain⟨f,fd,u,t,s,r⟩:=F.ex;exact oT u (h.mono l) m t s r q v o d
end
noncomputable def uD(c:Ex)(y:VS.Env->Option (V1×VS.Env)):Xx:=λU=>(c U).bind λx=>match x with
 | (.bo,_)=>O
 | (_,.lst a)=>(y U).bind λz=>if dm a=L/\a.length+z.1.length<=dJ then Y ((.fr,.lst (a++z.1)),z.2) else O
 |_=>O
noncomputable def tf(x:Xx):VS.Env->Option (V1×VS.Env):=λU=>(x U).bind λz=>if Gu z.1.2=L then Y ([z.1.2],z.2) else O
section
variable{G:Gx}{X:Cx}{e a b:Expr}{ca:Ex}{xc:Xx}{y:VS.Env->Option (V1×VS.Env)}{pos pos':Pos}{j:Nat}{nm:Str}
def AH(f:PV G X a ca)(hb:TZ G X b y):PXN G X (.BinOp a .Add b pos) (uD ca y):=PE.weak (zD gU f hb) λJ H Q hq=>by
 obtain⟨Z,U,v,U',s,e,k⟩:=hq;obtain⟨x,ea,e1⟩:=Zz.mp e;split at e1
 ·cases e1
 ·rename_i m A hm;obtain⟨z,eb,e2⟩:=Zz.mp e1;split at e2
  ·rename_i M;cases e2;refine⟨Z,U,m,.lst A,s,ea,λu H1 F1 g r1 f1=>⟨Z,U,z.1,z.2,s.same g,eb,λD o H2 Z2 C f2 hD rp hn no np=>?_⟩⟩;obtain⟨a,r,P,rfl,rfl,Js,l⟩:=r1.lst_inv;have KD:=(f2.keep a _ Js λz=>by
    rcases f1.pu hm a Zu with q | ⟨j,t,n,S⟩
    ·exact Gw.oe (s.GQ z) q
    ·obtain⟨i,R,F,p2⟩:=z;refine s.sep i j R _ F n (λe=>?_) a p2 S;subst e;rw[F]at n;cases n).1
   refine .inr (.inr ⟨a,D,r,o,rfl,rfl,KD,hD,by rw[l.len.1,rp.len.1,← dZ];exact M.2,λp d=>?_⟩);have N:=l.Gu M.1;have P7:=l.keep f2.kept (by rw[N];exact λa h=>nomatch h);have K5:=P7.append rp;have fe:(P++List.replicate z.1.length []).flatten=([]:Wf):=by rw[Yw,N,ma];rfl
   have E:Rp G (upd H2 p (.lst (r++o))) (.ref p) (.lst (A++z.1)) (p :: (P++List.replicate z.1.length []).flatten):=.lst aw (K5.same (aU d));rw[fe]at E;refine k _ _ Z2 _ (C.same (aU d)) ((GD.same g).trans (f2.trans (GD.same (aU d)))) E ⟨by simp,λj c hj a f GB=>?_,λa f=>.inl ?_⟩
   ·cases Zk.mp f;obtain⟨w,_,q⟩:=C.rp j c hj;exact Gw.oe (q.GG p GB) d
   ·cases Zk.mp f;exact g.free (f2.none d)
  ·cases e2
 ·cases e1
def DX{p:Pos}(h:PX G X e xc)(f:K1 e [] X):TZ G X (.List [e] p) (tf xc) :=
 PE.weak (sv (cX h fI f)) λJ H Q g=>by
  obtain⟨Z,U,m,n,s,e,k⟩:=g;obtain⟨z,e1,e2⟩:=Zz.mp e;split at e2
  ·rename_i i;cases e2;refine⟨Z,U,z.1,z.2,s,e1,i,λu o l s1 f1 r1=>⟨by show 1<=16777216;decide,λp d=>?_⟩⟩;exact k p [u] _ l (s1.same (aU d)) (f1.trans (GD.same (aU d))) aw (.cons (r1.same (aU d)) .nil) (f1.none d) (λz=>Gw.oe (s1.GQ z) d) (λz=>Gw.oe (s1.HN z) d)
  ·cases e2
end
end VS
end
section
namespace VS
open PySem PySem.Spec PyProof.Rows L2
noncomputable def xk:Fn:=λa=>match a with
 |[.scr ns]=>if ns.length<=63 then Y (.fr,.bl L) else O
 |_=>O
section
variable{P:P3}{w:XAA}{K:Wy}{mg:Wi}{base:UV}{G:Gx}
def Ay{k:Nat}{f:KF}{b:Pv}{y:Str}{g:Fn}(j:G.K=K)(F:FnOk P w K mg base G8 k f b [y] (Jc G g))(i:∀ns:Vr,ns.length<=63->g [.scr ns]=Y (.fr,.bl L)) :
  FnOk P w K mg base G8 k f b [y] (Jc (Ow K) xk):=F.imp λo H Q E h=>by
 obtain⟨p,s,m,r,l,a,q⟩:=h;unfold xk at a;split at a
 ·rename_i ns;split at a
  ·rename_i e;cases a;cases l with
   |cons r1 r2 =>
    cases r2;cases r1 with
    |scr d=>exact⟨[.scr ns],[[]],.fr,.bl L,.cons (.scr (by rw[j];exact d)) .nil,i ns e,λv n F e1 r f1=>q v n F e1 (by cases r;exact .bl _) f1⟩
  ·cases a
 ·cases a
end
def yT{l:PySem.W.OpenLaw}{q:P3}{b:List Str}{r:(Wi)->UV->Prop}{d:DefRec}{K:Params->Wy}{x:Str}{k:Nat}(j:l.most=Y 63)(t:d.params.defaults=[])(i:Gn k callerA)(F:∀(w:XAA)(mg:Wi)(e:KF)(h:UV),(K w.params).In h->h.Ns mainGlobals mg->mg d.name=Y (.ref e) →
   ∃fd:Pv,(∀(s:GM)(u:KM),BindsTo s fd ⟨[u],[]⟩ [(x,u)])/\∀base:UV,(K w.params).In base->base.Ns mainGlobals mg->FnOk l.prog w (K w.params) mg base G8 k e fd [x] (Jc (Ow (K w.params)) xk)) :
  PySem.W.WalkO q b r (λw h=>(K w.params).In h) l.row.toRowW d [] (λf g=>PySem.call f g) :=
 L2.i8 (n:=63) (k:=k) (x:=x) (CX:=λ_=>G8) (sp:=λw=>Jc (Ow (K w.params)) xk) j (by decide) t i (λ_ _ h=>h) F (λw H a ns m p o=>Cr (G:=Ow (K w.params)) (Zo m) p o) λ_ _ _ _ _ z=>z
end VS
end
section
namespace T38
open VS
noncomputable def aI:Mt:=Jj 0 4 4 [B,B,L]
  (aq (sX (lA 0 [.fld 1] aT (ab (aa 1) ak)))
  (aq (sX (lA 0 [.fld 2] aT (ab (aa 2) ak)))
  (aq (mn 0 [.fld 3] 3)
  (eW (e2 qQ (eN cA (ab (bC 1 (aa 0)) ak)) (Q3 1))))))
noncomputable def dQ:Mt:=Jj 0 1 1 (List.replicate 0 B)
  (aq (rz 0 1 (eX ak))
  (aq (rz 0 2 (eX ak))
  (aq (rz 0 3 (eX ak))
  (NK (bU 0 [] 0 [B,B,L] aI (ab (Q3 0) (ab (eC .non) (ab (qR 0 []) ak))))))))
noncomputable def bH:Sx :=
  (aq (fN 0 [.fld 3,.ix (aa 1)] (aa 2) (aa 5))
  (aQ 1 (e2 aH (bC 2 (aa 0)) (aa 1))))
noncomputable def av:Mt:=Jj 0 3 6 [B,B]
  (aq (aQ 3 (e2 HY (e2 aH (bC 3 (aa 0)) (aa 1)) (aa 2)))
  (aq (aQ 4 (e2 ba (e2 aH (bC 1 (aa 0)) (aa 1)) (Q3 1)))
  (aq (Hb (e2 oEq (e2 aH (bC 1 (aa 0)) (aa 3)) (aa 4)) (eY 3) cT)
  (aq (cp 5 (bU 0 [] 0 [B,B,L] aI (ab (aa 4) (ab (e2 aH (bC 2 (aa 0)) (aa 3)) (ab (eN kE (ab (e2 aH (bC 3 (aa 0)) (aa 3)) ak)) ak)))))
  (aq (fN 0 [.fld 2] (aa 3) (aa 5))
  (aq (kI (j5 (gF (aa 1)) (e2 oEq (e2 wt (e2 aH (bC 3 (aa 0)) (aa 1)) (aa 2)) (aa 3))) bH)
  (eY 5)))))))
noncomputable def bE:Sx :=
  (aq (fN 0 [.fld 3,.ix (aa 4)] (aa 2) (aa 3))
  (aQ 4 (e2 aH (bC 2 (aa 0)) (aa 4))))
noncomputable def bB:Mt:=Jj 0 3 5 [B,B]
  (aq (Hb (e2 j8 (aa 2) (e2 aH (bC 3 (aa 0)) (aa 1))) (kg (bU 0 [] 0 [B,B] av (ab (aa 1) (ab (aa 2) ak)))) cT)
  (aq (cp 3 (bU 0 [] 0 [B,B,L] aI (ab (e2 ba (e2 aH (bC 1 (aa 0)) (aa 1)) (Q3 1)) (ab (Q3 0) (ab (qR 0 []) ak)))))
  (aq (aQ 4 (aa 1))
  (aq (kI (j5 (gF (aa 4)) (e2 cG (aa 2) (e2 aH (bC 3 (aa 0)) (aa 4)))) bE)
  (aq (Hb (gF (aa 4)) (lH 0 [.fld 2] (aa 3) (bU 0 [] 0 [B,B] av (ab (aa 4) (ab (aa 2) ak)))) cT)
  (eY 3))))))
noncomputable def bP:Sx :=
  (cp 1 (bU 0 [] 0 [B,B] bB (ab (aa 1) (ab (aa 3) ak))))
noncomputable def bK:Mt:=Jj 0 3 4 [B,B]
  (aq (ig (bF 3) (eU (aa 2)) bP)
  (eY 1))
noncomputable def aY:Sx :=
  (Hb (e2 cG (e2 HY (aa 4) (aa 5)) (aa 1)) (aq (rD 1 (e2 HY (aa 4) (aa 5)) (eN cA (ab (aa 2) ak)))
  (sX (kH 2 [] aT (ab (e2 HY (aa 4) (aa 5)) ak)))) cT)
noncomputable def bJ:Sx :=
  (aq (aQ 4 (e2 aH (bC 3 (aa 0)) (e2 aH (aa 2) (aa 3))))
  (aq (ig (bF 5) (eU (eN gs (ab (aa 4) ak))) aY)
  (aQ 3 (e2 ba (aa 3) (Q3 1)))))
noncomputable def aE:Fn:=fn 1 6
  (aq (iC 1 (qR 0 [((Q3 0),(Q3 0))]))
  (aq (iC 2 (eX (ab (Q3 0) ak)))
  (aq (aQ 3 (Q3 0))
  (aq (kI (e2 oLt (aa 3) (eN cA (ab (aa 2) ak))) bJ)
  (aq (om 2)
  (eY 1))))))
noncomputable def bN:Fn:=fn 3 6
  (aq (aQ 3 (e2 aH (bC 2 (aa 0)) (aa 1)))
  (aq (aQ 4 (e2 aH (bC 3 (aa 0)) (aa 1)))
  (aq (aQ 5 (eN jQ (ab (cY 1 (bF 0) (eU (eN gs (ab (aa 4) ak))) O (nH (ab (aa 0) (ab (e2 qg (aa 3) (e2 HY (aa 5) (aa 0))) ak)))) ak)))
  (aq (Hb (Be (aa 3)) (eW (nH (ab (Q3 0) (ab (Q3 0) (ab (eC .non) (ab (aa 5) ak)))))) cT)
  (eW (nH (ab (e2 ba (e2 aH (bC 1 (aa 0)) (aa 3)) (Q3 1)) (ab (e2 aH (bC 1 (aa 0)) (aa 1)) (ab (e2 qg (aa 2) (aa 3)) (ab (aa 5) ak))))))))))
noncomputable def dc:Fn:=fn 1 2
  (aq (iC 1 (fY 0 aE (aa 0) ak))
  (wQ 1 (bF 0) (fY 0 bN (aa 1) (ab (aa 0) (ab (aa 2) ak)))))
noncomputable def gw:Sx :=
  (NK (bU 1 [] 0 [B,B] bK (ab (Q3 0) (ab (aa 2) ak))))
noncomputable def fD:Fn:=fn 1 3
  (aq (iC 1 (eNew 0 dQ ak))
  (aq (ig (bF 2) (eU (aa 0)) gw)
  (aq (om 1)
  (eW (fY 0 dc (aa 1) ak)))))
noncomputable def cy:Sx :=
  (aq (Hb (e2 cG (aa 7) (aa 6)) (eW (e2 ba (aa 5) (aa 7))) cT)
  (sX (kH 3 [] aT (ab (nH (ab (e2 ba (aa 5) (aa 7)) (ab (e2 HY (aa 6) (aa 7)) ak))) ak))))
noncomputable def ka:Sx :=
  (aq (aQ 5 (e2 aH (e2 aH (aa 3) (aa 4)) (Q3 0)))
  (aq (aQ 6 (eN kR (ab (e2 aH (e2 aH (aa 2) (e2 aH (e2 aH (aa 3) (aa 4)) (Q3 1))) (Q3 3)) ak)))
  (aq (ig (bF 7) (eU (aa 1)) cy)
  (aQ 4 (e2 ba (aa 4) (Q3 1))))))
noncomputable def cV:Fn:=fn 2 8
  (aq (aQ 2 (b6 fD (ab (aa 0) ak)))
  (aq (iC 3 (eX (ab (nH (ab (eC (.str [])) (ab (Q3 0) ak))) ak)))
  (aq (aQ 4 (Q3 0))
  (kI (eC (.bl L)) ka))))
noncomputable def dW:Fn:=fn 2 2
  (eW (e2 qQ (eN cA (ab (b6 cV (ab (aa 0) (ab (aa 1) ak))) ak)) (Q3 1)))
noncomputable def jr:Sx :=
  (sX (kH 2 [] fj (ab (cY 1 (bF 0) (cH (e2 ba (e2 qQ (eN cA (ab (aa 3) ak)) (aa 1)) (Q3 1))) O (KI (aa 4) (Y (aa 0)) (Y (e2 ba (aa 0) (aa 2))))) ak)))
noncomputable def g9:Fn:=fn 2 4
  (aq (Hb (e2 oEq (aa 1) (Q3 0)) (eW (eX (ab (eC (.str [])) ak))) cT)
  (aq (iC 2 (eX ak))
  (aq (ig (bF 3) (eU (aa 0)) jr)
  (aq (om 2)
  (eW (eN nS (ab (aa 2) ak)))))))
noncomputable def eQ:Sx :=
  (aq (aQ 3 (e2 oMod (e2 ba (e2 ba (e2 fg (aa 3) (Q3 69621)) (e2 fg (Q3 7) (aa 5))) (Q3 1)) (Q3 2147483647)))
  (aq (aQ 6 (e2 oMod (e2 fg (aa 3) (aa 3)) (Q3 2147483629)))
  (aQ 4 (e2 ba (e2 fg (aa 4) (Q3 999983)) (e2 oMod (e2 fg (aa 6) (e2 ba (e2 oMod (aa 6) (Q3 65521)) (Q3 3))) (Q3 999983))))))
noncomputable def cu:Fn:=fn 2 7
  (aq (aQ 2 (e2 ba (e2 fg (aa 1) (Q3 7919)) (Q3 104729)))
  (aq (Hb (e2 Lu (eN cA (ab (aa 0) ak)) (Q3 0)) (aQ 2 (e2 ba (e2 aH (aa 0) (e2 oMod (aa 1) (eN cA (ab (aa 0) ak)))) (e2 fg (e2 jo (aa 1) (eN cA (ab (aa 0) ak))) (Q3 48271)))) cT)
  (aq (Hb (e2 oEq (e2 oMod (aa 2) (Q3 2)) (Q3 0)) (eW (eX (ab (e2 jo (aa 2) (Q3 2)) ak))) cT)
  (aq (aQ 3 (e2 oMod (e2 ba (e2 jo (aa 2) (Q3 2)) (e2 fg (Q3 40503) (aa 1))) (Q3 2147483629)))
  (aq (aQ 4 (Q3 0))
  (aq (ig (bF 5) (cH (Q3 24)) eQ)
  (eW (eX (ab (aa 4) ak)))))))))
noncomputable def ar:V1->Option (V1×T):=J5 2 3 [B]
  (aq (aQ 2 (e2 oMod (e2 aH (Nu (aa 0)) (Q3 0)) (aa 1)))
  (aq (fN 0 [.un] (Q3 0) (e2 jo (e2 aH (Nu (aa 0)) (Q3 0)) (aa 1)))
  (eY 2)))
noncomputable def cw:V1->Option (V1×T):=J5 3 3 [B,B]
  (kg (yt [] (rN (aL [(.io 0 L),(.px (xI (e2 ba (aa 2) (Q3 1))))] ar) (x2 aH (xI (aa 2)) (aL [(.io 1 L),(.px (xI (eN cA (ab (aa 2) ak))))] ar)))))
noncomputable def gf:V1->Option (V1×T):=J5 1 5 []
  (aq (aQ 1 (eC (.str [97,98,99,100,101,102,103,104,105,106,107,108,109,110,111,112,113,114,115,116,117,118,119,120,121,122])))
  (aq (cp 2 (lE (eX (ab (Q3 2) (ab (Q3 1) (ab (Q3 3) (ab (Q3 2) (ab (Q3 4) (ab (Q3 2) (ab (Q3 3) (ab (Q3 26) ak))))))))) (aL [(.io 0 L),(.px (xI (Q3 8)))] ar)))
  (aq (cp 3 (aL [(.io 0 L),(.px (xI (Q3 26)))] ar))
  (aq (cp 4 (lE (eX (ab (Q3 1) (ab (Q3 3) (ab (Q3 25) (ab (Q3 7) ak))))) (aL [(.io 0 L),(.px (xI (Q3 4)))] ar)))
  (eW (eM iq (eC (.str [])) (ab (cY 1 (bF 0) (cH (aa 2)) O (e2 aH (aa 2) (e2 oMod (e2 ba (aa 4) (e2 fg (aa 5) (aa 0))) (Q3 26)))) ak)))))))
noncomputable def df:Sx :=
  (aq (cp 5 (aL [(.io 0 L),(.px (xI (aa 1))),(.px (lE (eX (ab (Q3 6) (ab (Q3 3) (ab (Q3 10) (ab (Q3 8) ak))))) (aL [(.io 0 L),(.px (xI (Q3 4)))] ar)))] cw))
  (aq (sV (iH (e2 Lu (aa 4) (Q3 0)) (Lm (x2 oEq (aL [(.io 0 L),(.px (xI (Q3 4)))] ar) (xI (Q3 1))))) (aq (cp 6 (qD 3 (aL [(.io 0 L),(.px (xI (aa 4)))] ar)))
  (cp 5 (NC (x2 ba (NC (xI (aa 6)) (Y (aL [(.io 0 L),(.px (xI (e2 ba (eN cA (ab (aa 6) ak)) (Q3 1))))] ar)) O) (xI (aa 5))) O (Y (xI (Q3 14)))))) cT)
  (sX (kH 3 [] aT (ab (aa 5) ak)))))
noncomputable def hJ:V1->Option (V1×T):=J5 2 7 [B]
  (aq (cp 2 (lE (eX (ab (Q3 2) (ab (Q3 1) (ab (Q3 3) (ab (Q3 2) (ab (Q3 4) (ab (Q3 0) (ab (Q3 1) (ab (Q3 8) ak))))))))) (aL [(.io 0 L),(.px (xI (Q3 8)))] ar)))
  (aq (iC 3 (eX ak))
  (aq (ig (bF 4) (cH (aa 2)) df)
  (aq (sV (iH (g6 oLt oLt (Q3 0) (aa 2) (Q3 3)) (Lm (x2 oEq (aL [(.io 0 L),(.px (xI (Q3 6)))] ar) (xI (Q3 1))))) (lH 3 [] (Q3 0) (x2 vg (x2 ba (x2 ba (xI (e2 aH (aa 3) (Q3 0))) (aL [(.io 0 L),(.px (xI (aa 1))),(.px (xI (Q3 24)))] cw)) (xI (e2 aH (aa 3) (Q3 (-1))))) (x2 ba (xI (Q3 1)) (aL [(.io 0 L),(.px (xI (Q3 2)))] ar)))) cT)
  (eY 3)))))
noncomputable def dh:V1->Option (V1×T):=J5 2 5 [B]
  (aq (aQ 2 (eC (.str [97,98,99,100,101,102,103,104,105,106,107,108,109,110,111,112,113,114,115,116,117,118,119,120,121,122])))
  (aq (cp 3 (aL [(.io 0 L),(.px (xI (Q3 8)))] ar))
  (aq (Hb (e2 oEq (aa 3) (Q3 0)) (eY 2) cT)
  (aq (iC 4 (eN jI (ab (aa 1) ak)))
  (aq (Hb (e2 oEq (aa 3) (Q3 1)) (pA 4 4 O (Y (x2 ba (xI (Q3 1)) (aL [(.io 0 L),(.px (xI (eN cA (ab (aa 1) ak))))] ar)))) cT)
  (aq (Hb (e2 oLt (aa 3) (Q3 4)) (oJ 4 (x2 aH (xI (aa 2)) (aL [(.io 0 L),(.px (xI (Q3 26)))] ar))) cT)
  (aq (om 4)
  (aq (Hb (e2 oEq (aa 3) (Q3 4)) (yz 4 (x2 aH (xI (aa 2)) (aL [(.io 0 L),(.px (xI (Q3 26)))] ar))) cT)
  (eW (eM iq (eC (.str [])) (ab (cY 1 (bF 0) (eU (aa 2)) (Y (e2 j8 (aa 0) (aa 5))) (aa 0)) ak)))))))))))
noncomputable def iJ:Sx :=
  (Hb (e2 oEq (cY 1 (bF 0) (eU (aa 4)) (Y (e2 nI (aa 0) (aa 2))) (aa 0)) (eX ak)) (aQ 3 (e2 ba (aa 3) (Q3 1))) cT)
noncomputable def cQ:Fn:=fn 3 5
  (aq (aQ 3 (Q3 0))
  (aq (ig (bF 4) (eU (b6 g9 (ab (aa 0) (ab (aa 2) ak)))) iJ)
  (eY 3)))
noncomputable def i5:Sx :=
  (aQ 3 (e2 fg (aa 3) (eN cA (ab (aa 1) ak))))
noncomputable def fU:Fn:=fn 2 5
  (aq (aQ 2 (b6 dW (ab (aa 0) (ab (aa 1) ak))))
  (aq (Hb (MW (wa (OG .int (aa 2))) (MW (OG .bool (aa 2)) (e2 oLt (aa 2) (Q3 0)))) (eW (eC (.bl B))) cT)
  (aq (Hb (e2 K8 (aa 2) (e2 qQ (eN cA (ab (b6 cV (ab (aa 0) (ab (aa 1) ak))) ak)) (Q3 1))) (eW (eC (.bl B))) cT)
  (aq (aQ 3 (Q3 1))
  (aq (ig (bF 4) (cH (aa 2)) i5)
  (aq (Hb (e2 K8 (b6 cQ (ab (aa 0) (ab (aa 1) (ab (aa 2) ak)))) (aa 3)) (eW (eC (.bl B))) cT)
  (eW (e2 oLt (b6 cQ (ab (aa 0) (ab (aa 1) (ab (e2 ba (aa 2) (Q3 1)) ak)))) (e2 fg (aa 3) (eN cA (ab (aa 1) ak)))))))))))
noncomputable def ko:Sx :=
  (aq (cp 6 (aL [(.io 4 B),(.px (xI (aa 2)))] dh))
  (aq (Hb (wa (b6 fU (ab (aa 3) (ab (aa 6) ak)))) (eW (eC (.bl B))) cT)
  (aq (cp 7 (aL [(.io 4 B),(.px (xI (eN cA (ab (aa 6) ak))))] ar))
  (aq (aQ 8 (e2 ba (KI (aa 6) O (Y (aa 7))) (KI (aa 6) (Y (e2 ba (aa 7) (Q3 1))) O)))
  (aq (Hb (j5 (e2 K8 (aa 8) (eC (.str []))) (e2 oLt (b6 dW (ab (aa 3) (ab (aa 8) ak))) (b6 dW (ab (aa 3) (ab (aa 6) ak))))) (eW (eC (.bl B))) cT)
  (Hb (j5 (e2 oLt (eN cA (ab (aa 3) ak)) (Q3 8)) (e2 oLt (eN yw (ab (cY 1 (bF 0) (eU (aa 3)) O (eN cA (ab (aa 0) ak))) ak)) (Q3 110))) (aq (ox 9 (uD (aa 3) (tf (aL [(.io 4 B),(.px (xI (aa 2))),(.px (xI (Q3 10)))] cw))))
  (aq (om 9)
  (Hb (e2 oLt (b6 dW (ab (aa 9) (ab (aa 6) ak))) (b6 dW (ab (aa 3) (ab (aa 6) ak)))) (eW (eC (.bl B))) cT))) cT))))))
noncomputable def wR:Fn:=fn 1 10
  (aq (iC 1 (b6 cu (ab (aa 0) (ab (Q3 0) ak))))
  (aq (cp 2 (aL [(.io 1 B)] gf))
  (aq (ox 3 (aL [(.io 1 B),(.px (xI (aa 2)))] hJ))
  (aq (om 3)
  (aq (om 1)
  (aq (iC 4 (b6 cu (ab (aa 0) (ab (Q3 1) ak))))
  (aq (ig (bF 5) (cH (Q3 3)) ko)
  (aq (om 4)
  (eW (eC (.bl L)))))))))))
end T38
end
section
namespace AU
structure St where
 lg:Vt
 lk:List (Option Nat)
 wy:List (List (Nat×Nat))
noncomputable def gW(w:List (Nat×Nat))(c:Nat):Option Nat:=(w.find? λp=>p.1==c).map (·.2)
noncomputable def pW(w:List (Nat×Nat))(c m:Nat):List (Nat×Nat):=if w.any (λp=>p.1==c) then w.map (λp=>if p.1==c then (p.1,m) else p) else w++[(c,m)]
structure WF(S:St):Prop where
 lk:S.lk.length=S.lg.length
 wy:S.wy.length=S.lg.length
 pos:0<S.lg.length
 up:∀i n,S.lk.getD i none=some n->n<S.lg.length
 on:∀i c n,gW (S.wy.getD i []) c=some n->n<S.lg.length
 nd:∀w∈S.wy,(w.map (·.1)).Nodup
 az:∀w∈S.wy,∀p∈w,97<=p.1/\p.1<=122
theorem sub_len{α:Type}[DecidableEq α]:∀(l r:List α),l.Nodup->(∀x∈l,x∈r)->l.length<=r.length
 |[],_,_,_=>ZG _
 |a :: l,r,nd,h=>by
  obtain⟨g,f⟩:=ZZ.mp nd;have d:a∈r:=h a Zu;have:=sub_len l (r.erase a) f λx b=>(List.mem_erase_of_ne (show x≠a from λe=>g (by rw[← e];exact b))).mpr (h x (Zv _ b));rw[List.length_erase_of_mem d]at this;have:0<r.length:=List.length_pos_of_mem d;rw[Zg];lia
def WF.small{S:St}(W:WF S)(i:Nat):(S.wy.getD i []).length<16777216:=by
 by_cases h:i<S.wy.length
 ·have a:S.wy.getD i []∈S.wy:=by
   rw[Zr,Zq h];exact Yy h
  have:=sub_len ((S.wy.getD i []).map (·.1)) (List.range 123) (W.nd _ a) λx b=>by
   obtain⟨p,d,rfl⟩:=Hq.mp b;have:=(W.az _ a p d).2;exact Yc.mpr (by exact Nat.lt_succ_of_le this)
  rw[Zt,ZF]at this;lia
 ·rw[Zr,JH (ZJ h)];decide
def Dn(w:List (Nat×Nat))(c:Nat):(w.any λp=>p.1==c)=(gW w c).isSome:=by
 unfold gW;rw[YA,XG,Xl,List.find?_isSome]
def B3(w:List (Nat×Nat))(c m d:Nat):gW (pW w c m) d=if d=c then Y m else gW w d:=by
 unfold pW;split
 ·rename_i h
  induction w with
  |nil=>simp at h
  |cons p w b =>
   rw[Ze];unfold gW;rw[Yv,Yv];by_cases q:p.1=c
   ·rw[Zo (by simpa using q)];by_cases r:p.1=d
    ·have:(p.1==d)=L:=by simpa using r
     simp only[this];rw[Zo (by rw[← r,q])];rfl
    ·have a:(p.1==d)=B:=by simpa using r
     have:d≠c:=λe=>r (by rw[e,q]);simp only[a,Zm this];have key:∀w:List (Nat×Nat),(w.map λp=>if p.1==c then (p.1,m) else p).find? (λp=>p.1==d)=w.find? λp=>p.1==d:=by
      intro w
      induction w with
      |nil=>rfl
      |cons x w b =>
       rw[Ze,Yv,Yv,b];by_cases y:x.1=c
       ·rw[Zo (by simpa using y)];have:(x.1==d)=B:=by simpa using λe=>this (by rw[← e,y])
        simp only[this]
       ·rw[Zm (by simpa using y)]
     rw[key w]
   ·rw[Zm (by simpa using q)];have i:(w.any λp=>p.1==c)=L:=by
     rw[Y4]at h;simpa[q] using h
    have f:=b i;unfold gW at f;by_cases r:p.1=d
    ·have a:(p.1==d)=L:=by simpa using r
     simp only[a];rw[Zm (λe=>q (by rw[r,e]))]
    ·have a:(p.1==d)=B:=by simpa using r
     simp only[a];exact f
 ·rename_i h;unfold gW;rw[List.find?_append];by_cases q:d=c
  ·subst q;have:w.find? (λp=>p.1==d)=O:=by
    rw[XF];intro p g e;exact h (Xl.mpr ⟨p,g,e⟩)
   rw[this,Zo M];simp
  ·rw[Zm q];have:((c==d)=B):=by simpa using λe=>q e.symm
   simp[this]
def Bm(w:List (Nat×Nat))(c m:Nat)(f:(w.map (·.1)).Nodup):((pW w c m).map (·.1)).Nodup:=by
 unfold pW;split
 ·rw[Yq];have:((λp:Nat×Nat=>p.1) ∘ λp=>if (p.1==c)=L then (p.1,m) else p)=λp=>p.1:=by
   funext p;simp only[Function.comp];split<;>rfl
  rw[this];exact f
 ·rename_i h;rw[Yx,ZM];refine⟨f,by simp,λa i b hb e=>?_⟩;have d:b=c:=by simpa using hb
  subst e d;obtain⟨p,g,e⟩:=Hq.mp i;exact h (Xl.mpr ⟨p,g,by simpa using e⟩)
def DH{w:List (Nat×Nat)}{c m:Nat}{p:Nat×Nat}(h:p∈pW w c m):p.1=c\/p∈w:=by
 unfold pW at h;split at h
 ·obtain⟨q,a,rfl⟩:=Hq.mp h;by_cases r:(q.1==c)=L
  ·rw[Zo r];exact .inl (by simpa using r)
  ·rw[Zm r];exact .inr a
 ·rcases Zi.mp h with h | h
  ·exact .inr h
  ·rw[Zk.mp h];exact .inl M
def gM{α:Type}(l:List α)(i j:Nat)(x d:α):(l.set i x).getD j d=if i=j/\i<l.length then x else l.getD j d:=by
 rw[Zr,Zr,Vj];by_cases h:i=j
 ·subst h;by_cases a:i<l.length
  ·rw[Zo M,Zo a,Zo ⟨rfl,a⟩];rfl
  ·rw[Zo M,Zm a,Zm (λz=>a z.2),JH (ZJ a)]
 ·rw[Zm h,Zm (λz=>h z.1)]
def bS{α:Type}(l:List α)(x d:α)(j:Nat):(l++[x]).getD j d=if j=l.length then x else l.getD j d:=by
 rw[Zr,Zr];by_cases h:j<l.length
 ·rw[KQ h,Zm (Za h)]
 ·rw[Ys (ZJ h)];by_cases a:j=l.length
  ·rw[Zo a,a,Nat.sub_self];rfl
  ·rw[Zm a,JH (ZJ h),JH (by simp;lia)]
def WF.way{S:St}(W:WF S){n c v:Nat}(g:v<S.lg.length)(j:97<=c/\c<=122):WF ⟨S.lg,S.lk,S.wy.set n (pW (S.wy.getD n []) c v)⟩:=by
 refine⟨W.lk,by rw[Yn];exact W.wy,W.pos,W.up,λi d m h=>?_,λw hw=>?_,λw hw p f=>?_⟩
 ·show m<S.lg.length;have b:gW ((S.wy.set n (pW (S.wy.getD n []) c v)).getD i []) d=Y m:=h;rw[gM]at b;split at b
  ·rw[B3]at b;split at b
   ·cases b;exact g
   ·exact W.on n d m b
  ·exact W.on i d m b
 ·by_cases a:n<S.wy.length
  ·rcases List.mem_or_eq_of_mem_set hw with h | h
   ·exact W.nd w h
   ·rw[h];refine Bm _ c v (W.nd _ ?_);rw[Zr,Zq a];exact Yy a
  ·rw[List.set_eq_of_length_le (ZJ a)]at hw;exact W.nd w hw
 ·by_cases a:n<S.wy.length
  ·rcases List.mem_or_eq_of_mem_set hw with h | h
   ·exact W.az w h p f
   ·rw[h]at f;rcases DH f with e | e
    ·rw[e];exact j
    ·refine W.az _ ?_ p e;rw[Zr,Zq a];exact Yy a
  ·rw[List.set_eq_of_length_le (ZJ a)]at hw;exact W.az w hw p f
def WF.link{S:St}(W:WF S){n v:Nat}(b:v<S.lg.length):WF ⟨S.lg,S.lk.set n (Y v),S.wy⟩:=by
 refine⟨by rw[Yn];exact W.lk,W.wy,W.pos,λi m h=>?_,W.on,W.nd,W.az⟩;have a:(S.lk.set n (Y v)).getD i O=Y m:=h;rw[gM]at a;split at a
 ·cases a;exact b
 ·exact W.up i m a
def WF.more{S:St}(W:WF S){l:Nat}{o:Option Nat}{w:List (Nat×Nat)}(f:∀n,o=Y n->n<S.lg.length)(hw:∀c n,gW w c=Y n->n<S.lg.length)(e:(w.map (·.1)).Nodup)(g:∀p∈w,97<=p.1/\p.1<=122):WF ⟨S.lg++[l],S.lk++[o],S.wy++[w]⟩:=by
 have b:∀{n},n<S.lg.length->n<(S.lg++[l]).length:=λh=>by rw[Zw,JV];exact Yo h
 refine⟨by rw[Zw,Zw,W.lk];rfl,by rw[Zw,Zw,W.wy];rfl,by rw[Zw];exact ZP W.pos (ZI _ _),λi n h=>?_,λi c n h=>?_,λx d=>?_,λx d=>?_⟩
 ·have a:(S.lk++[o]).getD i O=Y n:=h;rw[bS]at a;split at a
  ·exact b (f n a)
  ·exact b (W.up i n a)
 ·have a:gW ((S.wy++[w]).getD i []) c=Y n:=h;rw[bS]at a;split at a
  ·exact b (hw c n a)
  ·exact b (W.on i c n a)
 ·rcases Zi.mp d with h | h
  ·exact W.nd x h
  ·rw[Zk.mp h];exact e
 ·rcases Zi.mp d with h | h
  ·exact W.az x h
  ·rw[Zk.mp h];exact g
noncomputable def up1(c v:Nat):Nat->St->Option Nat->Option (St×Option Nat)
 |_,S,none=>Y (S,O)
 |0,_,some _=>O
 |k+1,S,some n=>if (gW (S.wy.getD n []) c).isSome then Y (S,Y n) else up1 c v k ⟨S.lg,S.lk,S.wy.set n (pW (S.wy.getD n []) c v)⟩ (S.lk.getD n O)
noncomputable def LL(c a v:Nat):Nat->St->Option Nat->Option St
 |_,S,none=>Y S
 |0,_,some _=>O
 |k+1,S,some n=>if gW (S.wy.getD n []) c=Y a then LL c a v k ⟨S.lg,S.lk,S.wy.set n (pW (S.wy.getD n []) c v)⟩ (S.lk.getD n O) else Y S
noncomputable def Lv(S:St)(n c:Nat):Option (St×Nat):=(gW (S.wy.getD n []) c).bind λold=>if S.lg.getD old 0=S.lg.getD n 0+1 then Y (S,old) else
 (LL c old S.lg.length 1000 ⟨S.lg++[S.lg.getD n 0+1],(S.lk++[S.lk.getD old O]).set old (Y S.lg.length),S.wy++[S.wy.getD old []]⟩ (Y n)).map λa=>(a,S.lg.length)
noncomputable def hb(S:St)(h c:Nat):Option (St×Nat):=if (gW (S.wy.getD h []) c).isSome then Lv S h c else
 (up1 c S.lg.length 1000 ⟨S.lg++[S.lg.getD h 0+1],S.lk++[Y 0],S.wy++[[]]⟩ (Y h)).bind λz=>match z.2 with
  |none=>Y (z.1,S.lg.length)
  |some n=>(Lv z.1 n c).map λy=>(⟨y.1.lg,y.1.lk.set S.lg.length (Y y.2),y.1.wy⟩,S.lg.length)
noncomputable def hg(S:St)(h:Nat):Vt->Option (St×Nat)
 |[]=>Y (S,h)
 |c :: r=>(hb S h c).bind λz=>hg z.1 z.2 r
noncomputable def Sm(S:St):Prop:=S.lg.length<=100001
def WF.ND{S:St}(W:WF S)(i:Nat):((S.wy.getD i []).map (·.1)).Nodup/\∀p∈S.wy.getD i [],97<=p.1/\p.1<=122:=by
 by_cases h:i<S.wy.length
 ·have a:S.wy.getD i []∈S.wy:=by
   rw[Zr,Zq h];exact Yy h
  exact⟨W.nd _ a,W.az _ a⟩
 ·rw[Zr,JH (ZJ h)];exact⟨Iv,λp b=>nomatch b⟩
noncomputable def S0:St:=⟨[0],[O],[[]]⟩
def BS:WF S0:=by
 refine⟨rfl,rfl,by decide,λi n h=>?_,λi c n h=>?_,λw hw=>?_,λw hw p a=>?_⟩
 ·cases i with
  |zero=>cases h
  |succ i=>cases h
 ·cases i with
  |zero=>cases h
  |succ i=>cases h
 ·rw[Zk.mp hw];exact Iv
 ·rw[Zk.mp hw]at a;cases a
end AU
end
section
namespace VS
def e2v{f:Val->Val->V0}{a b:Ex}{U:Env}{x y z:Val}(g:a U=Y x)(e:b U=Y y)(d:f x y=Y z):e2 f a b U=Y z:=by
 show (a U).bind _=_;rw[g,Zs,e];exact d
def xv{a:Ex}{r:GY}{U:Env}{x:Val}{b:Va}(e:a U=Y x)(d:r U=Y b):ab a r U=Y (x :: b):=by
 show (a U).bind _=_;rw[e,Zs,d];rfl
def kN{c:Ex}{a b:Sx}{U:Env}{m:Md}(h:c U=Y (m,.bl L)):Hb c a b U=a U:=by
 show (c U).bind _=_;rw[h];rfl
def kS{c:Ex}{a b:Sx}{U:Env}{m:Md}(h:c U=Y (m,.bl B)):Hb c a b U=b U:=by
 show (c U).bind _=_;rw[h];rfl
def jM{f:Va->V0}{a:GY}{U:Env}{b:Va}{v:Val}(h:a U=Y b)(d:f b=Y v):eN f a U=Y v:=by
 show (a U).bind f=_;rw[h,Zs,d]
def eR{e:Ex}{U:Env}{t:T}(h:e U=Y (.fr,t)):eW e U=Y (.rt (.fr,t) U):=by
 show (e U).bind _=_;rw[h];rfl
def fZ{a b:Sx}{U d:Env}{v:Val}(h:a U=Y (.rt v d)):aq a b U=Y (.rt v d):=by
 show (a U).bind _=_;rw[h];rfl
def ag{a b:Sx}{U U1:Env}(h:a U=Y (.nx U1)):aq a b U=b U1:=by
 show (a U).bind _=_;rw[h];rfl
def sq{a b:Sx}{U U1:Env}{r:Option Out}(h:a U=Y (.nx U1))(q:b U1=r):aq a b U=r:=(ag h).trans q
def QN{c:Ex}{a b:Sx}{U:Env}{m:Md}{r:Option Out}(h:c U=Y (m,.bl L))(q:a U=r):Hb c a b U=r:=(kN h).trans q
def pX{c:Ex}{a b:Sx}{U:Env}{m:Md}{r:Option Out}(h:c U=Y (m,.bl B))(q:b U=r):Hb c a b U=r:=(kS h).trans q
def iM{d e:Nat}{b:Sx}{a:V1}{v:Val}{U:Env}(f:a.length=d)(h:b (a.map (λt=>Y (.pu t))++List.replicate (e-d) O)=Y (.rt v U)):fn d e b a=Y v:=by
 unfold fn;rw[Zo f,h];rfl
def mq{a b:Ex}{U:Env}{m:Md}{x:Bool}{v:Val}(f:a U=Y (m,.bl x))(e:x=L->b U=Y v)(d:x=B->v=(.fr,.bl B)):j5 a b U=Y v:=by
 show (a U).bind _=_;rw[f,Zs];cases x with
 |true=>exact e M
 |false=>exact congrArg Y (d M).symm
def Es{a b:Ex}{U:Env}{m:Md}{x:Bool}{v:Val}(f:a U=Y (m,.bl x))(e:x=B->b U=Y v)(d:x=L->v=(.fr,.bl L)):MW a b U=Y v:=by
 show (a U).bind _=_;rw[f,Zs];cases x with
 |false=>exact e M
 |true=>exact congrArg Y (d M).symm
def Sq{a b:Ex}{U:Env}{m n:Md}{x y:Bool}(f:a U=Y (m,.bl x))(d:b U=Y (.fr,.bl y)):MW a b U=Y (.fr,.bl (x||y)):=Es f (λe=>by rw[e];exact d) (λe=>by rw[e];rfl)
def C8{a:Ex}{U:Env}{m:Md}{b:Bool}(h:a U=Y (m,.bl b)):wa a U=Y (.fr,.bl (!b)):=by
 show (a U).bind _=_;rw[h];rfl
def uq{f g:Val->Val->V0}{a b c:Ex}{U:Env}{x y z v:Val}(j:a U=Y x)(i:b U=Y y)(h:f x y=Y (.fr,.bl L))(e:c U=Y z)(d:g y z=Y v):g6 f g a b c U=Y v:=by
 show (a U).bind _=_;rw[j,Zs,i,Zs,h,Zs];show (c U).bind _=_;rw[e];exact d
def zT{f g:Val->Val->V0}{a b c:Ex}{U:Env}{x y:Val}(h:a U=Y x)(e:b U=Y y)(d:f x y=Y (.fr,.bl B)):g6 f g a b c U=Y (.fr,.bl B):=by
 show (a U).bind _=_;rw[h,Zs,e,Zs,d];rfl
def uI{n:Nat}{i:Int}(b:0<=i)(a:i<n):Hf n i=Y i.toNat:=by rw[Hf,Zo b,Zo a]
def AD{n:Nat}{i:Nat}(a:i<n):Hf n (i:Int)=Y i:=by
 rw[Hf,Zo (Int.natCast_nonneg i),Zo (Int.ofNat_lt.mpr a)];rfl
def Bh{m n:Md}(l:Vr)(i:Int)(b:0<=i)(a:i<l.length):aH (m,.scr l) (n,.int i)=Y (.fr,.int (l.getD i.toNat 0)):=by
 have d:i.toNat<l.length:=by lia
 show (Hf l.length i).bind _=_;rw[uI b a,Zs,Zr,Zq d];rfl
def sL{m n:Md}(t:Tx)(i:Int)(b:0<=i)(a:i<t.length):aH (m,.str t) (n,.int i)=Y (.fr,.str [t.getD i.toNat 0]):=by
 have d:i.toNat<t.length:=by lia
 show (Hf t.length i).bind _=_;rw[uI b a,Zs,Zr,Zq d];rfl
def mP{m n:Md}{a b:T}{r:Bool}(e:HJ 60 a=L)(d:HJ 60 b=L)(h:eqT a b=r):oEq (m,a) (n,b)=Y (.fr,.bl r):=by
 show (if HJ 60 a/\HJ 60 b then Y (Md.fr,T.bl (eqT a b)) else O)=_;rw[Zo ⟨e,d⟩,h]
def Cb{m n:Md}{a b:T}{r:Bool}(e:HJ 60 a=L)(d:HJ 60 b=L)(h:eqT a b=r):K8 (m,a) (n,b)=Y (.fr,.bl (!r)):=by
 show (if HJ 60 a/\HJ 60 b then Y (Md.fr,T.bl (!eqT a b)) else O)=_;rw[Zo ⟨e,d⟩,h]
def sr{i:Nat}{e:Ex}{U:Env}{l:V1}{v:T}(f:U[i]?=Y (Y (.ow (.lst l))))(d:e U=Y (.fr,v))(b:l.length<16777216):sX (kH i [] aT (ab e ak)) U=Y (.nx (U.set i (Y (.ow (.lst (l++[v])))))):=by
 have a:ab e ak U=Y [(.fr,v)]:=xv d M;unfold sX kH;rw[f];show ((Y ([]:List Ky)).bind _ |>.map _)=_;rw[Zs,a,Zs];show ((aT (.lst l) [(.fr,v)]).map _ |>.map _)=_;rw[fK b];rfl
def zh{a b:Ex}{U:Env}{m n:Md}{x y:Tx}(e:a U=Y (m,.str x))(d:b U=Y (n,.str y))(h:x.length+y.length<=16777216):e2 ba a b U=Y (.fr,.str (x++y)):=e2v e d (jZ h)
end VS
end
section
namespace T38
open VS AU
noncomputable abbrev pc(t:T):Vf:=Y (.pu t)
abbrev Q0(i:Int):Option Cell:=Y (.pu (.int i))
abbrev Q2(t:Tx):Option Cell:=Y (.pu (.str t))
noncomputable abbrev oc(t:T):Vf:=Y (.ow t)
noncomputable def GC(w:List (Nat×Nat)):T:=.dct 0 (w.map λp=>(T.str [p.1],T.int (p.2:Int)))
noncomputable def GT:Option Nat->T
 |none=>.non
 |some n=>.int (n:Int)
noncomputable def IG(S:St):sA:=[(1,.lst (S.lg.map λ(n:Nat)=>T.int (n:Int))),(2,.lst (S.lk.map GT)),(3,.lst (S.wy.map GC))]
noncomputable def Gp(S:St)(b:Bool):T:=.obj 1 ((0,.bl b) :: IG S)
def kB(o:Option Nat):Gu (GT o)=L:=by cases o<;>rfl
theorem i9{α:Type}(f:α->T)(h:∀a,fz (f a)=L):∀l:List α,bp (l.map f)=L
 |[]=>rfl
 |a :: l=>by rw[Ze,bp,h a,i9 f h l];rfl
def yy(w:List (Nat×Nat)):fz (GC w)=L:=by
 show oO (w.map λp=>(T.str [p.1],T.int (p.2:Int)))=L
 induction w with
 |nil=>rfl
 |cons p w a=>rw[Ze,oO,a];rfl
def l8(S:St):gp (IG S)=L:=by
 have d:fz (.lst (S.lg.map λ(n:Nat)=>T.int (n:Int)))=L:=i9 _ (λ_=>rfl) _;have b:fz (.lst (S.lk.map GT))=L:=i9 _ (λo=>mZ _ (kB o)) _;have a:fz (.lst (S.wy.map GC))=L:=i9 _ yy _;show ((fz _ && !(1==0&&N4 _))&&((fz _ && !(2==0&&N4 _))&&((fz _ && !(3==0&&N4 _))&&L)))=L;rw[d,b,a];rfl
def Fz(S:St)(b:Bool):vY 1 (Gp S b)=Y (.lst (S.lg.map λ(n:Nat)=>T.int (n:Int))):=rfl
def FX(S:St)(b:Bool):vY 2 (Gp S b)=Y (.lst (S.lk.map GT)):=rfl
def Ga(S:St)(b:Bool):vY 3 (Gp S b)=Y (.lst (S.wy.map GC)):=rfl
def o6{k:Nat}{a:Ex}{U:Env}{m:Md}{t u:T}(h:a U=Y (m,t))(b:vY k t=Y u):bC k a U=Y (sub m u):=by
 unfold bC;rw[h,Zs,b];rfl
def mw{α:Type}{m n:Md}(f:α->T)(l:List α)(i:Nat)(d:α)(h:i<l.length):aH (m,.lst (l.map f)) (n,.int (i:Int))=Y (sub m (f (l.getD i d))):=by
 show (Hf (l.map f).length (i:Int)).bind _=_;rw[Zt,AD h,Zs,ZV,Zq h,Zr,Zq h];rfl
section
variable{U:Env}{m n:Md}{S:St}{b:Bool}{a e:Ex}{i:Nat}
def qH(h:a U=Y (m,Gp S b))(f:e U=Y (n,.int (i:Int)))(d:i<S.lg.length):e2 aH (bC 1 a) e U=Y (.fr,.int ((S.lg.getD i 0:Nat):Int)):=e2v (o6 h (Fz S b)) f (mw _ _ i 0 d)
def uO(h:a U=Y (m,Gp S b))(f:e U=Y (n,.int (i:Int)))(d:i<S.lk.length):e2 aH (bC 2 a) e U=Y (.fr,GT (S.lk.getD i O)):=(e2v (o6 h (FX S b)) f (mw _ _ i O d)).trans (by
 show Y (up _ _)=_;unfold up;rw[kB];rfl)
def nu(h:a U=Y (m,Gp S b))(f:e U=Y (n,.int (i:Int)))(d:i<S.wy.length):e2 aH (bC 3 a) e U=Y (m,GC (S.wy.getD i [])):=e2v (o6 h (Ga S b)) f (mw _ _ i [] d)
def Dd(h:a U=Y (m,Gp S b)):eN cA (ab (bC 1 a) ak) U=Y (.fr,.int (S.lg.length:Nat)):=jM (xv (o6 h (Fz S b)) M) (by
 show Y (Md.fr,T.int (((S.lg.map λ(n:Nat)=>T.int (n:Int)).length:Nat):Int))=_;rw[Zt])
end
def AZ(a c:Nat):eqT (.str [a]) (.str [c])=(a==c):=by
 simp only[eqT];by_cases h:a=c
 ·simp[h]
 ·simp[h]
def pB(w:List (Nat×Nat))(c:Nat):eT (w.map λp=>(T.str [p.1],T.int (p.2:Int))) (.str [c])=(gW w c).map λ(n:Nat)=>T.int (n:Int):=by
 unfold eT gW;rw[List.find?_map];have:((λp:T×T=>eqT p.1 (.str [c])) ∘ λp:Nat×Nat=>(T.str [p.1],T.int (p.2:Int)))=λp:Nat×Nat=>p.1==c:=by
  funext p;exact AZ p.1 c
 rw[this];cases w.find? λp=>p.1==c with
 |none=>rfl
 |some p=>rfl
def FI(w:List (Nat×Nat))(c m:Nat):dput (w.map λp=>(T.str [p.1],T.int (p.2:Int))) (.str [c]) (.int (m:Int))=(pW w c m).map λp=>(T.str [p.1],T.int (p.2:Int)):=by
 have a:(w.map λp=>(T.str [p.1],T.int (p.2:Int))).any (λp=>eqT p.1 (.str [c]))=w.any λp=>p.1==c:=by
  rw[List.any_map];congr 1;funext p;exact AZ p.1 c
 unfold dput pW;rw[a];split
 ·rw[Yq,Yq];apply W4;intro p _;simp only[Function.comp,AZ];split<;>rfl
 ·rw[Yx];rfl
section
variable{U:Env}{m n k:Md}{S:St}{b:Bool}{a e ec ev:Ex}{i c v:Nat}{w:List (Nat×Nat)}
def FP(h:a U=Y (m,GC w))(d:e U=Y (n,.str [c])):e2 j8 e a U=Y (.fr,.bl (gW w c).isSome):=e2v d h (by
 show (if L=L then Y (Md.fr,T.bl (eT _ _).isSome) else O)=_;rw[Zo M,pB,YA])
def BN(h:a U=Y (m,GC w))(d:e U=Y (n,.str [c])):e2 cG e a U=Y (.fr,.bl (!(gW w c).isSome)):=e2v d h (by
 show (match (if L=L then Y (Md.fr,T.bl (eT (w.map λp=>(T.str [p.1],T.int (p.2:Int))) (.str [c])).isSome) else O) with | some (_,.bl b)=>some (Md.fr,T.bl (!b)) | _=>none)=_;rw[Zo M,pB,YA])
def wo(h:a U=Y (m,GC w))(f:e U=Y (n,.str [c]))(d:gW w c=Y v):e2 HY a e U=Y (.fr,.int (v:Int)):=e2v h f (by
 show (if L=L then (eT _ _).map (sub m) else O)=_;rw[Zo M,pB,d];rfl)
def Fc(h:a U=Y (m,GC w))(d:e U=Y (n,.str [c])):e2 wt a e U=Y (.fr,GT (gW w c)):=e2v h d (by
 show (if L=L then Y (match eT (w.map λp=>(T.str [p.1],T.int (p.2:Int))) (.str [c]) with | some t=>sub m t | none=>(.fr,.non)) else none)=_;rw[Zo M,pB];cases gW w c with
 |none=>rfl
 |some v=>rfl)
def wD{r:List (Vf)}(d:i<S.wy.length)(l:e (oc (Gp S b) :: r)=Y (n,.int (i:Int)))(o:ec (oc (Gp S b) :: r)=Y (m,.str [c]))(g:ev (oc (Gp S b) :: r)=Y (k,.int (v:Int)))(f:(S.wy.getD i []).length<16777216) :
  fN 0 [.fld 3,.ix e] ec ev (oc (Gp S b) :: r)=Y (.nx (oc (Gp ⟨S.lg,S.lk,S.wy.set i (pW (S.wy.getD i []) c v)⟩ b) :: r)):=by
 unfold fN;rw[g,Zs];show ((keys [.fld 3,.ix e] (oc (Gp S b) :: r)).bind _)=_;have j:keys [.fld 3,.ix e] (oc (Gp S b) :: r)=Y [.fld 3,.at (.int (i:Int))]:=by
  show ((e _).bind _).map _=_;rw[l];rfl
 rw[j,Zs,o,Zs];have h:pm (qi (m,.str [c]) (k,.int (v:Int))) [.fld 3,.at (.int (i:Int))] (Gp S b)=Y (Gp ⟨S.lg,S.lk,S.wy.set i (pW (S.wy.getD i []) c v)⟩ b,()):=by
  show ((pm (qi (m,.str [c]) (k,.int (v:Int))) [.at (.int (i:Int))] (.lst (S.wy.map GC))).map _)=_;have:pm (qi (m,.str [c]) (k,.int (v:Int))) [.at (.int (i:Int))] (.lst (S.wy.map GC))=Y (.lst ((S.wy.set i (pW (S.wy.getD i []) c v)).map GC),()):=by
   show ((Hf (S.wy.map GC).length (i:Int)).bind _)=_;rw[Zt,AD d,Zs,ZV,Zq d];show ((qi (m,.str [c]) (k,.int (v:Int)) (GC S.wy[i])).map _)=_;have e1:S.wy.getD i []=S.wy[i]:=by rw[Zr,Zq d];rfl
   rw[e1]at f ⊢;show ((if L=L/\L=L/\(S.wy[i].map _).length<dJ then Y (T.dct 0 (dput _ _ _),()) else O).map _)=_;rw[Zo ⟨rfl,rfl,by rw[Zt];exact f⟩,FI,Vk];rfl
  rw[this];rfl
 rw[h];rfl
def ya{r:List (Vf)}(h:i<S.lk.length)(j:e (oc (Gp S b) :: r)=Y (n,.int (i:Int)))(d:ev (oc (Gp S b) :: r)=Y (.fr,.int (v:Int))) :
  fN 0 [.fld 2] e ev (oc (Gp S b) :: r)=Y (.nx (oc (Gp ⟨S.lg,S.lk.set i (Y v),S.wy⟩ b) :: r)):=by
 unfold fN;rw[d,Zs];show ((keys [.fld 2] (oc (Gp S b) :: r)).bind _)=_;have g:keys [.fld 2] (oc (Gp S b) :: r)=Y [.fld 2]:=rfl;rw[g,Zs,j,Zs];have f:pm (qi (n,.int (i:Int)) (.fr,.int (v:Int))) [.fld 2] (Gp S b)=Y (Gp ⟨S.lg,S.lk.set i (Y v),S.wy⟩ b,()):=by
  show ((qi (n,.int (i:Int)) (.fr,.int (v:Int)) (.lst (S.lk.map GT))).map _)=_;have:qi (n,.int (i:Int)) (.fr,.int (v:Int)) (.lst (S.lk.map GT))=Y (.lst ((S.lk.set i (Y v)).map GT),()):=by
   show ((Hf (S.lk.map GT).length (i:Int)).map _)=_;rw[Zt,AD h,Vk];rfl
  rw[this];rfl
 rw[f];rfl
end
end T38
end
section
namespace VS
noncomputable def wr(a:Bool)(k:Nat)(t:T):T:=if a then K9 k t else t
noncomputable def L9(l:V1):List Ia:=l.map λt=>Ia.ex (eC t)
theorem zE(U:Env):∀l:V1,jy U (L9 l)=Y l
 |[]=>rfl
 |t :: l=>by
  show ((Y (Md.fr,t):V0).bind λv=>(OA v).bind λt=>(jy U (L9 l)).map (t :: ·))=_;rw[zE U l];rfl
theorem uS(U:Env):∀l:V1,ir (L9 l) [] U=U
 |[]=>rfl
 |t :: l=>uS U l
theorem BO:∀l:V1,GX (L9 l)=[]
 |[]=>rfl
 |t :: l=>BO l
section
variable{i k j:Nat}{un:Bool}{r:List Ix}{l:V1}{U U1 U2 U3:Env}{c0:Cell}{s t t0 t1 u y:T}{g:V1->Option (V1×T)}{x a b:Xx}{c:Ex}{m:Md}{f:Val->Val->V0}
def ci{r:List Ia}(d:U[i]?=Y (Y (.ow (wr un k t0))))(e:jy U r=Y l)(w:GX r=[])(n:∀U,ir r [] U=U)(p:m8 t0=L)(o:fz t0=L)(q:bp l=L)(v:g (t0 :: l)=Y ([t1],y)) :
  k8 (.io i un :: r) g U=Y ((.fr,y),U.set i (Y (.ow (wr un k t1)))):=by
 have e2:jy U (.io i un :: r)=Y (t0 :: l):=by
  show (Mx un U[i]?).bind _=_;rw[d];have:Mx un (Y (Y (.ow (wr un k t0))))=Y t0:=by
   cases un
   ·show (if m8 t0 then Y t0 else O)=_;rw[Zo p]
   ·rfl
  rw[this];show (jy U r).map _=_;rw[e];rfl
 unfold k8;rw[e2,Zs,Zo ⟨by rw[bp,o,q];rfl,by show (i :: GX r).Nodup;rw[w];exact ZZ.mpr ⟨(λh=>nomatch h),Iv⟩⟩,v];show Y ((Md.fr,y),ir r [] (U.set i (Y (.ow (oG un U[i]? t1)))))=_;rw[n,d];cases un<;>rfl
def cx(q:U[i]?=Y (Y c0))(d:ji r U=Y (L9 l,U1))(p:U1[i]?=Y (Y (.ow (wr un k t0))))(h:m8 t0=L)(e:fz t0=L)(n:bp l=L)(o:g (t0 :: l)=Y ([t1],y)) :
  aL (.io i un :: r) g U=Y ((.fr,y),U1.set i (Y (.ow (wr un k t1)))):=by
 have e1:ji (.io i un :: r) U=Y (.io i un :: L9 l,U1):=by
  unfold ji;rw[q];show (ji r U).map _=_;rw[d];rfl
 unfold aL;rw[e1];exact ci p (zE U1 l) (BO l) (λU=>uS U l) h e n o
def nJ(d:x U=Y ((.fr,t),U1))(h:Gu t=L)(e:ji r U1=Y (L9 l,U2)):ji (.px x :: r) U=Y (L9 (t :: l),U2):=by
 unfold ji;rw[d,Zs,Zo h,e];rfl
def bW(h:c U=Y (m,t))(hi:Gu t=L):xI c U=Y ((.fr,t),U):=by
 unfold xI;rw[h,Zs,Zo hi]
def kf(p:a U=Y ((.fr,s),U1))(o:b U1=Y ((.fr,t),U2))(n:f (.fr,s) (.fr,t)=Y (m,u))(h:Gu s=L)(e:Gu t=L)(d:Gu u=L):x2 f a b U=Y ((.fr,u),U2):=by
 unfold x2;rw[p,Zs,o,Zs,n,Zs,Zo ⟨h,e,d⟩]
def dA(h:x U=Y ((.fr,t),U1))(hi:Gu t=L)(d:j<U1.length):cp j x U=Y (.nx (U1.set j (Y (.pu t)))):=by
 unfold cp;rw[h,Zs,Zo ⟨hi,d⟩]
def Bz(h:x U=Y ((.fr,t),U1))(d:Gu t=L):kg x U=Y (.rt (.fr,t) U1):=by
 unfold kg;rw[h,Zs,Zo d]
def vV(l:Vr):dm (l.map .int)=L:=by
 induction l with
 |nil=>rfl
 |cons a l d=>exact d
def l9{i:Int}(l:Vr)(h:c U=Y (.fr,.lst (l.map .int)))(e:b U=Y ((.fr,.int i),U1))(n:0<=i)(d:i<l.length):lE c b U=Y ((.fr,.int (l.getD i.toNat 0)),U1):=by
 unfold lE;rw[h,Zs];show (b U).bind _=_;rw[e,Zs];show (Hf (l.map T.int).length i).bind _=_;rw[Zt,uI n d,Zs,ZV,Zq (by omega)];show (if dm (l.map .int)=L/\Gu (T.int (l[i.toNat]'(by omega)))=L then Y ((Md.fr,T.int (l[i.toNat]'(by omega))),U1) else O)=_;rw[Zo ⟨vV l,rfl⟩,Zr,Zq (by omega)];rfl
def Bp{n:Nat}{c d:Cell}{i:Int}(l:List Tx)(h:U[n]?=Y (Y c))(q:b U=Y ((.fr,.int i),U1))(p:U1[n]?=Y (Y d))(o:iw d=.lst (l.map .str))(v:0<=i)(e:i<l.length):qD n b U=Y ((.fr,.str (l.getD i.toNat [])),U1):=by
 unfold qD;rw[h];show (b U).bind _=_;rw[q,Zs];dsimp only;rw[p];dsimp only;rw[o];show (Hf (l.map T.str).length i).bind _=_;rw[Zt,uI v e,Zs,ZV,Zq (by omega)];show Y ((Md.fr,T.str (l[i.toNat]'(by omega))),U1)=_;rw[Zr,Zq (by omega)];rfl
def pb{i:Int}(h:x U=Y ((.fr,.int i),U1)):i7 (Y x) U=Y (Y i,U1):=by
 show (x U).bind _=_;rw[h];rfl
def B8{lo hi:Option Xx}{w:Tx}{p q:Option Int}(h:a U=Y ((.fr,.str w),U1))(e:i7 lo U1=Y (p,U2))(d:i7 hi U2=Y (q,U3)):NC a lo hi U=Y ((.fr,.str (cut w p q)),U3):=by
 unfold NC;rw[h,Zs];show (i7 lo U1).bind _=_;rw[e,Zs];show (i7 hi U2).map _=_;rw[d];rfl
def zL{n:Nat}{d l:V1}(q:U[n]?=Y (Y (.ow (.lst d))))(h:x U=Y ((.fr,t),U1))(p:U1[n]?=Y (Y (.ow (.lst l))))(o:Gu t=L)(e:l.length<16777216):oJ n x U=Y (.nx (U1.set n (Y (.ow (.lst (l++[t])))))):=by
 unfold oJ;rw[q];show (x U).bind _=_;rw[h,Zs];dsimp only;rw[p];show (if Gu t=L then (aT (.lst l) [(.fr,t)]).map _ else _)=_;rw[Zo o,fK e];rfl
def jv{o p:Nat}{e:List Bool}{d:Sx}{h n:V1}{v:Val}(z:h.length+1=o/\e.length=h.length)(A:d ((Y (.ow (K9 1 t0)) :: List.zipWith iG e (markL 1 e h))++List.replicate (p-o) O)=Y (.rt v U))(q:lh U 0 (L :: e)=Y n)(C:vX n v=L)(w:bp n=L):J5 o p e d (t0 :: h)=Y (n,v.2):=by
 dsimp only[J5];rw[Zo z,A,Zs];dsimp only;rw[q,Zs,Zo ⟨C,w⟩]
def BK{d:Xt}{p q:Sx}(h:d U=Y (L,U1)):sV d p q U=p U1:=by
 unfold sV;rw[h];rfl
def uF{d:Xt}{p q:Sx}(h:d U=Y (B,U1)):sV d p q U=q U1:=by
 unfold sV;rw[h];rfl
def zg{d:Xt}(h:c U=Y (m,.bl B)):iH c d U=Y (B,U):=by
 unfold iH;rw[h];rfl
def xZ{d:Xt}(h:c U=Y (m,.bl L)):iH c d U=d U:=by
 unfold iH;rw[h];rfl
def E8{b:Bool}(h:x U=Y ((.fr,.bl b),U1)):Lm x U=Y (b,U1):=by
 unfold Lm;rw[h];rfl
def ug{i j:Int}(e:a U=Y ((.fr,.int i),U1))(d:b U1=Y ((.fr,.int j),U2)):Lm (x2 oEq a b) U=Y (i==j,U2):=E8 (kf e d (mP M M (by simp only[eqT])) M M M)
def xn{f:Val->Va->V0}{o:Ex}{e:GY}{x v:Val}{d:Va}(p:o U=Y x)(n:e U=Y d)(h:f x d=Y v):eM f o e U=Y v:=by
 unfold eM;rw[p,Zs,n];exact h
def vh(h:x U=Y ((m,t),U1))(d:j<U1.length):ox j x U=Y (.nx (U1.set j (Y (.ow t)))):=by
 unfold ox;rw[h,Zs,Zo d]
end
end VS
end
section
namespace T38
open VS
noncomputable abbrev sp(un:Bool)(n:Int):Vf:=oc (wr un 1 (.lst [.int n]))
def DB(n m:Int)(h:0<m/\m<1073741824):ar [.lst [.int n],.int m]=Y ([.lst [.int (n/m)]],.int (n%m)):=by
 have s1:aQ 2 (e2 oMod (e2 aH (Nu (aa 0)) (Q3 0)) (aa 1)) [sp L n,Q0 m,O]=Y (.nx [sp L n,Q0 m,Q0 (n%m)]) :=
  aS (m:=.fr) (e2v (x:=(.fr,.int n)) (y:=(.fr,.int m)) M M (fh h.1)) (by decide) (by show 2<3;decide)
 have d:fN 0 [.un] (Q3 0) (e2 jo (e2 aH (Nu (aa 0)) (Q3 0)) (aa 1)) [sp L n,Q0 m,Q0 (n%m)]=Y (.nx [sp L (n/m),Q0 m,Q0 (n%m)]):=by
  unfold fN;rw[e2v (f:=jo) (x:=(.fr,.int n)) (y:=(.fr,.int m)) (U:=[sp L n,Q0 m,Q0 (n%m)]) (a:=e2 aH (Nu (aa 0)) (Q3 0)) (b:=aa 1) M M (j6 h)];rfl
 exact jv (v:=(.fr,.int (n%m))) ⟨rfl,rfl⟩ ((ag s1).trans ((ag d).trans M)) M M M
section
variable{i:Nat}{un:Bool}{U U1:Env}{c0:Cell}{n m:Int}{x:Xx}
def nx(a:0<m/\m<1073741824)(g:U[i]?=Y (Y c0))(e:x U=Y ((.fr,.int m),U1))(f:U1[i]?=Y (sp un n)):∃d b,0<=d/\d<m/\aL [.io i un,.px x] ar U=Y ((.fr,.int d),U1.set i (sp un b)) :=
 ⟨n%m,n/m,Xd _ (by lia),Y7 _ a.1,cx g (nJ e M M) f M M M (DB n m a)⟩
end
def sM{x:Xx}{i:Int}{r:Vr}{U a d:Env}{c:Vf}{t:T}{b:V1}(h:x (Q0 i :: U)=Y ((.fr,t),c :: a))(f:Gu t=L)(e:iu x r a=Y (b,d)):iu x (i :: r) U=Y (t :: b,d):=by
 unfold iu;rw[h,Zs];show (if Gu t=L then (iu x r a).map _ else _)=_;rw[Zo f,e];rfl
def xV(L:Tx)(a n:Int)(A:0<L.length)(E:L.length<1000)(D:0<=a)(C:a<1000):∃(b:Int)(t:Tx),cw [.lst [.int n],.str L,.int a]=Y ([.lst [.int b]],.str t)/\t.length<=a.toNat/\∀c∈t,c∈L:=by
 have loop:∀(r:Vr)(n:Int),∃(b:Int)(s:Tx),iu (x2 aH (xI (aa 2)) (aL [(.io 1 true),(.px (xI (eN cA (ab (aa 2) ak))))] ar)) r [sp true n,Q2 L,Q0 a]=Y (s.map λc=>T.str [c],[sp true b,Q2 L,Q0 a])/\s.length=r.length/\∀c∈s,c∈L:=by
  intro r
  induction r with
  |nil=>intro n;exact⟨n,[],rfl,rfl,λ_ h=>nomatch h⟩
  |cons i r q =>
   intro n;obtain⟨d,f,l,p,e⟩:=nx (i:=1) (un:=true) (m:=(L.length:Int)) (n:=n) (x:=xI (eN cA (ab (aa 2) ak))) (U:=[Q0 i,sp true n,Q2 L,Q0 a]) (U1:=[Q0 i,sp true n,Q2 L,Q0 a]) (by lia) M (bW (m:=.fr) M M) M;obtain⟨b,s,o,g,j⟩:=q f;have hd:d.toNat<L.length:=by lia
   refine⟨b,L.getD d.toNat 0 :: s,sM (kf (bW (m:=.fr) M M) e (sL L d l p) M M M) M o,by rw[Zg,Zg,g],λc y=>?_⟩;rcases Zh.mp y with rfl | h
   ·rw[Zr,Zq hd];exact Yy hd
   ·exact j c h
 obtain⟨d,f,l,p,e⟩:=nx (i:=0) (un:=true) (m:=a+1) (n:=n) (x:=xI (e2 ba (aa 2) (Q3 1))) (U:=[sp true n,Q2 L,Q0 a]) (by lia) M (bW (m:=.fr) M M) M;obtain⟨b,s,o,g,j⟩:=loop (Mw 0 d.toNat) f;have u:s.length=d.toNat:=by rw[g];unfold Mw;rw[Zt,Wc]
 refine⟨b,s,?_,by lia,j⟩;have w:rN (aL [(.io 0 true),(.px (xI (e2 ba (aa 2) (Q3 1))))] ar) (x2 aH (xI (aa 2)) (aL [(.io 1 true),(.px (xI (eN cA (ab (aa 2) ak))))] ar)) [sp true n,Q2 L,Q0 a]=Y (s.map λc=>T.str [c],[sp true b,Q2 L,Q0 a]):=by
  unfold rN;rw[e,Zs];show (if 0<=d/\d<1000000 then iu _ (Mw 0 d.toNat) _ else O)=_;rw[Zo ⟨l,by lia⟩];exact o
 refine jv (v:=(.fr,.str s)) (U:=[sp true b,Q2 L,Q0 a]) ⟨rfl,rfl⟩ (Bz ?_ M) M M M;unfold yt;refine(congrArg (λz=>Option.bind z _) w).trans ?_;have:=kX (m:=.fr) (n:=.fr) (strs_map (λx=>[x]) s) (by rw[cR];lia);rw[cR]at this;show (iq (.fr,.str []) [(.fr,.lst (s.map λc=>T.str [c]))]).map _=_;rw[this];rfl
noncomputable def az:Tx:=[97,98,99,100,101,102,103,104,105,106,107,108,109,110,111,112,113,114,115,116,117,118,119,120,121,122]
def pz:∀c∈az,97<=c/\c<=122:=by decide
def getD_mem'{l:Tx}{i:Nat}(h:i<l.length):l.getD i 0∈l:=by
 rw[Zr,Zq h];exact Yy h
def Bc(n:Int):∃(r:Int)(s:Tx),gf [.lst [.int n]]=Y ([.lst [.int r]],.str s)/\0<s.length/\s.length<=26/\∀c∈s,97<=c/\c<=122:=by
 obtain⟨d,o,E,D,e⟩:=nx (i:=0) (un:=L) (m:=8) (n:=n) (x:=xI (Q3 8)) (U:=[sp L n,Q2 az,O,O,O]) (by decide) M (bW (m:=.fr) M M) M;have u:∀k,k<8->1<=([2,1,3,2,4,2,3,26]:Vr).getD k 0/\([2,1,3,2,4,2,3,26]:Vr).getD k 0<=26:=by decide
 have f1:=u d.toNat (by lia);have g:=dA (j:=2) (l9 (c:=(eX (ab (Q3 2) (ab (Q3 1) (ab (Q3 3) (ab (Q3 2) (ab (Q3 4) (ab (Q3 2) (ab (Q3 3) (ab (Q3 26) ak)))))))))) ([2,1,3,2,4,2,3,26]:Vr) M e E D) M (by show 2<5;decide);generalize ([2,1,3,2,4,2,3,26]:Vr).getD d.toNat 0=Ho at f1 g;obtain⟨a,l,P,N,C⟩:=nx (i:=0) (un:=L) (m:=26) (n:=o) (x:=xI (Q3 26)) (U:=[sp L o,Q2 az,Q0 Ho,O,O]) (by decide) M (bW (m:=.fr) M M) M;obtain⟨q,h,H,G,A⟩:=nx (i:=0) (un:=L) (m:=4) (n:=l) (x:=xI (Q3 4)) (U:=[sp L l,Q2 az,Q0 Ho,Q0 a,O]) (by decide) M (bW (m:=.fr) M M) M;have f:=dA (j:=4) (l9 (c:=(eX (ab (Q3 1) (ab (Q3 3) (ab (Q3 25) (ab (Q3 7) ak)))))) ([1,3,25,7]:Vr) M A H G) M (by show 4<5;decide);have t:∀k,k<4->0<=([1,3,25,7]:Vr).getD k 0/\([1,3,25,7]:Vr).getD k 0<=26:=by decide
 have z:=t q.toNat (by lia);generalize ([1,3,25,7]:Vr).getD q.toNat 0=st at z f;have F:=gH (k:=1) (tg:=bF 0) (it:=cH (aa 2)) (elt:=e2 aH (aa 2) (e2 oMod (e2 ba (aa 4) (e2 fg (aa 5) (aa 0))) (Q3 26))) (m:=.fr) (U:=[sp L h,Q2 az,Q0 Ho,Q0 a,Q0 st]) (λ(j:Nat)=>T.int (j:Int)) (λj=>T.str [az.getD ((a+st*(j:Int))%26).toNat 0]) (List.range Ho.toNat) (by
   rw[fC (m:=.fr) (j:=Ho) M (by lia),iZ]) M (by rw[ZF];lia) λj J=>⟨_,rfl,by
   refine e2v (x:=(.fr,.str az)) M (e2v (x:=(.fr,.int (a+st*(j:Int)))) (y:=(.fr,.int 26)) (e2v (x:=(.fr,.int a)) M (e2v (x:=(.fr,.int st)) (y:=(.fr,.int (j:Int))) M M (jL (by omega))) M) M (fh (by decide))) (sL az _ (Xd _ (by decide)) (Y7 _ (by decide)))⟩
 have p:=kX (m:=.fr) (n:=.fr) (strs_map (λ(j:Nat)=>[az.getD ((a+st*(j:Int))%26).toNat 0]) (List.range Ho.toNat)) (by rw[show (List.range Ho.toNat).map (λ(j:Nat)=>[az.getD ((a+st*(j:Int))%26).toNat 0])=((List.range Ho.toNat).map λ(j:Nat)=>az.getD ((a+st*(j:Int))%26).toNat 0).map (λx=>[x]) from by rw[Yq];rfl,cR,Zt,ZF];lia);rw[show (List.range Ho.toNat).map (λ(j:Nat)=>[az.getD ((a+st*(j:Int))%26).toNat 0])=((List.range Ho.toNat).map λ(j:Nat)=>az.getD ((a+st*(j:Int))%26).toNat 0).map (λx=>[x]) from by rw[Yq];rfl,cR]at p;refine⟨h,(List.range Ho.toNat).map λ(j:Nat)=>az.getD ((a+st*(j:Int))%26).toNat 0,jv (v:=(.fr,.str _)) ⟨rfl,rfl⟩ ((ag (U1:=[sp L n,Q2 az,O,O,O]) M).trans ((ag g).trans ((ag (dA C M (by show 3<5;decide))).trans ((ag f).trans (eR ?_))))) M M M,by rw[Zt,ZF];lia,by rw[Zt,ZF];lia,λc w=>?_⟩
 ·exact xn M (xv F M) p
 ·obtain⟨j,_,rfl⟩:=Hq.mp w;have:=Xd (a+st*(j:Int)) (b:=26) (by decide);have:=Y7 (a+st*(j:Int)) (b:=26) (by decide);exact pz _ (getD_mem' (by show _<26;lia))
theorem gR{β:Type}{tg:Tg}{body:Sx}(g:β->T)(Inv:List β->Env->Prop)(h:∀t r U,Inv (t :: r) U->∃e a,tg (g t) U=Y e/\body e=Y (.nx a)/\Inv r a):∀(l:List β)(U:Env),Inv l U->∃b,forL tg body (l.map g) U=Y (.nx b)/\Inv [] b
 |[],U,d=>⟨U,rfl,d⟩
 |t :: l,U,d=>by
  obtain⟨e,a,e1,e2,i⟩:=h t l U d;obtain⟨b,f,j⟩:=gR g Inv h l a i;exact⟨b,(fR e1 e2).trans f,j⟩
noncomputable def Az(t:Tx):Prop:=∀c∈t,97<=c/\c<=122
noncomputable abbrev EB(n:Int)(L:Tx)(a:Int)(f:List Tx)(e d b:Vf):Env:=[sp true n,Q2 L,Q0 a,oc (.lst (f.map .str)),e,d,b]
section
variable{L:Tx}{many:Int}{bk:List Tx}{z4 z5 z6:Vf}
def Nf(n m:Int)(b:0<m/\m<1073741824){c:Ex}(e:c (EB n L many bk z4 z5 z6)=Y (.fr,.int m)):∃d a,0<=d/\d<m/\aL [.io 0 true,.px (xI c)] ar (EB n L many bk z4 z5 z6)=Y ((.fr,.int d),EB a L many bk z4 z5 z6) :=
 nx (i:=0) (un:=true) (n:=n) b M (bW e M) M
def Na(g:0<L.length/\L.length<=26/\Az L)(n b a:Int)(f:0<=a/\a<1000){x:Xx}(j:x (EB n L many bk z4 z5 z6)=Y ((.fr,.int a),EB b L many bk z4 z5 z6)):∃(d:Int)(t:Tx),t.length<=a.toNat/\Az t/\aL [.io 0 true,.px (xI (aa 1)),.px x] cw (EB n L many bk z4 z5 z6)=Y ((.fr,.str t),EB d L many bk z4 z5 z6):=by
 obtain⟨d,t,e,p,o⟩:=xV L a b g.1 (by lia) f.1 f.2;exact⟨d,t,p,λc h=>g.2.2 c (o c h),cx (i:=0) (un:=true) (k:=1) (r:=[.px (xI (aa 1)),.px x]) (l:=[.str L,.int a]) (U1:=EB b L many bk z4 z5 z6) M (nJ (t:=.str L) (bW (m:=.fr) M M) M (nJ j M M)) M M M M e⟩
end
def xC{t:Tx}{p q:Option Int}(h:Az t):Az (cut t p q):=λc a=>h c (zN t p q a)
def pj{s t:Tx}(h:Az s)(g:Az t):Az (s++t):=λc a=>(Zi.mp a).elim (h c) (g c)
def xf(t:Tx)(k:Nat):(cut t O (Y (k:Int))).length<=k:=by
 rw[sU];exact List.length_take_le _ _
def BB:∀k,k<8->0<=([2,1,3,2,4,0,1,8]:Vr).getD k 0/\([2,1,3,2,4,0,1,8]:Vr).getD k 0<=8:=by decide
def zJ:∀k,k<4->0<=([6,3,10,8]:Vr).getD k 0/\([6,3,10,8]:Vr).getD k 0<=10:=by decide
def kU{l:List Tx}{i:Nat}(h:i<l.length):l.getD i []∈l:=by
 rw[Zr,Zq h];exact Yy h
def vK{L:Tx}(X:0<L.length/\L.length<=26/\Az L){many:Int}{bk:List Tx}(U:∀t∈bk,t.length<=14/\Az t)(h8:bk.length<8)(n:Int)(z5 z6:Vf) :
  ∃(h:Int)(t:Tx)(C o:Vf),df (EB n L many bk (Q0 (bk.length:Int)) z5 z6)=Y (.nx (EB h L many (bk++[t]) (Q0 (bk.length:Int)) C o))/\t.length<=14/\Az t:=by
 obtain⟨d,S,d0,d1,e⟩:=Nf (L:=L) (many:=many) (bk:=bk) (z4:=Q0 (bk.length:Int)) (z5:=z5) (z6:=z6) n 4 (by decide) (c:=Q3 4) M;have g:=zJ d.toNat (by lia);obtain⟨w,t,ht,z,Hh⟩:=Na X n S _ ⟨g.1,by lia⟩ (l9 (c:=eX (ab (Q3 6) (ab (Q3 3) (ab (Q3 10) (ab (Q3 8) ak))))) ([6,3,10,8]:Vr) M e d0 d1);have H:t.length<=14:=by lia
 have s1:=dA (j:=5) Hh M (by show 5<7;decide);have fin:∀(h:Int)(t:Tx)(o:Vf),t.length<=14->Az t->∃(UY:Int)(s:Tx)(C PU:Vf),sX (kH 3 [] aT (ab (aa 5) ak)) (EB h L many bk (Q0 (bk.length:Int)) (Q2 t) o)=Y (.nx (EB UY L many (bk++[s]) (Q0 (bk.length:Int)) C PU))/\s.length<=14/\Az s:=λh t o h1 Z=>by
  refine⟨h,t,Q2 t,o,?_,h1,Z⟩;rw[sr (i:=3) (l:=bk.map T.str) (v:=.str t) M M (by rw[Zt];lia)];show Y (Out.nx [sp true h,Q2 L,Q0 many,oc (.lst (bk.map T.str++[.str t])),Q0 (bk.length:Int),Q2 t,o])=_;rw[show bk.map T.str++[.str t]=(bk++[t]).map T.str from by rw[Yx];rfl]
 by_cases hk:bk.length=0
 ·obtain⟨q,p,a,b,f1,f2⟩:=fin w t z6 H z;refine⟨q,p,a,b,(ag s1).trans ((ag ((uF (zg (m:=.fr) ?_)).trans M)).trans f1),f2⟩;refine e2v (x:=(.fr,.int (bk.length:Int))) (y:=(.fr,.int 0)) M M ?_;show Y (Md.fr,T.bl (decide ((0:Int)<(bk.length:Int))))=_;rw[ZR (by lia)]
 ·obtain⟨G,q,a0,a1,e3⟩:=Nf (L:=L) (many:=many) (bk:=bk) (z4:=Q0 (bk.length:Int)) (z5:=Q2 t) (z6:=z6) w 4 (by decide) (c:=Q3 4) M;have tt:iH (e2 Lu (aa 4) (Q3 0)) (Lm (x2 oEq (aL [(.io 0 true),(.px (xI (Q3 4)))] ar) (xI (Q3 1)))) (EB w L many bk (Q0 (bk.length:Int)) (Q2 t) z6)=Y (G==1,EB q L many bk (Q0 (bk.length:Int)) (Q2 t) z6):=by
   refine(xZ (m:=.fr) ?_).trans (ug e3 (bW (m:=.fr) M M));refine e2v (x:=(.fr,.int (bk.length:Int))) (y:=(.fr,.int 0)) M M ?_;show Y (Md.fr,T.bl (decide ((0:Int)<(bk.length:Int))))=_;rw[decide_eq_true (by lia)]
  cases hd:(G==1) with
  |false =>
   rw[hd]at tt;obtain⟨r,p,a,b,f1,f2⟩:=fin q t z6 H z;exact⟨r,p,a,b,(ag s1).trans ((ag ((uF tt).trans M)).trans f1),f2⟩
  |true =>
   rw[hd]at tt;obtain⟨F,r,b0,b1,e4⟩:=Nf (L:=L) (many:=many) (bk:=bk) (z4:=Q0 (bk.length:Int)) (z5:=Q2 t) (z6:=z6) q (bk.length:Int) (by lia) (c:=aa 4) M;have D:=dA (j:=6) (Bp (n:=3) bk M e4 M M b0 b1) M (by show 6<7;decide);have E:=U _ (kU (l:=bk) (i:=F.toNat) (by lia));generalize bk.getD F.toNat []=old at D E;obtain⟨A,u,_,_,e5⟩:=Nf (L:=L) (many:=many) (bk:=bk) (z4:=Q0 (bk.length:Int)) (z5:=Q2 t) (z6:=Q2 old) r ((old.length:Int)+1) (by lia) (c:=e2 ba (eN cA (ab (aa 6) ak)) (Q3 1)) M;have Oj:(cut old (Y A) O).length<=old.length:=Do old (Y A) O;have P:xI (aa 6) (EB r L many bk (Q0 (bk.length:Int)) (Q2 t) (Q2 old))=Y ((.fr,.str old),_):=bW (m:=.fr) M M;have N:xI (aa 5) (EB u L many bk (Q0 (bk.length:Int)) (Q2 t) (Q2 old))=Y ((.fr,.str t),_):=bW (m:=.fr) M M;have J:xI (Q3 14) (EB u L many bk (Q0 (bk.length:Int)) (Q2 t) (Q2 old))=Y ((.fr,.int 14),_):=bW (m:=.fr) M M;have Q:=dA (j:=5) (B8 (kf (f:=ba) (B8 (hi:=O) P (pb e5) M) N (jZ (by lia)) M M M) (lo:=O) M (pb J)) M (by show 5<7;decide);obtain⟨R,p,a,b,f1,f2⟩:=fin u (cut (cut old (Y A) O++t) O (Y 14)) (Q2 old) (xf _ 14) (xC (pj (xC E.2) z));exact⟨R,p,a,b,(ag s1).trans ((ag ((BK tt).trans ((ag D).trans Q))).trans f1),f2⟩
def Cj{b:List Tx}(h:∀t∈b,t.length<=14):(b.map List.length).sum<=14*b.length:=by
 induction b with
 |nil=>exact Zp _
 |cons a l d =>
  have:=d λt e=>h t (Zv _ e);have:=h a Zu;rw[Ze,XH,Zg];lia
def zp(n:Int)(a:List Tx):vX [.lst [.int n]] (.fr,.lst (a.map .str))=L:=by
 unfold vX;rw[Bool.or_eq_true];refine .inr ?_;show (a.map T.str).all wV=L;rw[List.all_map];exact YL.mpr λ_ _=>rfl
def wJ{m n:Md}(l:List Tx)(h:0<l.length):aH (m,.lst (l.map .str)) (n,.int (-1))=Y (.fr,.str (l.getD (l.length-1) [])):=by
 show ((Hf (l.map T.str).length (-1)).bind _)=_;have:Hf (l.map T.str).length (-1)=Y (l.length-1):=by
  unfold Hf;rw[Zt,Zm (by decide),Zo (by lia)];congr 1;lia
 rw[this,Zs,ZV,Zr,Zq (by omega)];rfl
theorem u6(w:Tx):∀k,(List.replicate k w).flatten.length=k*w.length
 |0=>by rw[Nat.zero_mul];rfl
 |k+1=>by rw[XM,ZE,Zw,u6 w k,Vq,Vl]
def CH{L:Tx}(hL:0<L.length/\L.length<=26/\Az L)(n:Int):∃(E:Int)(bk:List Tx),hJ [.lst [.int n],.str L]=Y ([.lst [.int E]],.lst (bk.map .str))/\bk.length<=8/\(bk.map List.length).sum<=120/\∀t∈bk,Az t:=by
 obtain⟨d,s,d0,d1,e⟩:=nx (i:=0) (un:=true) (m:=8) (n:=n) (x:=xI (Q3 8)) (U:=[sp true n,Q2 L,O,O,O,O,O]) (by decide) M (bW (m:=.fr) M M) M;have hf:=BB d.toNat (by lia);have s1:=dA (j:=2) (l9 (c:=(eX (ab (Q3 2) (ab (Q3 1) (ab (Q3 3) (ab (Q3 2) (ab (Q3 4) (ab (Q3 0) (ab (Q3 1) (ab (Q3 8) ak)))))))))) ([2,1,3,2,4,0,1,8]:Vr) M e d0 d1) M (by show 2<7;decide);generalize ([2,1,3,2,4,0,1,8]:Vr).getD d.toNat 0=many at hf s1;obtain⟨U',f1,q,bk,z4,z5,z6,rfl,_,hb,hlen⟩:=gR (tg:=bF 4) (body:=df) (λ(k:Nat)=>T.int (k:Int)) (λr U=>∃(n:Int)(bk:List Tx)(z4 z5 z6:Vf),U=EB n L many bk z4 z5 z6/\r=List.range' bk.length r.length/\(∀t∈bk,t.length<=14/\Az t)/\bk.length+r.length=many.toNat) (by
  rintro k r _ ⟨n,bk,z4,z5,z6,rfl,hr,hb,hl⟩;rw[Zg]at hl;rw[Zg,List.range'_succ]at hr;obtain⟨rfl,VO⟩:=List.cons.inj hr;obtain⟨E,t,Mi,LK,e,h1,h2⟩:=vK (many:=many) hL hb (by lia) n z5 z6;refine⟨EB n L many bk (Q0 (bk.length:Int)) z5 z6,_,rfl,e,E,bk++[t],_,Mi,LK,rfl,by rw[Zw];exact VO,λu G=>?_,by rw[Zw,JV];lia⟩;rcases Zi.mp G with h | h
  ·exact hb u h
  ·rw[Zk.mp h];exact⟨h1,h2⟩) (List.range many.toNat) (EB s L many [] O O O) ⟨s,[],O,O,O,rfl,by rw[ZF];exact List.range_eq_range',(λ_ h=>nomatch h),by rw[ZF];exact XS _⟩
 have Og:bk.length=many.toNat:=hlen;have s3:ig (bF 4) (cH (aa 2)) df (EB s L many [] O O O)=Y (.nx (EB q L many bk z4 z5 z6)):=by
  refine(d7 (m:=.fr) ?_ M).trans f1;rw[fC (m:=.fr) (j:=many) M (by lia),iZ]
 have fin:∀{p:Int}{OO:List Tx}(b:Sx),b (EB q L many bk z4 z5 z6)=Y (.nx (EB p L many OO z4 z5 z6))->J5 2 7 [false] (aq (cp 2 (lE (eX (ab (Q3 2) (ab (Q3 1) (ab (Q3 3) (ab (Q3 2) (ab (Q3 4) (ab (Q3 0) (ab (Q3 1) (ab (Q3 8) ak))))))))) (aL [(.io 0 true),(.px (xI (Q3 8)))] ar))) (aq (iC 3 (eX ak)) (aq (ig (bF 4) (cH (aa 2)) df) (aq b (eY 3))))) [.lst [.int n],.str L]=Y ([.lst [.int p]],.lst (OO.map .str)):=λb hb =>
  jv (v:=(.fr,.lst (_:V1))) ⟨rfl,rfl⟩ ((ag s1).trans ((ag (U1:=EB s L many [] O O O) M).trans ((ag s3).trans ((ag hb).trans M)))) M (zp _ _) M
 have Oz:bk.length<=8/\(bk.map List.length).sum<=120/\∀t∈bk,Az t:=⟨by lia,by have:=Cj λt g=>(hb t g).1;lia,λt g=>(hb t g).2⟩
 obtain⟨d2,p,a0,a1,e3⟩:=Nf (L:=L) (many:=many) (bk:=bk) (z4:=z4) (z5:=z5) (z6:=z6) q 6 (by decide) (c:=Q3 6) M;by_cases hm:0<many/\many<3
 ·have tt:iH (g6 oLt oLt (Q3 0) (aa 2) (Q3 3)) (Lm (x2 oEq (aL [(.io 0 true),(.px (xI (Q3 6)))] ar) (xI (Q3 1)))) (EB q L many bk z4 z5 z6)=Y (d2==1,EB p L many bk z4 z5 z6):=by
   refine(xZ (m:=.fr) (uq (x:=(.fr,.int 0)) (y:=(.fr,.int many)) (z:=(.fr,.int 3)) M M ?_ M ?_)).trans (ug e3 (bW (m:=.fr) M M))
   ·show Y (Md.fr,T.bl (decide ((0:Int)<many)))=_;rw[decide_eq_true hm.1]
   ·show Y (Md.fr,T.bl (decide (many<3)))=_;rw[decide_eq_true hm.2]
  cases hd:(d2==1) with
  |false =>
   rw[hd]at tt;exact⟨p,bk,fin _ ((uF tt).trans M),Oz⟩
  |true =>
   rw[hd]at tt;have C:0<bk.length:=by lia
   obtain⟨S,t,g,hz,e4⟩:=Na (bk:=bk) (z4:=z4) (z5:=z5) (z6:=z6) (many:=many) hL p p 24 (by decide) (x:=xI (Q3 24)) (bW (m:=.fr) M M);obtain⟨o,D,b0,b1,e5⟩:=Nf (L:=L) (many:=many) (bk:=bk) (z4:=z4) (z5:=z5) (z6:=z6) S 2 (by decide) (c:=Q3 2) M;have Z:e2 aH (aa 3) (Q3 0) (EB p L many bk z4 z5 z6)=Y (.fr,.str (bk.getD 0 [])):=e2v (x:=(.bo,.lst (bk.map .str))) (y:=(.fr,.int ((0:Nat):Int))) M M (mw T.str bk 0 [] C);have X:e2 aH (aa 3) (Q3 (-1)) (EB S L many bk z4 z5 z6)=Y (.fr,.str (bk.getD (bk.length-1) [])):=e2v (x:=(.bo,.lst (bk.map .str))) (y:=(.fr,.int (-1))) M M (wJ bk C);have R:=hb _ (kU (l:=bk) C);have Q:=hb _ (kU (l:=bk) (i:=bk.length-1) (by lia));generalize hA:bk.getD 0 []=A at Z R;generalize bk.getD (bk.length-1) []=B at X Q;have P:=kf (kf (bW Z M) e4 (jZ (by lia)) M M M) (bW X M) (jZ (by rw[Zw];lia)) M M M;have xr:=kf (f:=ba) (bW (c:=Q3 1) (m:=.fr) M M) e5 (u:=.int (1+o)) M M M M;have J:(A++t++B).length<=52:=by rw[Zw,Zw];lia
   have Oq:Az (A++t++B):=pj (pj R.2 hz) Q.2;generalize A++t++B=w at P J Oq;have N:=kf P xr (f:=vg) (m:=.fr) (u:=.str (List.replicate (1+o).toNat w).flatten) (by
    show (if w.length*(1+o).toNat<=16777216/\-4611686018427387904<=1+o/\1+o<4611686018427387904 then _ else _)=_;rw[Zo ⟨by
     have:w.length*(1+o).toNat<=52*2:=Nat.mul_le_mul J (by lia);lia,by lia,by lia⟩]) M M M
   have F:(List.replicate (1+o).toNat w).flatten.length<=104:=by
    rw[u6];have:(1+o).toNat*w.length<=2*52:=Nat.mul_le_mul (by lia) J;omega
   have H:Az (List.replicate (1+o).toNat w).flatten:=λc hc=>by
    obtain⟨u,G,Ib⟩:=Vd.mp hc;rw[(List.mem_replicate.mp G).2]at Ib;exact Oq c Ib
   generalize (List.replicate (1+o).toNat w).flatten=W at N F H;refine⟨D,bk.set 0 W,fin _ ((BK tt).trans ?_),?_⟩
   ·refine(congrArg (λz=>Option.bind z _) N).trans ?_;show fN 3 [] (Q3 0) (λ_=>Y (.fr,.str W)) (EB D L many bk z4 z5 z6)=_;show ((((Hf (bk.map T.str).length 0).map λj=>(T.lst ((bk.map T.str).set j (.str W)),())).map _):Option Out)=_;rw[Zt,show Hf bk.length 0=Y 0 from AD (i:=0) C];show Y (Out.nx [sp true D,Q2 L,Q0 many,oc (.lst ((bk.map T.str).set 0 (.str W))),z4,z5,z6])=_;rw[show (bk.map T.str).set 0 (.str W)=(bk.set 0 W).map T.str from by rw[Vk]]
   ·have:bk.length=1\/bk.length=2:=by lia
    rcases this with h | h
    ·obtain⟨a,rfl⟩:=List.length_eq_one_iff.mp h;refine⟨by show 1<=8;decide,by show W.length+0<=120;lia,λt g=>?_⟩;rw[Zk.mp (show t∈[W] from g)];exact H
    ·match bk,h with
     |[a,b],_ =>
      have Rr:=hb b (by simp);refine⟨by show 2<=8;decide,by show W.length+(b.length+0)<=120;lia,λt g=>?_⟩;rcases Zh.mp (show t∈[W,b] from g) with rfl | g
      ·exact H
      ·rw[Zk.mp g];exact Rr.2
 ·have tt:iH (g6 oLt oLt (Q3 0) (aa 2) (Q3 3)) (Lm (x2 oEq (aL [(.io 0 true),(.px (xI (Q3 6)))] ar) (xI (Q3 1)))) (EB q L many bk z4 z5 z6)=Y (false,EB q L many bk z4 z5 z6):=by
   refine zg (m:=.fr) ?_;by_cases h0:0<many
   ·refine uq (x:=(.fr,.int 0)) (y:=(.fr,.int many)) (z:=(.fr,.int 3)) M M ?_ M ?_
    ·show Y (Md.fr,T.bl (decide ((0:Int)<many)))=_;rw[decide_eq_true h0]
    ·show Y (Md.fr,T.bl (decide (many<3)))=_;rw[ZR (by lia)]
   ·refine zT (x:=(.fr,.int 0)) (y:=(.fr,.int many)) M M ?_;show Y (Md.fr,T.bl (decide ((0:Int)<many)))=_;rw[ZR h0]
  exact⟨q,bk,fin _ ((uF tt).trans M),Oz⟩
noncomputable abbrev s1(c:Nat):T:=.str [c]
noncomputable abbrev EL(n:Int)(L:Tx)(w c:Vf):Env:=[sp true n,Q2 L,Q2 az,w,c]
def zU(l:Tx):dm (l.map s1)=L:=by
 induction l with
 |nil=>rfl
 |cons a l b=>exact b
def eq_int{a:Ex}{U:Env}{m:Md}{i:Int}(k:Int)(h:a U=Y (m,.int i)):e2 oEq a (Q3 k) U=Y (.fr,.bl (i==k)):=e2v h M (mP M M (by simp only[eqT]))
def qA:az.Nodup:=by decide
def EZ{c:Nat}(h:97<=c/\c<=122):c∈az:=by
 have:∀k,k<26->97+k∈az:=by decide
 have:=this (c-97) (by omega)
 rwa [show 97+(c-97)=c by omega]at this
def vJ{L:Tx}(G:0<L.length/\L.length<=26/\Az L)(n:Int):∃(p:Int)(h:Tx),dh [.lst [.int n],.str L]=Y ([.lst [.int p]],.str h)/\0<h.length/\h.length<=26/\h.Nodup/\Az h:=by
 obtain⟨d,o,d0,d1,e⟩:=nx (i:=0) (un:=true) (m:=8) (n:=n) (x:=xI (Q3 8)) (U:=EL n L O O) (by decide) M (bW (m:=.fr) M M) M;have J:=dA (j:=3) e M (by show 3<5;decide);have cond:∀(n k:Int)(c:Vf),e2 oEq (aa 3) (Q3 k) (EL n L (Q0 d) c)=Y (.fr,.bl (d==k)):=λn k c=>eq_int k (m:=.fr) M;have OS:∀(g:Tx),(az.filter λc=>g.any (· == c)).length<=26:=λg=>X6 _ _;have N:∀(n:Int)(c:Vf),∃(p:Int)(x:Nat),97<=x/\x<=122/\x2 aH (xI (aa 2)) (aL [(.io 0 true),(.px (xI (Q3 26)))] ar) (EL n L (Q0 d) c)=Y ((.fr,s1 x),EL p L (Q0 d) c):=λn c=>by
  obtain⟨t,p,a0,a1,e⟩:=nx (i:=0) (un:=true) (m:=26) (n:=n) (x:=xI (Q3 26)) (U:=EL n L (Q0 d) c) (by decide) M (bW (m:=.fr) M M) M;have:=pz _ (getD_mem' (l:=az) (i:=t.toNat) (by show _<26;lia));exact⟨p,_,this.1,this.2,kf (bW (m:=.fr) M M) e (sL az t a0 a1) M M M⟩
 have fin:∀(p:Int)(g:Tx)(c:Vf)(m:Md),0<g.length->Az g->(∀z,aa 5 (z :: EL p L (Q0 d) c)=Y (m,.lst (g.map s1)))->∃h:Tx,eW (eM iq (eC (.str [])) (ab (cY 1 (bF 0) (eU (aa 2)) (Y (e2 j8 (aa 0) (aa 5))) (aa 0)) ak)) (EL p L (Q0 d) c)=Y (.rt (.fr,.str h) (EL p L (Q0 d) c))/\0<h.length/\h.length<=26/\h.Nodup/\Az h:=λp g c m Z hz hv=>by
  refine⟨az.filter λc=>g.any (· == c),eR ?_,?_,OS g,qA.sublist W6,λc w=>pz c (YO.mp w).1⟩
  ·have c1:=kz (k:=1) (tg:=bF 0) (it:=eU (aa 2)) (c:=e2 j8 (aa 0) (aa 5)) (elt:=aa 0) (m:=.fr) (U:=EL p L (Q0 d) c) s1 (λc=>g.any (· == c)) s1 az M M (by decide) λa ha=>⟨_,(.fr,.bl (g.any (· == a))),rfl,e2v (x:=(.fr,s1 a)) M (hv _) (by
     show (if (flat (s1 a)&&(g.map s1).all flat)=true then Y (Md.fr,T.bl ((g.map s1).any λy=>eqT y (s1 a))) else O)=_;rw[Zo (by rw[List.all_map];exact WB.mpr ⟨rfl,YL.mpr λ_ _=>rfl⟩),List.any_map];congr 3;exact congrArg (λf=>g.any f) (funext λb=>AZ b a)),rfl,λ_=>rfl⟩
   have X:=kX (m:=.fr) (n:=.fr) (strs_map (λx=>[x]) (az.filter λc=>g.any (· == c))) (by rw[cR];have:=OS g;lia);rw[cR]at X;exact xn M (xv c1 M) X
  ·refine List.length_pos_of_mem (a:=g.getD 0 0) (YO.mpr ⟨EZ (hz _ (getD_mem' Z)),Xl.mpr ⟨_,getD_mem' Z,beq_self_eq_true _⟩⟩)
 by_cases h0:d=0
 ·refine⟨o,az,jv (v:=(.fr,.str az)) (U:=EL o L (Q0 d) O) ⟨rfl,rfl⟩ ((ag (U1:=EL n L O O) M).trans ((ag J).trans (fZ ((kN ((cond o 0 O).trans (by rw[h0];rfl))).trans M)))) M M M,by decide,by decide,qA,pz⟩
 ·have Q:=(kS (a:=eY 2) (b:=cT) ((cond o 0 O).trans (by rw[IJ.mpr h0]))).trans (show cT (EL o L (Q0 d) O)=_ from rfl);have P:iC 4 (eN jI (ab (aa 1) ak)) (EL o L (Q0 d) O)=Y (.nx (EL o L (Q0 d) (oc (.lst (L.map s1))))):=by
   have:eN jI (ab (aa 1) ak) (EL o L (Q0 d) O)=Y (.fr,.lst (L.map s1)):=jM (xv (x:=(.fr,.str L)) (r:=ak) M M) (by
    show Ji .fr (L.map s1)=_;rw[sy (by rw[Zt];lia),ite_self])
   show (eN jI (ab (aa 1) ak) _).bind _=_;rw[this];rfl
  have F:∃(A:Int)(g:Tx),0<g.length/\g.length<=26/\Az g/\Hb (e2 oEq (aa 3) (Q3 1)) (pA 4 4 O (Y (x2 ba (xI (Q3 1)) (aL [(.io 0 true),(.px (xI (eN cA (ab (aa 1) ak))))] ar)))) cT (EL o L (Q0 d) (oc (.lst (L.map s1))))=Y (.nx (EL A L (Q0 d) (oc (.lst (g.map s1))))):=by
   by_cases h1:d=1
   ·obtain⟨t,p,a0,a1,e⟩:=nx (i:=0) (un:=true) (m:=(L.length:Int)) (n:=o) (x:=xI (eN cA (ab (aa 1) ak))) (U:=EL o L (Q0 d) (oc (.lst (L.map s1)))) (by omega) M (bW (m:=.fr) M M) M;have C:=pb (kf (f:=ba) (bW (c:=Q3 1) (m:=.fr) M M) e (u:=.int (1+t)) M M M M);refine⟨p,L.take (1+t).toNat,by rw[IH];lia,by rw[IH];omega,λc w=>G.2.2 c (YM w),(kN ((cond o 1 _).trans (by rw[h1];rfl))).trans ?_⟩;show ((i7 (Y _) _).bind _)=_;rw[C,Zs];show (if dm (L.map s1)=true/\(L.map s1).length<=16777216/\4<5 then Y (Out.nx (EL p L (Q0 d) (oc (.lst (cut (L.map s1) O (Y (1+t))))))) else O)=_;refine Eq.trans (Zo ⟨zU L,by rw[Zt];lia,by decide⟩) ?_;rw[An,show (1+t)=((1+t).toNat:Int) by lia,sU,Y2]
   ·exact⟨o,L,G.1,G.2.1,G.2.2,(kS ((cond o 1 _).trans (by rw[IJ.mpr h1]))).trans M⟩
  obtain⟨A,g,p1,p2,R,F⟩:=F;have E:∃(q:Int)(s:Tx),0<s.length/\Az s/\Hb (e2 oLt (aa 3) (Q3 4)) (oJ 4 (x2 aH (xI (aa 2)) (aL [(.io 0 true),(.px (xI (Q3 26)))] ar))) cT (EL A L (Q0 d) (oc (.lst (g.map s1))))=Y (.nx (EL q L (Q0 d) (oc (.lst (s.map s1))))):=by
   have c4:e2 oLt (aa 3) (Q3 4) (EL A L (Q0 d) (oc (.lst (g.map s1))))=Y (.fr,.bl (decide (d<4))):=e2v (x:=(.fr,.int d)) (y:=(.fr,.int 4)) M M M;by_cases D:d<4
   ·obtain⟨q,x,H,C,e⟩:=N A (oc (.lst (g.map s1)));refine⟨q,g++[x],by rw[Zw];lia,pj R λc w=>by rw[Zk.mp w];exact⟨H,C⟩,(kN (c4.trans (by rw[decide_eq_true D]))).trans ((zL M e M M (by rw[Zt];lia)).trans ?_)⟩;rw[Yx];rfl
   ·exact⟨A,g,p1,R,(kS (c4.trans (by rw[ZR D]))).trans M⟩
  obtain⟨q,s,p4,p5,E⟩:=E;by_cases D:d=4
  ·obtain⟨S,x,H,C,e⟩:=N q (pc (.lst (s.map s1)));obtain⟨h,f1,f2⟩:=fin S [x] (oc (.lst [s1 x])) .bo Nat.one_pos (λc w=>by rw[Zk.mp w];exact⟨H,C⟩) λz=>rfl;refine⟨S,h,jv (v:=(.fr,.str h)) ⟨rfl,rfl⟩ ((ag (U1:=EL n L O O) M).trans ((ag J).trans ((ag Q).trans ((ag P).trans ((ag F).trans ((ag E).trans ((ag (U1:=EL q L (Q0 d) (pc (.lst (s.map s1)))) M).trans ((ag ((kN ((cond q 4 _).trans (by rw[D];rfl))).trans ?_)).trans f1)))))))) M M M,f2⟩;unfold yz;rw[e];rfl
  ·obtain⟨h,f1,f2⟩:=fin q s (pc (.lst (s.map s1))) .pu p4 p5 λz=>by
    show Y (up .pu (.lst (s.map s1)))=_;rfl
   exact⟨q,h,jv (v:=(.fr,.str h)) ⟨rfl,rfl⟩ ((ag (U1:=EL n L O O) M).trans ((ag J).trans ((ag Q).trans ((ag P).trans ((ag F).trans ((ag E).trans ((ag (U1:=EL q L (Q0 d) (pc (.lst (s.map s1)))) M).trans ((ag ((kS ((cond q 4 _).trans (by rw[IJ.mpr D]))).trans M)).trans f1)))))))) M M M,f2⟩
def mul_r{m n:Md}{i j:Int}(h:-18446744073709551616<j/\j<18446744073709551616):fg (m,.int i) (n,.int j)=Y (.fr,.int (i*j)):=Zo (.inr h)
def rZ(d:Vr)(LW:d.length<=63)(k:Nat)(R:k<1000):∃n,cu [.scr d,.int k]=Y (.fr,.lst [.int n]):=by
 have s1:aQ 2 (e2 ba (e2 fg (aa 1) (Q3 7919)) (Q3 104729)) [pc (.scr d),Q0 k,O,O,O,O,O]=Y (.nx [pc (.scr d),Q0 k,Q0 ((k:Int)*7919+104729),O,O,O,O]) :=
  aS (m:=.fr) (e2v (e2v (x:=(.fr,.int k)) (y:=(.fr,.int 7919)) M M (jL (by lia))) (y:=(.fr,.int 104729)) M M) (by decide) (by show 2<7;decide)
 have p:∃c,Hb (e2 Lu (eN cA (ab (aa 0) ak)) (Q3 0)) (aQ 2 (e2 ba (e2 aH (aa 0) (e2 oMod (aa 1) (eN cA (ab (aa 0) ak)))) (e2 fg (e2 jo (aa 1) (eN cA (ab (aa 0) ak))) (Q3 48271)))) cT [pc (.scr d),Q0 k,Q0 ((k:Int)*7919+104729),O,O,O,O]=Y (.nx [pc (.scr d),Q0 k,Q0 c,O,O,O,O]):=by
  have A:e2 Lu (eN cA (ab (aa 0) ak)) (Q3 0) [pc (.scr d),Q0 k,Q0 ((k:Int)*7919+104729),O,O,O,O]=Y (.fr,.bl (decide ((0:Int)<(d.length:Int)))):=e2v (x:=(.fr,.int (d.length:Int))) (y:=(.fr,.int 0)) M M M;by_cases h:0<d.length
  ·have G:=Xd (k:Int) (b:=(d.length:Int)) (by lia);have F:=Y7 (k:Int) (b:=(d.length:Int)) (by lia);exact⟨_,(kN (A.trans (by rw[decide_eq_true (by lia)]))).trans (aS (m:=.fr) (e2v (e2v (x:=(.fr,.scr d)) M (e2v (x:=(.fr,.int k)) (y:=(.fr,.int (d.length:Int))) M M (fh (by lia))) (Bh d _ G F)) (e2v (e2v (x:=(.fr,.int k)) (y:=(.fr,.int (d.length:Int))) M M (j6 (by lia))) (y:=(.fr,.int 48271)) M (mul_r (by decide))) M) (by decide) (by show 2<7;decide))⟩
  ·exact⟨_,(kS (A.trans (by rw[ZR (by lia)]))).trans M⟩
 obtain⟨c,p⟩:=p;have s:e2 oEq (e2 oMod (aa 2) (Q3 2)) (Q3 0) [pc (.scr d),Q0 k,Q0 c,O,O,O,O]=Y (.fr,.bl (c%2==0)):=eq_int 0 (m:=.fr) (e2v (x:=(.fr,.int c)) (y:=(.fr,.int 2)) M M (fh (by decide)));cases hb:(c%2==0) with
 |true =>
  rw[hb]at s;refine⟨c/2,iM M ((ag s1).trans ((ag p).trans (fZ ((kN s).trans (eR ?_)))))⟩;unfold eX;rw[xv (r:=ak) (e2v (x:=(.fr,.int c)) (y:=(.fr,.int 2)) M M (j6 (by decide))) M];rfl
 |false =>
  rw[hb]at s;have t:=aS (U:=[pc (.scr d),Q0 k,Q0 c,O,O,O,O]) (i:=3) (m:=.fr) (e2v (e2v (f:=ba) (z:=(.fr,.int (c/2+40503*(k:Int)))) (e2v (x:=(.fr,.int c)) (y:=(.fr,.int 2)) (a:=aa 2) (b:=Q3 2) M M (j6 (by decide))) (e2v (x:=(.fr,.int 40503)) (y:=(.fr,.int k)) (a:=Q3 40503) (b:=aa 1) M M (jL (by decide))) M) (y:=(.fr,.int 2147483629)) (b:=Q3 2147483629) M (fh (by decide))) (by decide) (by show 3<7;decide);have u:=Xd (c/2+40503*(k:Int)) (b:=2147483629) (by decide);have H:=Y7 (c/2+40503*(k:Int)) (b:=2147483629) (by decide);generalize (c/2+40503*(k:Int))%2147483629=left at t u H;obtain⟨Z,f1,l,n,o,g,rfl,_⟩:=gR (tg:=bF 5) (body:=eQ) (λ(j:Nat)=>T.int (j:Int)) (λr U=>∃(l n:Int)(o g:Vf),U=[pc (.scr d),Q0 k,Q0 c,Q0 l,Q0 n,o,g]/\0<=l/\l<2147483647/\∀j∈r,j<24) (by
   rintro j r _ ⟨l,n,o,g,rfl,X,S,q⟩;have Jp:=q j Zu;have D:aQ 3 (e2 oMod (e2 ba (e2 ba (e2 fg (aa 3) (Q3 69621)) (e2 fg (Q3 7) (aa 5))) (Q3 1)) (Q3 2147483647)) [pc (.scr d),Q0 k,Q0 c,Q0 l,Q0 n,Q0 (j:Int),g]=Y (.nx [pc (.scr d),Q0 k,Q0 c,Q0 ((l*69621+7*(j:Int)+1)%2147483647),Q0 n,Q0 (j:Int),g]) :=
    aS (m:=.fr) (e2v (e2v (e2v (e2v (x:=(.fr,.int l)) (y:=(.fr,.int 69621)) M M (jL (by lia))) (e2v (x:=(.fr,.int 7)) (y:=(.fr,.int (j:Int))) M M (jL (by decide))) M) (y:=(.fr,.int 1)) M M) (y:=(.fr,.int 2147483647)) M (fh (by decide))) (by decide) (by show 3<7;decide)
   have w:=Xd (l*69621+7*(j:Int)+1) (b:=2147483647) (by decide);have v:=Y7 (l*69621+7*(j:Int)+1) (b:=2147483647) (by decide);generalize (l*69621+7*(j:Int)+1)%2147483647=e at D w v;have C:aQ 6 (e2 oMod (e2 fg (aa 3) (aa 3)) (Q3 2147483629)) [pc (.scr d),Q0 k,Q0 c,Q0 e,Q0 n,Q0 (j:Int),g]=Y (.nx [pc (.scr d),Q0 k,Q0 c,Q0 e,Q0 n,Q0 (j:Int),Q0 (e*e%2147483629)]) :=
    aS (m:=.fr) (e2v (e2v (x:=(.fr,.int e)) (y:=(.fr,.int e)) M M (jL (by lia))) (y:=(.fr,.int 2147483629)) M (fh (by decide))) (by decide) (by show 6<7;decide)
   have N:=Xd (e*e) (b:=2147483629) (by decide);have J:=Y7 (e*e) (b:=2147483629) (by decide);generalize e*e%2147483629=mo at C N J;have Q:aQ 4 (e2 ba (e2 fg (aa 4) (Q3 999983)) (e2 oMod (e2 fg (aa 6) (e2 ba (e2 oMod (aa 6) (Q3 65521)) (Q3 3))) (Q3 999983))) [pc (.scr d),Q0 k,Q0 c,Q0 e,Q0 n,Q0 (j:Int),Q0 mo]=Y (.nx [pc (.scr d),Q0 k,Q0 c,Q0 e,Q0 (n*999983+mo*(mo%65521+3)%999983),Q0 (j:Int),Q0 mo]) :=
    aS (m:=.fr) (e2v (e2v (x:=(.fr,.int n)) (y:=(.fr,.int 999983)) M M (mul_r (by decide))) (e2v (e2v (x:=(.fr,.int mo)) M (e2v (e2v (x:=(.fr,.int mo)) (y:=(.fr,.int 65521)) M M (fh (by decide))) (y:=(.fr,.int 3)) M M) (jL (by lia))) (y:=(.fr,.int 999983)) M (fh (by decide))) M) (by decide) (by show 4<7;decide)
   exact⟨_,_,rfl,(ag D).trans ((ag C).trans Q),e,_,_,_,rfl,w,v,λi P=>q i (Zv _ P)⟩) (List.range 24) [pc (.scr d),Q0 k,Q0 c,Q0 left,Q0 0,O,O] ⟨left,0,O,O,rfl,u,by lia,λj q=>Yc.mp q⟩
  have E:ig (bF 5) (cH (Q3 24)) eQ [pc (.scr d),Q0 k,Q0 c,Q0 left,Q0 0,O,O]=Y (.nx [pc (.scr d),Q0 k,Q0 c,Q0 l,Q0 n,o,g]):=by
   refine(d7 (m:=.fr) ?_ M).trans f1;rw[fC (m:=.fr) (j:=24) M (by decide),iZ];rfl
  refine⟨n,iM M ((ag s1).trans ((ag p).trans ((ag ((kS s).trans M)).trans ((ag t).trans ((ag (U1:=[pc (.scr d),Q0 k,Q0 c,Q0 left,Q0 0,O,O]) M).trans ((ag E).trans (eR ?_)))))))⟩;rfl
end T38
end
section
namespace T38
open VS AU
def lQ{c:Ex}{a:Sx}{n:Nat}{U b:Env}{m:Md}(e:c U=Y (m,.bl L))(d:a U=Y (.nx b)):dq c a (n+1) U=dq c a n b:=by
 show (c U).bind _=_;rw[e];show (if L=L then (a U).bind _ else Y (.nx U))=_;rw[Zo M,d];rfl
def fX{c:Ex}{a:Sx}{n:Nat}{U:Env}{m:Md}(b:c U=Y (m,.bl B)):dq c a (n+1) U=Y (.nx U):=by
 show (c U).bind _=_;rw[b];rfl
def iF{mv:List Bool}{g:Mt}{as:GY}{xs:Va}{S a:St}{v:T}{b:Bool}{r:List (Vf)}(h:as (oc (Gp S b) :: r)=Y xs)(i:argsOk mv xs=L)(j:bp (trees xs)=L)(f:g (IG S) (trees xs)=Y (IG a,v))(e:Gu v=L) :
  bU 0 [] 0 mv g as (oc (Gp S b) :: r)=Y ((.fr,v),oc (Gp a b) :: r):=by
 show ((Y ([]:List Ky)).bind λd=>(as (oc (Gp S b) :: r)).bind λxs=>(pm (ub 0 mv g xs) d (Gp S b)).map λz=>(z.2,(oc (Gp S b) :: r).set 0 (oc z.1)))=_;rw[Zs,h,Zs];show ((if 1=0+1/\gp (IG S)=L/\argsOk mv xs=L/\bp (trees xs)=L then (g (IG S) (trees xs)).bind λz=>if gp z.1=L/\Gu z.2=L then Y (T.obj 1 ((0,.bl b) :: z.1),(Md.fr,z.2)) else O else O).map _)=_;rw[Zo ⟨rfl,l8 S,i,j⟩,f,Zs,Zo ⟨l8 a,e⟩];rfl
def Cp{e:Ex}{S:St}{b:Bool}{r:List (Vf)}{v:Nat}(h:e (oc (Gp S b) :: r)=Y (.fr,.int (v:Int)))(f:S.lg.length<16777216):sX (lA 0 [.fld 1] aT (ab e ak)) (oc (Gp S b) :: r)=Y (.nx (oc (Gp ⟨S.lg++[v],S.lk,S.wy⟩ b) :: r)):=by
 show (((Y [Ky.fld 1]).bind λd=>(ab e ak (oc (Gp S b) :: r)).bind λa=>(pm (λx=>aT x a) d (Gp S b)).map _).map _)=_;rw[Zs,xv (r:=ak) h M,Zs];show (((aT (.lst (S.lg.map λ(n:Nat)=>T.int (n:Int))) [(.fr,.int (v:Int))]).map _).map _ |>.map _)=_;rw[fK (by rw[Zt];exact f),show (S.lg.map λ(n:Nat)=>T.int (n:Int))++[.int (v:Int)]=(S.lg++[v]).map λ(n:Nat)=>T.int (n:Int) from by rw[Yx];rfl];rfl
def DZ{e:Ex}{S:St}{b:Bool}{r:List (Vf)}{v:Option Nat}(h:e (oc (Gp S b) :: r)=Y (.fr,GT v))(f:S.lk.length<16777216):sX (lA 0 [.fld 2] aT (ab e ak)) (oc (Gp S b) :: r)=Y (.nx (oc (Gp ⟨S.lg,S.lk++[v],S.wy⟩ b) :: r)):=by
 show (((Y [Ky.fld 2]).bind λd=>(ab e ak (oc (Gp S b) :: r)).bind λa=>(pm (λx=>aT x a) d (Gp S b)).map _).map _)=_;rw[Zs,xv (r:=ak) h M,Zs];show (((aT (.lst (S.lk.map GT)) [(.fr,GT v)]).map _).map _ |>.map _)=_;rw[fK (by rw[Zt];exact f),show (S.lk.map GT)++[GT v]=(S.lk++[v]).map GT from by rw[Yx];rfl];rfl
def DV(o:Option Nat):up .pu (GT o)=(.fr,GT o):=by
 unfold up;rw[kB];rfl
def yb(S:St)(l:Nat)(o:Option Nat)(w:List (Nat×Nat))(f:S.lg.length<16777216)(d:S.lk.length<16777216)(a:S.wy.length<16777216):aI (IG S) [.int (l:Int),GT o,GC w]=Y (IG ⟨S.lg++[l],S.lk++[o],S.wy++[w]⟩,.int (S.lg.length:Int)):=by
 have j:=Cp (S:=S) (b:=L) (r:=[Q0 (l:Int),pc (GT o),oc (GC w)]) (e:=aa 1) (v:=l) M f;have i:=DZ (S:=⟨S.lg++[l],S.lk,S.wy⟩) (b:=L) (r:=[Q0 (l:Int),pc (GT o),oc (GC w)]) (e:=aa 2) (v:=o) (congrArg Y (DV o)) d;have h:mn 0 [.fld 3] 3 [oc (Gp ⟨S.lg++[l],S.lk++[o],S.wy⟩ L),Q0 (l:Int),pc (GT o),oc (GC w)]=Y (.nx [oc (Gp ⟨S.lg++[l],S.lk++[o],S.wy++[w]⟩ L),Q0 (l:Int),pc (GT o),O]):=by
  show ((aT (.lst (S.wy.map GC)) [(.fr,GC w)]).map _ |>.map _)=_;rw[fK (by rw[Zt];exact a),show (S.wy.map GC)++[GC w]=(S.wy++[w]).map GC from by rw[Yx];rfl];rfl
 have g:=eR (e:=e2 qQ (eN cA (ab (bC 1 (aa 0)) ak)) (Q3 1)) (U:=[oc (Gp ⟨S.lg++[l],S.lk++[o],S.wy++[w]⟩ L),Q0 (l:Int),pc (GT o),O]) (t:=.int (S.lg.length:Int)) (e2v (Dd (m:=.bo) M) M (by
  show Y (Md.fr,T.int ((((S.lg++[l]).length:Nat):Int)-1))=_;rw[Zw,JV,show (((S.lg.length+1:Nat)):Int)-1=(S.lg.length:Int) by omega]))
 unfold aI Jj;rw[Zo ⟨rfl,rfl⟩];have body:=(ag (b:=aq (sX (lA 0 [.fld 2] aT (ab (aa 2) ak))) (aq (mn 0 [.fld 3] 3) (eW (e2 qQ (eN cA (ab (bC 1 (aa 0)) ak)) (Q3 1))))) j).trans ((ag i).trans ((ag h).trans g));exact congrArg (λz:Option Out=>z.bind _) body
def DA{c a v:Nat}(C:97<=c/\c<=122):∀(k:Nat)(S b:St)(o:Option Nat),WF S->v<S.lg.length->(∀n,o=Y n->n<S.lg.length)->LL c a v k S o=Y b->WF b/\b.lg=S.lg/\∃d,∀N,k<N->∀z:Vf,
  dq (j5 (gF (aa 1)) (e2 oEq (e2 wt (e2 aH (bC 3 (aa 0)) (aa 1)) (aa 2)) (aa 3))) bH N [oc (Gp S L),pc (GT o),Q2 ([c]),Q0 (a:Int),z,Q0 (v:Int)] =
   Y (.nx [oc (Gp b L),pc (GT d),Q2 ([c]),Q0 (a:Int),z,Q0 (v:Int)]):=by
 intro k
 induction k with
 |zero =>
  intro S b o W f j e;cases o with
  |none =>
   cases (show Y S=Y b from e);refine⟨W,rfl,O,λN hN z=>?_⟩;obtain⟨N,rfl⟩:∃M,N=M+1:=⟨N-1,by omega⟩
   exact fX (m:=.fr) rfl
  |some n=>cases e
 |succ k w =>
  intro S b o W f j e;cases o with
  |none =>
   cases (show Y S=Y b from e);refine⟨W,rfl,O,λN hN z=>?_⟩;obtain⟨N,rfl⟩:∃M,N=M+1:=⟨N-1,by omega⟩
   exact fX (m:=.fr) rfl
  |some n =>
   have l:=j n rfl;have p:n<S.wy.length:=by rw[W.wy];exact l
   have cond:∀z:Vf,j5 (gF (aa 1)) (e2 oEq (e2 wt (e2 aH (bC 3 (aa 0)) (aa 1)) (aa 2)) (aa 3)) [oc (Gp S L),Q0 (n:Int),Q2 ([c]),Q0 (a:Int),z,Q0 (v:Int)]=Y (.fr,.bl (decide (gW (S.wy.getD n []) c=Y a))):=λz=>by
    refine mq (m:=.fr) (x:=L) rfl (λ_=>?_) (λh=>by cases h);refine e2v (Fc (m:=.bo) (nu (m:=.bo) (n:=.fr) rfl rfl p) (n:=.fr) rfl) (y:=(.fr,.int (a:Int))) rfl ?_;cases hg:gW (S.wy.getD n []) c with
    |none=>rw[ZR (by simp)];exact mP rfl rfl rfl
    |some q =>
     refine(mP rfl rfl (show eqT (.int (q:Int)) (.int (a:Int))=decide (Y q=Y a) from ?_));simp only[eqT];by_cases h:q=a
     ·subst h;simp
     ·have E:¬(q:Int)=(a:Int):=by omega
      have D:¬Y q=Y a:=λz=>h (Zj z);rw[ZR D];exact IJ.mpr E
   unfold LL at e;split at e
   ·rename_i g;have F:=W.way (n:=n) (c:=c) (v:=v) f C;obtain⟨u,s,d,r⟩:=w _ b (S.lk.getD n O) F f (λm A=>W.up n m A) e;refine⟨u,s,d,λN hN z=>?_⟩;obtain⟨N,rfl⟩:∃M,N=M+1:=⟨N-1,by omega⟩
    refine(lQ (m:=.fr) ((cond z).trans (by rw[decide_eq_true g])) ?_).trans (r N (by omega) z);unfold bH;refine(ag (wD (S:=S) (i:=n) (n:=.fr) (m:=.fr) (k:=.fr) (c:=c) (v:=v) p rfl rfl rfl (W.small n))).trans ?_;have G:n<S.lk.length:=by rw[W.lk];exact l
    exact aS (m:=.fr) (t:=GT (S.lk.getD n O)) (uO (S:=⟨S.lg,S.lk,S.wy.set n (pW (S.wy.getD n []) c v)⟩) (m:=.bo) (n:=.fr) rfl rfl G) (by decide) (by decide:1<6)
   ·rename_i g;cases e;refine⟨W,rfl,Y n,λN hN z=>?_⟩;obtain⟨N,rfl⟩:∃M,N=M+1:=⟨N-1,by omega⟩
    exact fX (m:=.fr) ((cond z).trans (by rw[ZR g]))
end T38
end
section
namespace T38
open VS
noncomputable def Pt(a:List Tx)(w:Tx):Prop:=w=[]\/∃t∈a,w <:+: t
noncomputable def bf(P:Tx->Bool)(a:Tx):Nat->List Tx->Option Tx
 |0,_=>O
 |_+1,[]=>O
 |n+1,w :: q=>match a.find? λc=>!P (w++[c]) with
  |some c=>Y (w++[c])
  |none=>bf P a n (q++a.map λc=>w++[c])
noncomputable def ext(a:Tx)(l:List Tx):List Tx:=l.flatMap λw=>a.map λc=>w++[c]
def ext_mem{b:Tx}{l:List Tx}{x:Tx}:x∈ext b l ↔ ∃w∈l,∃c∈b,x=w++[c]:=by
 unfold ext;rw[Vc];constructor
 ·rintro⟨w,hw,h⟩;obtain⟨c,a,rfl⟩:=Hq.mp h;exact⟨w,hw,c,a,rfl⟩
 ·rintro⟨w,hw,c,a,rfl⟩;exact⟨w,hw,Hq.mpr ⟨c,a,rfl⟩⟩
theorem kT{f:Tx}(g:f.Nodup):∀{l:List Tx},l.Nodup->(ext f l).Nodup
 |[],_=>Iv
 |w :: l,h=>by
  have i:=ZZ.mp h;show ((f.map λc=>w++[c])++ext f l).Nodup;refine ZM.mpr ⟨List.Pairwise.map (λc=>w++[c]) (λa b n e=>n (by simpa using e)) g,kT g i.2,λa m b hb e=>?_⟩;subst e;obtain⟨c,_,rfl⟩:=Hq.mp m;obtain⟨v,j,d,_,e⟩:=ext_mem.mp hb;have:=(List.append_inj' e M).1;exact i.1 (this ▸ j)
theorem o7(a:Tx):∀l:List Tx,(ext a l).length=a.length*l.length
 |[]=>rfl
 |w :: l=>by
  show ((a.map λc=>w++[c])++ext a l).length=_;rw[Zw,Zt,o7 a l,Zg,Nat.mul_succ,Vl]
def Di{P:Tx->Bool}{a:Tx}(j:0<a.length)(i:a.Nodup)(L:List Tx)(p:∀w,P w=true->w∈L):∀(n:Nat)(l q:List Tx),l++q=[] :: ext a l->(l++q).Nodup->(∀w∈l++q,P w=true)->bf P a n q=O->l.length+n<=L.length:=by
 intro n
 induction n with
 |zero =>
  intro l q e nd b _;have:=AU.sub_len _ L nd λx f=>p x (b x f);rw[Zw]at this;lia
 |succ n d =>
  intro l q e nd b h;cases q with
  |nil =>
   have:=congrArg List.length e;rw[ZK,Zg,o7]at this;have:1*l.length<=a.length*l.length:=WG _ j;lia
  |cons w q =>
   unfold bf at h;split at h
   ·cases h
   ·rename_i m;have e2:(l++[w])++(q++a.map λc=>w++[c])=[] :: ext a (l++[w]):=by
     unfold ext;rw[W5,← Xm];show _=([] :: ext a l)++_;rw[← e];simp
    have r:∀v∈(l++[w])++(q++a.map λc=>w++[c]),P v=true:=λv g=>by
     have:v∈(l++w :: q)++a.map λc=>w++[c]:=by simpa using g
     rcases Zi.mp this with z | z
     ·exact b v z
     ·obtain⟨c,o,rfl⟩:=Hq.mp z;have:=XF.mp m c o;simpa using this
    have s:(l++[w]).Nodup:=nd.sublist (by
     rw[show l++w :: q=(l++[w])++q from by simp];exact WY _ _)
    have:=d (l++[w]) _ e2 (by
     rw[e2];refine ZZ.mpr ⟨λz=>?_,kT i s⟩;obtain⟨v,_,c,_,e⟩:=ext_mem.mp z;have:=congrArg List.length e;simp at this) r h
    rw[Zw,JV]at this;lia
def Bo{P:Tx->Bool}{a:Tx}(d:0<a.length)(b:a.Nodup)(L:List Tx)(e:∀w,P w=true->w∈L)(f:P []=true):∃x,bf P a (L.length+1) [[]]=Y x:=by
 cases h:bf P a (L.length+1) [[]] with
 |some x=>exact⟨x,rfl⟩
 |none =>
  have:=Di d b L e (L.length+1) [] [[]] M (ZZ.mpr ⟨(λz=>nomatch z),Iv⟩) (λw hw=>by rw[Zk.mp hw];exact f) h;simp at this;lia
def EG{P:Tx->Bool}{b:Tx}{x:Tx}:∀(n:Nat)(q:List Tx),(∀w∈q,P w=L)->bf P b n q=Y x->P x=B/\∃w c,P w=L/\c∈b/\x=w++[c]:=by
 intro n
 induction n with
 |zero=>intro q _ h;cases h
 |succ n e =>
  intro q d h;cases q with
  |nil=>cases h
  |cons w q =>
   unfold bf at h;split at h
   ·rename_i c a;cases h;have i:=List.find?_some a;exact⟨by simpa using i,w,c,d w Zu,List.mem_of_find?_eq_some a,rfl⟩
   ·rename_i g;refine e _ (λv f=>?_) h;rcases Zi.mp f with z | z
    ·exact d v (Zv _ z)
    ·obtain⟨c,a,rfl⟩:=Hq.mp z;have:=XF.mp g c a;simpa using this
def xN{c:Ex}{a:Sx}{n:Nat}{U b:Env}{m:Md}{v:Val}(e:c U=Y (m,.bl L))(d:a U=Y (.rt v b)):dq c a (n+1) U=Y (.rt v b):=by
 unfold dq;rw[e];show (a U).bind _=_;rw[d];rfl
end T38
end
section
namespace T38
open VS AU
def Dq{c v:Nat}(y:97<=c/\c<=122):∀(k:Nat)(S a:St)(o b:Option Nat),WF S->v<S.lg.length->(∀n,o=Y n->n<S.lg.length)->up1 c v k S o=Y (a,b)->WF a/\a.lg=S.lg/\(∀n,b=Y n->n<S.lg.length)/\∀N,k<N->∀z:Vf,
  dq (j5 (gF (aa 4)) (e2 cG (aa 2) (e2 aH (bC 3 (aa 0)) (aa 4)))) bE N [oc (Gp S L),z,Q2 ([c]),Q0 (v:Int),pc (GT o)] =
   Y (.nx [oc (Gp a L),z,Q2 ([c]),Q0 (v:Int),pc (GT b)]):=by
 intro k
 induction k with
 |zero =>
  intro S a o b W d g e;cases o with
  |none =>
   cases (show Y (S,O)=Y (a,b) from e);refine⟨W,rfl,(λn h=>nomatch h),λN hN z=>?_⟩;obtain⟨N,rfl⟩:∃M,N=M+1:=⟨N-1,by omega⟩
   exact fX (m:=.fr) rfl
  |some n=>cases e
 |succ k u =>
  intro S a o b W d g e;cases o with
  |none =>
   cases (show Y (S,O)=Y (a,b) from e);refine⟨W,rfl,(λn h=>nomatch h),λN hN z=>?_⟩;obtain⟨N,rfl⟩:∃M,N=M+1:=⟨N-1,by omega⟩
   exact fX (m:=.fr) rfl
  |some n =>
   have j:=g n rfl;have l:n<S.wy.length:=by rw[W.wy];exact j
   have cond:∀z:Vf,j5 (gF (aa 4)) (e2 cG (aa 2) (e2 aH (bC 3 (aa 0)) (aa 4))) [oc (Gp S L),z,Q2 ([c]),Q0 (v:Int),Q0 (n:Int)]=Y (.fr,.bl (!(gW (S.wy.getD n []) c).isSome)):=λz =>
    mq (m:=.fr) (x:=L) rfl (λ_=>BN (m:=.bo) (n:=.fr) (nu (m:=.bo) (n:=.fr) rfl rfl l) rfl) (λh=>by cases h)
   unfold up1 at e;split at e
   ·rename_i f;cases e;refine⟨W,rfl,g,λN hN z=>?_⟩;obtain⟨N,rfl⟩:∃M,N=M+1:=⟨N-1,by omega⟩
    exact fX (m:=.fr) ((cond z).trans (by rw[f];rfl))
   ·rename_i f;have A:=W.way (n:=n) (c:=c) (v:=v) d y;obtain⟨s,r,p,q⟩:=u _ a (S.lk.getD n O) b A d (λm w=>W.up n m w) e;refine⟨s,r,p,λN hN z=>?_⟩;obtain⟨N,rfl⟩:∃M,N=M+1:=⟨N-1,by omega⟩
    have C:(gW (S.wy.getD n []) c).isSome=B:=by simpa using f
    refine(lQ (m:=.fr) ((cond z).trans (by rw[C];rfl)) ?_).trans (q N (by omega) z);unfold bE;refine(ag (wD (S:=S) (i:=n) (n:=.fr) (m:=.fr) (k:=.fr) (c:=c) (v:=v) l rfl rfl rfl (W.small n))).trans ?_;have D:n<S.lk.length:=by rw[W.lk];exact j
    exact aS (m:=.fr) (t:=GT (S.lk.getD n O)) (uO (S:=⟨S.lg,S.lk,S.wy.set n (pW (S.wy.getD n []) c v)⟩) (m:=.bo) (n:=.fr) rfl rfl D) (by decide) (by decide:4<5)
def Da(a b:Nat){m n:Md}:oEq (m,.int (a:Int)) (n,.int (b:Int))=Y (.fr,.bl (decide (a=b))):=mP M M (by
 simp only[eqT];by_cases h:a=b
 ·subst h;simp
 ·rw[ZR h];exact IJ.mpr (by omega))
def yE{S a:St}{n c r:Nat}(W:WF S)(F:Sm S)(q:n<S.lg.length)(G:97<=c/\c<=122)(e:Lv S n c=Y (a,r)):WF a/\r<a.lg.length/\S.lg.length<=a.lg.length/\a.lg.length<=S.lg.length+1/\av (IG S) [.int (n:Int),.str [c]]=Y (IG a,.int (r:Int)):=by
 unfold Lv at e;obtain⟨old,j,e⟩:=Zz.mp e;have hold:=W.on n c old j;have X:n<S.wy.length:=by rw[W.wy];exact q
 have how:old<S.wy.length:=by rw[W.wy];exact hold
 have Gq:old<S.lk.length:=by rw[W.lk];exact hold
 have ME:S.lg.length<=100001:=F;unfold av Jj;rw[Zo ⟨rfl,rfl⟩];have s1:=aS (i:=3) (m:=.fr) (e:=e2 HY (e2 aH (bC 3 (aa 0)) (aa 1)) (aa 2)) (U:=[oc (Gp S L),Q0 (n:Int),Q2 ([c]),O,O,O]) (wo (m:=.bo) (n:=.fr) (nu (m:=.bo) (n:=.fr) M M X) M j) (by decide) (by decide:3<6);have h:=aS (i:=4) (m:=.fr) (e:=e2 ba (e2 aH (bC 1 (aa 0)) (aa 1)) (Q3 1)) (U:=[oc (Gp S L),Q0 (n:Int),Q2 ([c]),Q0 (old:Int),O,O]) (t:=.int ((S.lg.getD n 0+1:Nat):Int)) (e2v (qH (m:=.bo) (n:=.fr) M M q) M M) (by decide) (by decide:4<6);have cd:e2 oEq (e2 aH (bC 1 (aa 0)) (aa 3)) (aa 4) [oc (Gp S L),Q0 (n:Int),Q2 ([c]),Q0 (old:Int),Q0 ((S.lg.getD n 0+1:Nat):Int),O]=Y (.fr,.bl (decide (S.lg.getD old 0=S.lg.getD n 0+1))):=e2v (qH (m:=.bo) (n:=.fr) M M hold) (y:=(.fr,.int ((S.lg.getD n 0+1:Nat):Int))) M (Da _ _);split at e
 ·rename_i g;obtain⟨rfl,rfl⟩:=Wb (Zj e);rw[decide_eq_true g]at cd;refine⟨W,hold,Zp _,Xj _,?_⟩;have body:∀b:Sx,aq (aQ 3 (e2 HY (e2 aH (bC 3 (aa 0)) (aa 1)) (aa 2))) (aq (aQ 4 (e2 ba (e2 aH (bC 1 (aa 0)) (aa 1)) (Q3 1))) (aq (Hb (e2 oEq (e2 aH (bC 1 (aa 0)) (aa 3)) (aa 4)) (eY 3) cT) b)) [oc (Gp S L),Q0 (n:Int),Q2 ([c]),O,O,O]=Y (.rt (.fr,.int (old:Int)) [oc (Gp S L),Q0 (n:Int),Q2 ([c]),Q0 (old:Int),Q0 ((S.lg.getD n 0+1:Nat):Int),O]):=λb =>
   (ag s1).trans ((ag h).trans (fZ ((kN cd).trans M)))
  exact congrArg (λz:Option Out=>z.bind _) (body _)
 ·rename_i g;rw[ZR g]at cd;obtain⟨s,R,H⟩:=Zy.mp e;obtain⟨rfl,rfl⟩:=Wb H;have wn:=W.ND old;have Q:=W.more (l:=S.lg.getD n 0+1) (o:=S.lk.getD old O) (w:=S.wy.getD old []) (λm f=>W.up old m f) (λd m f=>W.on old d m f) wn.1 wn.2;have hlen:(S.lg++[S.lg.getD n 0+1]).length=S.lg.length+1:=by rw[Zw];rfl
  have P:=Q.link (n:=old) (v:=S.lg.length) (by show S.lg.length<(S.lg++[S.lg.getD n 0+1]).length;omega);obtain⟨A,x,Z,u⟩:=DA G 1000 _ s (Y n) P (by show S.lg.length<(S.lg++[S.lg.getD n 0+1]).length;omega) (λm f=>by cases f;show n<(S.lg++[S.lg.getD n 0+1]).length;omega) R;have Uh:s.lg.length=S.lg.length+1:=by rw[x];exact hlen
  refine⟨A,by omega,by omega,by omega,?_⟩;have nw:=yb S (S.lg.getD n 0+1) (S.lk.getD old O) (S.wy.getD old []) (by omega) (by rw[W.lk];omega) (by rw[W.wy];omega);have args:ab (aa 4) (ab (e2 aH (bC 2 (aa 0)) (aa 3)) (ab (eN kE (ab (e2 aH (bC 3 (aa 0)) (aa 3)) ak)) ak)) [oc (Gp S L),Q0 (n:Int),Q2 ([c]),Q0 (old:Int),Q0 ((S.lg.getD n 0+1:Nat):Int),O]=Y [(.fr,.int ((S.lg.getD n 0+1:Nat):Int)),(.fr,GT (S.lk.getD old O)),(.fr,GC (S.wy.getD old []))] :=
   xv M (xv (uO (m:=.bo) (n:=.fr) M M Gq) (xv (jM (xv (nu (m:=.bo) (n:=.fr) M M how) M) (by
    show (if dm (((S.wy.getD old []).map λp=>(T.str [p.1],T.int (p.2:Int))).map (·.2))=L then Y (Md.fr,GC (S.wy.getD old [])) else O)=_;rw[Zo (by rw[Yq];exact jT _ (λ_=>rfl) _)])) M))
  have N:argsOk [B,B,L] [(.fr,.int ((S.lg.getD n 0+1:Nat):Int)),(.fr,GT (S.lk.getD old O)),(.fr,GC (S.wy.getD old []))]=L:=by
   show (L&&(Gu (GT (S.lk.getD old O))&&L))=L;rw[kB];rfl
  have an:bp (trees [(Md.fr,T.int ((S.lg.getD n 0+1:Nat):Int)),(.fr,GT (S.lk.getD old O)),(.fr,GC (S.wy.getD old []))])=L:=by
   show (L&&(fz (GT (S.lk.getD old O))&&(fz (GC (S.wy.getD old []))&&L)))=L;rw[mZ _ (kB _),yy];rfl
  have J:=iF (b:=L) args N an nw M;have E:cp 5 (bU 0 [] 0 [B,B,L] aI (ab (aa 4) (ab (e2 aH (bC 2 (aa 0)) (aa 3)) (ab (eN kE (ab (e2 aH (bC 3 (aa 0)) (aa 3)) ak)) ak)))) [oc (Gp S L),Q0 (n:Int),Q2 ([c]),Q0 (old:Int),Q0 ((S.lg.getD n 0+1:Nat):Int),O]=Y (.nx [oc (Gp ⟨S.lg++[S.lg.getD n 0+1],S.lk++[S.lk.getD old O],S.wy++[S.wy.getD old []]⟩ L),Q0 (n:Int),Q2 ([c]),Q0 (old:Int),Q0 ((S.lg.getD n 0+1:Nat):Int),Q0 (S.lg.length:Int)]):=by
   unfold cp;rw[J];rfl
  have D:=ya (S:=⟨S.lg++[S.lg.getD n 0+1],S.lk++[S.lk.getD old O],S.wy++[S.wy.getD old []]⟩) (b:=L) (r:=[Q0 (n:Int),Q2 ([c]),Q0 (old:Int),Q0 ((S.lg.getD n 0+1:Nat):Int),Q0 (S.lg.length:Int)]) (i:=old) (v:=S.lg.length) (n:=.fr) (e:=aa 3) (ev:=aa 5) (by show old<(S.lk++[S.lk.getD old O]).length;rw[Zw];omega) M M;have C:=u vy (by decide) (Q0 ((S.lg.getD n 0+1:Nat):Int));exact congrArg (λz:Option Out=>z.bind _) ((ag s1).trans ((ag h).trans ((ag ((kS cd).trans M)).trans ((ag E).trans ((ag D).trans ((ag C).trans M))))))
def D5{S S':St}{h c r:Nat}(W:WF S)(Z:S.lg.length<=100000)(x:h<S.lg.length)(y:97<=c/\c<=122)(e:hb S h c=Y (S',r)):WF S'/\r<S'.lg.length/\S.lg.length<=S'.lg.length/\S'.lg.length<=S.lg.length+2/\bB (IG S) [.int (h:Int),.str [c]]=Y (IG S',.int (r:Int)):=by
 have hw:h<S.wy.length:=by rw[W.wy];exact x
 unfold hb at e;unfold bB Jj;rw[Zo ⟨rfl,rfl⟩];have cd:e2 j8 (aa 2) (e2 aH (bC 3 (aa 0)) (aa 1)) [oc (Gp S L),Q0 (h:Int),Q2 ([c]),O,O]=Y (.fr,.bl (gW (S.wy.getD h []) c).isSome):=FP (m:=.bo) (n:=.fr) (nu (m:=.bo) (n:=.fr) M M hw) M;split at e
 ·rename_i u;rw[u]at cd;obtain⟨s,q,t,A,E⟩:=yE W (Vn Z) x y e;refine⟨s,q,t,by omega,?_⟩;have j:=iF (mv:=[B,B]) (as:=ab (aa 1) (ab (aa 2) ak)) (xs:=[(.fr,.int (h:Int)),(.fr,.str [c])]) (b:=L) (r:=[Q0 (h:Int),Q2 ([c]),O,O]) M M M E M;have s1:kg (bU 0 [] 0 [B,B] av (ab (aa 1) (ab (aa 2) ak))) [oc (Gp S L),Q0 (h:Int),Q2 ([c]),O,O]=Y (.rt (.fr,.int (r:Int)) [oc (Gp S' L),Q0 (h:Int),Q2 ([c]),O,O]):=by
   unfold kg;rw[j];rfl
  exact congrArg (λz:Option Out=>z.bind _) (fZ ((kN cd).trans s1))
 ·rename_i u;have Jm:(gW (S.wy.getD h []) c).isSome=B:=by simpa using u
  rw[Jm]at cd;obtain⟨⟨a,o⟩,e1,D⟩:=Zz.mp e;have X:=W.more (l:=S.lg.getD h 0+1) (o:=Y 0) (w:=[]) (λm g=>by cases g;exact W.pos) (λd m g=>by cases g) Iv (λp P=>nomatch P);have hlen:(S.lg++[S.lg.getD h 0+1]).length=S.lg.length+1:=by rw[Zw];rfl
  obtain⟨s,q,t,A⟩:=Dq y 1000 _ a (Y h) o X (by show S.lg.length<(S.lg++[S.lg.getD h 0+1]).length;omega) (λm g=>by cases g;show h<(S.lg++[S.lg.getD h 0+1]).length;omega) e1;have Uh:a.lg.length=S.lg.length+1:=by rw[q];exact hlen
  have nw:=yb S (S.lg.getD h 0+1) (Y 0) [] (by omega) (by rw[W.lk];omega) (by rw[W.wy];omega);have args:ab (e2 ba (e2 aH (bC 1 (aa 0)) (aa 1)) (Q3 1)) (ab (Q3 0) (ab (qR 0 []) ak)) [oc (Gp S L),Q0 (h:Int),Q2 ([c]),O,O]=Y [(.fr,.int ((S.lg.getD h 0+1:Nat):Int)),(.fr,.int 0),(.fr,.dct 0 [])] :=
   xv (e2v (qH (m:=.bo) (n:=.fr) M M x) M M) (xv M (xv M M))
  have j:=iF (mv:=[B,B,L]) (b:=L) args M M nw M;have s1:cp 3 (bU 0 [] 0 [B,B,L] aI (ab (e2 ba (e2 aH (bC 1 (aa 0)) (aa 1)) (Q3 1)) (ab (Q3 0) (ab (qR 0 []) ak)))) [oc (Gp S L),Q0 (h:Int),Q2 ([c]),O,O]=Y (.nx [oc (Gp ⟨S.lg++[S.lg.getD h 0+1],S.lk++[Y 0],S.wy++[[]]⟩ L),Q0 (h:Int),Q2 ([c]),Q0 (S.lg.length:Int),O]):=by
   unfold cp;rw[j];rfl
  have N:=A vy (by decide) (Q0 (h:Int));have hd:∀b:Sx,aq (Hb (e2 j8 (aa 2) (e2 aH (bC 3 (aa 0)) (aa 1))) (kg (bU 0 [] 0 [B,B] av (ab (aa 1) (ab (aa 2) ak)))) cT)
    (aq (cp 3 (bU 0 [] 0 [B,B,L] aI (ab (e2 ba (e2 aH (bC 1 (aa 0)) (aa 1)) (Q3 1)) (ab (Q3 0) (ab (qR 0 []) ak)))))
    (aq (aQ 4 (aa 1)) (aq (kI (j5 (gF (aa 4)) (e2 cG (aa 2) (e2 aH (bC 3 (aa 0)) (aa 4)))) bE) b))) [oc (Gp S L),Q0 (h:Int),Q2 ([c]),O,O] =
    b [oc (Gp a L),Q0 (h:Int),Q2 ([c]),Q0 (S.lg.length:Int),pc (GT o)]:=λb =>
   (ag ((kS cd).trans M)).trans ((ag s1).trans ((ag M).trans (ag N)))
  cases o with
  |none =>
   obtain⟨rfl,rfl⟩:=Wb (Zj D);have fin:aq (Hb (gF (aa 4)) (lH 0 [.fld 2] (aa 3) (bU 0 [] 0 [B,B] av (ab (aa 4) (ab (aa 2) ak)))) cT) (eY 3) [oc (Gp a L),Q0 (h:Int),Q2 ([c]),Q0 (S.lg.length:Int),pc (GT O)] =
     Y (.rt (.fr,.int (S.lg.length:Int)) [oc (Gp a L),Q0 (h:Int),Q2 ([c]),Q0 (S.lg.length:Int),pc (GT O)]):=(ag ((kS (m:=.fr) M).trans M)).trans M
   refine⟨s,by show S.lg.length<a.lg.length;omega,by show S.lg.length<=a.lg.length;omega,by show a.lg.length<=_;omega,?_⟩;exact congrArg (λz:Option Out=>z.bind _) ((hd _).trans fin)
  |some n =>
   obtain⟨⟨f,m⟩,U,R⟩:=Zy.mp D;obtain⟨rfl,rfl⟩:=Wb R;have Q:n<a.lg.length:=by
    have:=t n M;rw[q];exact this
   obtain⟨C,H,v3,v4,G⟩:=yE s (by show a.lg.length<=100001;omega) Q y U;have F:=C.link (n:=S.lg.length) (v:=m) H;have j:=iF (mv:=[B,B]) (as:=ab (aa 4) (ab (aa 2) ak)) (xs:=[(.fr,.int (n:Int)),(.fr,.str [c])]) (b:=L) (r:=[Q0 (h:Int),Q2 ([c]),Q0 (S.lg.length:Int),Q0 (n:Int)]) M M M G M;have pl:=ya (S:=f) (b:=L) (r:=[Q0 (h:Int),Q2 ([c]),Q0 (S.lg.length:Int),Q0 (n:Int)]) (i:=S.lg.length) (v:=m) (n:=.fr) (e:=aa 3) (ev:=λ_=>Y (.fr,.int (m:Int))) (by rw[C.lk];omega) M M;have J:lH 0 [.fld 2] (aa 3) (bU 0 [] 0 [B,B] av (ab (aa 4) (ab (aa 2) ak))) [oc (Gp a L),Q0 (h:Int),Q2 ([c]),Q0 (S.lg.length:Int),Q0 (n:Int)]=Y (.nx [oc (Gp ⟨f.lg,f.lk.set S.lg.length (Y m),f.wy⟩ L),Q0 (h:Int),Q2 ([c]),Q0 (S.lg.length:Int),Q0 (n:Int)]):=by
    unfold lH;rw[j];exact pl
   have fin:aq (Hb (gF (aa 4)) (lH 0 [.fld 2] (aa 3) (bU 0 [] 0 [B,B] av (ab (aa 4) (ab (aa 2) ak)))) cT) (eY 3) [oc (Gp a L),Q0 (h:Int),Q2 ([c]),Q0 (S.lg.length:Int),Q0 (n:Int)] =
     Y (.rt (.fr,.int (S.lg.length:Int)) [oc (Gp ⟨f.lg,f.lk.set S.lg.length (Y m),f.wy⟩ L),Q0 (h:Int),Q2 ([c]),Q0 (S.lg.length:Int),Q0 (n:Int)]):=(ag ((kN (m:=.fr) M).trans J)).trans M
   refine⟨F,by show S.lg.length<f.lg.length;omega,by show S.lg.length<=f.lg.length;omega,by show f.lg.length<=_;omega,?_⟩;exact congrArg (λz:Option Out=>z.bind _) ((hd _).trans fin)
theorem ze{S S':St}:∀{word:Vt}{h r:Nat},WF S->S.lg.length+2*word.length<=100000->h<S.lg.length->(∀c∈word,97<=c/\c<=122)->hg S h word=Y (S',r) →
  WF S'/\r<S'.lg.length/\S'.lg.length<=S.lg.length+2*word.length/\∀f:Vf,∀a:T,∃j,forL (bF 3) bP (word.map λc=>T.str [c]) [oc (Gp S L),Q0 (h:Int),pc a,f]=Y (.nx [oc (Gp S' L),Q0 (r:Int),pc a,j])
 |[],h,r,W,l,g,i,e=>by
  obtain⟨rfl,rfl⟩:=Wb (Zj e);exact⟨W,g,by simp,λf a=>⟨f,rfl⟩⟩
 |c :: word,h,r,W,l,g,i,e=>by
  obtain⟨⟨v,A⟩,e1,w⟩:=Zz.mp e;rw[Zg]at l;obtain⟨o,n,y,x,m⟩:=D5 W (by omega) g (i c Zu) e1;obtain⟨t,s,z,p⟩:=ze (S:=v) (S':=S') (word:=word) o (by omega) n (λd hd=>i d (Zv _ hd)) w;refine⟨t,s,by rw[Zg];omega,λf a=>?_⟩;obtain⟨j,q⟩:=p (Q2 ([c])) a;refine⟨j,?_⟩;rw[Ze];refine(fR (U1:=[oc (Gp S L),Q0 (h:Int),pc a,Q2 ([c])]) M ?_).trans q;have u:=iF (mv:=[B,B]) (as:=ab (aa 1) (ab (aa 3) ak)) (xs:=[(.fr,.int (h:Int)),(.fr,.str [c])]) (b:=L) (r:=[Q0 (h:Int),pc a,Q2 ([c])]) M M M m M;unfold bP cp;rw[u];rfl
def Ft{S S':St}{a:Tx}{h r:Nat}(W:WF S)(i:S.lg.length+2*a.length<=100000)(j:h<S.lg.length)(n:∀c∈a,97<=c/\c<=122)(e:hg S h a=Y (S',r)) :
  WF S'/\r<S'.lg.length/\S'.lg.length<=S.lg.length+2*a.length/\bK (IG S) [.int (h:Int),.str a]=Y (IG S',.int (r:Int)):=by
 obtain⟨g,f,d,b⟩:=ze W i j n e;obtain⟨o,q⟩:=b O (.str a);refine⟨g,f,d,?_⟩;unfold bK Jj;rw[Zo ⟨rfl,rfl⟩];have s1:=(d7 (tg:=bF 3) (it:=eU (aa 2)) (body:=bP) (U:=[oc (Gp S L),Q0 (h:Int),Q2 a,O]) (m:=.fr) (l:=a.map λc=>T.str [c]) M M).trans q;exact congrArg (λz:Option Out=>z.bind _) ((ag s1).trans M)
end T38
end
section
namespace AU
noncomputable abbrev Wd:=Vt
noncomputable abbrev W(a:List Wd)(n:Nat):Wd:=a.getD n []
structure I(fr:Option Nat)(S:St)(nd:Wd->Option Nat)(wd:List Wd):Prop where
 wf:WF S
 len:wd.length=S.lg.length
 lg:∀n,n<wd.length->S.lg.getD n 0=(W wd n).length
 z:nd []=some 0
 wz:W wd 0=[]
 lt:∀{x n},nd x=some n->n<wd.length
 sf:∀{x n},nd x=some n->x <:+ W wd n
 top:∀{n},n<wd.length->nd (W wd n)=some n
 iv:∀{x y n},nd x=some n->x <:+ y->y <:+ W wd n->nd y=some n
 pre:∀{x c n},nd (x++[c])=some n->∃m,nd x=some m
 Lp:∀{x y n},nd y=some n->x <:+ y->∃m,nd x=some m
 NZ:S.lk.getD 0 none=none
 lk:∀{n},0<n->n<wd.length->some n≠fr->∃m,S.lk.getD n none=some m/\(m<wd.length/\some m≠fr)/\W wd m <:+ W wd n/\(W wd m).length<(W wd n).length/\∀y,y <:+ W wd n->(W wd m).length<y.length->nd y=some n
 wy:∀{x n},nd x=some n->∀c,gW (S.wy.getD n []) c=nd (x++[c])
def cW{α:Type}{x y w:List α}(d:x <:+ w)(b:y <:+ w)(a:x.length<=y.length):x <:+ y:=List.suffix_of_suffix_length_le d b a
section
variable{fr:Option Nat}{S:St}{nd:Wd->Option Nat}{wd:List Wd}
def I.up(H:I fr S nd wd):∀(k n:Nat)(x:Wd),(W wd n).length<=k->n<wd.length->Y n≠fr->x <:+ W wd n->∃m,nd x=Y m/\W wd m <:+ W wd n:=by
 intro k
 induction k with
 |zero =>
  intro n x f b g a;have e:W wd n=[]:=XE.mp (Nat.le_zero.mp f);rw[e]at a;have:x=[]:=Xw.mp a;subst this;exact⟨0,H.z,by rw[H.wz];exact Wo⟩
 |succ k o =>
  intro n x f b g a;by_cases i:n=0
  ·subst i;rw[H.wz]at a;have:x=[]:=Xw.mp a;subst this;exact⟨0,H.z,Ym _⟩
  ·obtain⟨m,u,⟨r,s⟩,h,t,p⟩:=H.lk (II i) b g;by_cases d:(W wd m).length<x.length
   ·exact⟨n,p x a d,Ym _⟩
   ·obtain⟨q,l,j⟩:=o m x (by lia) r s (cW a h (by exact ZJ d));exact⟨q,l,j.trans h⟩
def I.O6(H:I fr S nd wd){n:Nat}{x:Wd}(b:n<wd.length)(d:Y n≠fr)(a:x <:+ W wd n):∃m,nd x=Y m/\W wd m <:+ W wd n:=H.up _ n x (Zp _) b d a
def I.all(H:I fr S nd wd){n q:Nat}{x y:Wd}(e:q<wd.length)(f:Y q≠fr)(d:nd x=Y n)(b:nd y=Y n)(h:x <:+ W wd q):y <:+ W wd q:=by
 obtain⟨m,a,g⟩:=H.O6 e f h;rw[d]at a;cases a;exact(H.sf b).trans g
def I.inj(H:I fr S nd wd){m n:Nat}(b:m<wd.length)(a:n<wd.length)(h:W wd m=W wd n):m=n:=by
 have:=H.top b;rw[h,H.top a]at this;exact(Zj this).symm
def I.way(H:I fr S nd wd){n c a:Nat}(b:n<wd.length)(h:gW (S.wy.getD n []) c=Y a):nd (W wd n++[c])=Y a:=by
 rw[← H.wy (H.top b) c];exact h
def I.zero(H:I fr S nd wd){x:Wd}(h:nd x=Y 0):x=[]:=by
 have:=H.sf h;rw[H.wz]at this;exact Xw.mp this
def I.low(H:I fr S nd wd){n m:Nat}{y:Wd}(h:Y n≠fr)(a:S.lk.getD n O=Y m)(b:nd y=Y n):(W wd m).length<y.length/\m<wd.length/\W wd m <:+ W wd n/\Y m≠fr:=by
 have g:=H.lt b;by_cases f:n=0
 ·subst f;rw[H.NZ]at a;cases a
 ·obtain⟨o,j,⟨e,l⟩,d,i,p⟩:=H.lk (II f) g h;rw[j]at a;cases a;refine⟨Nat.lt_of_not_le λhle=>?_,e,d,l⟩;have:=H.iv b (cW (H.sf b) d hle) d;rw[H.top e]at this;cases this;exact YD _ i
def I.below(H:I fr S nd wd){n q m:Nat}(e:n<wd.length)(g:Y n≠fr)(a:S.lk.getD n O=Y q)(f:m<wd.length)(b:W wd m <:+ W wd n)(l:m≠n):W wd m <:+ W wd q:=by
 by_cases d:n=0
 ·subst d;rw[H.NZ]at a;cases a
 ·obtain⟨p,j,⟨s,_⟩,i,r,h⟩:=H.lk (II d) e g;rw[j]at a;cases a;refine cW b i (ZJ λo=>l ?_);have:=h _ b o;rw[H.top f]at this;exact Zj this
def I.root(H:I fr S nd wd){n m:Nat}(b:n<wd.length)(g:Y n≠fr)(d:S.lk.getD n O=O)(f:m<wd.length)(a:W wd m <:+ W wd n):m=n:=by
 have i:n=0:=Nat.eq_zero_of_not_pos λe=>by
  obtain⟨q,h,_⟩:=H.lk e b g;rw[h]at d;cases d
 subst i;rw[H.wz]at a;exact H.inj f b (by rw[H.wz,Xw.mp a])
def fF(a:List (List (Nat×Nat)))(n m c v d:Nat)(b:n<a.length):gW ((a.set n (pW (a.getD n []) c v)).getD m []) d=if m=n/\d=c then Y v else gW (a.getD m []) d:=by
 rw[gM];by_cases h:n=m
 ·subst h;rw[Zo ⟨rfl,b⟩,B3];by_cases hd:d=c
  ·rw[Zo hd,Zo ⟨rfl,hd⟩]
  ·rw[Zm hd,Zm (λz=>hd z.2)]
 ·rw[Zm (λz=>h z.1),Zm (λz=>h z.1.symm)]
def I.MZ(H:I fr S nd wd){c old v:Nat}:∀(k:Nat)(T:St)(n:Nat),n<wd.length->Y n≠fr->(W wd n).length<k->(∀m,m<wd.length->W wd m <:+ W wd n->T.lk.getD m O=S.lk.getD m O)->wd.length<=T.wy.length →
  (∀m b,m<wd.length->b<wd.length->W wd m <:+ W wd b->W wd b <:+ W wd n->gW (T.wy.getD m []) c=Y old->gW (T.wy.getD b []) c=Y old) →
  ∃j,LL c old v k T (Y n)=Y ⟨T.lg,T.lk,j⟩/\j.length=T.wy.length/\∀m d,gW (j.getD m []) d=if d=c/\m<wd.length/\W wd m <:+ W wd n/\gW (T.wy.getD m []) c=Y old then Y v else gW (T.wy.getD m []) d:=by
 intro k
 induction k with
 |zero=>intro T n _ _ h;lia
 |succ k C =>
  intro T n f s G x hw mono;have l:n<T.wy.length:=ZP f hw;unfold LL;by_cases i:gW (T.wy.getD n []) c=Y old
  ·rw[Zo i,x n f (Ym _)];cases r:S.lk.getD n O with
   |none =>
    refine⟨T.wy.set n (pW (T.wy.getD n []) c v),by cases k<;>rfl,Yn,λm d=>?_⟩;rw[fF _ _ _ _ _ _ l];by_cases a:m=n/\d=c
    ·rw[Zo a,Zo ⟨a.2,by rw[a.1];exact f,by rw[a.1];exact Ym _,by rw[a.1];exact i⟩]
    ·rw[Zm a,Zm λz=>a ⟨H.root f s r z.2.1 z.2.2.1,z.1⟩]
   |some q =>
    obtain⟨F,A,p,y⟩:=H.low s r (H.top f);have ne:∀m,W wd m <:+ W wd q->m≠n:=λm a e=>by
     rw[e]at a;have:=a.length_le;lia
    obtain⟨j,e1,e2,D⟩:=C ⟨T.lg,T.lk,T.wy.set n (pW (T.wy.getD n []) c v)⟩ q A y (by lia) (λm a o=>x m a (o.trans p)) (by show _<=(T.wy.set _ _).length;rw[Yn];exact hw) (λm b a E o t h=>by
     have u:gW ((T.wy.set n (pW (T.wy.getD n []) c v)).getD m []) c=Y old:=h;show gW ((T.wy.set n (pW (T.wy.getD n []) c v)).getD b []) c=Y old;rw[fF _ _ _ _ _ _ l,Zm (λz=>ne m (o.trans t) z.1)]at u;rw[fF _ _ _ _ _ _ l,Zm (λz=>ne b t z.1)];exact mono m b a E o (t.trans p) u)
    refine⟨j,e1,by rw[e2];exact Yn,λm d=>?_⟩;rw[D m d];show (if d=c/\m<wd.length/\W wd m <:+ W wd q/\gW ((T.wy.set n (pW (T.wy.getD n []) c v)).getD m []) c=Y old then Y v else gW ((T.wy.set n (pW (T.wy.getD n []) c v)).getD m []) d)=_;by_cases a:m=n
    ·subst a;rw[Zm (λz=>ne m z.2.2.1 M),fF _ _ _ _ _ _ l];by_cases hd:d=c
     ·rw[Zo ⟨rfl,hd⟩,Zo ⟨hd,f,Ym _,i⟩]
     ·rw[Zm (λz=>hd z.2),Zm (λz=>hd z.1)]
    ·have w:∀d,gW ((T.wy.set n (pW (T.wy.getD n []) c v)).getD m []) d=gW (T.wy.getD m []) d:=λd=>by rw[fF _ _ _ _ _ _ l,Zm (λz=>a z.1)]
     rw[w,w];by_cases g:d=c/\m<wd.length/\W wd m <:+ W wd n/\gW (T.wy.getD m []) c=Y old
     ·rw[Zo g,Zo ⟨g.1,g.2.1,H.below f s r g.2.1 g.2.2.1 a,g.2.2.2⟩]
     ·rw[Zm g,Zm λz=>g ⟨z.1,z.2.1,z.2.2.1.trans p,z.2.2.2⟩]
  ·rw[Zm i];refine⟨T.wy,rfl,rfl,λm d=>?_⟩;rw[Zm λz=>i (mono m n z.2.1 f z.2.2.1 (Ym _) z.2.2.2)]
def I.M0(H:I fr S nd wd){c v:Nat}:∀(k:Nat)(T:St)(n:Nat),n<wd.length->Y n≠fr->(W wd n).length<k->(∀m,m<wd.length->W wd m <:+ W wd n->T.lk.getD m O=S.lk.getD m O)->wd.length<=T.wy.length →
  (∀m g,m<wd.length->g<wd.length->W wd m <:+ W wd g->W wd g <:+ W wd n->(gW (T.wy.getD g []) c).isSome->(gW (T.wy.getD m []) c).isSome) →
  ∃y s,up1 c v k T (Y n)=Y (⟨T.lg,T.lk,y⟩,s)/\y.length=T.wy.length/\(∀m d,gW (y.getD m []) d=if d=c/\m<wd.length/\W wd m <:+ W wd n/\gW (T.wy.getD m []) c=O then Y v else gW (T.wy.getD m []) d) ∧
   (s=O->∀m,m<wd.length->W wd m <:+ W wd n->gW (T.wy.getD m []) c=O) ∧
   ∀p,s=Y p->p<wd.length/\W wd p <:+ W wd n/\(gW (T.wy.getD p []) c).isSome/\∀m,m<wd.length->W wd m <:+ W wd n->(W wd p).length<(W wd m).length->gW (T.wy.getD m []) c=O:=by
 intro k
 induction k with
 |zero=>intro T n _ _ h;lia
 |succ k X =>
  intro T n f o hk J hw mono;have r:n<T.wy.length:=ZP f hw;unfold up1;by_cases l:(gW (T.wy.getD n []) c).isSome=L
  ·rw[Zo l];refine⟨T.wy,Y n,rfl,rfl,λm d=>?_,(λh=>nomatch h),λp t=>?_⟩
   ·rw[Zm λz=>?_];have:=mono m n z.2.1 f z.2.2.1 (Ym _) l;rw[z.2.2.2]at this;cases this
   ·cases t;refine⟨f,Ym _,l,λm a b j=>?_⟩;have:=b.length_le;lia
  ·have w:gW (T.wy.getD n []) c=O:=by
    cases h:gW (T.wy.getD n []) c with
    |none=>rfl
    |some x=>rw[h]at l;exact absurd M l
   rw[Zm l,J n f (Ym _)];cases j:S.lk.getD n O with
   |none =>
    refine⟨T.wy.set n (pW (T.wy.getD n []) c v),O,by cases k<;>rfl,Yn,λm d=>?_,λ_ m a b=>?_,(λp t=>nomatch t)⟩
    ·rw[fF _ _ _ _ _ _ r];by_cases a:m=n/\d=c
     ·rw[Zo a,Zo ⟨a.2,by rw[a.1];exact f,by rw[a.1];exact Ym _,by rw[a.1];exact w⟩]
     ·rw[Zm a,Zm λz=>a ⟨H.root f o j z.2.1 z.2.2.1,z.1⟩]
    ·rw[H.root f o j a b];exact w
   |some q =>
    obtain⟨l1,U,A,R⟩:=H.low o j (H.top f);have ne:∀m,W wd m <:+ W wd q->m≠n:=λm a e=>by
     rw[e]at a;have:=a.length_le;lia
    obtain⟨y,s,e1,e2,e3,e4,e5⟩:=X ⟨T.lg,T.lk,T.wy.set n (pW (T.wy.getD n []) c v)⟩ q U R (by lia) (λm a b=>J m a (b.trans A)) (by show _<=(T.wy.set _ _).length;rw[Yn];exact hw) (λm g a Hz b C h=>by
     have E:(gW ((T.wy.set n (pW (T.wy.getD n []) c v)).getD g []) c).isSome:=h;show (gW ((T.wy.set n (pW (T.wy.getD n []) c v)).getD m []) c).isSome;rw[fF _ _ _ _ _ _ r,Zm (λz=>ne g C z.1)]at E;rw[fF _ _ _ _ _ _ r,Zm (λz=>ne m (b.trans C) z.1)];exact mono m g a Hz b (C.trans A) E)
    have old:∀m,W wd m <:+ W wd q->gW ((T.wy.set n (pW (T.wy.getD n []) c v)).getD m []) c=gW (T.wy.getD m []) c:=λm a=>by rw[fF _ _ _ _ _ _ r,Zm (λz=>ne m a z.1)]
    refine⟨y,s,e1,by rw[e2];exact Yn,λm d=>?_,λZ m a b=>?_,λp t=>?_⟩
    ·rw[e3 m d];show (if d=c/\m<wd.length/\W wd m <:+ W wd q/\gW ((T.wy.set n (pW (T.wy.getD n []) c v)).getD m []) c=O then Y v else gW ((T.wy.set n (pW (T.wy.getD n []) c v)).getD m []) d)=_;by_cases a:m=n
     ·subst a;rw[Zm (λz=>ne m z.2.2.1 M),fF _ _ _ _ _ _ r];by_cases hd:d=c
      ·rw[Zo ⟨rfl,hd⟩,Zo ⟨hd,f,Ym _,w⟩]
      ·rw[Zm (λz=>hd z.2),Zm (λz=>hd z.1)]
     ·have F:∀d,gW ((T.wy.set n (pW (T.wy.getD n []) c v)).getD m []) d=gW (T.wy.getD m []) d:=λd=>by rw[fF _ _ _ _ _ _ r,Zm (λz=>a z.1)]
      rw[F,F];by_cases i:d=c/\m<wd.length/\W wd m <:+ W wd n/\gW (T.wy.getD m []) c=O
      ·rw[Zo i,Zo ⟨i.1,i.2.1,H.below f o j i.2.1 i.2.2.1 a,i.2.2.2⟩]
      ·rw[Zm i,Zm λz=>i ⟨z.1,z.2.1,z.2.2.1.trans A,z.2.2.2⟩]
    ·by_cases u:m=n
     ·rw[u];exact w
     ·have hb:=H.below f o j a b u;rw[← old m hb];exact e4 Z m a hb
    ·obtain⟨Q,D,P,N⟩:=e5 p t;have G:(gW ((T.wy.set n (pW (T.wy.getD n []) c v)).getD p []) c).isSome:=P;rw[old p D]at G;refine⟨Q,D.trans A,G,λm a b GZ=>?_⟩;by_cases u:m=n
     ·rw[u];exact w
     ·have hb:=H.below f o j a b u;rw[← old m hb];exact N m a hb GZ
end
def DD{c b v:Nat}(g:97<=c/\c<=122):∀(k:Nat)(S a:St)(o:Option Nat),WF S->v<S.lg.length->LL c b v k S o=Y a->WF a:=by
 intro k
 induction k with
 |zero =>
  intro S a o H d e;cases o with
  |none=>cases (show Y S=Y a from e);exact H
  |some n=>cases e
 |succ k f =>
  intro S a o H d e;cases o with
  |none=>cases (show Y S=Y a from e);exact H
  |some n =>
   unfold LL at e;split at e
   ·exact f ⟨S.lg,S.lk,S.wy.set n (pW (S.wy.getD n []) c v)⟩ a _ (H.way (n:=n) d g) d e
   ·cases e;exact H
def Dr{c v:Nat}(g:97<=c/\c<=122):∀(k:Nat)(S a:St)(o b:Option Nat),WF S->v<S.lg.length->up1 c v k S o=Y (a,b)->WF a:=by
 intro k
 induction k with
 |zero =>
  intro S a o b H d e;cases o with
  |none=>cases (show Y (S,O)=Y (a,b) from e);exact H
  |some n=>cases e
 |succ k f =>
  intro S a o b H d e;cases o with
  |none=>cases (show Y (S,O)=Y (a,b) from e);exact H
  |some n =>
   unfold up1 at e;split at e
   ·cases e;exact H
   ·exact f ⟨S.lg,S.lk,S.wy.set n (pW (S.wy.getD n []) c v)⟩ a _ b (H.way (n:=n) d g) d e
def iY{α:Type}{x y:List α}{a b:α}(h:x++[a] <:+ y++[b]):a=b/\x <:+ y:=by
 obtain⟨t,e⟩:=h;rw[← Zd]at e;obtain⟨e1,e2⟩:=List.append_inj' e M;exact⟨by simpa using e2,⟨t,e1⟩⟩
def gC{α:Type}{x y:List α}(a:α)(h:x <:+ y):x++[a] <:+ y++[a]:=by
 obtain⟨t,e⟩:=h;exact⟨t,by rw[← e,Zd]⟩
noncomputable def iB(b:Wd->Option Nat)(a l h:Nat)(x:Wd):Option Nat:=if b x=Y a/\x.length<=l then Y h else b x
theorem I.split{P:Option Nat}{S:St}{j:Wd->Option Nat}{a:List Wd}(H:I P S j a){n c old:Nat}(J:n<a.length)(hf:Y n≠P)(hc:97<=c/\c<=122)(ho:gW (S.wy.getD n []) c=Y old)(MH:Y old≠P)(L4:P≠Y a.length)(Hy:S.lg.getD old 0≠S.lg.getD n 0+1)(hk:(W a n).length<1000) :
  ∃S',Lv S n c=Y (S',S.lg.length)/\I P S' (iB j old ((W a n).length+1) a.length) (a++[W a n++[c]]):=by
 have N:S.lg.length=a.length:=H.len.symm;have hw:=H.way J ho;have hold:=H.lt hw;have u:=H.sf hw;have lw:(W a n++[c]).length=(W a n).length+1:=by rw[Zw];rfl
 rw[H.lg old hold,H.lg n J]at Hy;have GZ:(W a n).length+1<(W a old).length:=by
  have:=u.length_le;rw[lw]at this;lia
 have X:old≠0:=λe=>by
  rw[e,H.wz]at GZ;simp at GZ
 have Ot:0<a.length:=by rw[H.len];exact H.wf.pos
 have l1:S.lk.length=a.length:=by rw[H.wf.lk,N]
 have l2:S.wy.length=a.length:=by rw[H.wf.wy,N]
 have JB:∀m,((S.lk++[S.lk.getD old O]).set old (Y S.lg.length)).getD m O=if m=old then Y a.length else if m=a.length then S.lk.getD old O else S.lk.getD m O:=λm=>by
  rw[gM,bS,l1,N];by_cases h:m=old
  ·rw[Zo ⟨h.symm,by rw[Zw,l1];lia⟩,Zo h]
  ·rw[Zm (λz=>h z.1.symm),Zm h]
 have IL:∀m,(S.wy++[S.wy.getD old []]).getD m []=if m=a.length then S.wy.getD old [] else S.wy.getD m []:=λm=>by rw[bS,l2]
 have Kf:∀m,m<a.length->(S.wy++[S.wy.getD old []]).getD m []=S.wy.getD m []:=λm b=>by rw[IL,Zm (Za b)]
 obtain⟨w2,e1,e2,e3⟩:=H.MZ (c:=c) (old:=old) (v:=S.lg.length) 1000 ⟨S.lg++[S.lg.getD n 0+1],(S.lk++[S.lk.getD old O]).set old (Y S.lg.length),S.wy++[S.wy.getD old []]⟩ n J hf hk (λm b Z=>by
   have:=Z.length_le;show ((S.lk++[S.lk.getD old O]).set old (Y S.lg.length)).getD m O=_;rw[JB,Zm (λe=>by rw[e]at this;lia),Zm (Za b)])
  (by show _<=(S.wy++[S.wy.getD old []]).length;rw[Zw,l2];exact ZI _ _)
  (λm t b E Z Ip h=>by
   have D:gW ((S.wy++[S.wy.getD old []]).getD m []) c=Y old:=h;show gW ((S.wy++[S.wy.getD old []]).getD t []) c=Y old;rw[Kf m b]at D;rw[Kf t E,H.wy (H.top E) c];rw[H.wy (H.top b) c]at D;exact H.iv D (gC c Z) ((gC c Ip).trans u))
 have wn:=H.wf.ND old;have W1:=H.wf.more (l:=S.lg.getD n 0+1) (o:=S.lk.getD old O) (w:=S.wy.getD old []) (λm b=>H.wf.up old m b) (λd m b=>H.wf.on old d m b) wn.1 wn.2;have hlen:(S.lg++[S.lg.getD n 0+1]).length=S.lg.length+1:=by rw[Zw];rfl
 have W2:=W1.link (n:=old) (v:=S.lg.length) (by show S.lg.length<(S.lg++[S.lg.getD n 0+1]).length;lia);have PZ:=DD hc 1000 _ _ _ W2 (by show S.lg.length<(S.lg++[S.lg.getD n 0+1]).length;lia) e1;refine⟨⟨S.lg++[S.lg.getD n 0+1],(S.lk++[S.lk.getD old O]).set old (Y S.lg.length),w2⟩,?_,?_⟩
 ·unfold Lv;rw[ho,Zs,Zm (by rw[H.lg old hold,H.lg n J];exact Hy),e1];rfl
 have Wn:∀m,W (a++[W a n++[c]]) m=if m=a.length then W a n++[c] else W a m:=λm=>bS a _ _ m
 have s:W (a++[W a n++[c]]) a.length=W a n++[c]:=by rw[Wn,Zo M]
 have f:∀{m},m<a.length->W (a++[W a n++[c]]) m=W a m:=λ{m} b=>by rw[Wn,Zm (Za b)]
 have dN:(a++[W a n++[c]]).length=a.length+1:=by rw[Zw];rfl
 have tell:∀{x m},iB j old ((W a n).length+1) a.length x=Y m->(m=a.length/\j x=Y old/\x.length<=(W a n).length+1)\/(m<a.length/\j x=Y m/\¬(m=old/\x.length<=(W a n).length+1)):=λ{x m} h=>by
  unfold iB at h;split at h
  ·rename_i q;cases h;exact .inl ⟨rfl,q.1,q.2⟩
  ·rename_i q;exact .inr ⟨H.lt h,h,λz=>q ⟨by rw[h,z.1],z.2⟩⟩
 have U:∀{x},j x=Y old->x.length<=(W a n).length+1->iB j old ((W a n).length+1) a.length x=Y a.length:=λ{x} C h2=>Zo ⟨C,h2⟩;have tO:∀{x m},j x=Y m->¬(m=old/\x.length<=(W a n).length+1)->iB j old ((W a n).length+1) a.length x=Y m:=λ{x m} C h2=>by
  unfold iB;rw[Zm (λz=>h2 ⟨by rw[C]at z;exact Zj z.1,z.2⟩),C]
 have LN:∀{x m},j x=Y m->∃t,iB j old ((W a n).length+1) a.length x=Y t:=λ{x m} h=>by
  unfold iB;split
  ·exact⟨_,rfl⟩
  ·exact⟨m,h⟩
 have un:∀{x m},iB j old ((W a n).length+1) a.length x=Y m->∃t,j x=Y t:=λ{x m} h=>(tell h).elim (λz=>⟨_,z.2.1⟩) λz=>⟨_,z.2.1⟩
 refine⟨PZ,by rw[dN,hlen,N],λm b=>?_,tO H.z (λz=>X z.1.symm),by rw[f Ot];exact H.wz,λ{x m} h=>by rcases tell h with z | z<;>lia,λ{x m} h=>?_,λ{m} b=>?_,λ{x y m} h Q g=>?_,λ{x d m} h=>?_,λ{x y m} h Q=>?_,?_,λ{m} h0 b QY=>?_,λ{x m} h d=>?_⟩
 ·rw[dN]at b;show (S.lg++[S.lg.getD n 0+1]).getD m 0=_;rw[bS,N];by_cases e:m=a.length
  ·rw[Zo e,e,s,H.lg n J,lw]
  ·rw[Zm e,f (by lia),H.lg m (by lia)]
 ·rcases tell h with⟨rfl,i,F⟩ | ⟨G,i,_⟩
  ·rw[s];exact cW (H.sf i) u (by rw[lw];exact F)
  ·rw[f G];exact H.sf i
 ·rw[dN]at b;by_cases e:m=a.length
  ·rw[e,s];exact U hw (by rw[lw];exact Zp _)
  ·rw[f (by lia)];exact tO (H.top (by lia)) (λz=>by have:=z.2;rw[z.1]at this;lia)
 ·rcases tell h with⟨rfl,i,F⟩ | ⟨G,i,F⟩
  ·rw[s]at g;have:=g.length_le;rw[lw]at this;exact U (H.iv i Q (g.trans u)) this
  ·rw[f G]at g;exact tO (H.iv i Q g) (λz=>F ⟨z.1,ZA Q.length_le z.2⟩)
 ·obtain⟨t,D⟩:=un h;obtain⟨q,p⟩:=H.pre D;exact LN p
 ·obtain⟨t,D⟩:=un h;obtain⟨q,p⟩:=H.Lp D Q;exact LN p
 ·show ((S.lk++[S.lk.getD old O]).set old (Y S.lg.length)).getD 0 O=O;rw[JB,Zm (YK X),Zm (by exact Za Ot)];exact H.NZ
 ·rw[dN]at b;show ∃q,((S.lk++[S.lk.getD old O]).set old (Y S.lg.length)).getD m O=Y q/\_;rw[JB,dN];obtain⟨q,q1,⟨R,P9⟩,q3,q4,q5⟩:=H.lk (II X) hold MH;obtain⟨lo,_⟩:=H.low MH q1 hw;rw[lw]at lo;by_cases e:m=old
  ·subst e;rw[Zo M];refine⟨a.length,rfl,⟨by exact Yp _,λz=>L4 z.symm⟩,?_,?_,λy g A=>?_⟩
   ·rw[s,f hold];exact u
   ·rw[s,f hold,lw];exact GZ
   ·rw[s,lw]at A;rw[f hold]at g;exact tO (H.iv hw (cW u g (by rw[lw];exact ZD A)) g) (λz=>by have:=z.2;lia)
  ·rw[Zm e];by_cases eL:m=a.length
   ·subst eL;rw[Zo M,q1];refine⟨q,rfl,⟨by exact Yo R,P9⟩,?_,?_,λy g A=>?_⟩
    ·rw[s,f R];exact cW q3 u (by rw[lw];exact ZD lo)
    ·rw[s,f R,lw];exact lo
    ·rw[s]at g;rw[f R]at A;have:=g.length_le;rw[lw]at this;exact U (q5 y (g.trans u) A) this
   ·rw[Zm eL];have E:m<a.length:=by lia
    obtain⟨r,r1,⟨r2,UI⟩,r3,r4,r5⟩:=H.lk h0 E QY;rw[r1];refine⟨r,rfl,⟨by exact Yo r2,UI⟩,by rw[f r2,f E];exact r3,by rw[f r2,f E];exact r4,λy g A=>?_⟩;rw[f E]at g;rw[f r2]at A;exact tO (r5 y g A) (λz=>e z.1)
 ·show gW (w2.getD m []) d=_;rw[e3 m d];show (if d=c/\m<a.length/\W a m <:+ W a n/\gW ((S.wy++[S.wy.getD old []]).getD m []) c=Y old then Y S.lg.length else gW ((S.wy++[S.wy.getD old []]).getD m []) d)=_;rcases tell h with⟨rfl,i,F⟩ | ⟨G,i,F⟩
  ·rw[Zm (λz=>YD _ z.2.1),IL,Zo M,H.wy i d];unfold iB;rw[Zm];intro z;have C:=z.1;rw[← H.wy i d,H.wy (H.top hold) d]at C;have:=(H.sf C).length_le;rw[Zw,JV]at this;lia
  ·rw[Kf m G,H.wy i c,H.wy i d];unfold iB;by_cases p:j (x++[d])=Y old/\(x++[d]).length<=(W a n).length+1
   ·have Nj:=cW (H.sf p.1) u (by rw[lw];exact p.2);obtain⟨rfl,hx⟩:=iY Nj;obtain⟨t,m1,m2⟩:=H.O6 J hf hx;rw[i]at m1;cases m1;rw[Zo ⟨rfl,G,m2,p.1⟩,Zo p,N]
   ·rw[Zm p,Zm];rintro⟨rfl,_,a3,a4⟩;refine p ⟨a4,?_⟩;have b1:=(H.sf i).length_le;have b2:=a3.length_le;rw[Zw,JV];lia
end AU
end
section
namespace AU
open Classical in
noncomputable def ip(a:Wd->Option Nat)(w:Wd)(f:Nat)(x:Wd):Option Nat:=match a x with
 |some m=>Y m
 |none=>if x <:+ w then Y f else O
def c9{a:Wd->Option Nat}{w:Wd}{f m:Nat}{x:Wd}(h:a x=Y m):ip a w f x=Y m:=by
 unfold ip;rw[h]
def fO{a:Wd->Option Nat}{w:Wd}{f:Nat}{x:Wd}(h:a x=O)(b:x <:+ w):ip a w f x=Y f:=by
 unfold ip;rw[h];exact Zo b
def cB{a:Wd->Option Nat}{w:Wd}{f m:Nat}{x:Wd}(h:ip a w f x=Y m):a x=Y m\/(m=f/\a x=O/\x <:+ w):=by
 unfold ip at h;split at h
 ·rename_i q e;cases h;exact .inl e
 ·rename_i e;split at h
  ·rename_i b;cases h;exact .inr ⟨rfl,e,b⟩
  ·cases h
def yM{α:Type}{y t:List α}{c:α}(h:y <:+ t++[c])(d:y≠[]):∃a,y=a++[c]/\a <:+ t:=by
 rcases List.eq_nil_or_concat y with e | ⟨a,b,e⟩
 ·exact absurd e d
 ·rw[List.concat_eq_append]at e;subst e;obtain⟨e1,e2⟩:=iY h;exact⟨a,by rw[e1],e2⟩
section
variable{S:St}{nd:Wd->Option Nat}{wd:List Wd}
def I.fresh(H:I O S nd wd){h c:Nat}(t:h<wd.length)(hc:97<=c/\c<=122)(hn:gW (S.wy.getD h []) c=O)(hk:(W wd h).length<1000) :
  ∃D u,up1 c S.lg.length 1000 ⟨S.lg++[S.lg.getD h 0+1],S.lk++[Y 0],S.wy++[[]]⟩ (Y h)=Y (D,u)/\I (Y wd.length) D (ip nd (W wd h++[c]) wd.length) (wd++[W wd h++[c]])/\D.lk.getD wd.length O=Y 0/\D.lg.length=S.lg.length+1 ∧
   (∀m,m<wd.length->(gW (S.wy.getD m []) c).isSome->gW (D.wy.getD m []) c=gW (S.wy.getD m []) c) ∧
   (u=O->∀m,m<wd.length->W wd m <:+ W wd h->gW (S.wy.getD m []) c=O) ∧
   ∀p,u=Y p->p<wd.length/\W wd p <:+ W wd h/\(gW (S.wy.getD p []) c).isSome/\∀m,m<wd.length->W wd m <:+ W wd h->(W wd p).length<(W wd m).length->gW (S.wy.getD m []) c=O:=by
 have C:S.lg.length=wd.length:=H.len.symm;have l1:S.lk.length=wd.length:=by rw[H.wf.lk,C]
 have l2:S.wy.length=wd.length:=by rw[H.wf.wy,C]
 have Ot:0<wd.length:=by rw[H.len];exact H.wf.pos
 have P:∀m,(S.lk++[Y 0]).getD m O=if m=wd.length then Y 0 else S.lk.getD m O:=λm=>by rw[bS,l1]
 have IL:∀m,(S.wy++[[]]).getD m []=if m=wd.length then [] else S.wy.getD m []:=λm=>by rw[bS,l2]
 have s:∀m,m<wd.length->(S.wy++[[]]).getD m []=S.wy.getD m []:=λm b=>by rw[IL,Zm (Za b)]
 have nt:nd (W wd h++[c])=O:=by rw[← H.wy (H.top t) c];exact hn
 obtain⟨Q,u,e1,e2,e3,e4,e5⟩:=H.M0 (c:=c) (v:=S.lg.length) 1000 ⟨S.lg++[S.lg.getD h 0+1],S.lk++[Y 0],S.wy++[[]]⟩ h t (λz=>nomatch z) hk (λm b _=>by
   show (S.lk++[Y 0]).getD m O=_;rw[P,Zm (Za b)])
  (by show _<=(S.wy++[[]]).length;rw[Zw,l2];exact ZI _ _)
  (λm R b j g Ip q=>by
   have Z:(gW ((S.wy++[[]]).getD R []) c).isSome:=q;show (gW ((S.wy++[[]]).getD m []) c).isSome;rw[s R j,H.wy (H.top j) c]at Z;rw[s m b,H.wy (H.top b) c];obtain⟨r,f⟩:=Yf.mp Z;obtain⟨X,VP⟩:=H.Lp f (gC c g);rw[VP];rfl)
 have hlen:(S.lg++[S.lg.getD h 0+1]).length=S.lg.length+1:=by rw[Zw];rfl
 have W1:=H.wf.more (l:=S.lg.getD h 0+1) (o:=Y 0) (w:=[]) (λm b=>by cases b;exact H.wf.pos) (λd m b=>by cases b) Iv (λp U=>nomatch U);have PZ:=Dr hc 1000 _ _ _ _ W1 (by show S.lg.length<(S.lg++[S.lg.getD h 0+1]).length;lia) e1;have lw:(W wd h++[c]).length=(W wd h).length+1:=by rw[Zw];rfl
 have Wn:∀m,W (wd++[W wd h++[c]]) m=if m=wd.length then W wd h++[c] else W wd m:=λm=>bS wd _ _ m
 have N:W (wd++[W wd h++[c]]) wd.length=W wd h++[c]:=by rw[Wn,Zo M]
 have i:∀{m},m<wd.length->W (wd++[W wd h++[c]]) m=W wd m:=λ{m} b=>by rw[Wn,Zm (Za b)]
 have dN:(wd++[W wd h++[c]]).length=wd.length+1:=by rw[Zw];rfl
 refine⟨⟨S.lg++[S.lg.getD h 0+1],S.lk++[Y 0],Q⟩,u,e1,?_,by show (S.lk++[Y 0]).getD wd.length O=_;rw[P,Zo M],hlen,λm b g=>?_,λho m b g=>?_,λp U=>?_⟩
 rotate_left
 ·show gW (Q.getD m []) c=_;rw[e3 m c];show (if c=c/\m<wd.length/\W wd m <:+ W wd h/\gW ((S.wy++[[]]).getD m []) c=O then Y S.lg.length else gW ((S.wy++[[]]).getD m []) c)=_;rw[s m b,Zm (λz=>by rw[z.2.2.2]at g;cases g)]
 ·have:=e4 ho m b g;have F:gW ((S.wy++[[]]).getD m []) c=O:=this;rw[s m b]at F;exact F
 ·obtain⟨p1,p2,p3,p4⟩:=e5 p U;have NR:(gW ((S.wy++[[]]).getD p []) c).isSome:=p3;rw[s p p1]at NR;refine⟨p1,p2,NR,λm b g J=>?_⟩;have:=p4 m b g J;have F:gW ((S.wy++[[]]).getD m []) c=O:=this;rw[s m b]at F;exact F
 refine⟨PZ,by rw[dN];show _=(S.lg++[S.lg.getD h 0+1]).length;rw[hlen,C],λm b=>?_,c9 H.z,by rw[i Ot];exact H.wz,λ{x m} q=>?_,λ{x m} q=>?_,λ{m} b=>?_,λ{x y m} q E n=>?_,λ{x d m} q=>?_,λ{x y m} q E=>?_,?_,λ{m} h0 b QY=>?_,λ{x m} q d=>?_⟩
 ·rw[dN]at b;show (S.lg++[S.lg.getD h 0+1]).getD m 0=_;rw[bS,C];by_cases e:m=wd.length
  ·rw[Zo e,e,N,H.lg h t,lw]
  ·rw[Zm e,i (by lia),H.lg m (by lia)]
 ·rw[dN];rcases cB q with z | z
  ·have:=H.lt z;exact Yo this
  ·lia
 ·rcases cB q with z | ⟨rfl,_,z⟩
  ·rw[i (H.lt z)];exact H.sf z
  ·rw[N];exact z
 ·rw[dN]at b;by_cases e:m=wd.length
  ·rw[e,N];exact fO nt (Ym _)
  ·rw[i (by lia)];exact c9 (H.top (by lia))
 ·rcases cB q with z | ⟨rfl,G,z2⟩
  ·rw[i (H.lt z)]at n;exact c9 (H.iv z E n)
  ·rw[N]at n;refine fO ?_ n;cases e:nd y with
   |none=>rfl
   |some r =>
    obtain⟨X,f⟩:=H.Lp e E;rw[G]at f;cases f
 ·rcases cB q with z | ⟨_,_,z⟩
  ·obtain⟨r,f⟩:=H.pre z;exact⟨r,c9 f⟩
  ·obtain⟨_,A⟩:=iY z;obtain⟨r,f⟩:=H.Lp (H.top t) A;exact⟨r,c9 f⟩
 ·rcases cB q with z | ⟨_,_,z⟩
  ·obtain⟨r,f⟩:=H.Lp z E;exact⟨r,c9 f⟩
  ·cases e:nd x with
   |none=>exact⟨_,fO e (E.trans z)⟩
   |some r=>exact⟨r,c9 e⟩
 ·show (S.lk++[Y 0]).getD 0 O=O;rw[P,Zm (by exact Za Ot)];exact H.NZ
 ·rw[dN]at b;have j:m<wd.length:=by
   have:m≠wd.length:=λe=>QY (by rw[e]);lia
  show ∃q,(S.lk++[Y 0]).getD m O=Y q/\_;rw[P,Zm (Za j),dN];obtain⟨r,r1,⟨r2,_⟩,r3,r4,r5⟩:=H.lk h0 j (λz=>nomatch z);refine⟨r,r1,⟨by exact Yo r2,λz=>?_⟩,by rw[i r2,i j];exact r3,by rw[i r2,i j];exact r4,λy n J=>?_⟩
  ·have:=Zj z;lia
  ·rw[i j]at n;rw[i r2]at J;exact c9 (r5 y n J)
 ·show gW (Q.getD m []) d=_;rw[e3 m d];show (if d=c/\m<wd.length/\W wd m <:+ W wd h/\gW ((S.wy++[[]]).getD m []) c=O then Y S.lg.length else gW ((S.wy++[[]]).getD m []) d)=_;rcases cB q with z | ⟨rfl,G,z2⟩
  ·have b:=H.lt z;rw[s m b,H.wy z c,H.wy z d];cases e:nd (x++[d]) with
   |some r =>
    rw[c9 e,Zm];rintro⟨rfl,_,_,a⟩;rw[e]at a;cases a
   |none =>
    by_cases g:x++[d] <:+ W wd h++[c]
    ·obtain⟨rfl,A⟩:=iY g;obtain⟨R,m1,m2⟩:=H.O6 t (λz=>nomatch z) A;rw[z]at m1;cases m1;rw[fO e g,Zo ⟨rfl,b,m2,e⟩,C]
    ·have:ip nd (W wd h++[c]) wd.length (x++[d])=O:=by
      unfold ip;rw[e];exact Zm g
     rw[this,Zm];rintro⟨rfl,_,a,_⟩;exact g (gC d ((H.sf z).trans a))
  ·rw[Zm (λa=>YD _ a.2.1),IL,Zo M];have e:nd (x++[d])=O:=by
    cases e:nd (x++[d]) with
    |none=>rfl
    |some r =>
     obtain⟨X,f⟩:=H.pre e;rw[G]at f;cases f
   have:ip nd (W wd h++[c]) wd.length (x++[d])=O:=by
    unfold ip;rw[e];refine Zm λg=>?_;obtain⟨_,A⟩:=iY g;obtain⟨r,f⟩:=H.Lp (H.top t) A;rw[G]at f;cases f
   rw[this];rfl
def I.fix{f m:Nat}(H:I (Y f) S nd wd)(j:f<wd.length)(b:m<wd.length)(h:W wd m <:+ W wd f)(a:(W wd m).length<(W wd f).length)(g:∀y,y <:+ W wd f->(W wd m).length<y.length->nd y=Y f):I O ⟨S.lg,S.lk.set f (Y m),S.wy⟩ nd wd:=by
 have o:f≠0:=λe=>by
  rw[e,H.wz]at a;simp at a
 have lf:f<S.lk.length:=by rw[H.wf.lk,← H.len];exact j
 refine⟨H.wf.link (by rw[← H.len];exact b),H.len,H.lg,H.z,H.wz,H.lt,H.sf,H.top,H.iv,H.pre,H.Lp,?_,λ{n} l i _=>?_,H.wy⟩
 ·show (S.lk.set f (Y m)).getD 0 O=O;rw[gM,Zm (λz=>o z.1)];exact H.NZ
 ·show ∃q,(S.lk.set f (Y m)).getD n O=Y q/\_;rw[gM];by_cases e:f=n
  ·subst e;rw[Zo ⟨rfl,lf⟩];exact⟨m,rfl,⟨b,λz=>nomatch z⟩,h,a,g⟩
  ·rw[Zm (λz=>e z.1)];obtain⟨r,r1,⟨r2,_⟩,d⟩:=H.lk l i (λz=>e (Zj z).symm);exact⟨r,r1,⟨r2,λz=>nomatch z⟩,d⟩
end
end AU
end
section
namespace AU
structure O2(nd G3:Wd->Option Nat)(w:Wd):Prop where
 eq:∀{x y m n},G3 x=some m->G3 y=some n->(m=n↔nd x=nd y/\(x <:+ w↔y <:+ w))
section
variable{fr:Option Nat}{S:St}{nd:Wd->Option Nat}{wd:List Wd}
def I.N2(H:I fr S nd wd){n c old:Nat}(p:n<wd.length)(R:Y n≠fr)(U:97<=c/\c<=122)(o:gW (S.wy.getD n []) c=Y old)(g:Y old≠fr)(i:fr≠Y wd.length)(Q:(W wd n).length<1000) :
  ∃e r j GR,Lv S n c=Y (e,r)/\I fr e j GR/\r<GR.length/\Y r≠fr/\W GR r=W wd n++[c]/\(∀m,m<wd.length->W GR m=W wd m)/\wd.length<=GR.length/\GR.length<=wd.length+1 ∧
   (∀x,(∃m,j x=Y m) ↔ ∃m,nd x=Y m)/\O2 nd j (W wd n++[c])/\∀x f,f≠old->nd x=Y f->j x=Y f:=by
 have hw:=H.way p o;have hold:=H.lt hw;have F:=H.sf hw;have lw:(W wd n++[c]).length=(W wd n).length+1:=by rw[Zw];rfl
 by_cases u:S.lg.getD old 0=S.lg.getD n 0+1
 ·have t:W wd old=W wd n++[c]:=by
   have:=u;rw[H.lg old hold,H.lg n p]at this;exact(F.eq_of_length (by rw[lw,this])).symm
  refine⟨S,old,nd,wd,?_,H,hold,g,t,λm _=>rfl,Zp _,Xj _,λx=>Iff.rfl,⟨λ{x y m k} b a=>?_⟩,λx f _ h=>h⟩
  ·unfold Lv;rw[o,Zs,Zo u]
  ·constructor
   ·rintro rfl;exact⟨by rw[b,a],λh=>by rw[← t]at h ⊢;exact H.all hold g b a h,λh=>by rw[← t]at h ⊢;exact H.all hold g a b h⟩
   ·rintro⟨h,_⟩;rw[b,a]at h;exact Zj h
 ·obtain⟨e,e1,v⟩:=H.split p R U o g i u Q;have D:W (wd++[W wd n++[c]]) wd.length=W wd n++[c]:=(bS wd _ _ _).trans (Zo M);have X:∀m,m<wd.length->W (wd++[W wd n++[c]]) m=W wd m:=λm N=>(bS wd _ _ m).trans (Zm (Za N));have dN:(wd++[W wd n++[c]]).length=wd.length+1:=by rw[Zw];rfl
  have inv:∀{x m},iB nd old ((W wd n).length+1) wd.length x=Y m->(m=wd.length/\nd x=Y old/\x.length<=(W wd n).length+1)\/nd x=Y m:=λ{x m} h=>by
   unfold iB at h;split at h
   ·rename_i q;cases h;exact .inl ⟨rfl,q.1,q.2⟩
   ·exact .inr h
  have E:∀{x},nd x=Y old->(x.length<=(W wd n).length+1↔x <:+ W wd n++[c]):=λ{x} h=>⟨λP=>cW (H.sf h) F (by rw[lw];exact P),λd=>by have:=d.length_le;rw[lw]at this;exact this⟩
  refine⟨e,S.lg.length,_,_,e1,v,by rw[dN,← H.len];exact Yp _,by rw[← H.len];exact λz=>i z.symm,by rw[← H.len];exact D,X,by lia,by exact XQ dN,λx=>⟨λ⟨m,h⟩=>(inv h).elim (λz=>⟨_,z.2.1⟩) λz=>⟨_,z⟩,λ⟨m,h⟩=>?_⟩,⟨λ{x y m k} b a=>?_⟩,λx f s h=>?_⟩
  ·unfold iB;split
   ·exact⟨_,rfl⟩
   ·exact⟨m,h⟩
  ·constructor
   ·rintro rfl;have w:wd.length<(wd++[W wd n++[c]]).length:=by lia
    have C:=λh=>v.all w (λz=>i z.symm) b a h;have A:=λh=>v.all w (λz=>i z.symm) a b h;rw[D]at C A;refine⟨?_,C,A⟩;rcases inv b with⟨Z,G,_⟩ | z
    ·rcases inv a with⟨_,J,_⟩ | y
     ·rw[G,J]
     ·have:=H.lt y;lia
    ·rcases inv a with⟨y1,_,_⟩ | y
     ·have:=H.lt z;lia
     ·rw[z,y]
   ·rintro⟨h,d⟩;have:iB nd old ((W wd n).length+1) wd.length x=iB nd old ((W wd n).length+1) wd.length y:=by
     unfold iB;rw[h];by_cases q:nd y=Y old
     ·have e1:=E (show nd x=Y old by rw[h,q]);have e2:=E q;by_cases l:y.length<=(W wd n).length+1
      ·rw[Zo ⟨q,e1.mpr (d.mpr (e2.mp l))⟩,Zo ⟨q,l⟩]
      ·rw[Zm (λz=>l (e2.mpr (d.mp (e1.mp z.2)))),Zm (λz=>l z.2)]
     ·rw[Zm (λz=>q z.1),Zm (λz=>q z.1)]
    rw[b,a]at this;exact Zj this
  ·unfold iB;rw[Zm (λz=>s (by rw[h]at z;exact Zj z.1))];exact h
end
section
variable{S:St}{nd:Wd->Option Nat}{wd:List Wd}
def I.step(H:I O S nd wd){h c:Nat}(A:h<wd.length)(hc:97<=c/\c<=122)(hk:(W wd h).length+1<1000) :
  ∃S' r v GR,hb S h c=Y (S',r)/\I O S' v GR/\r<GR.length/\W GR r=W wd h++[c]/\(∀m,m<wd.length->W GR m=W wd m)/\wd.length<=GR.length/\GR.length<=wd.length+2 ∧
   (∀x,(∃m,v x=Y m)↔(∃m,nd x=Y m)\/x <:+ W wd h++[c])/\O2 nd v (W wd h++[c]):=by
 cases hg:gW (S.wy.getD h []) c with
 |some old =>
  obtain⟨S',r,v,GR,e,H',h1,_,h2,h3,h4,h5,h6,h7,_⟩:=H.N2 A (λz=>nomatch z) hc hg (λz=>nomatch z) (λz=>nomatch z) (by exact Xb hk);refine⟨S',r,v,GR,?_,H',h1,h2,h3,h4,by exact Vn h5,λx=>(h6 x).trans ⟨.inl,λz=>z.elim id λz=>H.Lp (H.way A hg) z⟩,h7⟩;unfold hb;rw[hg];exact e
 |none =>
  have G:S.lg.length=wd.length:=H.len.symm;obtain⟨o,o',e1,u,k0,k1,k2,k3,k4⟩:=H.fresh A hc hg (by exact Xb hk);have Z:W (wd++[W wd h++[c]]) wd.length=W wd h++[c]:=(bS wd _ _ _).trans (Zo M);have X:∀m,m<wd.length->W (wd++[W wd h++[c]]) m=W wd m:=λm hm=>(bS wd _ _ m).trans (Zm (Za hm));have dN:(wd++[W wd h++[c]]).length=wd.length+1:=by rw[Zw];rfl
  have lw:(W wd h++[c]).length=(W wd h).length+1:=by rw[Zw];rfl
  have nt:nd (W wd h++[c])=O:=by rw[← H.wy (H.top A) c];exact hg
  have ex:∀x,(∃m,ip nd (W wd h++[c]) wd.length x=Y m)↔(∃m,nd x=Y m)\/x <:+ W wd h++[c]:=λx=>⟨λ⟨m,q⟩=>(cB q).elim (λz=>.inl ⟨_,z⟩) λz=>.inr z.2.2,λq=>by
   cases e:nd x with
   |some m=>exact⟨m,c9 e⟩
   |none=>exact q.elim (λ⟨m,z⟩=>by rw[e]at z;cases z) λz=>⟨_,fO e z⟩⟩
  have same:∀{x y m n},ip nd (W wd h++[c]) wd.length x=Y m->ip nd (W wd h++[c]) wd.length y=Y n->(m=n↔nd x=nd y):=λ{x y m n} s j=>by
   rcases cB s with z | ⟨z1,z2,_⟩
   ·rcases cB j with i | ⟨y1,y2,_⟩
    ·rw[z,i];exact⟨λe=>by rw[e],λe=>Zj e⟩
    ·have:=H.lt z;refine⟨λe=>by lia,λe=>?_⟩;rw[z,y2]at e;cases e
   ·rcases cB j with i | ⟨y1,y2,_⟩
    ·have:=H.lt i;refine⟨λe=>by lia,λe=>?_⟩;rw[z2,i]at e;cases e
    ·exact⟨λ_=>by rw[z2,y2],λ_=>by rw[z1,y1]⟩
  have LM:∀{y},y <:+ W wd h++[c]->y≠[]->∀{q},nd y=Y q->∃i m,y=i++[c]/\i <:+ W wd h/\nd i=Y m/\m<wd.length/\W wd m <:+ W wd h/\(gW (S.wy.getD m []) c).isSome:=λ{y} d Hy {q} Q=>by
   obtain⟨i,rfl,SN⟩:=yM d Hy;obtain⟨m,E,m2⟩:=H.O6 A (λz=>nomatch z) SN;exact⟨i,m,rfl,SN,E,H.lt E,m2,by rw[H.wy E c,Q];rfl⟩
  unfold hb;rw[hg,Zm (by simp),e1];cases o' with
  |none =>
   have w:=k3 M;have none_:∀{y},y <:+ W wd h++[c]->y≠[]->nd y=O:=λ{y} d Hy=>by
    cases e:nd y with
    |none=>rfl
    |some q =>
     obtain⟨i,m,_,_,_,m3,m4,D⟩:=LM d Hy e;rw[w m m3 m4]at D;cases D
   have H3:=u.fix (f:=wd.length) (m:=0) (by lia) (by lia) (by rw[u.wz];exact Wo) (by rw[u.wz,Z,lw];exact Nat.succ_pos _) (λy d g=>by
    rw[Z]at d;rw[u.wz]at g;exact fO (none_ d (λe=>by rw[e]at g;cases g)) d)
   have eS:(⟨o.lg,o.lk.set wd.length (Y 0),o.wy⟩:St)=o:=by
    have g:wd.length<o.lk.length:=by rw[u.wf.lk,← u.len,dN];exact Yp _
    have:o.lk.set wd.length (Y 0)=o.lk:=by
     rw[Zr,Zq g,X9]at k0;rw[← k0];exact WK g
    rw[this]
   rw[eS]at H3;refine⟨o,S.lg.length,_,_,rfl,H3,by rw[dN,G];exact Yp _,by rw[G];exact Z,X,by lia,by lia,ex,⟨λ{x y m n} s j=>?_⟩⟩;rw[same s j];refine⟨λe=>⟨e,?_⟩,λe=>e.1⟩;have key:∀{x y m n},ip nd (W wd h++[c]) wd.length x=Y m->ip nd (W wd h++[c]) wd.length y=Y n->nd x=nd y->x <:+ W wd h++[c]->y <:+ W wd h++[c]:=λ{x y m n} s j e hx=>by
    rcases cB j with z | z
    ·rw[z]at e;by_cases Ni:x=[]
     ·subst Ni;rw[H.z]at e;cases e;rw[H.zero z];exact Wo
     ·rw[none_ hx Ni]at e;cases e
    ·exact z.2.2
   exact⟨key s j e,key j s e.symm⟩
  |some p =>
   obtain⟨C,P,p3,p4⟩:=k4 p M;obtain⟨old,R⟩:=Yf.mp p3;have VY:gW (o.wy.getD p []) c=Y old:=by rw[k2 p C p3];exact R
   have SE:=H.way C R;have hold:=H.lt SE;have ph:(W wd p).length<(W wd h).length:=by
    rcases Nat.lt_or_eq_of_le P.length_le with l | l
    ·exact l
    ·have:=H.inj C A (P.eq_of_length l);rw[this,hg]at R;cases R
   obtain⟨S3,r,v,GR,f1,H3,f2,f2',U,f4,f5,f6,f7,f8,f9⟩:=u.N2 (n:=p) (c:=c) (old:=old) (by lia) (λz=>by have:=Zj z;lia) hc VY (λz=>by have:=Zj z;lia) (λz=>by have:=Zj z;lia) (by rw[X p C];lia);rw[X p C]at U f8;have QH:(W wd p++[c]).length=(W wd p).length+1:=by rw[Zw];rfl
   have PM:W GR wd.length=W wd h++[c]:=by rw[f4 _ (by lia),Z]
   have none_:∀{y},y <:+ W wd h++[c]->(W wd p).length+1<y.length->nd y=O:=λ{y} d g=>by
    cases e:nd y with
    |none=>rfl
    |some q =>
     obtain⟨i,m,rfl,E,m2,m3,m4,D⟩:=LM d (λe=>by rw[e]at g;cases g) e;have l1:=(H.sf m2).length_le;rw[Zw,JV]at g;rw[p4 m m3 m4 (by lia)]at D;cases D
   have H4:=H3.fix (f:=wd.length) (m:=r) (by lia) f2 (by rw[U,PM];exact gC c P) (by rw[U,PM,QH,lw];exact Nat.succ_lt_succ ph) (λy d g=>by
    rw[PM]at d;rw[U,QH]at g;exact f9 y wd.length (by exact XB hold) (fO (none_ d g) d))
   refine⟨⟨S3.lg,S3.lk.set S.lg.length (Y r),S3.wy⟩,S.lg.length,v,GR,?_,by rw[G];exact H4,by rw[G];lia,by rw[G];exact PM,λm hm=>by rw[f4 m (by lia),X m hm],by lia,by lia,λx=>(f7 x).trans (ex x),⟨λ{x y m n} s j=>?_⟩⟩
   ·show (Lv o p c).map _=_;rw[f1];rfl
   ·rw[f8.eq s j];obtain⟨E,N⟩:=(f7 x).mp ⟨m,s⟩;obtain⟨n1,J⟩:=(f7 y).mp ⟨n,j⟩;have e1:ip nd (W wd h++[c]) wd.length x=ip nd (W wd h++[c]) wd.length y↔nd x=nd y:=by
     rw[N,J];exact⟨λe=>(same N J).mp (Zj e),λe=>by rw[(same N J).mpr e]⟩
    rw[e1];have sw:W wd p++[c] <:+ W wd h++[c]:=gC c P;have w:∀{z q},nd z=Y q->(z <:+ W wd h++[c]↔z <:+ W wd p++[c]):=λ{z q} F=>⟨λa=>cW a sw (by
     rw[QH];refine ZJ λb=>?_;rw[none_ a b]at F;cases F),λa=>a.trans sw⟩
    have un:∀{z q},nd z=O->ip nd (W wd h++[c]) wd.length z=Y q->z <:+ W wd h++[c]/\¬z <:+ W wd p++[c]:=λ{z q} F a=>by
     rcases cB a with b | b
     ·rw[F]at b;cases b
     ·refine⟨b.2.2,λa=>?_⟩;obtain⟨q',Q⟩:=H.Lp SE a;rw[F]at Q;cases Q
    refine⟨λ⟨a,b⟩=>⟨a,?_⟩,λ⟨a,b⟩=>⟨a,?_⟩⟩
    ·cases t:nd x with
     |some q=>rw[w t,w (show nd y=Y q by rw[← a,t])];exact b
     |none =>
      have u1:=un t N;have u2:=un (show nd y=O by rw[← a,t]) J;exact⟨λ_=>u2.1,λ_=>u1.1⟩
    ·cases t:nd x with
     |some q=>rw[← w t,← w (show nd y=Y q by rw[← a,t])];exact b
     |none =>
      have u1:=un t N;have u2:=un (show nd y=O by rw[← a,t]) J;exact⟨λz=>absurd z u1.2,λz=>absurd z u2.2⟩
end
structure K(P:Wd->Prop)(S:St)(nd:Wd->Option Nat)(wd:List Wd):Prop where
 i:I none S nd wd
 nil:P []
 some:∀x,(∃m,nd x=some m) ↔ ∃p,P p/\x <:+ p
 eq:∀{x y m n},nd x=.some m->nd y=.some n->(m=n ↔ ∀p,P p->(x <:+ p↔y <:+ p))
def K.congr{P Q:Wd->Prop}{S:St}{b:Wd->Option Nat}{a:List Wd}(H:K P S b a)(h:∀p,P p↔Q p):K Q S b a:=by
 have:P=Q:=funext λp=>propext (h p);rw[← this];exact H
noncomputable def QC(x:Wd):Option Nat:=if x=[] then Y 0 else O
def fi{x:Wd}{n:Nat}(h:QC x=Y n):x=[]/\n=0:=by
 unfold QC at h;split at h
 ·exact⟨by assumption,(Zj h).symm⟩
 ·cases h
def K0:K (λp=>p=[]) S0 QC [[]]:=by
 refine⟨⟨BS,rfl,λn d=>?_,rfl,rfl,λ{x n} h=>?_,λ{x n} h=>?_,λ{n} d=>?_,λ{x y n} h b a=>?_,λ{x c n} h=>?_,λ{x y n} h b=>?_,rfl,λ{n} b a=>?_,λ{x n} h c=>?_⟩,rfl,λx=>?_,λ{x y m n} b a=>?_⟩
 ·have:n=0:=Nat.lt_one_iff.mp d;subst this;rfl
 ·rw[(fi h).2];exact Nat.one_pos
 ·rw[(fi h).1];exact Wo
 ·have:n=0:=Nat.lt_one_iff.mp d;subst this;rfl
 ·have e:=(fi h).2;subst e;have:y=[]:=Xw.mp a;subst this;rfl
 ·have:=(fi h).1;exact absurd this (by simp)
 ·have e:=(fi h).1;subst e;have:x=[]:=Xw.mp b;subst this;exact⟨0,rfl⟩
 ·have:n<1:=a;lia
 ·have e:=fi h;obtain⟨rfl,rfl⟩:=e;rfl
 ·constructor
  ·rintro⟨m,h⟩;exact⟨[],rfl,by rw[(fi h).1];exact Wo⟩
  ·rintro⟨p,rfl,h⟩;have:x=[]:=Xw.mp h;subst this;exact⟨0,rfl⟩
 ·obtain⟨rfl,rfl⟩:=fi b;obtain⟨rfl,rfl⟩:=fi a;exact⟨λ_ _ _=>Iff.rfl,λ_=>rfl⟩
section
variable{P:Wd->Prop}{S:St}{nd:Wd->Option Nat}{wd:List Wd}
theorem K.step(H:K P S nd wd){h c:Nat}(w:h<wd.length)(A:97<=c/\c<=122)(v:(W wd h).length+1<1000) :
  ∃g r j GR,hb S h c=.some (g,r)/\K (λp=>P p\/p=W wd h++[c]) g j GR/\r<GR.length/\W GR r=W wd h++[c]/\(∀m,m<wd.length->W GR m=W wd m)/\wd.length<=GR.length/\GR.length<=wd.length+2:=by
 obtain⟨g,r,j,GR,e,N,J,G,F,E,D,t,C⟩:=H.i.step w A v;refine⟨g,r,j,GR,e,⟨N,.inl H.nil,λx=>?_,λ{x y m n} s o=>?_⟩,J,G,F,E,D⟩
 ·rw[t,H.some];constructor
  ·rintro (⟨p,a,b⟩ | a)
   ·exact⟨p,.inl a,b⟩
   ·exact⟨_,.inr M,a⟩
  ·rintro⟨p,a | rfl,b⟩
   ·exact .inl ⟨p,a,b⟩
   ·exact .inr b
 ·rw[C.eq s o];have un:∀{z q},j z=.some q->nd z=O->z <:+ W wd h++[c]/\∀p,P p->¬z <:+ p:=λ{z q} a b=>⟨((t z).mp ⟨q,a⟩).elim (λ⟨m,x⟩=>by rw[b]at x;cases x) id,λp d u=>by
   obtain⟨m,x⟩:=(H.some z).mpr ⟨p,d,u⟩;rw[b]at x;cases x⟩
  have old:nd x=nd y ↔ ∀p,P p->(x <:+ p↔y <:+ p):=by
   cases ex:nd x with
   |some a =>
    cases f:nd y with
    |some b=>exact⟨λe=>(H.eq ex f).mp (Zj e),λe=>by rw[(H.eq ex f).mpr e]⟩
    |none =>
     refine⟨λe=>(nomatch e),λe=>?_⟩;obtain⟨p,d,l⟩:=(H.some x).mp ⟨a,ex⟩;exact absurd ((e p d).mp l) ((un o f).2 p d)
   |none =>
    cases f:nd y with
    |some b =>
     refine⟨λe=>(nomatch e),λe=>?_⟩;obtain⟨p,d,l⟩:=(H.some y).mp ⟨b,f⟩;exact absurd ((e p d).mpr l) ((un s ex).2 p d)
    |none=>exact⟨λ_ p d=>⟨λz=>absurd z ((un s ex).2 p d),λz=>absurd z ((un o f).2 p d)⟩,λ_=>rfl⟩
  rw[old];constructor
  ·rintro⟨a,b⟩ p (d | rfl)
   ·exact a p d
   ·exact b
  ·intro a;exact⟨λp d=>a p (.inl d),a _ (.inr M)⟩
end
def K.grow:∀(w:Vt){P:Wd->Prop}{S:St}{nd:Wd->Option Nat}{b:List Wd}(H:K P S nd b){h:Nat},h<b.length->P (W b h)->(∀c∈w,97<=c/\c<=122)->(W b h).length+w.length<1000 →
  ∃n r G GR,hg S h w=.some (n,r)/\K (λp=>P p\/∃v,v <+: w/\p=W b h++v) n G GR/\r<GR.length/\W GR r=W b h++w/\(∀m,m<b.length->W GR m=W b m)/\b.length<=GR.length/\GR.length<=b.length+2*w.length:=by
 intro w
 induction w with
 |nil =>
  intro P S nd b H h g f hw j;refine⟨S,h,nd,b,rfl,H.congr λp=>⟨.inl,?_⟩,g,(ZK _).symm,λ_ _=>rfl,Zp _,Zp _⟩;rintro (a | ⟨v,a,rfl⟩)
  ·exact a
  ·rw[List.prefix_nil.mp a,ZK];exact f
 |cons c w o =>
  intro P S nd b H h g f hw j;rw[Zg]at j;obtain⟨Q,r1,R,N,e1,F,y,e,x,l,M⟩:=H.step g (hw c Zu) (by lia);obtain⟨A,r2,D,C,e2,E,u,t,s,q,J⟩:=o F y (.inr e) (λd hd=>hw d (Zv _ hd)) (by rw[e,Zw,JV];lia);refine⟨A,r2,D,C,?_,E.congr λp=>?_,u,?_,λm i=>by rw[s m (by exact ZP i l),x m i],by exact ZA l q,by rw[Zg];lia⟩
  ·show (hb S h c).bind _=_;rw[e1];exact e2
  ·rw[e];constructor
   ·rintro ((a | rfl) | ⟨v,a,rfl⟩)
    ·exact .inl a
    ·exact .inr ⟨[c],WJ.mpr ⟨rfl,List.nil_prefix⟩,rfl⟩
    ·exact .inr ⟨c :: v,WJ.mpr ⟨rfl,a⟩,by rw[Zd];rfl⟩
   ·rintro (a | ⟨v,a,rfl⟩)
    ·exact .inl (.inl a)
    ·cases v with
     |nil=>rw[ZK];exact .inl (.inl f)
     |cons d v =>
      obtain⟨rfl,z⟩:=WJ.mp a;exact .inr ⟨v,z,by rw[Zd];rfl⟩
  ·rw[t,e,Zd];rfl
noncomputable def mB(S:St):List Wd->Option St
 |[]=>Y S
 |t :: b=>(hg S 0 t).bind λz=>mB z.1 b
def K.book:∀(b:List Wd){P:Wd->Prop}{S:St}{nd:Wd->Option Nat}{d:List Wd}(H:K P S nd d),(∀t∈b,∀c∈t,97<=c/\c<=122)->(∀t∈b,t.length<1000) →
  ∃j y GR,mB S b=.some j/\K (λp=>P p\/∃t∈b,p <+: t) j y GR/\d.length<=GR.length/\GR.length<=d.length+2*(b.map List.length).sum:=by
 intro b
 induction b with
 |nil =>
  intro P S nd d H _ _;refine⟨S,nd,d,rfl,H.congr λp=>⟨.inl,?_⟩,Zp _,ZI _ _⟩;rintro (a | ⟨t,f,_⟩)
  ·exact a
  ·cases f
 |cons t b l =>
  intro P S nd d H h g;have m:0<d.length:=H.i.lt H.i.z;obtain⟨J,r1,M,G,e1,x,F,E,D,o,C⟩:=H.grow t m (by rw[H.i.wz];exact H.nil) (h t Zu) (by rw[H.i.wz];have:=g t Zu;simpa using this);obtain⟨q,s,r,e2,w,n,A⟩:=l x (λt f=>h t (Zv _ f)) (λt f=>g t (Zv _ f));refine⟨q,s,r,?_,w.congr λp=>?_,by exact ZA o n,by rw[Ze,XH];lia⟩
  ·show (hg S 0 t).bind _=_;rw[e1];exact e2
  ·rw[H.i.wz];constructor
   ·rintro ((a | ⟨v,a,rfl⟩) | ⟨u,e,a⟩)
    ·exact .inl a
    ·exact .inr ⟨t,Zu,a⟩
    ·exact .inr ⟨u,Zv _ e,a⟩
   ·rintro (a | ⟨u,e,a⟩)
    ·exact .inl (.inl a)
    ·rcases Zh.mp e with rfl | e
     ·exact .inl (.inr ⟨p,a,rfl⟩)
     ·exact .inr ⟨u,e,a⟩
noncomputable def Hd(b:List Wd)(p:Wd):Prop:=p=[]\/∃t∈b,p <+: t
def K.of(b:List Wd)(f:∀t∈b,∀c∈t,97<=c/\c<=122)(d:∀t∈b,t.length<1000):∃S nd a,mB S0 b=.some S/\K (Hd b) S nd a/\a.length<=1+2*(b.map List.length).sum:=by
 obtain⟨S,nd,a,e,H,_,l⟩:=K0.book b f d;exact⟨S,nd,a,e,H,l⟩
noncomputable def sk(w:List (Nat×Nat)):Vt:=(List.range' 97 26).filter λc=>(gW w c).isSome
noncomputable def visit(w:List (Nat×Nat)):Vt->Vt->Vt
 |[],met=>met
 |c :: r,met=>visit w r (if (gW w c).getD 0∈met then met else met++[(gW w c).getD 0])
noncomputable def JF(S:St):Nat->Vt->Nat->Option (Vt)
 |k,met,d=>if d<met.length then (match k with
  |0=>O
  |k+1=>JF S k (visit (S.wy.getD (met.getD d 0) []) (sk (S.wy.getD (met.getD d 0) [])) met) (d+1)) else Y met
noncomputable def steps(S:St)(a:Vt)(n:Nat):List (Nat×Nat):=(sk (S.wy.getD n [])).map λc=>(c,a.idxOf ((gW (S.wy.getD n []) c).getD 0))
noncomputable abbrev Row:=Nat×Nat×Option Nat×List (Nat×Nat)
noncomputable def row(S:St)(a:Vt)(n:Nat):Row:=match S.lk.getD n O with
 |none=>(0,0,O,steps S a n)
 |some l=>(S.lg.getD l 0+1,S.lg.getD n 0,Y (a.idxOf l),steps S a n)
noncomputable def tab(S:St)(a:Vt):List Row:=a.map (row S a)
section
variable{S T:St}{f:Nat->Nat}
def mI{w:List (Nat×Nat)}{c:Nat}(h:c∈sk w):∃m,gW w c=Y m:=Yf.mp (YO.mp h).2
theorem nQ{w:List (Nat×Nat)}{N:Nat}(hw:∀c m,gW w c=Y m->m<N):∀(r met:Vt),(∀c∈r,∃m,gW w c=Y m)->(∀x∈met,x<N)->∀x∈visit w r met,x<N
 |[],met,_,a=>a
 |c :: r,met,b,a=>by
  refine nQ hw r _ (λd hd=>b d (Zv _ hd)) ?_;obtain⟨m,e⟩:=b c Zu;rw[e,X9];split
  ·exact a
  ·intro x g;rcases Zi.mp g with h | h
   ·exact a x h
   ·rw[Zk.mp h];exact hw c m e
def getD_mem{l:Vt}{d:Nat}(h:d<l.length):l.getD d 0∈l:=by
 rw[Zr,Zq h];exact Yy h
end
theorem kL{w:List (Nat×Nat)}:∀(r met:Vt),∃l,visit w r met=met++l
 |[],met=>⟨[],(ZK _).symm⟩
 |c :: r,met=>by
  obtain⟨l,e⟩:=kL (w:=w) r (if (gW w c).getD 0∈met then met else met++[(gW w c).getD 0]);show ∃l,visit w r _=_;rw[e];split
  ·exact⟨l,rfl⟩
  ·exact⟨_,Zd _ _ _⟩
theorem mJ{w:List (Nat×Nat)}:∀(r met:Vt),met.Nodup->(visit w r met).Nodup
 |[],met,h=>h
 |c :: r,met,h=>by
  refine mJ (w:=w) r _ ?_;split
  ·exact h
  ·rename_i q;rw[ZM];refine⟨h,by simp,λa d b hb e=>q ?_⟩;rw[Zk.mp hb]at e;rw[← e];exact d
theorem oS{w:List (Nat×Nat)}:∀(r met:Vt),∀c∈r,(gW w c).getD 0∈visit w r met
 |d :: r,met,c,a=>by
  rcases Zh.mp a with rfl | a
  ·obtain⟨l,e⟩:=kL (w:=w) r (if (gW w c).getD 0∈met then met else met++[(gW w c).getD 0]);show _∈visit w r _;rw[e];refine Yj _ ?_;split
   ·assumption
   ·exact ZL _ Zu
  ·exact oS r _ c a
def xH{w:List (Nat×Nat)}(d:∀p∈w,97<=p.1/\p.1<=122){c m:Nat}(h:gW w c=Y m):c∈sk w:=by
 refine YO.mpr ⟨?_,by rw[h];rfl⟩;unfold gW at h;obtain⟨p,a,_⟩:=Zy.mp h;have e:=List.find?_some a;have:=d p (List.mem_of_find?_eq_some a);have b:p.1=c:=by simpa using e
 rw[b]at this;rw[List.mem_range'_1];lia
def DG{S:St}(o:WF S):∀(k:Nat)(met:Vt)(d:Nat),met.Nodup->(∀x∈met,x<S.lg.length)->d<=met.length->S.lg.length<=k+d->(∀i,i<d->∀c m,gW (S.wy.getD (met.getD i 0) []) c=Y m->m∈met) →
  ∃l,JF S k met d=Y (met++l)/\(met++l).Nodup/\(∀x∈met++l,x<S.lg.length)/\∀n∈met++l,∀c m,gW (S.wy.getD n []) c=Y m->m∈met++l:=by
 intro k;have fin:∀(met:Vt)(d:Nat),¬d<met.length->d<=met.length->(∀i,i<d->∀c m,gW (S.wy.getD (met.getD i 0) []) c=Y m->m∈met)->∀n∈met,∀c m,gW (S.wy.getD n []) c=Y m->m∈met:=by
  intro met d f b h n t c m e;obtain⟨i,g,q⟩:=List.mem_iff_getElem.mp t;refine h i (by lia) c m ?_;have:met.getD i 0=n:=by rw[Zr,Zq g,q];rfl
  rw[this];exact e
 induction k with
 |zero =>
  intro met d nd lt hd u h;have z:met.length<=S.lg.length:=by
   have:=sub_len met (List.range S.lg.length) nd λx s=>Yc.mpr (lt x s)
   rwa [ZF]at this
  have a:¬d<met.length:=by lia
  refine⟨[],?_,?_⟩
  ·unfold JF;rw[Zm a,ZK]
  ·rw[ZK];exact⟨nd,lt,fin met d a hd h⟩
 |succ k r =>
  intro met d nd lt hd u h;by_cases a:d<met.length
  ·obtain⟨p,e1⟩:=kL (w:=S.wy.getD (met.getD d 0) []) (sk (S.wy.getD (met.getD d 0) [])) met;obtain⟨l,e,f,b,j⟩:=r (visit (S.wy.getD (met.getD d 0) []) (sk (S.wy.getD (met.getD d 0) [])) met) (d+1) (mJ _ _ nd) (nQ (λc m e=>o.on _ c m e) _ _ (λc v=>mI v) lt) (by rw[e1,Zw];lia) (by lia) (λi g c m e=>by
    have y:(visit (S.wy.getD (met.getD d 0) []) (sk (S.wy.getD (met.getD d 0) [])) met).getD i 0=met.getD i 0:=by
     rw[e1,Zr,Zr,KQ (by lia)]
    rw[y]at e;by_cases q:i=d
    ·subst q;have:=oS (w:=S.wy.getD (met.getD i 0) []) (sk (S.wy.getD (met.getD i 0) [])) met c (xH (o.ND _).2 e);rw[e]at this;exact this
    ·rw[e1];exact Yj _ (h i (by lia) c m e))
   rw[e1,Zd]at f b j;refine⟨p++l,?_,f,b,j⟩;unfold JF;rw[Zo a];show JF S k _ (d+1)=_;rw[e,e1,Zd]
  ·refine⟨[],?_,?_⟩
   ·unfold JF;rw[Zm a,ZK]
   ·rw[ZK];exact⟨nd,lt,fin met d a hd h⟩
def AM{α:Type}{p:List α->Prop}(h0:p [])(h1:∀l a,p l->p (l++[a]))(l:List α):p l:=by
 have:∀l:List α,p l.reverse:=by
  intro l
  induction l with
  |nil=>exact h0
  |cons a l ih=>rw[List.reverse_cons];exact h1 _ a ih
 rw[← List.reverse_reverse l];exact this _
def K.met{P:Wd->Prop}{S:St}{nd:Wd->Option Nat}{wd:List Wd}(H:K P S nd wd){k:Nat}(hk:wd.length<=k):∃l,JF S k [0] 0=Y (0 :: l)/\(0 :: l).Nodup/\(∀x,x∈0 :: l↔x<wd.length)/\(0 :: l).length=wd.length:=by
 have L:S.lg.length=wd.length:=H.i.len.symm;obtain⟨l,e,h1,h2,h3⟩:=DG H.i.wf k [0] 0 (by simp) (λx hx=>by rw[Zk.mp hx];exact H.i.wf.pos) (ZG _) (by lia) (λi hi=>absurd hi (Nat.not_lt_zero _));have h0:∀(x:Wd) n,nd x=Y n->n∈0 :: l:=by
  intro x
  induction x using AM with
  |h0=>intro n e;rw[H.i.z]at e;cases e;exact Zu
  |h1 x c ih =>
   intro n e;obtain⟨m,hm⟩:=H.i.pre e;exact h3 m (ih m hm) c n (by rw[H.i.wy hm];exact e)
 have hx:∀x,x∈0 :: l↔x<wd.length:=λx=>⟨λz=>by rw[← L];exact h2 x z,λz=>h0 _ x (H.i.top z)⟩
 refine⟨l,e,h1,hx,Wp ?_ ?_⟩
 ·have:=sub_len (0 :: l) (List.range wd.length) h1 λx z=>Yc.mpr ((hx x).mp z)
  rwa [ZF]at this
 ·have:=sub_len (List.range wd.length) (0 :: l) List.nodup_range λx z=>(hx x).mpr (Yc.mp z)
  rwa [ZF]at this
end AU
end
section
namespace T38
open VS AU
def Bb(w:List (Nat×Nat))(c:Nat):c∈w.map (·.1)↔(gW w c).isSome=L:=by
 rw[← Dn,Xl,Hq];exact⟨λ⟨p,b,a⟩=>⟨p,b,by rw[a];exact beq_self_eq_true c⟩,λ⟨p,b,a⟩=>⟨p,b,by simpa using a⟩⟩
def vd{w:List (Nat×Nat)}(a:(w.map (·.1)).Nodup)(b:∀p∈w,97<=p.1/\p.1<=122):(sk w).Perm (w.map (·.1)):=by
 refine(List.perm_ext_iff_of_nodup ?_ a).mpr λc=>?_
 ·exact List.Nodup.sublist W6 List.nodup_range'
 ·rw[Bb];constructor
  ·intro h;exact(YO.mp h).2
  ·intro h;obtain⟨m,e⟩:=Yf.mp h;exact xH b e
def yX{m:Md}{w:List (Nat×Nat)}(e:(w.map (·.1)).Nodup)(d:∀p∈w,97<=p.1/\p.1<=122):gs [(m,GC w)]=Y (.fr,.lst ((sk w).map λc=>T.str [c])):=by
 show ((strs? ((w.map λp=>(T.str [p.1],T.int (p.2:Int))).map (·.1))).bind _)=_;have e1:(w.map λp=>(T.str [p.1],T.int (p.2:Int))).map (·.1)=(w.map (·.1)).map λc=>T.str [c]:=by
  rw[Yq,Yq];rfl
 rw[e1,strs_map (λc=>[c]),Zs,Zo]
 ·have:(sk w).map (λc=>[c])=cK ((w.map (·.1)).map λc=>[c]):=by
   refine oM ((vd e d).map _) ?_;rw[WZ];refine List.Pairwise.imp ?_ (List.Pairwise.filter _ (List.pairwise_lt_range' (s:=97) (n:=26)));intro a b j h;rcases X7.mp h with h | ⟨_,h⟩
   ·omega
   ·exact absurd h (List.not_lt_nil _)
  rw[← this,Yq];rfl
 ·refine⟨?_,YL.mpr ?_⟩
  ·rw[Zt,← (vd e d).length_eq];have:(sk w).length<=(List.range' 97 26).length:=X6 _ _;rw[Wc]at this;omega
  intro s f;obtain⟨c,i,rfl⟩:=Hq.mp f;obtain⟨p,g,rfl⟩:=Hq.mp i;have:=d p g;show (decide (1<=dJ)&&(decide (p.1<1114112)&&L))=L;rw[decide_eq_true (show p.1<1114112 by omega)];rfl
noncomputable def nE:Nat->Vt->List (T×T)
 |_,[]=>[]
 |k,n :: r=>(T.int (n:Int),T.int (k:Int)) :: nE (k+1) r
theorem ye:∀(met:Vt)(k:Nat),(nE k met).length=met.length
 |[],_=>rfl
 |_ :: r,k=>by rw[nE,Zg,Zg,ye r]
theorem pF:∀(met:Vt)(k:Nat),(nE k met).map (·.1)=met.map λ(n:Nat)=>T.int (n:Int)
 |[],_=>rfl
 |_ :: r,k=>by rw[nE,Ze,Ze,pF r]
theorem xX:∀(met:Vt)(k n:Nat),nE k (met++[n])=nE k met++[(T.int (n:Int),T.int ((k+met.length:Nat):Int))]
 |[],k,n=>rfl
 |m :: r,k,n=>by
  rw[Xm,nE,nE,xX r (k+1) n,Zg,Xm];rw[show k+1+r.length=k+(r.length+1) by omega]
def FR(a b:Nat):eqT (.int (a:Int)) (.int (b:Int))=(a==b):=by
 simp only[eqT];by_cases h:a=b
 ·simp[h]
 ·have d:¬(a:Int)=(b:Int):=by omega
  rw[IJ.mpr h,IJ.mpr d]
theorem o9:∀(met:Vt)(k n:Nat),eT (nE k met) (.int (n:Int))=if n∈met then Y (T.int ((k+met.idxOf n:Nat):Int)) else O
 |[],_,_=>rfl
 |m :: r,k,n=>by
  show ((((T.int (m:Int),T.int (k:Int)) :: nE (k+1) r).find? λp=>eqT p.1 (.int (n:Int))).map (·.2))=_;rw[Yv];simp only[FR];by_cases h:m=n
  ·subst h;simp[List.idxOf_cons]
  ·have hb:(m==n)=B:=IJ.mpr h;have a:=o9 r (k+1) n;unfold eT at a;simp only[hb];rw[a,List.idxOf_cons,hb];by_cases q:n∈r
   ·rw[Zo q,Zo (Zv _ q)];show Y (T.int ((k+1+r.idxOf n:Nat):Int))=Y (T.int ((k+(r.idxOf n+1):Nat):Int));rw[show k+1+r.idxOf n=k+(r.idxOf n+1) by omega]
   ·rw[Zm q,Zm (λz=>(Zh.mp z).elim (λe=>h e.symm) q)]
def Dw(a:Vt)(n:Nat)(h:n∉a):dput (nE 0 a) (.int (n:Int)) (.int (a.length:Int))=nE 0 (a++[n]):=by
 unfold dput;rw[Zm,xX]
 ·rw[XS]
 ·intro z;obtain⟨p,b,e⟩:=Xl.mp z;have:(eT (nE 0 a) (.int (n:Int))).isSome=L:=by
   unfold eT;rw[YA,List.find?_isSome];exact⟨p,b,e⟩
  rw[o9,Zm h]at this;cases this
noncomputable def nT(met:Vt):T:=.dct 0 (nE 0 met)
noncomputable def mT(met:Vt):T:=.lst (met.map λ(n:Nat)=>T.int (n:Int))
def B5{U:Env}{m k:Md}{met:Vt}{n:Nat}{a e:Ex}(h:a U=Y (m,nT met))(d:e U=Y (k,.int (n:Int))):e2 cG e a U=Y (.fr,.bl (decide (n∉met))):=e2v d h (by
 show (match (if L=L then Y (Md.fr,T.bl (eT (nE 0 met) (.int (n:Int))).isSome) else O) with | some (_,.bl b)=>some (Md.fr,T.bl (!b)) | _=>none)=_;rw[Zo M,o9];by_cases q:n∈met
 ·rw[Zo q,ZR (λz=>z q)];rfl
 ·rw[Zm q,decide_eq_true q];rfl)
section
variable{S:St}{w:List (Nat×Nat)}
theorem xK{d:Nat}{ob:Vf}:∀(r met:Vt)(z:Vf),(∀c∈r,∃m,gW w c=Y m)->met.length+r.length<16777216->∃a,forL (bF 5) aY (r.map λc=>T.str [c]) [ob,oc (nT met),oc (mT met),Q0 (d:Int),pc (GC w),z]=Y (.nx [ob,oc (nT (visit w r met)),oc (mT (visit w r met)),Q0 (d:Int),pc (GC w),a])
 |[],met,z,_,_=>⟨z,rfl⟩
 |c :: r,met,z,f,p=>by
  obtain⟨m,e⟩:=f c Zu;rw[Zg]at p;have hlen:(nE 0 met).length=met.length:=ye met 0;by_cases q:m∈met
  ·obtain⟨a,b⟩:=xK r met (Q2 ([c])) (λd hd=>f d (Zv _ hd)) (by omega);refine⟨a,?_⟩;have ev:visit w (c :: r) met=visit w r met:=by
    show visit w r (if (gW w c).getD 0∈met then met else met++[(gW w c).getD 0])=_;rw[e,X9,Zo q]
   rw[ev,Ze];refine(fR (U1:=[ob,oc (nT met),oc (mT met),Q0 (d:Int),pc (GC w),Q2 ([c])]) M ?_).trans b;unfold aY;refine(kS (m:=.fr) ?_).trans M;refine(B5 (m:=.bo) (k:=.fr) (met:=met) (n:=m) M (wo (m:=.pu) (n:=.fr) (c:=c) (w:=w) M M e)).trans ?_;rw[ZR (λz=>z q)]
  ·obtain⟨a,b⟩:=xK r (met++[m]) (Q2 ([c])) (λd hd=>f d (Zv _ hd)) (by rw[Zw,JV];omega);refine⟨a,?_⟩;have ev:visit w (c :: r) met=visit w r (met++[m]):=by
    show visit w r (if (gW w c).getD 0∈met then met else met++[(gW w c).getD 0])=_;rw[e,X9,Zm q]
   rw[ev,Ze];refine(fR (U1:=[ob,oc (nT met),oc (mT met),Q0 (d:Int),pc (GC w),Q2 ([c])]) M ?_).trans b;unfold aY;refine(kN (m:=.fr) ?_).trans ?_
   ·refine(B5 (m:=.bo) (k:=.fr) (met:=met) (n:=m) M (wo (m:=.pu) (n:=.fr) (c:=c) (w:=w) M M e)).trans ?_;rw[decide_eq_true q]
   ·have h:∀nn g:Vf,e2 HY (aa 4) (aa 5) [ob,nn,g,Q0 (d:Int),pc (GC w),Q2 ([c])]=Y (.fr,.int (m:Int)):=λnn g=>wo (m:=.pu) (n:=.fr) (c:=c) (w:=w) M M e;have j:rD 1 (e2 HY (aa 4) (aa 5)) (eN cA (ab (aa 2) ak)) [ob,oc (nT met),oc (mT met),Q0 (d:Int),pc (GC w),Q2 ([c])]=Y (.nx [ob,oc (nT (met++[m])),oc (mT met),Q0 (d:Int),pc (GC w),Q2 ([c])]):=by
     have o:eN cA (ab (aa 2) ak) [ob,oc (nT met),oc (mT met),Q0 (d:Int),pc (GC w),Q2 ([c])]=Y (.fr,.int (met.length:Int)):=jM (xv (x:=(.bo,mT met)) M M) (by
      show Y (Md.fr,T.int (((met.map λ(n:Nat)=>T.int (n:Int)).length:Nat):Int))=_;rw[Zt])
     unfold rD;rw[o,Zs];show ((e2 HY (aa 4) (aa 5) [ob,oc (nT met),oc (mT met),Q0 (d:Int),pc (GC w),Q2 ([c])]).bind _)=_;rw[h,Zs];show (if L=L/\L=L/\(nE 0 met).length<dJ then Y (Out.nx [ob,oc (.dct 0 (dput (nE 0 met) (.int (m:Int)) (.int (met.length:Int)))),oc (mT met),Q0 (d:Int),pc (GC w),Q2 ([c])]) else O)=_;rw[Zo ⟨rfl,rfl,by rw[hlen];show met.length<16777216;omega⟩,Dw met m q];rfl
    refine(ag j).trans ?_;refine(sr (i:=2) (l:=met.map λ(n:Nat)=>T.int (n:Int)) (v:=.int (m:Int)) M (h _ _) (by rw[Zt];omega)).trans ?_;rw[show (met.map λ(n:Nat)=>T.int (n:Int))++[.int (m:Int)]=(met++[m]).map λ(n:Nat)=>T.int (n:Int) from by rw[Yx];rfl];rfl
end
def sN(w:List (Nat×Nat)):(sk w).length<=26:=by
 refine ZA (X6 _ _) ?_;rw[Wc];exact Zp _
def AO{S:St}{a:Vt}(b:a.Nodup)(d:∀x∈a,x<S.lg.length):a.length<=S.lg.length:=by
 have:=sub_len a (List.range S.lg.length) b λx e=>Yc.mpr (d x e)
 rwa [ZF]at this
def Ee{S:St}(j:WF S)(G:S.lg.length<=100001):∀(k:Nat)(met:Vt)(d:Nat)(M:Vt),met.Nodup->(∀x∈met,x<S.lg.length)->JF S k met d=Y M->∀N,k<N->∀f a:Vf,∃i A C,
  dq (e2 oLt (aa 3) (eN cA (ab (aa 2) ak))) bJ N [pc (Gp S B),oc (nT met),oc (mT met),Q0 ((d:Nat):Int),f,a] =
   Y (.nx [pc (Gp S B),oc (nT M),oc (mT M),pc i,A,C]):=by
 have cond:∀(met:Vt)(d:Nat)(f a:Vf),e2 oLt (aa 3) (eN cA (ab (aa 2) ak)) [pc (Gp S B),oc (nT met),oc (mT met),Q0 ((d:Nat):Int),f,a]=Y (.fr,.bl (decide (d<met.length))):=λmet d f a =>
  e2v (x:=(.fr,.int (d:Int))) rfl (jM (v:=(.fr,.int (met.length:Int))) (xv (x:=(.bo,mT met)) rfl rfl) (by
   show Y (Md.fr,T.int (((met.map λ(n:Nat)=>T.int (n:Int)).length:Nat):Int))=_;rw[Zt])) (by
   show Y (Md.fr,T.bl (decide ((d:Int)<(met.length:Int))))=_;rw[show decide ((d:Int)<(met.length:Int))=decide (d<met.length) from decide_eq_decide.mpr (by omega)])
 intro k
 induction k with
 |zero =>
  intro met d M nd lt e N hN f a;obtain⟨N,rfl⟩:∃M,N=M+1:=⟨N-1,by omega⟩
  unfold JF at e;split at e
  ·cases e
  ·rename_i h;cases e;exact⟨_,f,a,fX (m:=.fr) ((cond _ _ _ _).trans (by rw[ZR h]))⟩
 |succ k u =>
  intro met d M nd lt e N hN f a;obtain⟨N,rfl⟩:∃M,N=M+1:=⟨N-1,by omega⟩
  unfold JF at e;split at e
  ·rename_i h;have z:=lt _ (getD_mem h);have D:met.getD d 0<S.wy.length:=by rw[j.wy];exact z
   have F:=AO nd lt;have E:=sN (S.wy.getD (met.getD d 0) []);obtain⟨o,s⟩:=xK (w:=S.wy.getD (met.getD d 0) []) (d:=d) (ob:=pc (Gp S B)) (sk (S.wy.getD (met.getD d 0) [])) met a (λc g=>mI g) (by omega);obtain⟨i,r,p,q⟩:=u _ (d+1) M (mJ _ _ nd) (nQ (λc m e=>j.on _ c m e) _ _ (λc g=>mI g) lt) e N (by omega) (pc (GC (S.wy.getD (met.getD d 0) []))) o;refine⟨i,r,p,(lQ (m:=.fr) ((cond _ _ _ _).trans (by rw[decide_eq_true h])) ?_).trans q⟩;unfold bJ;have ix:e2 aH (aa 2) (aa 3) [pc (Gp S B),oc (nT met),oc (mT met),Q0 ((d:Nat):Int),f,a]=Y (.fr,.int ((met.getD d 0:Nat):Int)):=e2v (x:=(.bo,mT met)) (y:=(.fr,.int (d:Int))) rfl rfl (mw _ met d 0 h);have s1:aQ 4 (e2 aH (bC 3 (aa 0)) (e2 aH (aa 2) (aa 3))) [pc (Gp S B),oc (nT met),oc (mT met),Q0 ((d:Nat):Int),f,a]=Y (.nx [pc (Gp S B),oc (nT met),oc (mT met),Q0 ((d:Nat):Int),pc (GC (S.wy.getD (met.getD d 0) [])),a]) :=
    aS (m:=.pu) (nu (S:=S) (b:=B) (m:=.pu) (n:=.fr) rfl ix D) (by decide) (by decide:4<6)
   refine(ag s1).trans ?_;have nw:=j.ND (met.getD d 0);refine(ag ((d7 (m:=.fr) (l:=(sk (S.wy.getD (met.getD d 0) [])).map λc=>T.str [c]) ?_ rfl).trans s)).trans ?_
   ·show (eN gs (ab (aa 4) ak) _).bind C2=_;rw[jM (xv (x:=(.pu,GC (S.wy.getD (met.getD d 0) []))) rfl rfl) (yX nw.1 nw.2)];rfl
   ·exact aS (m:=.fr) (t:=.int (((d+1:Nat)):Int)) rfl (by decide) (by decide:3<6)
  ·rename_i h;cases e;exact⟨_,f,a,fX (m:=.fr) ((cond _ _ _ _).trans (by rw[ZR h]))⟩
def DR{S:St}(a:WF S)(g:S.lg.length<=100001){M:Vt}{k:Nat}(h:k<1000000)(e:JF S k [0] 0=Y M):aE [Gp S B]=Y (.fr,nT M):=by
 obtain⟨i,d,b,q⟩:=Ee a g k [0] 0 M (by simp) (λx f=>by rw[Zk.mp f];exact a.pos) e vy (by show k<1000000;exact h) O O;refine iM (U:=[pc (Gp S B),O,pc (mT M),pc i,d,b]) rfl ?_;exact(ag rfl).trans ((ag rfl).trans ((ag rfl).trans ((ag q).trans ((ag rfl).trans rfl))))
noncomputable def JL(l:List (Nat×Nat)):T:=.tup (l.map λp=>T.tup [.str [p.1],.int (p.2:Int)])
noncomputable def pD(r:Row):T:=.tup [.int (r.1:Int),.int (r.2.1:Int),GT r.2.2.1,JL r.2.2.2]
theorem ve:∀l:List (Nat×Nat),dm (l.map λp=>T.tup [.str [p.1],.int (p.2:Int)])=L
 |[]=>rfl
 |p :: l=>by
  rw[Ze];show (L&&dm _)=L;rw[ve l];rfl
def o8(l:List (Nat×Nat)):Gu (JL l)=L:=ve l
def A8(r:Row):Gu (pD r)=L:=by
 show (L&&(L&&(Gu (GT r.2.2.1)&&(Gu (JL r.2.2.2)&&L))))=L;rw[kB,o8];rfl
def FD{a b c d:Ex}{U:Env}{x y z w:T}(h:a U=Y (.fr,x))(g:b U=Y (.fr,y))(f:c U=Y (.fr,z))(e:d U=Y (.fr,w)):nH (ab a (ab b (ab c (ab d ak)))) U=Y (.fr,.tup [x,y,z,w]):=by
 show (ab a (ab b (ab c (ab d ak))) U).bind qI=_;rw[xv h (xv g (xv f (xv (r:=ak) e M))),Zs];show Y (up .fr _)=_;unfold up;split<;>rfl
def Dv{S:St}(d:WF S){a:Vt}(o:∀x,x<S.lg.length->x∈a){n:Nat}(g:n<S.lg.length):bN [Gp S B,.int (n:Int),.dct 3 (nE 0 a)]=Y (.fr,pD (row S a n)):=by
 have hw:n<S.wy.length:=by rw[d.wy];exact g
 have z:n<S.lk.length:=by rw[d.lk];exact g
 have nw:=d.ND n;have get:∀v,v<S.lg.length->eT (nE 0 a) (.int (v:Int))=Y (T.int ((a.idxOf v:Nat):Int)):=λv u=>by rw[o9,Zo (o v u),XS]
 have s1:aQ 3 (e2 aH (bC 2 (aa 0)) (aa 1)) [pc (Gp S B),Q0 (n:Int),pc (.dct 3 (nE 0 a)),O,O,O]=Y (.nx [pc (Gp S B),Q0 (n:Int),pc (.dct 3 (nE 0 a)),pc (GT (S.lk.getD n O)),O,O]):=aS (m:=.fr) (uO (S:=S) (b:=B) (m:=.pu) (n:=.fr) M M z) (by decide) (by decide:3<6);have f:aQ 4 (e2 aH (bC 3 (aa 0)) (aa 1)) [pc (Gp S B),Q0 (n:Int),pc (.dct 3 (nE 0 a)),pc (GT (S.lk.getD n O)),O,O]=Y (.nx [pc (Gp S B),Q0 (n:Int),pc (.dct 3 (nE 0 a)),pc (GT (S.lk.getD n O)),pc (GC (S.wy.getD n [])),O]):=aS (m:=.pu) (nu (S:=S) (b:=B) (m:=.pu) (n:=.fr) M M hw) (by decide) (by decide:4<6);have C:eN jQ (ab (cY 1 (bF 0) (eU (eN gs (ab (aa 4) ak))) O (nH (ab (aa 0) (ab (e2 qg (aa 3) (e2 HY (aa 5) (aa 0))) ak)))) ak) [pc (Gp S B),Q0 (n:Int),pc (.dct 3 (nE 0 a)),pc (GT (S.lk.getD n O)),pc (GC (S.wy.getD n [])),O]=Y (.fr,JL (steps S a n)):=by
  have D:=gH (k:=1) (tg:=bF 0) (it:=eU (eN gs (ab (aa 4) ak))) (elt:=nH (ab (aa 0) (ab (e2 qg (aa 3) (e2 HY (aa 5) (aa 0))) ak))) (m:=.fr) (U:=[pc (Gp S B),Q0 (n:Int),pc (.dct 3 (nE 0 a)),pc (GT (S.lk.getD n O)),pc (GC (S.wy.getD n [])),O]) (λc=>T.str [c]) (λc=>T.tup [.str [c],.int ((a.idxOf ((gW (S.wy.getD n []) c).getD 0):Nat):Int)]) (sk (S.wy.getD n [])) (by
   show (eN gs (ab (aa 4) ak) _).bind C2=_;rw[jM (xv (x:=(.pu,GC (S.wy.getD n []))) M M) (yX nw.1 nw.2)];rfl) M (ZA (sN _) (by decide)) (λc A=>by
   obtain⟨v,ev⟩:=mI A;refine⟨[Q2 ([c]),pc (Gp S B),Q0 (n:Int),pc (.dct 3 (nE 0 a)),pc (GT (S.lk.getD n O)),pc (GC (S.wy.getD n [])),O],rfl,?_⟩;have s:e2 qg (aa 3) (e2 HY (aa 5) (aa 0)) [Q2 ([c]),pc (Gp S B),Q0 (n:Int),pc (.dct 3 (nE 0 a)),pc (GT (S.lk.getD n O)),pc (GC (S.wy.getD n [])),O]=Y (.fr,.int ((a.idxOf v:Nat):Int)) :=
    e2v (x:=(.pu,.dct 3 (nE 0 a))) M (wo (m:=.pu) (n:=.fr) (c:=c) (w:=S.wy.getD n []) M M ev) (by
     show (if L=L then (eT (nE 0 a) (.int (v:Int))).map (sub .pu) else O)=_;rw[Zo M,get v (d.on n c v ev)];rfl)
   rw[ev,X9];show (ab (aa 0) (ab (e2 qg (aa 3) (e2 HY (aa 5) (aa 0))) ak) _).bind qI=_;rw[xv (x:=(.fr,.str [c])) M (xv (r:=ak) s M)];rfl)
  refine jM (xv (r:=ak) D M) ?_;show (if _<=dJ then Y (up .fr (.tup _)) else O)=_;rw[Zo (by rw[Zt];exact ZA (sN _) (by decide))];have:T.tup ((sk (S.wy.getD n [])).map λc=>T.tup [.str [c],.int ((a.idxOf ((gW (S.wy.getD n []) c).getD 0):Nat):Int)])=JL (steps S a n):=by
   unfold JL steps;rw[Yq];rfl
  rw[this];unfold up;rw[o8];rfl
 have e:=aS (i:=5) C (by decide) (by decide:5<6);have p:∀U:Env,U[5]?=Y (pc (JL (steps S a n)))->aa 5 U=Y (.fr,JL (steps S a n)):=λU h=>by
  show (match U[5]? with | some (some (.pu t))=>some (up .pu t) | some (some (.ow t))=>some (.bo,t) | _=>none)=_;rw[h];show Y (up .pu _)=_;unfold up;rw[o8];rfl
 unfold row;cases j:S.lk.getD n O with
 |none =>
  rw[j]at s1 f e;refine iM (v:=(.fr,pD (0,0,O,steps S a n))) (U:=[pc (Gp S B),Q0 (n:Int),pc (.dct 3 (nE 0 a)),pc (GT O),pc (GC (S.wy.getD n [])),pc (JL (steps S a n))]) M ?_;refine(ag s1).trans ((ag f).trans ((ag e).trans (fZ ((kN (m:=.fr) M).trans (eR (FD M M M (p _ M)))))))
 |some l =>
  rw[j]at s1 f e;have q:=d.up n l j;refine iM (v:=(.fr,pD (S.lg.getD l 0+1,S.lg.getD n 0,Y (a.idxOf l),steps S a n))) (U:=[pc (Gp S B),Q0 (n:Int),pc (.dct 3 (nE 0 a)),pc (GT (Y l)),pc (GC (S.wy.getD n [])),pc (JL (steps S a n))]) M ?_;refine(ag s1).trans ((ag f).trans ((ag e).trans ((ag ((kS (m:=.fr) M).trans M)).trans (eR (FD ?_ ?_ ?_ (p _ M))))))
  ·exact e2v (qH (S:=S) (b:=B) (m:=.pu) (n:=.fr) (i:=l) M M q) M M
  ·exact qH (S:=S) (b:=B) (m:=.pu) (n:=.fr) (i:=n) M M g
  ·exact e2v (x:=(.pu,.dct 3 (nE 0 a))) (y:=(.fr,.int (l:Int))) M M (by
    show (if L=L then (eT (nE 0 a) (.int (l:Int))).map (sub .pu) else O)=_;rw[Zo M,get l q];rfl)
noncomputable def JX(t:List Row):T:=.lst (t.map pD)
def Cs{S:St}(b:WF S)(g:S.lg.length<=100001){M:Vt}{k:Nat}(l:k<1000000)(e:JF S k [0] 0=Y M)(a:∀x,x∈M↔x<S.lg.length)(j:M.length<=16777216):dc [Gp S B]=Y (.fr,JX (tab S M)):=by
 have d:=DR b g l e;refine iM (U:=[pc (Gp S B),O]) rfl ?_;have s1:iC 1 (fY 0 aE (aa 0) ak) [pc (Gp S B),O]=Y (.nx [pc (Gp S B),oc (nT M)]):=by
  show (fY 0 aE (aa 0) ak [pc (Gp S B),O]).bind _=_;have:fY 0 aE (aa 0) ak [pc (Gp S B),O]=Y (.fr,nT M):=by
   show ((aE [Gp S B]).bind _)=_;rw[d];rfl
  rw[this];rfl
 refine(ag s1).trans ?_;have o:=gH (k:=1) (tg:=bF 0) (it:=qZ 1) (elt:=fY 0 bN (aa 1) (ab (aa 0) (ab (aa 2) ak))) (m:=.fr) (U:=[pc (Gp S B),pc (.dct 3 (nE 0 M))]) (λ(n:Nat)=>T.int (n:Int)) (λn=>pD (row S M n)) M (by
  show (if ((nE 0 M).all λp=>isInt p.1)=L then Y (Md.fr,(nE 0 M).map (·.1)) else O)=_;rw[Zo,pF];rw[YL];intro p h;have:p.1∈(nE 0 M).map (·.1):=List.mem_map_of_mem h;rw[pF]at this;obtain⟨n,_,e⟩:=Hq.mp this;rw[← e];rfl) rfl j (λn i=>by
  refine⟨[Q0 (n:Int),pc (Gp S B),pc (.dct 3 (nE 0 M))],rfl,?_⟩;show ((bN [Gp S B,.int (n:Int),.dct 3 (nE 0 M)]).bind _)=_;rw[Dv b (λx f=>(a x).mpr f) ((a n).mp i)];rfl)
 show ((cY 1 (bF 0) (qZ 1) O (fY 0 bN (aa 1) (ab (aa 0) (ab (aa 2) ak))) [pc (Gp S B),pc (.dct 3 (nE 0 M))]).bind _)=_;rw[o];unfold JX tab;rw[Yq];rfl
noncomputable def eE(a:List Tx):Nat:=(a.map List.length).sum
structure IK(bk:List Tx):Prop where
 Ho:bk.length<=8
 sum:eE bk<=160
 az:∀t∈bk,∀c∈t,97<=c/\c<=122
theorem qc{t:Tx}:∀{l:List Tx},t∈l->t.length<=eE l
 |a :: l,h=>by
  have e:eE (a :: l)=a.length+eE l:=by unfold eE;rw[Ze,XH]
  rw[e];rcases Zh.mp h with rfl | h
  ·exact ZI _ _
  ·have:=qc h;lia
def IK.len{a:List Tx}(h:IK a):∀t∈a,t.length<=160:=λt b=>ZA (qc b) h.sum
noncomputable def fH(a:List Tx):St:=(mB S0 a).getD S0
noncomputable def cL(a:List Tx):Vt:=(JF (fH a) 1000 [0] 0).getD []
noncomputable def tabOf(a:List Tx):List Row:=tab (fH a) (cL a)
theorem IK.k{a:List Tx}(h:IK a):mB S0 a=Y (fH a)/\∃nd b,K (Hd a) (fH a) nd b/\b.length<=321/\JF (fH a) 1000 [0] 0=Y (cL a)/\(∀x,x∈cL a↔x<(fH a).lg.length)/\(cL a).length=b.length/\(cL a).idxOf 0=0:=by
 obtain⟨S,nd,b,e,H,l⟩:=K.of a h.az λt g=>by have:=h.len t g;lia
 have d:fH a=S:=by unfold fH;rw[e];rfl
 rw[d];have f:b.length<=321:=by
  have:=h.sum;unfold eE at this;lia
 obtain⟨m,e2,_,n,j⟩:=H.met (k:=1000) (by lia);have eM:cL a=0 :: m:=by unfold cL;rw[d,e2];rfl
 rw[eM];exact⟨e,nd,b,H,f,e2,λx=>by rw[n,H.i.len],j,List.idxOf_cons_self⟩
def CZ{a:List Bool}{g:Mt}{d:GY}{xs:Va}{S S':St}{v:T}{b:Bool}{B z:Vf}(j:d [B,oc (Gp S b),z]=Y xs)(l:argsOk a xs=L)(m:bp (trees xs)=L)(i:g (IG S) (trees xs)=Y (IG S',v))(h:Gu v=L) :
  bU 1 [] 0 a g d [B,oc (Gp S b),z]=Y ((.fr,v),[B,oc (Gp S' b),z]):=by
 show ((Y ([]:List Ky)).bind λf=>(d [B,oc (Gp S b),z]).bind λxs=>(pm (ub 0 a g xs) f (Gp S b)).map λe=>(e.2,[B,oc e.1,z]))=_;rw[Zs,j,Zs];show ((if 1=0+1/\gp (IG S)=L/\argsOk a xs=L/\bp (trees xs)=L then (g (IG S) (trees xs)).bind λz=>if gp z.1=L/\Gu z.2=L then Y (T.obj 1 ((0,.bl b) :: z.1),(Md.fr,z.2)) else O else O).map _)=_;rw[Zo ⟨rfl,l8 S,l,m⟩,i,Zs,Zo ⟨l8 S',h⟩];rfl
def C3{B:Vf}:∀(rest:List Tx){S S':St}{z:Vf},WF S->S.lg.length+2*eE rest<=100000->(∀t∈rest,∀c∈t,97<=c/\c<=122)->mB S rest=Y S' →
  ∃a,forL (bF 2) gw (rest.map .str) [B,oc (Gp S false),z]=Y (.nx [B,oc (Gp S' false),a]):=by
 intro rest
 induction rest with
 |nil =>
  intro S S' z _ _ _ e;cases (show Y S=Y S' from e);exact⟨z,rfl⟩
 |cons t rest h =>
  intro S S' z W j b e;obtain⟨⟨d,r⟩,e1,m⟩:=Zz.mp (show (hg S 0 t).bind _=Y S' from e);have l:eE (t :: rest)=t.length+eE rest:=by unfold eE;rw[Ze,XH]
  rw[l]at j;obtain⟨g,_,n,f⟩:=Ft W (by lia) W.pos (b t Zu) e1;obtain⟨a,q⟩:=h (S:=d) (S':=S') (z:=Q2 t) g (by lia) (λu i=>b u (Zv _ i)) m;refine⟨a,?_⟩;rw[Ze];refine(fR (U1:=[B,oc (Gp S false),Q2 t]) M ?_).trans q;unfold gw NK;rw[CZ (xs:=[(.fr,.int ((0:Nat):Int)),(.fr,.str t)]) (S':=d) (v:=.int (r:Int)) M M M f M];rfl
def Dj{a:List Tx}(h:IK a):fD [.lst (a.map .str)]=Y (.fr,JX (tabOf a)):=by
 obtain⟨e,nd,g,H,l,e2,d,j,_⟩:=h.k;have hlen:(fH a).lg.length<=100001:=by rw[← H.i.len];lia
 have b:=Cs H.i.wf hlen (k:=1000) (by decide) e2 d (by lia);obtain⟨z,f⟩:=C3 (B:=pc (.lst (a.map .str))) a (z:=O) BS (by have:=h.sum;show 1+2*eE a<=100000;lia) h.az e;refine iM M ((ag (U1:=[pc (.lst (a.map .str)),oc (Gp S0 false),O]) M).trans ((ag ((d7 (m:=.pu) (l:=a.map .str) M M).trans f)).trans ((ag (U1:=[pc (.lst (a.map .str)),pc (Gp (fH a) false),z]) M).trans (eR ?_))));show ((dc [Gp (fH a) false]).bind _)=_;rw[b];rfl
noncomputable abbrev GR(a:List (Nat×Nat)):List (T×T):=a.map λp=>(T.str [p.1],T.int (p.2:Int))
noncomputable abbrev P1(p:Nat×Nat):T:=.tup [.str [p.1],.int (p.2:Int)]
def Ed(a:List (Nat×Nat)):qb (a.map P1)=Y (GR a):=by
 induction a with
 |nil=>rfl
 |cons w a b =>
  show (if iz (T.str [w.1])/\Gu (T.int (w.2:Int)) then (qb (a.map P1)).map _ else O)=_;rw[Zo ⟨rfl,rfl⟩,b];rfl
theorem rQ:∀(ws acc:List (Nat×Nat)),((acc++ws).map (·.1)).Nodup->(GR ws).foldl (λd q=>dput d q.1 q.2) (GR acc)=GR (acc++ws)
 |[],acc,_=>by rw[ZK];rfl
 |w :: ws,acc,h=>by
  have f:w.1∉acc.map (·.1):=λz=>by
   rw[Yx,Ze]at h;exact(ZM.mp h).2.2 w.1 z w.1 Zu M
  have e:dput (GR acc) (T.str [w.1]) (T.int (w.2:Int))=GR (acc++[w]):=by
   unfold dput;rw[Zm (by
    simp only[Xl,not_exists,not_and];intro p b;obtain⟨q,a,rfl⟩:=Hq.mp b;simp only[eqT,beq_iff_eq,List.cons.injEq,and_true];intro z;exact f (Hq.mpr ⟨q,a,z⟩))]
   simp[GR]
  show (GR ws).foldl _ (dput (GR acc) (T.str [w.1]) (T.int (w.2:Int)))=_;rw[e,rQ ws (acc++[w]) (by rw[Zd];exact h),Zd];rfl
def xi(w:List (Nat×Nat)):(sk w).Nodup:=by
 unfold sk;exact List.Nodup.sublist W6 (by decide)
def sF(S:St)(M:Vt)(n:Nat):(steps S M n).map (·.1)=sk (S.wy.getD n []):=by
 unfold steps;rw[Yq];exact List.map_id' _
def FV{m:Md}(S:St)(M:Vt)(n:Nat):kR [(m,JL (steps S M n))]=Y (.fr,.dct 0 (GR (steps S M n))):=by
 show (qb ((steps S M n).map P1)).map _=_;rw[Ed,Option.map_some];have:=rQ (steps S M n) [] (by rw[YY,sF];exact xi _);rw[YY]at this;exact congrArg (λz=>Y (Md.fr,T.dct 0 z)) this
def xg(S:St)(M:Vt)(n c:Nat)(e:97<=c/\c<=122):gW (steps S M n) c=(gW (S.wy.getD n []) c).map λm=>M.idxOf m:=by
 have key:∀l:Vt,gW (l.map λc=>(c,M.idxOf ((gW (S.wy.getD n []) c).getD 0))) c=if c∈l then Y (M.idxOf ((gW (S.wy.getD n []) c).getD 0)) else O:=by
  intro l
  induction l with
  |nil=>rfl
  |cons a l b =>
   unfold gW at b ⊢;rw[Ze,Yv];by_cases h:a=c
   ·subst h;simp
   ·have:(a==c)=B:=by simpa using h
    rw[this];show (List.map _ l |>.find? _).map _=_;rw[b];simp[YK h]
 unfold steps;rw[key];cases hg:gW (S.wy.getD n []) c with
 |none =>
  rw[Zm λz=>by
   obtain⟨m,d⟩:=mI z;rw[hg]at d;cases d]
  rfl
 |some m =>
  rw[Zo (by
   unfold sk;refine YO.mpr ⟨List.mem_range'_1.mpr (by lia),by rw[hg];rfl⟩)]
  rfl
def vM(S:St)(M:Vt)(n:Nat):(row S M n).2.2.2=steps S M n:=by
 unfold row;split<;>rfl
section
variable{bk:List Tx}{nd:Wd->Option Nat}{P:Tx->Bool}
noncomputable def num(b:List Tx)(a:Wd->Option Nat)(w:Tx):Nat:=(cL b).idxOf ((a w).getD 0)
noncomputable abbrev Kl(b:List Tx)(a:Wd->Option Nat)(w:Tx):T:=.tup [.str w,.int (num b a w:Int)]
noncomputable abbrev EQ(a:List Tx)(f:Wd->Option Nat)(B:T)(h:Tx)(g:List Tx)(k:Int)(e d b:Vf):Env:=[pc B,Q2 h,pc (JX (tabOf a)),oc (.lst (g.map (Kl a f))),Q0 k,e,d,b]
def U9(B:T)(d:Tx)(k:Int)(w:Tx)(hw:w.length<=1000)(a:List (Nat×Nat))(C:∀c,97<=c/\c<=122->(gW a c).isSome=P (w++[c])/\∀v,gW a c=Y v->v=num bk nd (w++[c])):∀(b:Tx)(acc:List Tx)(z:Vf),Az b->acc.length+b.length<16000000 →
  (∀c,(b.find? λc=>!P (w++[c]))=Y c->∃F,forL (bF 7) cy (b.map s1) (EQ bk nd B d acc k (Q2 w) (pc (GC a)) z)=Y (.rt (.fr,.str (w++[c])) F)) ∧
  ((b.find? λc=>!P (w++[c]))=O->∃j,forL (bF 7) cy (b.map s1) (EQ bk nd B d acc k (Q2 w) (pc (GC a)) z)=Y (.nx (EQ bk nd B d (acc++b.map λc=>w++[c]) k (Q2 w) (pc (GC a)) j))):=by
 intro b
 induction b with
 |nil=>exact λacc z _ _=>⟨(λc h=>by cases h),λ_=>⟨z,by rw[WT,WT,ZK];rfl⟩⟩
 |cons c b t =>
  intro acc z p D;rw[Zg]at D;obtain⟨o,E⟩:=C c (p c Zu);have ad:e2 ba (aa 5) (aa 7) (EQ bk nd B d acc k (Q2 w) (pc (GC a)) (pc (s1 c)))=Y (.fr,.str (w++[c])):=zh (m:=.fr) (n:=.fr) M M (by show w.length+1<=16777216;lia);have g:e2 cG (aa 7) (aa 6) (EQ bk nd B d acc k (Q2 w) (pc (GC a)) (pc (s1 c)))=Y (.fr,.bl (!P (w++[c]))):=by
   rw[← o];exact BN (m:=.pu) (n:=.fr) M M
  cases f:P (w++[c]) with
  |false =>
   rw[f]at g;refine⟨λG h=>?_,λh=>?_⟩
   ·rw[Yv,f]at h;cases h;exact⟨_,Ai M (fZ ((kN g).trans (eR ad)))⟩
   ·rw[Yv,f]at h;cases h
  |true =>
   rw[f]at g o;obtain⟨v,q⟩:=Yf.mp o;obtain⟨y,u⟩:=t (acc++[w++[c]]) (pc (s1 c)) (λx A=>p x (Zv _ A)) (by rw[Zw,JV];lia);have ix:e2 HY (aa 6) (aa 7) (EQ bk nd B d acc k (Q2 w) (pc (GC a)) (pc (s1 c)))=Y (.fr,.int (num bk nd (w++[c]):Int)):=by
    rw[← E v q];exact wo (m:=.pu) (n:=.fr) M M q
   have s:nH (ab (e2 ba (aa 5) (aa 7)) (ab (e2 HY (aa 6) (aa 7)) ak)) (EQ bk nd B d acc k (Q2 w) (pc (GC a)) (pc (s1 c)))=Y (.fr,Kl bk nd (w++[c])):=by
    show (ab _ _ _).bind qI=_;rw[xv ad (xv (r:=ak) ix M)];rfl
   have bo:cy (EQ bk nd B d acc k (Q2 w) (pc (GC a)) (pc (s1 c)))=Y (.nx (EQ bk nd B d (acc++[w++[c]]) k (Q2 w) (pc (GC a)) (pc (s1 c)))):=by
    refine(ag ((kS g).trans M)).trans ((sr (i:=3) (l:=acc.map (Kl bk nd)) M s (by rw[Zt];lia)).trans ?_);show Y (Out.nx [pc B,Q2 d,pc (JX (tabOf bk)),oc (.lst (acc.map (Kl bk nd)++[Kl bk nd (w++[c])])),Q0 k,Q2 w,pc (GC a),pc (s1 c)])=_;rw[show acc.map (Kl bk nd)++[Kl bk nd (w++[c])]=(acc++[w++[c]]).map (Kl bk nd) from by rw[Yx];rfl]
   have st:forL (bF 7) cy ((c :: b).map s1) (EQ bk nd B d acc k (Q2 w) (pc (GC a)) z)=forL (bF 7) cy (b.map s1) (EQ bk nd B d (acc++[w++[c]]) k (Q2 w) (pc (GC a)) (pc (s1 c))):=fR M bo;rw[st,Yv,f];refine⟨y,λh=>?_⟩;obtain⟨j,e⟩:=u h;refine⟨j,e.trans ?_⟩;rw[Ze,Zd];rfl
def U8{U:List Wd}(H:K (Hd bk) (fH bk) nd U)(hM:∀x,x∈cL bk↔x<(fH bk).lg.length)(N:∀w,P w=(nd w).isSome)(hP:∀w,P w=L->w.length<=1000)(B:T)(b:Tx)(hz:Az b)(Kb:b.length<=26){x:Tx}:∀(n:Nat)(a:List Tx)(k F:Nat)(l g d:Vf),(∀w∈a,P w=L)->a.length+26*n<16000000->bf P b n (a.drop k)=Y x->n<F →
  ∃q,dq (eC (.bl L)) ka F (EQ bk nd B b a (k:Int) l g d)=Y (.rt (.fr,.str x) q):=by
 intro n
 induction n with
 |zero=>intro a k F l g d _ _ h;cases h
 |succ n X =>
  intro a k F l g d C hb h hF;obtain⟨F,rfl⟩:∃j,F=j+1:=⟨F-1,by lia⟩
  by_cases o:k<a.length
  ·rw[YF o]at h;have hw:P a[k]=L:=C _ (Yy o);have hg:a.getD k []=a[k]:=by rw[Zr,Zq o];rfl
   generalize a[k]=w at h hw hg;obtain⟨f,u⟩:=Yf.mp ((N w).symm.trans hw);have GZ:f<(fH bk).lg.length:=by rw[← H.i.len];exact H.i.lt u
   have QZ:=(hM f).mpr GZ;have R:num bk nd w=(cL bk).idxOf f:=by unfold num;rw[u];rfl
   have Q:num bk nd w<(cL bk).length:=by rw[R];exact List.idxOf_lt_length_iff.mpr QZ
   have Rj:(cL bk).getD (num bk nd w) 0=f:=by
    rw[Zr,Zq Q];show (cL bk)[num bk nd w]=f;simp only[R];exact List.getElem_idxOf _
   have D:∀l g d,e2 aH (aa 3) (aa 4) (EQ bk nd B b a (k:Int) l g d)=Y (.fr,Kl bk nd w):=λl g d=>by
    refine e2v (x:=(.bo,.lst (a.map (Kl bk nd)))) (y:=(.fr,.int (k:Int))) M M ?_;rw[mw (Kl bk nd) a k [] o,hg];rfl
   have J:aQ 5 (e2 aH (e2 aH (aa 3) (aa 4)) (Q3 0)) (EQ bk nd B b a (k:Int) l g d)=Y (.nx (EQ bk nd B b a (k:Int) (Q2 w) g d)):=aS (m:=.fr) (e2v (D l g d) (y:=(.fr,.int 0)) M M) (by decide) (by show 5<8;decide);have r1:e2 aH (aa 2) (e2 aH (e2 aH (aa 3) (aa 4)) (Q3 1)) (EQ bk nd B b a (k:Int) (Q2 w) g d)=Y (.fr,pD (row (fH bk) (cL bk) f)):=by
    refine e2v (x:=(.pu,JX (tabOf bk))) (y:=(.fr,.int (num bk nd w:Int))) M (e2v (D _ _ _) (y:=(.fr,.int 1)) M M) ?_;unfold JX tabOf tab;rw[Yq,mw (pD ∘ row (fH bk) (cL bk)) (cL bk) (num bk nd w) 0 Q,Rj];show Y (up .pu (pD (row (fH bk) (cL bk) f)))=_;unfold up;rw[A8];rfl
   have G:aQ 6 (eN kR (ab (e2 aH (e2 aH (aa 2) (e2 aH (e2 aH (aa 3) (aa 4)) (Q3 1))) (Q3 3)) ak)) (EQ bk nd B b a (k:Int) (Q2 w) g d)=Y (.nx (EQ bk nd B b a (k:Int) (Q2 w) (pc (GC (steps (fH bk) (cL bk) f))) d)):=by
    refine aS (m:=.fr) (jM (xv (r:=ak) (x:=(.fr,JL (steps (fH bk) (cL bk) f))) (e2v r1 (y:=(.fr,.int 3)) M ?_) M) (FV _ _ _)) (by decide) (by show 6<8;decide);rw[← vM];show Y (up .fr (JL _))=_;unfold up;rw[o8];rfl
   have hs:∀c,97<=c/\c<=122->(gW (steps (fH bk) (cL bk) f) c).isSome=P (w++[c])/\∀v,gW (steps (fH bk) (cL bk) f) c=Y v->v=num bk nd (w++[c]):=λc A=>by
    rw[xg _ _ _ _ A,H.i.wy u c,N];refine⟨YA,λv s=>?_⟩;obtain⟨m,e1,rfl⟩:=Zy.mp s;unfold num;rw[e1];rfl
   obtain⟨i1,Z⟩:=U9 (bk:=bk) (nd:=nd) (P:=P) B b (k:Int) w (hP w hw) _ hs b a d hz (by lia);have E:ig (bF 7) (eU (aa 1)) cy (EQ bk nd B b a (k:Int) (Q2 w) (pc (GC (steps (fH bk) (cL bk) f))) d)=_:=d7 (m:=.fr) M M;unfold bf at h;cases p:(b.find? λc=>!P (w++[c])) with
   |some c =>
    rw[p]at h;cases h;obtain⟨q,e⟩:=i1 c p;exact⟨q,xN (m:=.fr) M ((ag J).trans ((ag G).trans (fZ (E.trans e))))⟩
   |none =>
    rw[p]at h;obtain⟨S,e⟩:=Z p;obtain⟨q,Hh⟩:=X (a++b.map λc=>w++[c]) (k+1) F (Q2 w) (pc (GC (steps (fH bk) (cL bk) f))) S (λv s=>by
     rcases Zi.mp s with z | z
     ·exact C v z
     ·obtain⟨c,A,rfl⟩:=Hq.mp z;have:=XF.mp p c A;simpa using this) (by rw[Zw,Zt];lia) (by rw[List.drop_append_of_le_length (by exact Nat.succ_le_of_lt o)];exact h) (by exact Nat.lt_of_succ_lt_succ hF)
    refine⟨q,(lQ (m:=.fr) M ((ag J).trans ((ag G).trans ((ag (E.trans e)).trans ?_)))).trans Hh⟩;exact aS (m:=.fr) (t:=.int ((k+1:Nat):Int)) (e2v (x:=(.fr,.int (k:Int))) (y:=(.fr,.int 1)) M M M) (by decide) (by show 4<8;decide)
  ·rw[YV (by exact ZJ o)]at h;cases h
end
def Fb{f:List Tx}{w:Tx}:Pt f w ↔ ∃p,Hd f p/\w <:+ p:=by
 constructor
 ·rintro (rfl | ⟨t,d,a,b,rfl⟩)
  ·exact⟨[],.inl M,Ym _⟩
  ·exact⟨a++w,.inr ⟨_,d,⟨b,rfl⟩⟩,⟨a,rfl⟩⟩
 ·rintro⟨p,rfl | ⟨t,d,g⟩,e⟩
  ·exact .inl (Xw.mp e)
  ·exact .inr ⟨t,d,e.isInfix.trans g.isInfix⟩
def IK.pt{a:List Tx}(h:IK a){w:Tx}(hw:Pt a w):w.length<=eE a:=by
 rcases hw with rfl | ⟨t,b,hw⟩
 ·exact ZG _
 ·exact ZA hw.length_le (qc b)
def vP{a:List Tx}(h:IK a){P:Tx->Bool}(d:∀w,P w=L↔Pt a w){b:Tx}(j:Az b)(u:b.length<=26){x:Tx}{n:Nat}(y:n<500000)(o:bf P b n [[]]=Y x):cV [.lst (a.map .str),.str b]=Y (.fr,.str x):=by
 obtain⟨e,nd,v,H,l,e2,p,A,q⟩:=h.k;have t:∀w,P w=(nd w).isSome:=λw=>by
  rw[XG,d,Fb,← H.some,Yf]
 have g:num a nd []=0:=by unfold num;rw[H.i.z];exact q
 obtain⟨s,f⟩:=U8 H p t (λw hw=>by have:=h.pt ((d w).mp hw);have:=h.sum;lia) (.lst (a.map .str)) b j u n [[]] 0 vy O O O (λw hw=>by rw[Zk.mp hw,d];exact .inl M) (by show 1+26*n<16000000;lia) o (by show n<1000000;lia);have s1:aQ 2 (b6 fD (ab (aa 0) ak)) [pc (.lst (a.map .str)),Q2 b,O,O,O,O,O,O]=Y (.nx [pc (.lst (a.map .str)),Q2 b,pc (JX (tabOf a)),O,O,O,O,O]):=aS (m:=.fr) (dF (xv (r:=ak) (x:=(.pu,.lst (a.map .str))) M M) (Dj h)) (by decide) (by show 2<8;decide);refine iM (U:=s) M ((ag s1).trans ((ag (U1:=[pc (.lst (a.map .str)),Q2 b,pc (JX (tabOf a)),oc (.lst [.tup [.str [],.int 0]]),O,O,O,O]) M).trans ((ag (U1:=[pc (.lst (a.map .str)),Q2 b,pc (JX (tabOf a)),oc (.lst [.tup [.str [],.int 0]]),Q0 0,O,O,O]) M).trans ?_)));have:EQ a nd (.lst (a.map .str)) b [[]] ((0:Nat):Int) O O O=[pc (.lst (a.map .str)),Q2 b,pc (JX (tabOf a)),oc (.lst [.tup [.str [],.int 0]]),Q0 0,O,O,O]:=by
  show [pc (.lst (a.map .str)),Q2 b,pc (JX (tabOf a)),oc (.lst [.tup [.str [],.int (num a nd []:Int)]]),Q0 0,O,O,O]=_;rw[g];rfl
 rw[← this];exact f
noncomputable def parts(a:List Tx):List Tx:=[] :: a.flatMap λt=>(List.range (t.length+1)).flatMap λs=>(List.range (t.length+1)).map λk=>(t.drop s).take k
def vR{d:List Tx}{w:Tx}(h:Pt d w):w∈parts d:=by
 rcases h with rfl | ⟨t,e,a,b,rfl⟩
 ·exact Zu
 ·refine Zv _ (Vc.mpr ⟨_,e,Vc.mpr ⟨a.length,Yc.mpr (by rw[Zw,Zw];lia),Hq.mpr ⟨w.length,Yc.mpr (by rw[Zw,Zw];lia),?_⟩⟩⟩);rw[Zd,List.drop_left,WE]
theorem qo{α β:Type}(f:α->List β)(k:Nat):∀l:List α,(∀a∈l,(f a).length<=k)->(l.flatMap f).length<=l.length*k
 |[],_=>ZG _
 |a :: l,h=>by
  have e:=qo f k l λb hb=>h b (Zv _ hb);have d:=h a Zu;rw[Vi,Zw,Zg,Vq];lia
theorem IK.parts{a:List Tx}(h:IK a):(parts a).length<=207369:=by
 unfold T38.parts;rw[Zg];have:=qo (λt:Tx=>(List.range (t.length+1)).flatMap λs=>(List.range (t.length+1)).map λk=>(t.drop s).take k) 25921 a λt d=>by
  have b:=h.len t d;have:=qo (λs=>(List.range (t.length+1)).map λk=>(t.drop s).take k) 161 (List.range (t.length+1)) λs _=>by rw[Zt,ZF];exact Y6 b
  rw[ZF]at this;have:(t.length+1)*161<=161*161:=WG _ (by exact Y6 b);lia
 have:a.length*25921<=8*25921:=WG _ h.Ho;lia
def Ek(t:Tx)(l:List Tx):eE (t :: l)=t.length+eE l:=by unfold eE;rw[Ze,XH]
end T38
end
section
namespace T38
open VS
noncomputable def ws(a:Tx):Nat->List Tx
 |0=>[[]]
 |n+1=>ext a (ws a n)
theorem pN(a:Tx):∀n,(ws a n).length=a.length ^ n
 |0=>rfl
 |n+1=>by
  show (ext a (ws a n)).length=_;rw[o7,pN a n,Nat.pow_succ,Vo]
theorem B9{a:Tx}(b:a.Nodup):∀n,(ws a n).Nodup
 |0=>ZZ.mpr ⟨(λz=>nomatch z),Iv⟩
 |n+1=>kT b (B9 b n)
theorem iU{b:Tx}:∀{n:Nat}{w:Tx},w∈ws b n↔w.length=n/\∀c∈w,c∈b
 |0,w=>by
  constructor
  ·intro h;cases Zk.mp h;exact⟨rfl,λc h=>nomatch h⟩
  ·intro h;rw[XE.mp h.1];exact Zk.mpr M
 |n+1,w=>by
  show w∈ext b (ws b n)↔_;rw[ext_mem];constructor
  ·rintro⟨v,j,c,g,rfl⟩;obtain⟨a,f⟩:=iU.mp j;refine⟨by rw[Zw,a];rfl,λd hd=>?_⟩;rcases Zi.mp hd with z | z
   ·exact f d z
   ·rw[Zk.mp z];exact g
  ·rintro⟨a,f⟩;have i:w≠[]:=λe=>by rw[e]at a;cases a
   refine⟨w.dropLast,iU.mpr ⟨by rw[List.length_dropLast,a];rfl,λc g=>f c (List.dropLast_subset _ g)⟩,w.getLast i,f _ (List.getLast_mem i),(List.dropLast_concat_getLast i).symm⟩
noncomputable def At(P:Tx->Bool)(a:Tx)(x:Tx):Prop:=∃n A B,ws a (n+1)=A++x :: B/\(∀w∈A,P w=L)/\∀k,k<=n->∀w∈ws a k,P w=L
def tP{f:Tx}{p:Nat->Bool}{c:Nat}:f.find? p=Y c->∃a b,f=a++c :: b/\∀d∈a,p d=B:=by
 induction f with
 |nil=>intro h;cases h
 |cons d f i =>
  intro h;rw[Yv]at h;cases hd:p d with
  |true =>
   rw[hd]at h;cases h;exact⟨[],f,rfl,λd h=>nomatch h⟩
  |false =>
   rw[hd]at h;obtain⟨a,b,e,q⟩:=i h;refine⟨d :: a,b,by rw[e];rfl,λx g=>?_⟩;rcases Zh.mp g with rfl | g
   ·exact hd
   ·exact q x g
def EI{P:Tx->Bool}{f x:Tx}(s:0<f.length):∀(N n:Nat)(d r:List Tx),ws f n=d++r->(∀k,k<=n->∀w∈ws f k,P w=L)->(∀w∈ext f d,P w=L)->bf P f N (r++ext f d)=Y x->At P f x:=by
 intro N
 induction N with
 |zero=>intro n d r _ _ _ h;cases h
 |succ N p =>
  have step:∀(n:Nat)(d:List Tx)(w:Tx)(r:List Tx),ws f n=d++w :: r->(∀k,k<=n->∀w∈ws f k,P w=L)->(∀w∈ext f d,P w=L)->bf P f (N+1) ((w :: r)++ext f d)=Y x->At P f x:=by
   intro n d w r e i hd h;rw[Xm]at h;unfold bf at h;split at h
   ·rename_i c j;cases h;obtain⟨a,b,e1,l⟩:=tP j;refine⟨n,ext f d++a.map λc=>w++[c],(b.map λc=>w++[c])++ext f r,?_,λv g=>?_,i⟩
    ·show ext f (ws f n)=_;rw[e];unfold ext;rw[W5,Vi]
     conv=>lhs;arg 2;arg 1;rw[e1]
     rw[Yx,Ze];simp only[Zd,Xm]
    ·rcases Zi.mp g with z | z
     ·exact hd v z
     ·obtain⟨u,A,rfl⟩:=Hq.mp z;simpa using l u A
   ·rename_i t;have e2:ext f (d++[w])=ext f d++f.map λc=>w++[c]:=by
     unfold ext;rw[W5,Vi,List.flatMap_nil,ZK]
    refine p n (d++[w]) r (by rw[e,Zd];rfl) i (λv g=>?_) (by rw[e2,← Zd];exact h);rw[e2]at g;rcases Zi.mp g with z | z
    ·exact hd v z
    ·obtain⟨c,j,rfl⟩:=Hq.mp z;have:=XF.mp t c j;simpa using this
  intro n d r e i hd h;cases r with
  |cons w r=>exact step n d w r e i hd h
  |nil =>
   rw[ZK]at e;rw[YY,← e]at h;rw[← e]at hd;have y:∀k,k<=n+1->∀w∈ws f k,P w=L:=λk l w hw=>by
    rcases Wh k (n+1) with q | q
    ·exact i k (by exact Wa q) w hw
    ·rw[show k=n+1 by exact Wp l q]at hw;exact hd w hw
   have o:0<(ws f (n+1)).length:=by rw[pN];exact Nat.pow_pos s
   cases m:ws f (n+1) with
   |nil=>rw[m]at o;cases o
   |cons w r =>
    refine step (n+1) [] w r m y (λv g=>nomatch g) ?_;rw[← m];show bf P f (N+1) (ws f (n+1)++[])=_;rw[ZK];exact h
def FH{P:Tx->Bool}{a x:Tx}(b:0<a.length){N:Nat}(e:P []=L)(h:bf P a N [[]]=Y x):At P a x :=
 EI b N 0 [] [[]] M (λk d w hw=>by rw[Nat.le_zero.mp d]at hw;rw[Zk.mp hw];exact e) (λw hw=>nomatch hw) h
def At.long{P:Tx->Bool}{a x:Tx}(h:At P a x):(∀c∈x,c∈a)/\0<x.length/\∀w:Tx,w.length<x.length->(∀c∈w,c∈a)->P w=L:=by
 obtain⟨n,A,B,e,_,d⟩:=h;have b:x∈ws a (n+1):=by rw[e];exact ZL _ Zu
 obtain⟨i,g⟩:=iU.mp b;exact⟨g,by lia,λw hw f=>d w.length (by lia) w (iU.mpr ⟨rfl,f⟩)⟩
def Bj{α:Type}[DecidableEq α]{l r:List α}(d:l.Nodup)(b:r.Nodup)(h:∀x,x∈l↔x∈r):l.length=r.length:=Wp (AU.sub_len l r d λx a=>(h x).mp a) (AU.sub_len r l b λx a=>(h x).mpr a)
def CS{α:Type}[DecidableEq α]{l r:List α}(b:l.Nodup)(h:∀x∈l,x∈r){y:α}(e:y∈r)(d:y∉l):l.length<r.length:=by
 have:=AU.sub_len (y :: l) r (ZZ.mpr ⟨d,b⟩) λx a=>by
  rcases Zh.mp a with rfl | a
  ·exact e
  ·exact h x a
 rw[Zg]at this;exact Nat.lt_of_succ_le this
end T38
end
section
namespace T38
open VS AU
def uR{d e:Nat}{b:Sx}{a:V1}{v:Val}(f:a.length=d)(h:∃U,b (a.map (λt=>Y (.pu t))++List.replicate (e-d) O)=Y (.rt v U)):fn d e b a=Y v:=by
 obtain⟨U,h⟩:=h;exact iM f h
def dB{a b:Sx}{U U1:Env}{v:Val}(h:a U=Y (.nx U1))(q:∃z,b U1=Y (.rt v z)):∃z,aq a b U=Y (.rt v z):=by
 obtain⟨z,q⟩:=q;exact⟨z,sq h q⟩
noncomputable def K7(L:Nat)(t:Tx):List Tx:=(List.range (t.length+1-L)).map λi=>(t.drop i).take L
def vt{L:Nat}(e:0<L){t w:Tx}:w∈K7 L t↔w.length=L/\w <:+: t:=by
 constructor
 ·intro h;obtain⟨i,d,rfl⟩:=Hq.mp h;have:=Yc.mp d;exact⟨by rw[IH,Yz];omega,(List.take_prefix _ _).isInfix.trans (List.drop_suffix _ _).isInfix⟩
 ·rintro⟨h,a,b,rfl⟩;refine Hq.mpr ⟨a.length,Yc.mpr (by rw[Zw,Zw];omega),?_⟩;rw[Zd,List.drop_left,← h,WE]
def AR(t:Tx)(i L:Nat)(h:i<=t.length):cut t (Y (i:Int)) (Y ((i:Int)+(L:Int)))=(t.drop i).take L:=by
 have b:¬((i:Int)<0):=by lia
 have a:¬((i:Int)+(L:Int)<0):=by lia
 simp only[cut,clip,Zm b,Zm a,Y2];rw[show ((i:Int)+(L:Int)).toNat=i+L by lia,YH h];by_cases q:i+L<=t.length
 ·rw[YH q,show i+L-i=L by exact Y0 _ _]
 ·rw[WW (by exact XR q),Yu (l:=t.drop i) (by simp),Yu (l:=t.drop i) (by simp;lia)]
def CW{i:Nat}{e:Ex}{U:Env}{l r:List Tx}(b:U[i]?=Y (Y (.ow (.lst (l.map .str)))))(a:e U=Y (.fr,.lst (r.map .str)))(d:l.length+r.length<=16777216):sX (kH i [] fj (ab e ak)) U=Y (.nx (U.set i (Y (.ow (.lst ((l++r).map .str)))))):=by
 have ex:=tY (l:=l.map T.str) (r:=r.map T.str) (by rw[Zt,Zt];omega);simp only[sX,kH,b,keys,Zs,xv (r:=ak) a M,yf,ex,Option.map_some,Yx]
noncomputable abbrev EP(a:List Tx)(L:Nat)(f z:Vf):Env:=[pc (.lst (a.map .str)),Q0 (L:Int),f,z]
def El{a:List Tx}(h:IK a)(L:Nat)(F:L<=1000):∃ps:List Tx,g9 [.lst (a.map .str),.int (L:Int)]=Y (.fr,.lst (ps.map .str))/\ps.Nodup/\ps.length<=1000/\∀w,w∈ps↔w.length=L/\Pt a w:=by
 by_cases n:L=0
 ·subst n;refine⟨[[]],iM M (fZ (QN (m:=.fr) M M)),ZZ.mpr ⟨(λz=>nomatch z),Iv⟩,by decide,λw=>?_⟩;rw[Zk,XE];exact⟨λe=>⟨e,.inl e⟩,λe=>e.1⟩
 ·have u:0<L:=by exact II n
  obtain⟨G,f1,f,⟨z,rfl⟩,p,o⟩:=gR (tg:=bF 3) (body:=jr) T.str (λr U=>∃f:List Tx,(∃z,U=EP a L (oc (.lst (f.map .str))) z)/\f.length+eE r+r.length<=168/\∀w,(w∈f\/∃t∈r,w∈K7 L t) ↔ ∃t∈a,w∈K7 L t) (by
   rintro t r _ ⟨f,⟨z,rfl⟩,p,o⟩;rw[Ek,Zg]at p;have pl:(K7 L t).length<=t.length+1:=by unfold K7;rw[Zt,ZF];exact Xu _ _
   refine⟨EP a L (oc (.lst (f.map .str))) (Q2 t),_,rfl,CW (i:=2) (l:=f) (r:=K7 L t) M ?_ (by lia),f++K7 L t,⟨Q2 t,rfl⟩,by rw[Zw];lia,λw=>?_⟩
   ·rw[show (K7 L t).map T.str=(List.range (t.length+1-L)).map λe=>T.str ((t.drop e).take L) from by unfold K7;rw[Yq];rfl];refine gH (m:=.fr) (λ(e:Nat)=>T.int (e:Int)) (λe=>T.str ((t.drop e).take L)) (List.range (t.length+1-L)) ?_ M (by rw[ZF];omega) λe D=>⟨_,rfl,?_⟩
    ·rw[fC (m:=.fr) (j:=(t.length:Int)-(L:Int)+1) M (by lia),show ((t.length:Int)-(L:Int)+1).toNat=t.length+1-L by lia,iZ]
    ·have:=Yc.mp D;rw[← AR t e L (by omega)];rfl
   ·rw[← o w,Zi];constructor
    ·rintro ((q | q) | ⟨v,b,q⟩)
     ·exact .inl q
     ·exact .inr ⟨t,Zu,q⟩
     ·exact .inr ⟨v,Zv _ b,q⟩
    ·rintro (q | ⟨v,b,q⟩)
     ·exact .inl (.inl q)
     ·rcases Zh.mp b with rfl | b
      ·exact .inl (.inr q)
      ·exact .inr ⟨v,b,q⟩) a (EP a L (oc (.lst [])) O) ⟨[],⟨O,rfl⟩,by have:=h.sum;have:=h.Ho;show 0+eE a+a.length<=168;lia,λw=>⟨λq=>q.elim (λz=>nomatch z) id,.inr⟩⟩
  have E:f.length<=168:=by have:f.length+0+0<=168:=p;omega
  have st:strs? (f.map T.str)=Y f:=by
   have:=strs_map (λx:Tx=>x) f
   rwa [List.map_id']at this
  have nd:(cK (dedup f)).Nodup:=(eD _).nodup_iff.mpr (iW f);have s:∀w,w∈cK (dedup f)↔w∈f:=λw=>(eD _).mem_iff.trans (gI f w);refine⟨cK (dedup f),?_,nd,ZA (AU.sub_len _ f nd λx C=>(s x).mp C) (by lia),λw=>?_⟩
  ·refine uR M (dB (pX (m:=.fr) (e2v (x:=(.fr,.int (L:Int))) (y:=(.fr,.int 0)) M M (mP (r:=B) M M (by simp only[eqT];exact beq_false_of_ne (by lia)))) M) (dB (U1:=EP a L (oc (.lst [])) O) M (dB ((d7 (m:=.pu) M M).trans f1) (dB (U1:=EP a L (pc (.lst (f.map .str))) z) M ⟨_,eR (jM (xv (r:=ak) (x:=(.pu,.lst (f.map .str))) M M) ?_)⟩))));show (strs? (f.map T.str)).bind _=_;rw[st];exact Zo (by lia)
  ·rw[s w,show (w∈f)=(w∈f\/∃t∈([]:List Tx),w∈K7 L t) from propext ⟨.inl,λq=>q.elim id λ⟨_,z,_⟩=>nomatch z⟩,o w];constructor
   ·rintro⟨t,g,q⟩;obtain⟨A,d⟩:=(vt u).mp q;exact⟨A,.inr ⟨t,g,d⟩⟩
   ·rintro⟨q,rfl | ⟨t,g,d⟩⟩
    ·exact absurd q.symm n
    ·exact⟨t,g,(vt u).mpr ⟨q,d⟩⟩
open Classical in
def Gf{a:List Tx}(h:IK a){b:Tx}(l:0<b.length)(p:b.length<=26)(m:b.Nodup)(i:Az b):∃x,cV [.lst (a.map .str),.str b]=Y (.fr,.str x)/\¬Pt a x/\x.length<=eE a+1/\Az x/\At (λw=>decide (Pt a w)) b x:=by
 have f:∀w,decide (Pt a w)=L↔Pt a w:=λw=>decide_eq_true_iff;obtain⟨x,g⟩:=Bo l m (parts a) (P:=λw=>decide (Pt a w)) (λw hw=>vR ((f w).mp hw)) ((f []).mpr (.inl M));have hlen:=h.parts;obtain⟨o,w,c,n,q,e⟩:=EG _ _ (λw hw=>by rw[Zk.mp hw];exact(f []).mpr (.inl M)) g;have hw:=(f w).mp n;have j:=FH l ((f []).mpr (.inl M)) g;exact⟨x,vP h f i p (by lia) g,of_decide_eq_false o,by have:=h.pt hw;rw[e,Zw,JV];exact Y6 this,λd hd=>i d (j.long.1 d hd),j⟩
structure Lk(bk:List Tx)(ls x:Tx):Prop where
 ok:cV [.lst (bk.map .str),.str ls]=some (.fr,.str x)
 no:¬Pt bk x
 le:x.length<=eE bk+1
 at':∃n A B,ws ls (n+1)=A++x :: B/\(∀w∈A,Pt bk w)/\∀k,k<=n->∀w∈ws ls k,Pt bk w
 az:Az x
open Classical in
def yr{b:List Tx}(h:IK b){a:Tx}(q:0<a.length)(r:a.length<=26)(i:a.Nodup)(g:Az a):∃x,Lk b a x:=by
 obtain⟨x,p,o,m,l,n,A,B,e,f,d⟩:=Gf h q r i g;exact⟨x,p,o,m,⟨n,A,B,e,λw hw=>of_decide_eq_true (f w hw),λk j w hw=>of_decide_eq_true (d k j w hw)⟩,l⟩
def Lk.mem{d:List Tx}{a x:Tx}(h:Lk d a x):x∈ws a x.length/\0<x.length/\∀k,k<x.length->∀w∈ws a k,Pt d w:=by
 obtain⟨n,A,B,e,_,f⟩:=h.at';have b:x∈ws a (n+1):=by rw[e];exact ZL _ Zu
 have:=(iU.mp b).1;exact⟨this ▸ b,by lia,λk g=>f k (by lia)⟩
def Lk.mono{e g:List Tx}{b f x a:Tx}(h:Lk e b x)(d:Lk g f a)(i:∀c∈f,c∈b)(l:∀w,Pt e w->Pt g w):x.length<=a.length:=by
 refine ZJ λq=>d.no (l _ (h.mem.2.2 _ q _ (iU.mpr ⟨rfl,λc j=>i c ((iU.mp d.mem.1).2 c j)⟩)))
def Lk.full{b:List Tx}{a x:Tx}(h:Lk b a x):dW [.lst (b.map .str),.str a]=Y (.fr,.int ((x.length:Int)-1)) :=
 iM M (eR (e2v (jM (xv (r:=ak) (dF (xv (x:=(.pu,.lst (b.map .str))) M (xv (r:=ak) (x:=(.fr,.str a)) M M)) h.ok) M) M) (y:=(.fr,.int 1)) M M))
noncomputable abbrev EC(a:List Tx)(ls:Tx)(L:Nat)(n:Nat)(z:Vf):Env:=[pc (.lst (a.map .str)),Q2 ls,Q0 (L:Int),Q0 (n:Int),z]
noncomputable def ov(a w:Tx):Bool:=w.all λc=>decide (c∈a)
def sj{a w:Tx}:ov a w=L ↔ ∀c∈w,c∈a:=by
 unfold ov;rw[YL];exact forall_congr' λc=>forall_congr' λ_=>decide_eq_true_iff
def CQ(x y:Tx):PySem.Txt.contains (sx y) (sx x)=L↔x <:+: y:=by
 refine(PySem.StrLaws.found_iff (sx y) (sx x)).trans ⟨λ⟨i,h,d⟩=>?_,λ⟨a,b,e⟩=>⟨a.length,?_,?_⟩⟩
 ·rw[PySem.StrLaws.subAt_eq]at d;have:(y.drop i).take x.length=x:=by simpa[sx,PySem.Str.length] using d
  rw[← this];exact((List.take_prefix _ _).isInfix).trans (List.drop_suffix _ _).isInfix
 ·show a.length+x.length<=y.length;rw[← e,Zw,Zw];exact ZI _ _
 ·rw[PySem.StrLaws.subAt_eq];have:(y.drop a.length).take x.length=x:=by rw[← e,Zd,List.drop_left,WE]
  simpa[sx,PySem.Str.length] using this
def in1(c:Nat)(d:Tx):PySem.Txt.contains (sx d) (sx [c])=decide (c∈d):=by
 rw[XG,CQ,decide_eq_true_iff];exact⟨λh=>h.subset Zu,λh=>let ⟨a,b,e⟩:=List.append_of_mem h;⟨a,b,by rw[e,Zd];rfl⟩⟩
def D8{U:Env}{i j:Nat}{w ls:Tx}(h:U[i]?=Y (Q2 w))(g:U[j]?=Y (Q2 ls))(hw:w.length<=16777216):e2 oEq (cY 1 (bF 0) (eU (aa i)) (Y (e2 nI (aa 0) (aa (j+1)))) (aa 0)) (eX ak) U=Y (.fr,.bl (ov ls w)):=by
 have e1:eU (aa i) U=Y (.fr,w.map s1):=by unfold eU aa;rw[h];rfl
 have l:cY 1 (bF 0) (eU (aa i)) (Y (e2 nI (aa 0) (aa (j+1)))) (aa 0) U=Y (.fr,.lst ((w.filter λc=>!decide (c∈ls)).map s1)) :=
  kz (m:=.fr) s1 (λc=>!decide (c∈ls)) s1 w e1 M hw λc b=>⟨pc (s1 c) :: U,(.fr,.bl (!decide (c∈ls))),rfl,e2v (x:=(.fr,s1 c)) (y:=(.fr,.str ls)) M (by unfold aa;rw[WV,g];rfl) (by rw[← in1];rfl),rfl,λ_=>rfl⟩
 refine e2v (y:=(.fr,.lst [])) l M (mP ?_ M ?_)
 ·show (List.all _ (HJ 59))=L;rw[List.all_map];exact YL.mpr λ_ _=>rfl
 ·cases a:w.filter λc=>!decide (c∈ls) with
  |nil =>
   rw[sj.mpr λc b=>?_]
   ·rfl
   ·have:=List.filter_eq_nil_iff.mp a c b;simpa using this
  |cons c r =>
   have:c∈w.filter λc=>!decide (c∈ls):=by rw[a];exact Zu
   obtain⟨e,d⟩:=YO.mp this;cases f:ov ls w with
   |false=>rfl
   |true =>
    have:=sj.mp f c e;simp[this]at d
def uB{d:List Tx}(h:IK d)(ls:Tx)(L:Nat)(C:L<=1000):∃ps:List Tx,cQ [.lst (d.map .str),.str ls,.int (L:Int)]=Y (.fr,.int (ps.length:Int))/\ps.Nodup/\∀w,w∈ps↔w∈ws ls L/\Pt d w:=by
 obtain⟨q,e,nd,D,s⟩:=El h L C;have y:∀(r:List Tx)(n:Nat)(z:Vf),n+r.length<=1000->(∀w∈r,w.length<=1000)->∃g,forL (bF 4) iJ (r.map .str) (EC d ls L n z)=Y (.nx (EC d ls L (n+(r.filter (ov ls)).length) g)):=by
  intro r
  induction r with
  |nil=>exact λn z _ _=>⟨z,rfl⟩
  |cons w r u =>
   intro n z A hw;rw[Zg]at A;have tt:=D8 (U:=EC d ls L n (Q2 w)) (i:=4) (j:=1) (w:=w) (ls:=ls) M M (by have:=hw w Zu;lia);cases l:ov ls w with
   |true =>
    rw[l]at tt;obtain⟨g,p⟩:=u (n+1) (Q2 w) (by lia) λv o=>hw v (Zv _ o);refine⟨g,(fR M (QN tt (aS (t:=.int ((n+1:Nat):Int)) (m:=.fr) M (by decide) (by show 3<5;decide)))).trans (p.trans ?_)⟩;rw[List.filter_cons_of_pos l,Zg,show n+1+(r.filter (ov ls)).length=n+((r.filter (ov ls)).length+1) from by lia]
   |false =>
    rw[l]at tt;obtain⟨g,p⟩:=u n (Q2 w) (by lia) λv o=>hw v (Zv _ o);refine⟨g,(fR M (pX tt M)).trans (p.trans ?_)⟩;rw[List.filter_cons_of_neg (by rw[l];decide)]
 obtain⟨z,f⟩:=y q 0 O (by lia) λw hw=>by have:=((s w).mp hw).1;lia
 rw[XS]at f;refine⟨q.filter (ov ls),uR M (dB (U1:=EC d ls L 0 O) M (dB ((d7 (m:=.fr) (qM (dF (xv (x:=(.pu,.lst (d.map .str))) M (xv (r:=ak) (x:=(.fr,.int (L:Int))) M M)) e)) M).trans f) ⟨_,rfl⟩)),nd.filter _,λw=>?_⟩;rw[YO,s w,sj,iU];exact⟨λ⟨⟨a,b⟩,c⟩=>⟨⟨a,c⟩,b⟩,λ⟨⟨a,c⟩,b⟩=>⟨⟨a,b⟩,c⟩⟩
end T38
end
section
namespace T38
open VS AU
def Lk.L7{b:List Tx}{a x:Tx}(h:Lk b a x):dW [.lst (b.map .str),.str a]=Y (.fr,.int ((x.length-1:Nat):Int)):=by
 rw[h.full,show (x.length:Int)-1=((x.length-1:Nat):Int) by have:=h.mem.2.1;lia]
noncomputable abbrev ER(b:List Tx)(a:Tx)(g:Nat)(s:Nat)(z:Vf):Env:=[pc (.lst (b.map .str)),Q2 a,Q0 (g:Int),Q0 (s:Int),z]
def lt_int{a b:Ex}{U:Env}{m n:Md}{i j:Int}(e:a U=Y (m,.int i))(d:b U=Y (n,.int j)):e2 oLt a b U=Y (.fr,.bl (decide (i<j))):=e2v e d M
def ne_int{a b:Ex}{U:Env}{m n:Md}{i j:Int}(e:a U=Y (m,.int i))(d:b U=Y (n,.int j))(h:i=j):e2 K8 a b U=Y (.fr,.bl B):=e2v e d (Cb (r:=L) M M (by rw[h];simp only[eqT,beq_self_eq_true]))
def zR{d:List Tx}(f:IK d){b x:Tx}(Kb:b.length<=26)(F:b.Nodup)(h:Lk d b x):fU [.lst (d.map .str),.str b]=Y (.fr,.bl L):=by
 obtain⟨p,Z,G⟩:=h.mem;have hle:=h.le;have X:=f.sum;generalize hg:x.length-1=g;have H:x.length=g+1:=by lia
 have u:=h.L7;rw[hg]at u;have cl:∀{U:Env},aa 0 U=Y (.pu,.lst (d.map .str))->aa 1 U=Y (.fr,.str b)->b6 cV (ab (aa 0) (ab (aa 1) ak)) U=Y (.fr,.str x):=λe1 e2=>dF (xv e1 (xv (r:=ak) e2 M)) h.ok;obtain⟨U',f1,s,z,rfl,fs⟩:=gR (tg:=bF 4) (body:=i5) (λ(k:Nat)=>T.int (k:Int)) (λr U=>∃(s:Nat)(z:Vf),U=ER d b g s z/\s*b.length ^ r.length=b.length ^ g) (by
  rintro k r _ ⟨s,z,rfl,e⟩;refine⟨ER d b g s (Q0 (k:Int)),ER d b g (s*b.length) (Q0 (k:Int)),rfl,?_,s*b.length,Q0 (k:Int),rfl,by rw[← e,Zg,Nat.pow_succ,Nat.mul_assoc,Vo b.length]⟩;refine aS (m:=.fr) (t:=.int ((s*b.length:Nat):Int)) (e2v (x:=(.fr,.int (s:Int))) (y:=(.fr,.int (b.length:Int))) M M ?_) (by decide) (by show 3<5;decide);rw[mul_r (by lia),Int.natCast_mul]) (List.range g) (ER d b g 1 O) ⟨1,O,rfl,by rw[ZF,Nat.one_mul]⟩
 rw[WN,Nat.pow_zero,Nat.mul_one]at fs;obtain⟨D,Q,S,E⟩:=uB f b g (by lia);obtain⟨C,P,R,o⟩:=uB f b (g+1) (by lia);have e1:D.length=s:=by
  rw[fs,← pN];exact Bj S (B9 F g) λw=>(E w).trans ⟨λq=>q.1,λq=>⟨q,G g (by lia) w q⟩⟩
 have Hh:C.length<s*b.length:=by
  rw[fs,← Nat.pow_succ,← pN];rw[H]at p;exact CS R (λw hw=>((o w).mp hw).1) p λq=>h.no ((o x).mp q).2
 have A:∀{n:Nat}{a:Ex}{U:Env}{v:T},aa 0 U=Y (.pu,.lst (d.map .str))->aa 1 U=Y (.fr,.str b)->a U=Y (.fr,.int (n:Int))->cQ [.lst (d.map .str),.str b,.int (n:Int)]=Y (.fr,v)->b6 cQ (ab (aa 0) (ab (aa 1) (ab a ak))) U=Y (.fr,v):=λe1 e2 N J=>dF (xv e1 (xv e2 (xv (r:=ak) N M))) J;refine uR M (dB (aS (m:=.fr) (dF (xv (x:=(.pu,.lst (d.map .str))) M (xv (r:=ak) (x:=(.fr,.str b)) M M)) u) (by decide) (by show 2<5;decide)) (dB (pX (m:=.fr) (Sq (m:=.fr) (n:=.fr) (x:=B) (y:=B) M (Sq (m:=.fr) (n:=.fr) (x:=B) (y:=B) M ((lt_int (m:=.fr) (n:=.fr) (i:=(g:Int)) (j:=0) M M).trans (by rw[ZR (by lia)])))) M) (dB (pX (m:=.fr) (ne_int (m:=.fr) (n:=.fr) (i:=(g:Int)) (j:=(x.length:Int)-1) M (e2v (jM (xv (r:=ak) (cl M M) M) M) (y:=(.fr,.int 1)) M M) (by lia)) M) (dB (U1:=ER d b g 1 O) M (dB ((d7 (m:=.fr) (l:=(List.range g).map λ(k:Nat)=>T.int (k:Int)) ?_ M).trans f1) (dB (pX (m:=.fr) (ne_int (m:=.fr) (n:=.fr) (A M M M Q) M (by lia)) M) ⟨_,eR ((lt_int (A M M (n:=g+1) M P) (e2v (x:=(.fr,.int (s:Int))) (y:=(.fr,.int (b.length:Int))) M M (mul_r (by lia)))).trans ?_)⟩))))))
 ·rw[fC (m:=.fr) (j:=(g:Int)) M (by lia),iZ];rfl
 ·rw[decide_eq_true];rw[← Int.natCast_mul];lia
def wW{α:Type}(l:List α)(k:Nat)(h:k<=l.length):cut l (Y (k:Int)) O=l.drop k:=by
 have a:clip l.length (k:Int)=k:=by
  unfold clip;rw[Zm (by lia),Y2,YH h]
 show (l.drop (clip l.length (k:Int))).take (l.length-clip l.length (k:Int))=_;rw[a];exact Yu (by rw[Yz];exact Zp _)
def Eg{a b:Ex}{U:Env}{m n:Md}{t:Tx}{k:Nat}(e:a U=Y (m,.str t))(d:b U=Y (n,.int (k:Int))):KI a O (Y b) U=Y (.fr,.str (t.take k)):=by
 unfold KI rG;dsimp only;rw[e,d];show Y (Md.fr,T.str (cut t O (Y (k:Int))))=_;rw[sU]
def Ae{a b:Ex}{U:Env}{m n:Md}{t:Tx}{k:Nat}(e:a U=Y (m,.str t))(d:b U=Y (n,.int (k:Int)))(h:k<=t.length):KI a (Y b) O U=Y (.fr,.str (t.drop k)):=by
 unfold KI rG;dsimp only;rw[e,d];show Y (Md.fr,T.str (cut t (Y (k:Int)) O))=_;rw[wW t k h]
def Fm{c:Ex}{x:Xx}{U U1:Env}{m:Md}{a:List Tx}{t:Tx}(f:c U=Y (m,.lst (a.map .str)))(d:m ≠ .bo)(e:x U=Y ((.fr,.str t),U1))(g:a.length<1000):uD c (tf x) U=Y ((.fr,.lst ((a++[t]).map .str)),U1):=by
 have b:tf x U=Y ([.str t],U1):=by unfold tf;rw[e];rfl
 unfold uD;rw[f,Zs,Yx];cases m with
 |bo=>exact absurd M d
 |fr =>
  show (tf x U).bind _=_;rw[b];exact Zo ⟨jT T.str (λ_=>rfl) a,by rw[Zt];show a.length+1<=16777216;lia⟩
 |pu =>
  show (tf x U).bind _=_;rw[b];exact Zo ⟨jT T.str (λ_=>rfl) a,by rw[Zt];show a.length+1<=16777216;lia⟩
def BX{U:Env}{a:Ex}{m:Md}{b:List Tx}(f:a U=Y (m,.lst (b.map .str)))(e:Ph m (b.map T.str)=L)(g:b.length<=1000):eN yw (ab (cY 1 (bF 0) (eU a) O (eN cA (ab (aa 0) ak))) ak) U=Y (.fr,.int (eE b:Int)):=by
 refine jM (xv (r:=ak) (gH (m:=m) T.str (λt=>T.int (t.length:Int)) b (qM f) e (by lia) λt _=>⟨_,rfl,rfl⟩) M) ?_;show (mF _).bind _=_;rw[ints_map (λt:Tx=>(t.length:Int))];show Y (Md.fr,T.int (b.map λt=>(t.length:Int)).sum)=_;have:∀l:List Tx,(l.map λt=>(t.length:Int)).sum=(eE l:Int):=λl=>by
  induction l with
  |nil=>rfl
  |cons t l d=>rw[Ze,XH,d,Ek,Int.natCast_add]
 rw[this]
noncomputable abbrev EW(g:Vr)(S:T)(L:Tx)(h:List Tx)(n:Int)(f e d b a:Vf):Env:=[pc (.scr g),pc S,Q2 L,pc (.lst (h.map .str)),oc (.lst [.int n]),f,e,d,b,a]
def AY{ns:Vr}{S:T}{L:Tx}{f:List Tx}(h:IK f)(hs:eE f<=120)(J:0<L.length/\L.length<=26/\Az L)(n:Int)(o F A u p:Vf):∃n' y6 y7 y8 y9,ko (EW ns S L f n o F A u p)=Y (.nx (EW ns S L f n' o y6 y7 y8 y9)):=by
 obtain⟨G,g,e1,Z,P,H,R⟩:=vJ J n;obtain⟨x,lk⟩:=yr h Z P H R;have a1:cp 6 (aL [(.io 4 B),(.px (xI (aa 2)))] dh) (EW ns S L f n o F A u p)=Y (.nx (EW ns S L f G o (Q2 g) A u p)) :=
  dA (cx (i:=4) (un:=B) (k:=0) (r:=[.px (xI (aa 2))]) (l:=[.str L]) (U1:=EW ns S L f n o F A u p) M (nJ (t:=.str L) (bW (m:=.fr) M M) M M) M M M M e1) M (by show 6<10;decide)
 obtain⟨d,C,d0,d1,Hh⟩:=nx (m:=(g.length:Int)) (x:=xI (eN cA (ab (aa 6) ak))) (i:=4) (un:=B) (n:=G) (U:=EW ns S L f G o (Q2 g) A u p) (U1:=EW ns S L f G o (Q2 g) A u p) (by lia) M (bW (m:=.fr) M M) M;obtain⟨k,rfl⟩:∃k:Nat,d=(k:Int):=⟨d.toNat,by lia⟩
 have sub:(g.take k++g.drop (k+1)).Sublist g:=by
  conv=>rhs;rw[← YR k g]
  refine W8 (XY _) ?_;rw[← WD (i:=1) (j:=k)];exact List.drop_sublist _ _
 have fe:e2 ba (KI (aa 6) O (Y (aa 7))) (KI (aa 6) (Y (e2 ba (aa 7) (Q3 1))) O) (EW ns S L f C o (Q2 g) (Q0 (k:Int)) u p)=Y (.fr,.str (g.take k++g.drop (k+1))) :=
  zh (Eg (m:=.fr) (n:=.fr) M M) (Ae (m:=.fr) (n:=.fr) (k:=k+1) M M (by lia)) (by have:=sub.length_le;rw[Zw]at this;lia)
 generalize g.take k++g.drop (k+1)=s at sub fe;have N:∀{U:Env}{g x:Tx}{a b:Ex}{f:List Tx},Lk f g x->a U=Y (.pu,.lst (f.map .str))->b U=Y (.fr,.str g)->b6 dW (ab a (ab b ak)) U=Y (.fr,.int ((x.length-1:Nat):Int)):=λh e1 e2=>dF (xv e1 (xv (r:=ak) e2 M)) h.L7;have a5:j5 (e2 K8 (aa 8) (eC (.str []))) (e2 oLt (b6 dW (ab (aa 3) (ab (aa 8) ak))) (b6 dW (ab (aa 3) (ab (aa 6) ak)))) (EW ns S L f C o (Q2 g) (Q0 (k:Int)) (Q2 s) p)=Y (.fr,.bl B):=by
  refine mq (m:=.fr) (x:=!decide (s=[])) (e2v (x:=(.fr,.str s)) (y:=(.fr,.str [])) M M (Cb M M ?_)) (λq=>?_) (λ_=>rfl)
  ·cases s<;>rfl
  ·have q:s≠[]:=by simpa using q
   obtain⟨x',E⟩:=yr h (List.length_pos_iff.mpr q) (ZA sub.length_le P) (H.sublist sub) (λc D=>R c (sub.subset D));have:=lk.mono E (λc D=>sub.subset D) (λ_ z=>z);rw[lt_int (N E M M) (N lk M M),ZR (by omega)]
 have hd:ko (EW ns S L f n o F A u p)=_:=sq a1 (sq (pX (m:=.fr) (C8 (m:=.fr) (b:=true) (dF (xv (x:=(.pu,.lst (f.map .str))) M (xv (r:=ak) (x:=(.fr,.str g)) M M)) (zR h P H lk))) M) (sq (dA (j:=7) Hh M (by show 7<10;decide)) (sq (aS (m:=.fr) fe (by decide) (by show 8<10;decide)) (sq (pX (m:=.fr) a5 M) M))));by_cases q:f.length<8/\eE f<110
 ·obtain⟨Q,t,e4,tl,tm⟩:=xV L 10 C J.1 (by have:=J.2.1;lia) (by decide) (by decide);have Oo:IK (f++[t]):=⟨by rw[Zw];show f.length+1<=8;lia,by
   have e:eE (f++[t])=eE f+t.length:=by unfold eE;rw[Yx,List.sum_append];rfl
   rw[e];have:t.length<=10:=tl;lia,λv X=>by
   rcases Zi.mp X with z | z
   ·exact h.az v z
   ·rw[Zk.mp z];exact λc D=>J.2.2 c (tm c D)⟩
  obtain⟨x',E⟩:=yr Oo Z P H R;have:=lk.mono E (λ_ z=>z) (λw z=>z.elim .inl λ⟨v,X,q⟩=>.inr ⟨v,Yj _ X,q⟩);have tx:aL [(.io 4 B),(.px (xI (aa 2))),(.px (xI (Q3 10)))] cw (EW ns S L f C o (Q2 g) (Q0 (k:Int)) (Q2 s) p)=Y ((.fr,.str t),EW ns S L f Q o (Q2 g) (Q0 (k:Int)) (Q2 s) p) :=
   cx (i:=4) (un:=B) (k:=0) (r:=[.px (xI (aa 2)),.px (xI (Q3 10))]) (l:=[.str L,.int 10]) (U1:=EW ns S L f C o (Q2 g) (Q0 (k:Int)) (Q2 s) p) M (nJ (t:=.str L) (bW (m:=.fr) M M) M (nJ (t:=.int 10) (bW (m:=.fr) M M) M M)) M M M M e4
  refine⟨Q,_,_,_,_,hd.trans (QN (m:=.fr) (mq (m:=.fr) (x:=true) ((lt_int (jM (xv (r:=ak) (x:=(.pu,.lst (f.map .str))) M M) M) (n:=.fr) (j:=8) M).trans ?_) (λ_=>(lt_int (BX (m:=.pu) M M (by lia)) (n:=.fr) (j:=110) M).trans ?_) (λz=>nomatch z)) (sq (vh (m:=.fr) (Fm (m:=.pu) M (by decide) tx (by lia)) (by show 9<10;decide)) (sq (U1:=EW ns S L f Q o (Q2 g) (Q0 (k:Int)) (Q2 s) (pc (.lst ((f++[t]).map .str)))) M (pX (m:=.fr) ((lt_int (N E M M) (N lk M M)).trans ?_) M))))⟩
  ·rw[decide_eq_true];show (((f.map T.str).length:Nat):Int)<8;rw[Zt];lia
  ·rw[decide_eq_true (by lia)]
  ·rw[ZR (by lia)]
 ·refine⟨C,_,_,_,_,hd.trans (pX (m:=.fr) (mq (m:=.fr) (lt_int (jM (xv (r:=ak) (x:=(.pu,.lst (f.map .str))) M M) M) (n:=.fr) (j:=8) M) (λz=>(lt_int (BX (m:=.pu) M M (by have:=h.Ho;lia)) (n:=.fr) (j:=110) M).trans ?_) (λ_=>rfl)) M)⟩;have z:=of_decide_eq_true z;have z:(((f.map T.str).length:Nat):Int)<8:=z;rw[Zt]at z;rw[ZR (by lia)]
def yc(ns:Vr)(p:ns.length<=63):wR [.scr ns]=Y (.fr,.bl true):=by
 obtain⟨n,e1⟩:=rZ ns p 0 (by decide);obtain⟨q,L,F,u,E,s⟩:=Bc n;have o:0<L.length/\L.length<=26/\Az L:=⟨u,E,s⟩
 obtain⟨a,bk,A,D,bs,C⟩:=CH o q;have v:IK bk:=⟨D,by show (bk.map List.length).sum<=160;lia,C⟩
 obtain⟨m,z⟩:=rZ ns p 1 (by decide);obtain⟨P,f1,i,h,g,f,d,b,rfl⟩:=gR (tg:=bF 5) (body:=ko) (λ(k:Nat)=>T.int (k:Int)) (λ_ U=>∃(m:Int)(h g f d b:Vf),U=EW ns (.lst [.int a]) L bk m h g f d b) (by
  rintro k r _ ⟨m,h,g,f,d,b,rfl⟩;obtain⟨i,N,J,H,G,e⟩:=AY (ns:=ns) (S:=.lst [.int a]) v bs o m (Q0 (k:Int)) g f d b;exact⟨_,_,rfl,e,i,_,_,_,_,_,rfl⟩) (List.range 3) (EW ns (.lst [.int a]) L bk m O O O O O) ⟨m,O,O,O,O,O,rfl⟩
 have sp:∀{U:Env}{j k:Nat}{n:Int},aa 0 U=Y (.fr,.scr ns)->j<U.length->cu [.scr ns,.int (k:Int)]=Y (.fr,.lst [.int n])->iC j (b6 cu (ab (aa 0) (ab (Q3 (k:Int)) ak))) U=Y (.nx (U.set j (oc (.lst [.int n])))):=λy x w=>Ac (dF (xv y (xv (r:=ak) M M)) w) M x;exact uR M (dB (sp (k:=0) M (by show 1<10;decide) e1) (dB (dA (cx (un:=B) (k:=0) (r:=[]) (l:=[]) M M M M M M F) M (by show 2<10;decide)) (dB (vh (cx (un:=B) (k:=0) (r:=[.px (xI (aa 2))]) (l:=[.str L]) M (nJ (t:=.str L) (bW (m:=.fr) M M) M M) M M M M A) (by show 3<10;decide)) (dB (U1:=[pc (.scr ns),oc (.lst [.int a]),Q2 L,pc (.lst (bk.map .str)),O,O,O,O,O,O]) M (dB (U1:=[pc (.scr ns),pc (.lst [.int a]),Q2 L,pc (.lst (bk.map .str)),O,O,O,O,O,O]) M (dB (sp (k:=1) M (by show 4<10;decide) z) (dB ((d7 (m:=.fr) (l:=(List.range 3).map λ(k:Nat)=>T.int (k:Int)) M M).trans f1) ⟨_,rfl⟩)))))))
end T38
end
section
namespace T38
open PySem PySem.Spec PyProof.Rows L2 VS
def qv{G:Gx}{X:Cx}{x:Str}{p:Pos}(i:Nat)(a:X.N[i]?=Y x:=by exact rfl)(b:Ic X.env.scope x:=by exact Or.inl M)(c:K3 x:=by rfl)(d:K4 x:=by rfl):PV G X (.Name x p) (aa i):=bY i a b c d
def Q4{α:Sort _}{x:α}{b:Prop}:x=x∨b:=.inl M
abbrev Q5:List Str:=["_law_book_here", "_law_letters_here", "_law_long"]
abbrev Q6:List Str:=["_law_book_here", "_law_letters_here"]
abbrev Q7:List Str:=["_law_k", "_law_spring_here", "_law_letters_here", "_law_few", "_law_start", "_law_step"]
abbrev Q8:List Str:=["_law_k", "_law_spring_here", "_law_signs_here", "_law_most"]
abbrev Q9:List Str:=["_law_script", "_law_k"]
abbrev Qa:List Str:=["_law_sign", "_law_book_here", "_law_letters_here", "_law_long", "_law_found", "_law_word"]
abbrev Qb:List Str:=["_law_sign", "_law_spring_here", "_law_signs_here", "_law_letters_here", "_law_way", "_law_some"]
abbrev Qc:List Str:=["_law_spring_here", "_law_most"]
abbrev Qd:List Str:=["_law_spring_here", "_law_signs_here", "_law_most"]
abbrev Qe:List Str:=["_law_spring_here", "_law_signs_here"]
abbrev Qf:List Str:=["_law_spring_here"]
abbrev Qg:List Str:=["_law_text_here", "_law_script", "_law_spring_here", "_law_signs_here", "_law_book_here", "_law_more", "_law_turn", "_law_letters_here", "_law_at", "_law_fewer", "_law_grown"]
abbrev Qh:List Str:=["book", "letters"]
abbrev Qi:List Str:=["self", "head", "sign"]
abbrev Qj:List Str:=["self", "head", "word"]
abbrev Qk:List Str:=["self", "long", "link", "ways"]
abbrev Ql:List Str:=["self", "node", "numbers"]
abbrev Qm:List Str:=["self", "node", "sign"]
abbrev Qn:List Str:=["self"]
abbrev Qo:List Str:=["sign", "self", "node", "numbers", "link", "ways", "steps"]
abbrev Qp:List Str:=["start", "book", "long", "found", "text"]
noncomputable def top(i:Nat):Stmt:=PySem.Challenge.pw_allparts_k38_full_up_to.main.body.getD i (.Pass ⟨0,0,0,0⟩)
structure Ie(mg:Wi):Prop where
 M5:mg "bool" = none
 KO:mg "dict" = none
 OR:mg "int" = none
 Hm:mg "isinstance" = none
 GO:mg "len" = none
 M4:mg "list" = none
 G2:mg "range" = none
 OQ:mg "set" = none
 HV:mg "sorted" = none
 OP:mg "sum" = none
 LH:mg "tuple" = none
noncomputable abbrev NS:List Str:=["  ", "longs", "links", "ways"]
noncomputable abbrev gX(K:Wy)(C D:KF):Gx:=MS NS K C D
def gJ{K:Wy}{C D:KF}{m:Me}:kF ((MS NS K C D).at m):=AG (by decide +kernel) (by decide +kernel)
structure HE(K:Wy)(mg:Wi)(C D:KF):Prop where
 one:C=D
 Gr:HX K C
 Kq:mg "Nodes" = some (.ref C)
 GJ:cI K C "longs"
 GK:cI K C "links"
 GS:cI K C "ways"
def eI{K:Wy}{a:Wi}{C D:KF}{m:Me}(O:HE K a C D):HW ((MS NS K C D).at m) K 1 "longs" := Cf M O.Gr (O.one ▸ O.Gr) O.GJ (O.one ▸ O.GJ)
def eO{K:Wy}{a:Wi}{C D:KF}{m:Me}(O:HE K a C D):HW ((MS NS K C D).at m) K 2 "links" := Cf M O.Gr (O.one ▸ O.Gr) O.GK (O.one ▸ O.GK)
def dI{K:Wy}{a:Wi}{C D:KF}{m:Me}(O:HE K a C D):HW ((MS NS K C D).at m) K 3 "ways" := Cf M O.Gr (O.one ▸ O.Gr) O.GS (O.one ▸ O.GS)
section
variable(P:P3)(w:XAA)(base:UV){K:Wy}{mg:Wi}{C D:KF}
noncomputable abbrev dS:Stmt:=inClass (top 1) 1
def j4:p0 Qk Qk (ai dS):=by constructor<;>first | rfl | decide +kernel
def aM{f:KF}{d:Pv}(F:GN K "new_node" "Nodes.new_node" dS f d)(a:Meth K C "new_node" f)(B:Ie mg)(O:HE K mg C D) :
  MtAt P w K mg base 1 (gX K C D) 0 "new_node" Qk [false,false,L] aI:=pV F a O.Gr (jE (by decide +kernel) (by decide +kernel)) j4 M M (λ_ _ _ _ _ _ e b=>by obtain⟨_,_,_,_,rfl⟩:=L2.FS b;rfl) λ_ _ _ _ _ _ _ g =>
  (af (zd gJ (jJ 1 (eI O) (bX 0)) (ae (qv 1) aj) M M M M M M M)
  (af (zd gJ (jJ 2 (eO O) (bX 0)) (ae (qv 2) aj) M M M M M M M)
  (af (AL gJ (jJ 3 (dI O) (bX 0)) M M Q4 M M M M M M M M)
  (au (bu (iO qr pY (eJ B.GO (ae (w_fld gJ (eI O) (qv 0)) aj)) ah))))))
noncomputable abbrev dU:Stmt:=inClass (top 1) 0
def kb:p0 Qn Qn (ai dU):=by constructor<;>first | rfl | decide +kernel
def cj{f:KF}{e:Pv}(F:GN K "__init__" "Nodes.__init__" dU f e)(b:Mk K C f)(B:Ie mg)(O:HE K mg C D)(g:MtAt P w K mg base 1 (gX K C D) 0 "new_node" Qk [false,false,L] aI) :
  InAt P w K mg base 2 (gX K C D) 0 0 "Nodes" Qn dQ:=DI F b O.Kq kb M M (λ_ _ _ _ _ _ h d=>by obtain⟨_,rfl⟩:=L2.vD d;rfl) λ_ _ _ _ _ _ _ a =>
  (af (sO 0 1 gJ (eI O) (dv aj) M Q4 M M M)
  (af (sO 0 2 gJ (eO O) (dv aj) M Q4 M M M)
  (af (sO 0 3 gJ (dI O) (dv aj) M Q4 M M M)
  (au (rM (g8 gJ g.at a (by decide) (bX 0) (ae ah (ae xF (ae xJ aj)))) M)))))
noncomputable abbrev bV:Stmt:=inClass (top 1) 4
def aV:p0 ["self", "node", "sign", "old", "long", "half"] Qm (ai bV):=by constructor<;>first | rfl | decide +kernel
def aR{f:KF}{e:Pv}(F:GN K "node_just_behind" "Nodes.node_just_behind" bV f e)(b:Meth K C "node_just_behind" f)(B:Ie mg)(O:HE K mg C D)(g:MtAt P w K mg base 1 (gX K C D) 0 "new_node" Qk [false,false,L] aI) :
  MtAt P w K mg base 2 (gX K C D) 0 "node_just_behind" Qm [false,false] av:=pV F b O.Gr (jE (by decide +kernel) (by decide +kernel)) aV M M (λ_ _ _ _ _ _ h d=>by obtain⟨_,_,_,rfl⟩:=L2.tQ d;rfl) λ_ _ _ _ _ _ _ a =>
  (af (aD (wj a (bQ (w_fld gJ (dI O) (qv 0)) (qv 1) (λ_ _=>rfl)) (qv 2) (λ_ _=>rfl)) aV.nd M Q4)
  (af (aD (w_add (bQ (w_fld gJ (eI O) (qv 0)) (qv 1) (λ_ _=>rfl)) ah) aV.nd M Q4)
  (af (bT (lG a (bQ (w_fld gJ (eI O) (qv 0)) (qv 3) (λ_ _=>rfl)) (qv 4)) (au (dz 3 M (Or.inl M) M M)) aX)
  (af (cF (g8 gJ g.at a (by decide) (bX 0) (ae (qv 4) (ae (bQ (w_fld gJ (eO O) (qv 0)) (qv 3) (λ_ _=>rfl)) (ae (zK B.KO (ae (bQ (w_fld gJ (dI O) (qv 0)) (qv 3) (λ_ _=>rfl)) aj) M M) aj)))) aV.nd M Q4)
  (af (kh gJ a (jJ 2 (eO O) (bX 0)) (qv 3) (qv 5))
  (af (jg Yk (KR.NO (lW (pC (qv 1)) (jU (lG a (w_get a (bQ (w_fld gJ (dI O) (qv 0)) (qv 1) (λ_ _=>rfl)) (qv 2) M M M M) (qv 3)))))
  (af (kh gJ a (BP a (jJ 3 (dI O) (bX 0)) (qv 1) (λ_ _=>rfl) M) (qv 2) (qv 5))
  (au (aD (bQ (w_fld gJ (eO O) (qv 0)) (qv 1) (λ_ _=>rfl)) aV.nd M Q4))))
  (au (dz 5 M (Or.inl M) M M))))))))
noncomputable abbrev c7:Stmt:=inClass (top 1) 3
def bR:p0 ["self", "head", "sign", "fresh", "node"] Qi (ai c7):=by constructor<;>first | rfl | decide +kernel
def bD{f:KF}{g:Pv}(F:GN K "head_behind" "Nodes.head_behind" c7 f g)(d:Meth K C "head_behind" f)(B:Ie mg)(O:HE K mg C D)(h:MtAt P w K mg base 1 (gX K C D) 0 "new_node" Qk [false,false,L] aI)(b:MtAt P w K mg base 2 (gX K C D) 0 "node_just_behind" Qm [false,false] av) :
  MtAt P w K mg base 3 (gX K C D) 0 "head_behind" Qi [false,false] bB:=pV F d O.Gr (jE (by decide +kernel) (by decide +kernel)) bR M M (λ_ _ _ _ _ _ i e=>by obtain⟨_,_,_,rfl⟩:=L2.tQ e;rfl) λ_ _ _ _ _ _ _ a =>
  (af (bT (BI a (qv 2) (bQ (w_fld gJ (dI O) (qv 0)) (qv 1) (λ_ _=>rfl)) (by with_unfolding_all rfl) M) (au (uP (g8 gJ b.at a (by decide) (bX 0) (ae (qv 1) (ae (qv 2) aj))))) aX)
  (af (cF (g8 gJ h.at a (by decide) (bX 0) (ae (w_add (bQ (w_fld gJ (eI O) (qv 0)) (qv 1) (λ_ _=>rfl)) ah) (ae ah (ae xJ aj)))) bR.nd M Q4)
  (af (aD (qv 1) bR.nd M Q4)
  (af (jg Yk (KR.NO (lW (pC (qv 4)) (jU (tZ a (qv 2) (bQ (w_fld gJ (dI O) (qv 0)) (qv 4) (λ_ _=>rfl)) (by with_unfolding_all rfl)))))
  (af (kh gJ a (BP a (jJ 3 (dI O) (bX 0)) (qv 4) (λ_ _=>rfl) M) (qv 2) (qv 3))
  (au (aD (bQ (w_fld gJ (eO O) (qv 0)) (qv 4) (λ_ _=>rfl)) bR.nd M Q4))))
  (af (bT (pC (qv 4)) (au (uQ gJ a (jJ 2 (eO O) (bX 0)) (qv 3) (g8 gJ b.at a (by decide) (bX 0) (ae (qv 4) (ae (qv 2) aj))) (λ_=>rfl) M M M)) aX)
  (au (dz 3 M (Or.inl M) M M)))))))
noncomputable abbrev dr:Stmt:=inClass (top 1) 2
def cZ:p0 ["self", "head", "word", "sign"] Qj (ai dr):=by constructor<;>first | rfl | decide +kernel
def bO{f:KF}{e:Pv}(F:GN K "head_grown" "Nodes.head_grown" dr f e)(b:Meth K C "head_grown" f)(B:Ie mg)(O:HE K mg C D)(g:MtAt P w K mg base 3 (gX K C D) 0 "head_behind" Qi [false,false] bB) :
  MtAt P w K mg base 4 (gX K C D) 0 "head_grown" Qj [false,false] bK:=pV F b O.Gr (jE (by decide +kernel) (by decide +kernel)) cZ M M (λ_ _ _ _ _ _ h d=>by obtain⟨_,_,_,rfl⟩:=L2.tQ d;rfl) λ_ _ _ _ _ _ _ a =>
  (af (d8 Yk M (dY (qv 2)) (br 3 cZ.nd M Q4 Q4)
  (au (cF (g8 gJ g.at a (by decide) (bX 0) (ae (qv 1) (ae (qv 3) aj))) cZ.nd M Q4)))
  (au (dz 1 M (Or.inl M) M M)))
noncomputable abbrev b9:Stmt:=inClass (top 1) 6
def aJ:p0 ["self", "numbers", "met", "done", "ways", "sign"] Qn (ai b9):=by constructor<;>first | rfl | decide +kernel
def aW{m:Me}{f:KF}{e:Pv}(F:GN K "numbers_by_node" "Nodes.numbers_by_node" b9 f e)(b:Meth K C "numbers_by_node" f)(B:Ie mg)(O:HE K mg C D) :
  MpAt P w K mg base 1 ((gX K C D).at m) 0 "numbers_by_node" Qn aE:=tM F b O.Gr (jE (by decide +kernel) (by decide +kernel)) aJ M M (λ_ _ _ _ _ _ g d=>by obtain⟨_,rfl⟩:=L2.vD d;rfl) λ_ _ _ _ _ _ a =>
  (af (eu Co aJ.nd M Q4)
  (af (eu (dv (ae ah aj)) aJ.nd M Q4)
  (af (aD ah aJ.nd M Q4)
  (af (jg Yk (nZ (qv 3) (eJ B.GO (ae (qv 2) aj)))
  (af (aD (bQ (w_fld gJ (dI O) (qv 0)) (bQ (qv 2) (qv 3) (λ_ _=>rfl)) (λ_ _=>rfl)) aJ.nd M Q4)
  (af (d8 Yk M (dY (uj B.HV (ae (qv 4) aj))) (br 5 aJ.nd M Q4 Q4)
  (au (bT (tZ a (wj a (qv 4) (qv 5) (λ_ _=>rfl)) (qv 1) (by with_unfolding_all rfl)) (af (DY 1 a (wj a (qv 4) (qv 5) (λ_ _=>rfl)) (eJ B.GO (ae (qv 2) aj)) M Q4 M M (λ_=>rfl) M M M)
  (au (mG 2 (ae (wj a (qv 4) (qv 5) (λ_ _=>rfl)) aj) M M Q4 M M))) aX)))
  (au (aD (w_add (qv 3) ah) aJ.nd M Q4)))))
  (fQ 2 (au (dz 1 M (Or.inl M) M M)))))))
noncomputable abbrev fA:Stmt:=inClass (top 1) 7
def dj:p0 ["self", "node", "numbers", "link", "ways", "steps"] Ql (ai fA):=by constructor<;>first | rfl | decide +kernel
def cM{m:Me}{f:KF}{e:Pv}(F:GN K "row_of" "Nodes.row_of" fA f e)(b:Meth K C "row_of" f)(B:Ie mg)(O:HE K mg C D) :
  MpAt P w K mg base 1 ((gX K C D).at m) 0 "row_of" Ql bN:=tM F b O.Gr (jE (by decide +kernel) (by decide +kernel)) dj M M (λ_ _ _ _ _ _ g d=>by obtain⟨_,_,_,rfl⟩:=L2.tQ d;rfl) λ_ _ _ _ _ _ a =>
  (af (aD (bQ (w_fld gJ (eO O) (qv 0)) (qv 1) (λ_ _=>rfl)) dj.nd M Q4)
  (af (aD (bQ (w_fld gJ (dI O) (qv 0)) (qv 1) (λ_ _=>rfl)) dj.nd M (Or.inr M))
  (af (aD (AQ B.LH (ae (lP 1 Qo M (dY (uj B.HV (ae (bY 4 M (Or.inr Q4) M M) aj))) (hV) (λ_ _ _ _ _=>(br 0 (show List.Nodup Qo from by decide +kernel) M Q4 (Or.inr M))) (λ_ _ _ _ _=>(nN (ae (qv 0) (ae (Ca a (bY 3 M (Or.inr Q4) M M) (wj a (bY 5 M (Or.inr Q4) M M) (qv 0) (λ_ _=>rfl)) (λ_ _=>rfl) M) aj)))) M M (by decide)) aj)) dj.nd M Q4)
  (af (bT (Cq (qv 3)) (au (bu (nN (ae ah (ae ah (ae xF (ae (qv 5) aj))))))) aX)
  (au (bu (nN (ae (w_add (bQ (w_fld gJ (eI O) (qv 0)) (qv 3) (λ_ _=>rfl)) ah) (ae (bQ (w_fld gJ (eI O) (qv 0)) (qv 1) (λ_ _=>rfl)) (ae (Ca a (bY 2 M (Or.inr Q4) M M) (qv 3) (λ_ _=>rfl) M) (ae (qv 5) aj)))))))))))
noncomputable abbrev gy:Stmt:=inClass (top 1) 5
def iK:p0 ["self", "numbers"] Qn (ai gy):=by constructor<;>first | rfl | decide +kernel
def da{m:Me}{f:KF}{e:Pv}(F:GN K "table" "Nodes.table" gy f e)(b:Meth K C "table" f)(B:Ie mg)(O:HE K mg C D)(h:∀m,MpAt P w K mg base 1 ((gX K C D).at m) 0 "numbers_by_node" Qn aE)(g:∀m,MpAt P w K mg base 1 ((gX K C D).at m) 0 "row_of" Ql bN) :
  MpAt P w K mg base 2 ((gX K C D).at m) 0 "table" Qn dc:=tM F b O.Gr (jE (by decide +kernel) (by decide +kernel)) iK M M (λ_ _ _ _ _ _ i d=>by obtain⟨_,rfl⟩:=L2.vD d;rfl) λ_ _ _ _ _ _ a =>
  (af (eu (qY (h _) a (by decide) (bY 0 M (Or.inr Q4) M M) M) iK.nd M (Or.inr M))
  (au (Dt 1 ["node", "self", "numbers"] M M (Or.inr Q4) M M (hV) (λ_ _ _ _ _=>(br 0 (show List.Nodup (["node", "self", "numbers"]:List Str) from by decide +kernel) M Q4 (Or.inr M))) (λ_ _ _ _ _=>(Bu (g _) a (by decide) (bY 1 M (Or.inr Q4) M M) (ae (qv 0) (ae (bY 2 M (Or.inr Q4) M M) aj)) M M M)) M M (by decide) (λ_=>rfl))))
noncomputable abbrev jt:Stmt:=top 2
def iX:p0 ["book", "nodes", "text"] ["book"] (ai jt):=by constructor<;>first | rfl | decide +kernel
def fG{m:Me}{f:KF}{e:Pv}(F:GN K "table_of" "table_of" jt f e)(b:mg "table_of" = Y (.ref f))(B:Ie mg)(O:HE K mg C D)(h:InAt P w K mg base 2 (gX K C D) 0 0 "Nodes" Qn dQ)(i:MtAt P w K mg base 4 (gX K C D) 0 "head_grown" Qj [false,false] bK)(g:∀m,MpAt P w K mg base 2 ((gX K C D).at m) 0 "table" Qn dc) :
  FnAt P w K mg base 5 "table_of" ["book"] ((gX K C D).at m) fD:=m7 F b iX M M (λ_ _ _ _ _ _ j d=>by obtain⟨_,rfl⟩:=L2.vD d;rfl) λ_ _ _ _ _ _ a =>
  (af (eu (Av h.at a (by decide) M M) iX.nd M Q4)
  (af (d8 Yk M (dY (qv 0)) (br 2 iX.nd M Q4 Q4)
  (au (rM (g8 gJ i.at a (by decide) (bX 1) (ae ah (ae (qv 2) aj))) M)))
  (fQ 1 (au (bu (qY (g _) a (by decide) (qv 1) M))))))
noncomputable abbrev kG:Stmt:=top 4
def cP:p0 ["book", "letters", "table", "met", "done", "word", "ways", "sign"] Qh (ai kG):=by constructor<;>first | rfl | decide +kernel
def dw{m:Me}{f:KF}{e:Pv}(F:GN K "lacking" "lacking" kG f e)(b:mg "lacking" = Y (.ref f))(B:Ie mg)(O:HE K mg C D)(g:∀m,FnAt P w K mg base 5 "table_of" ["book"] ((gX K C D).at m) fD) :
  FnAt P w K mg base 6 "lacking" Qh ((gX K C D).at m) cV:=m7 F b cP M M (λ_ _ _ _ _ _ h d=>by obtain⟨_,_,rfl⟩:=L2.dN d;rfl) λ_ _ _ _ _ _ a =>
  (af (aD (dE (g _) a (ae (qv 0) aj) (by decide) M M) cP.nd M Q4)
  (af (eu (dv (ae (nN (ae (i6 (by decide +kernel) (by decide)) (ae ah aj))) aj)) cP.nd M Q4)
  (af (aD ah cP.nd M Q4)
  (au (jg Yk (lT ly)
  (af (aD (bQ (bQ (qv 3) (qv 4) (λ_ _=>rfl)) ah (λ_ _=>rfl)) cP.nd M Q4)
  (af (aD (As B.KO (ae (bQ (bQ (qv 2) (bQ (bQ (qv 3) (qv 4) (λ_ _=>rfl)) ah (λ_ _=>rfl)) (λ_ _=>rfl)) ah (λ_ _=>rfl)) aj)) cP.nd M Q4)
  (af (d8 Yk M (dY (qv 1)) (br 7 cP.nd M Q4 Q4)
  (af (bT (tZ a (qv 7) (qv 6) (by with_unfolding_all rfl)) (au (bu (w_add (qv 5) (qv 7)))) aX)
  (au (mG 3 (ae (nN (ae (w_add (qv 5) (qv 7)) (ae (wj a (qv 6) (qv 7) (λ_ _=>rfl)) aj))) aj) M M Q4 M M))))
  (au (aD (w_add (qv 4) ah) cP.nd M Q4))))))))))
noncomputable abbrev tF:Stmt:=top 5
def AN:p0 Qh Qh (ai tF):=by constructor<;>first | rfl | decide +kernel
def fE{m:Me}{f:KF}{e:Pv}(F:GN K "full" "full" tF f e)(b:mg "full" = Y (.ref f))(B:Ie mg)(O:HE K mg C D)(g:∀m,FnAt P w K mg base 6 "lacking" Qh ((gX K C D).at m) cV) :
  FnAt P w K mg base 7 "full" Qh ((gX K C D).at m) dW:=m7 F b AN M M (λ_ _ _ _ _ _ h d=>by obtain⟨_,_,rfl⟩:=L2.dN d;rfl) λ_ _ _ _ _ _ a =>
  (au (bu (iO qr pY (eJ B.GO (ae (dE (g _) a (ae (qv 0) (ae (qv 1) aj)) (by decide) M M) aj)) ah)))
noncomputable abbrev jH:Stmt:=top 7
def iR:p0 ["book", "long", "found", "text"] ["book", "long"] (ai jH):=by constructor<;>first | rfl | decide +kernel
def fM{m:Me}{f:KF}{e:Pv}(F:GN K "parts_of" "parts_of" jH f e)(b:mg "parts_of" = Y (.ref f))(B:Ie mg)(O:HE K mg C D) :
  FnAt P w K mg base 1 "parts_of" ["book", "long"] ((gX K C D).at m) g9:=m7 F b iR M M (λ_ _ _ _ _ _ g d=>by obtain⟨_,_,rfl⟩:=L2.dN d;rfl) λ_ _ _ _ _ _ a =>
  (af (bT (lG a (bY 1 M (Or.inr Q4) M M) ah) (au (bu (dv (ae (i6 (by decide +kernel) (by decide)) aj)))) aX)
  (af (eu (dv aj) iR.nd M Q4)
  (af (d8 Yk M (dY (qv 0)) (br 3 iR.nd M (Or.inr M) Q4)
  (au (zB 2 (ae (lP 1 Qp M (dR (w_add (iO qr pY (eJ B.GO (ae (bY 3 M (Or.inr Q4) M M) aj)) (bY 1 M (Or.inr Q4) M M)) ah) M B.G2) (hV) (λ_ _ _ _ _=>(br 0 (show List.Nodup Qp from by decide +kernel) M Q4 (Or.inr M))) (λ_ _ _ _ _=>(mE (bY 4 M (Or.inr Q4) M M) (j3 (qv 0)) (j3 (w_add (qv 0) (bY 2 M (Or.inr Q4) M M))))) M M (by decide)) aj) M M Q4 M M)))
  (fQ 2 (au (bu (rg B.HV B.OQ (ae (qv 2) aj))))))))
noncomputable abbrev hZ:Stmt:=top 9
def bq:p0 ["_law_script", "_law_k", "_law_cell", "_law_left", "_law_number", "_law_turn", "_law_more"] Q9 (ai hZ):=by constructor<;>first | rfl | decide +kernel
def cS{m:Me}{f:KF}{e:Pv}(F:GN K "_law_spring" "_law_spring" hZ f e)(b:mg "_law_spring" = Y (.ref f))(B:Ie mg)(O:HE K mg C D) :
  FnAt P w K mg base 1 "_law_spring" Q9 ((gX K C D).at m) cu:=m7 F b bq M M (λ_ _ _ _ _ _ g d=>by obtain⟨_,_,rfl⟩:=L2.dN d;rfl) λ_ _ _ _ _ _ a =>
  (af (aD (w_add (w_mul (qv 1) ah) ah) bq.nd M Q4)
  (af (bT (BV (eJ B.GO (ae (qv 0) aj)) ah) (au (aD (w_add (bQ (qv 0) (w_mod (qv 1) (eJ B.GO (ae (qv 0) aj))) (λ_ _=>rfl)) (w_mul (iO lV lO (qv 1) (eJ B.GO (ae (qv 0) aj))) ah)) bq.nd M Q4)) aX)
  (af (bT (lG a (w_mod (qv 2) ah) ah) (au (bu (dv (ae (iO lV lO (qv 2) ah) aj)))) aX)
  (af (aD (w_mod (w_add (iO lV lO (qv 2) ah) (w_mul ah (qv 1))) ah) bq.nd M Q4)
  (af (aD ah bq.nd M Q4)
  (af (d8 Yk M (dR ah M B.G2) (br 5 bq.nd M Q4 Q4)
  (af (aD (w_mod (w_add (w_add (w_mul (qv 3) ah) (w_mul ah (qv 5))) ah) ah) bq.nd M Q4)
  (af (aD (w_mod (w_mul (qv 3) (qv 3)) ah) bq.nd M Q4)
  (au (aD (w_add (w_mul (qv 4) ah) (w_mod (w_mul (qv 6) (w_add (w_mod (qv 6) ah) ah)) ah)) bq.nd M Q4)))))
  (au (bu (dv (ae (qv 4) aj))))))))))
noncomputable abbrev ju:Stmt:=top 10
def lj:p0 ["_law_spring_here", "_law_most", "_law_digit"] Qc (ai ju):=by constructor<;>first | rfl | decide +kernel
def aA{m:Me}{f:KF}{e:Pv}(F:GN K "_law_next" "_law_next" ju f e)(b:mg "_law_next" = Y (.ref f))(B:Ie mg)(O:HE K mg C D) :
  IoAt P w K mg base 1 "_law_next" Qc ((gX K C D).at m) [false] ar:=nA F b lj M M (λ_ _ _ _ _ _ g d=>by obtain⟨_,_,rfl⟩:=L2.dN d;rfl) λ_ _ _ _ _ _ _ a =>
  (af (aD (w_mod (bQ (FJ (qv 0)) ah (λ_ _=>rfl)) (qv 1)) lj.nd M Q4)
  (af (kh gJ a (EY (bX 0)) ah (iO lV lO (bQ (FJ (qv 0)) ah (λ_ _=>rfl)) (qv 1)))
  (au (dz 2 M (Or.inl M) M M))))
noncomputable abbrev jB:Stmt:=top 11
def si:p0 Qd Qd (ai jB):=by constructor<;>first | rfl | decide +kernel
def cq{m:Me}{f:KF}{g:Pv}(F:GN K "_law_text" "_law_text" jB f g)(d:mg "_law_text" = Y (.ref f))(B:Ie mg)(O:HE K mg C D)(b:∀m,IoAt P w K mg base 1 "_law_next" Qc ((gX K C D).at m) [false] ar) :
  IoAt P w K mg base 2 "_law_text" Qd ((gX K C D).at m) [false,false] cw:=nA F d si M M (λ_ _ _ _ _ _ h e=>by obtain⟨_,_,_,rfl⟩:=L2.tQ e;rfl) λ_ _ _ _ _ _ _ a =>
  (au (uP (BG (i6 (by decide +kernel) (by decide)) (yg Q8 M M B.G2 (bh (b _) a (bL 0 L M (Or.inr Q4) M M (bw (aG (w_add (qv 2) ah)) aZ))) (λ_ _ _ _ _=>L2.vc (show List.Nodup Q8 from by decide +kernel) M Q4 (Or.inr M)) (λ_ _ _ _ _=>(zq (aG (bY 2 M (Or.inr Q4) M M)) (bh (b _) a (bL 1 L M (Or.inr Q4) M M (bw (aG (eJ B.GO (ae (bY 2 M (Or.inr Q4) M M) aj))) aZ))))) M M M M (by decide) (λ_=>rfl)) M M M M M M)))
noncomputable abbrev iP:Stmt:=top 12
def dD:p0 ["_law_spring_here", "_law_letters_here", "_law_few", "_law_start", "_law_step"] Qf (ai iP):=by constructor<;>first | rfl | decide +kernel
def eA{m:Me}{f:KF}{g:Pv}(F:GN K "_law_signs" "_law_signs" iP f g)(d:mg "_law_signs" = Y (.ref f))(B:Ie mg)(O:HE K mg C D)(b:∀m,IoAt P w K mg base 1 "_law_next" Qc ((gX K C D).at m) [false] ar) :
  IoAt P w K mg base 2 "_law_signs" Qf ((gX K C D).at m) [] gf:=nA F d dD M M (λ_ _ _ _ _ _ h e=>by obtain⟨_,rfl⟩:=L2.vD e;rfl) λ_ _ _ _ _ _ _ a =>
  (af (aD (i6 (by decide +kernel) (by decide)) dD.nd M (Or.inr M))
  (af (cF (pf (dv (ae ah (ae ah (ae ah (ae ah (ae ah (ae ah (ae ah (ae ah aj))))))))) (bh (b _) a (bL 0 L M (Or.inl M) M M (bw (aG ah) aZ)))) dD.nd M Q4)
  (af (cF (bh (b _) a (bL 0 L M (Or.inl M) M M (bw (aG ah) aZ))) dD.nd M (Or.inr M))
  (af (cF (pf (dv (ae ah (ae ah (ae ah (ae ah aj))))) (bh (b _) a (bL 0 L M (Or.inl M) M M (bw (aG ah) aZ)))) dD.nd M (Or.inr M))
  (au (bu (uT (i6 (by decide +kernel) (by decide)) (ae (lP 1 Q7 M (dR (qv 2) M B.G2) (hV) (λ_ _ _ _ _=>(br 0 (show List.Nodup Q7 from by decide +kernel) M Q4 (Or.inr M))) (λ_ _ _ _ _=>(bQ (bY 2 M (Or.inr Q4) M M) (w_mod (w_add (bY 4 M (Or.inr Q4) M M) (w_mul (bY 5 M (Or.inr Q4) M M) (qv 0))) ah) (λ_ _=>rfl))) M M (by decide)) aj))))))))
noncomputable abbrev jK:Stmt:=top 13
def cO:p0 ["_law_spring_here", "_law_signs_here", "_law_many", "_law_book_here", "_law_k", "_law_text_here", "_law_old"] Qe (ai jK):=by constructor<;>first | rfl | decide +kernel
def fL{m:Me}{f:KF}{h:Pv}(F:GN K "_law_book" "_law_book" jK f h)(e:mg "_law_book" = Y (.ref f))(B:Ie mg)(O:HE K mg C D)(b:∀m,IoAt P w K mg base 1 "_law_next" Qc ((gX K C D).at m) [false] ar)(d:∀m,IoAt P w K mg base 2 "_law_text" Qd ((gX K C D).at m) [false,false] cw) :
  IoAt P w K mg base 3 "_law_book" Qe ((gX K C D).at m) [false] hJ:=nA F e cO M M (λ_ _ _ _ _ _ i g=>by obtain⟨_,_,rfl⟩:=L2.dN g;rfl) λ_ _ _ _ _ _ _ a =>
  (af (cF (pf (dv (ae ah (ae ah (ae ah (ae ah (ae ah (ae ah (ae ah (ae ah aj))))))))) (bh (b _) a (bL 0 L M (Or.inl M) M M (bw (aG ah) aZ)))) cO.nd M Q4)
  (af (eu (dv aj) cO.nd M Q4)
  (af (d8 Yk M (dR (qv 2) M B.G2) (br 4 cO.nd M Q4 Q4)
  (af (cF (bh (d _) a (bL 0 L M (Or.inl M) M M (bw (aG (qv 1)) (bw (pf (dv (ae ah (ae ah (ae ah (ae ah aj))))) (bh (b _) a (bL 0 L M (Or.inl M) M M (bw (aG ah) aZ)))) aZ)))) cO.nd M Q4)
  (af (yP (uW (BV (qv 4) ah) (uJ (t7 a.units) wI (bh (b _) a (bL 0 L M (Or.inl M) M M (bw (aG ah) aZ))) (aG ah) (g7 _))) (af (cF (Dp 3 M (Or.inl M) M M (bh (b _) a (bL 0 L M (Or.inl M) M M (bw (aG (qv 4)) aZ))) (λ_ _=>rfl) M) cO.nd M Q4)
  (au (cF (B0 (oB gU kQ (B0 (aG (qv 6)) (mM (bh (b _) a (bL 0 L M (Or.inl M) M M (bw (aG (w_add (eJ B.GO (ae (qv 6) aj)) ah)) aZ)))) mU) (aG (qv 5))) mU (mM (aG ah))) cO.nd M Q4))) aX)
  (au (mG 3 (ae (qv 5) aj) M M Q4 M M)))))
  (af (yP (uW (mN ah (qv 2) ah (by with_unfolding_all rfl)) (uJ (t7 a.units) wI (bh (b _) a (bL 0 L M (Or.inl M) M M (bw (aG ah) aZ))) (aG ah) (g7 _))) (au (uQ gJ a (bX 3) ah (oB zM A7 (oB gU kQ (oB gU kQ (aG (bQ (qv 3) ah (λ_ _=>rfl))) (bh (d _) a (bL 0 L M (Or.inl M) M M (bw (aG (qv 1)) (bw (aG ah) aZ))))) (aG (bQ (qv 3) ED (λ_ _=>rfl)))) (oB gU kQ (aG ah) (bh (b _) a (bL 0 L M (Or.inl M) M M (bw (aG ah) aZ))))) (λ_=>rfl) M M M)) aX)
  (au (dz 3 M (Or.inl M) M M))))))
noncomputable abbrev gr:Stmt:=top 14
def b7:p0 ["_law_spring_here", "_law_signs_here", "_law_letters_here", "_law_way", "_law_some"] Qe (ai gr):=by constructor<;>first | rfl | decide +kernel
def de{m:Me}{f:KF}{g:Pv}(F:GN K "_law_letters" "_law_letters" gr f g)(d:mg "_law_letters" = Y (.ref f))(B:Ie mg)(O:HE K mg C D)(b:∀m,IoAt P w K mg base 1 "_law_next" Qc ((gX K C D).at m) [false] ar) :
  IoAt P w K mg base 2 "_law_letters" Qe ((gX K C D).at m) [false] dh:=nA F d b7 M M (λ_ _ _ _ _ _ h e=>by obtain⟨_,_,rfl⟩:=L2.dN e;rfl) λ_ _ _ _ _ _ _ a =>
  (af (aD (i6 (by decide +kernel) (by decide)) b7.nd M Q4)
  (af (cF (bh (b _) a (bL 0 L M (Or.inl M) M M (bw (aG ah) aZ))) b7.nd M Q4)
  (af (bT (lG a (qv 3) ah) (au (dz 2 M (Or.inl M) M M)) aX)
  (af (eu (BE B.M4 (ae (qv 1) aj)) b7.nd M (Or.inr M))
  (af (bT (lG a (qv 3) ah) (au (wk 4 M (Or.inr Q4) M M mU (mM (oB gU kQ (aG ah) (bh (b _) a (bL 0 L M (Or.inl M) M M (bw (aG (eJ B.GO (ae (qv 1) aj))) aZ))))) M b7.nd M (Or.inr M) M Q4)) aX)
  (af (bT (nZ (qv 3) ah) (au (zF 4 M (Or.inr Q4) M M (zq (aG (qv 2)) (bh (b _) a (bL 0 L M (Or.inl M) M M (bw (aG ah) aZ)))) M M M M M M M)) aX)
  (fQ 4 (af (bT (lG a (qv 3) ah) (au (zz (zq (aG (qv 2)) (bh (b _) a (bL 0 L M (Or.inl M) M M (bw (aG ah) aZ)))) b7.nd M (Or.inr M) M M Q4)) aX)
  (au (bu (uT (i6 (by decide +kernel) (by decide)) (ae (oZ 1 Qb M (dY (qv 2)) (hV) (λ_ _ _ _ _=>(br 0 (show List.Nodup Qb from by decide +kernel) M Q4 (Or.inr M))) (λ_ _ _ _ _=>(BI a (qv 0) (bY 5 M (Or.inr Q4) M M) (by with_unfolding_all rfl) M)) (λ_ _ _ _ _=>(qv 0)) M M (by decide)) aj))))))))))))
noncomputable abbrev iE:Stmt:=top 15
def fo:p0 ["_law_book_here", "_law_letters_here", "_law_long", "_law_found", "_law_word"] Q5 (ai iE):=by constructor<;>first | rfl | decide +kernel
def dy{m:Me}{f:KF}{e:Pv}(F:GN K "_law_count" "_law_count" iE f e)(b:mg "_law_count" = Y (.ref f))(B:Ie mg)(O:HE K mg C D)(g:∀m,FnAt P w K mg base 1 "parts_of" ["book", "long"] ((gX K C D).at m) g9) :
  FnAt P w K mg base 2 "_law_count" Q5 ((gX K C D).at m) cQ:=m7 F b fo M M (λ_ _ _ _ _ _ h d=>by obtain⟨_,_,_,rfl⟩:=L2.tQ d;rfl) λ_ _ _ _ _ _ a =>
  (af (aD ah fo.nd M Q4)
  (af (d8 Yk M (dY (dE (g _) a (ae (qv 0) (ae (qv 2) aj)) (by decide) M M)) (br 4 fo.nd M Q4 Q4)
  (au (bT (lG a (oZ 1 Qa M (dY (qv 4)) (hV) (λ_ _ _ _ _=>(br 0 (show List.Nodup Qa from by decide +kernel) M Q4 (Or.inr M))) (λ_ _ _ _ _=>(fq AF Am sZ (qv 0) (bY 2 M (Or.inr Q4) M M) M)) (λ_ _ _ _ _=>(qv 0)) M M (by decide)) (dv aj)) (au (aD (w_add (qv 3) ah) fo.nd M Q4)) aX)))
  (au (dz 3 M (Or.inl M) M M))))
noncomputable abbrev iL:Stmt:=top 16
def dG:p0 ["_law_book_here", "_law_letters_here", "_law_got", "_law_size", "_law_turn"] Q6 (ai iL):=by constructor<;>first | rfl | decide +kernel
def eK{m:Me}{f:KF}{g:Pv}(F:GN K "_law_right" "_law_right" iL f g)(d:mg "_law_right" = Y (.ref f))(B:Ie mg)(O:HE K mg C D)(b:∀m,FnAt P w K mg base 2 "_law_count" Q5 ((gX K C D).at m) cQ)(h:∀m,FnAt P w K mg base 7 "full" Qh ((gX K C D).at m) dW)(i:∀m,FnAt P w K mg base 6 "lacking" Qh ((gX K C D).at m) cV) :
  FnAt P w K mg base 8 "_law_right" Q6 ((gX K C D).at m) fU:=m7 F d dG M M (λ_ _ _ _ _ _ j e=>by obtain⟨_,_,rfl⟩:=L2.dN e;rfl) λ_ _ _ _ _ _ a =>
  (af (aD (dE (h _) a (ae (qv 0) (ae (qv 1) aj)) (by decide) M M) dG.nd M Q4)
  (af (bT (KR.NO (zo (uc (lT (w_is .int B.Hm B.OR (qv 2)))) (zo (lT (w_is .bool B.Hm B.M5 (qv 2))) (CY (nZ (qv 2) ah))))) (au (bu ly)) aX)
  (af (bT (fq (sI a.units) yH nR (qv 2) (iO qr pY (eJ B.GO (ae (dE (i _) a (ae (qv 0) (ae (qv 1) aj)) (by decide) M M) aj)) ah) (g7 _)) (au (bu ly)) aX)
  (af (aD ah dG.nd M Q4)
  (af (d8 Yk M (dR (qv 2) M B.G2) (br 4 dG.nd M Q4 Q4)
  (au (aD (w_mul (qv 3) (eJ B.GO (ae (qv 1) aj))) dG.nd M Q4)))
  (af (bT (fq (sI a.units) yH nR (dE (b _) a (ae (qv 0) (ae (qv 1) (ae (qv 2) aj))) (by decide) M M) (qv 3) (g7 _)) (au (bu ly)) aX)
  (au (bu (DC qd u7 (dE (b _) a (ae (qv 0) (ae (qv 1) (ae (w_add (qv 2) ah) aj))) (by decide) M M) (w_mul (qv 3) (eJ B.GO (ae (qv 1) aj))) (g7 _))))))))))
noncomputable abbrev jW:Stmt:=top 17
def gu:p0 ["_law_script", "_law_spring_here", "_law_signs_here", "_law_book_here", "_law_more", "_law_turn", "_law_letters_here", "_law_at", "_law_fewer", "_law_grown"] ["_law_script"] (ai jW):=by constructor<;>first | rfl | decide +kernel
def Dl{m:Me}{f:KF}{d:Pv}(F:GN K "law" "law" jW f d)(B:Ie mg)(O:HE K mg C D)(g:∀m,IoAt P w K mg base 3 "_law_book" Qe ((gX K C D).at m) [false] hJ)(de:∀m,IoAt P w K mg base 2 "_law_letters" Qe ((gX K C D).at m) [false] dh)(l:∀m,IoAt P w K mg base 1 "_law_next" Qc ((gX K C D).at m) [false] ar)(h:∀m,FnAt P w K mg base 8 "_law_right" Q6 ((gX K C D).at m) fU)(i:∀m,IoAt P w K mg base 2 "_law_signs" Qf ((gX K C D).at m) [] gf)(e:∀m,FnAt P w K mg base 1 "_law_spring" Q9 ((gX K C D).at m) cu)(j:∀m,IoAt P w K mg base 2 "_law_text" Qd ((gX K C D).at m) [false,false] cw)(b:∀m,FnAt P w K mg base 7 "full" Qh ((gX K C D).at m) dW) :
  FnOk P w K mg base G8 9 f d ["_law_script"] (Jc ((gX K C D).at m) wR):=RF F gu M M λ_ _ _ _ _ _ a =>
  (af (eu (dE (e _) a (ae (qv 0) (ae ah aj)) (by decide) M M) gu.nd M Q4)
  (af (cF (bh (i _) a (bL 1 false M (Or.inl M) M M aZ)) gu.nd M Q4)
  (af (rA (zP (g _) a (bL 1 false M (Or.inl M) M M (bw (aG (qv 2)) aZ)) (by decide) M M M M) gu.nd M Q4 M Q4)
  (fQ 3 (fQ 1 (af (eu (dE (e _) a (ae (qv 0) (ae ah aj)) (by decide) M M) gu.nd M Q4)
  (af (d8 Yk M (dR ah M B.G2) (br 5 gu.nd M Q4 Q4)
  (af (cF (bh (de _) a (bL 4 false M (Or.inl M) M M (bw (aG (qv 2)) aZ))) gu.nd M Q4)
  (af (bT (uc (lT (dE (h _) a (ae (qv 3) (ae (qv 6) aj)) (by decide) M M))) (au (bu ly)) aX)
  (af (cF (bh (l _) a (bL 4 false M (Or.inl M) M M (bw (aG (eJ B.GO (ae (qv 6) aj))) aZ))) gu.nd M Q4)
  (af (aD (w_add (mE (qv 6) qF (j3 (qv 7))) (mE (qv 6) (j3 (w_add (qv 7) ah)) qF)) gu.nd M Q4)
  (af (bT (KR.NO (lW (fq (sI a.units) yH nR (qv 8) (i6 (by decide +kernel) (by decide)) (g7 _)) (jU (nZ (dE (b _) a (ae (qv 3) (ae (qv 8) aj)) (by decide) M M) (dE (b _) a (ae (qv 3) (ae (qv 6) aj)) (by decide) M M))))) (au (bu ly)) aX)
  (au (bT (KR.NO (lW (nZ (eJ B.GO (ae (qv 3) aj)) ah) (jU (nZ (w_sum B.OP (ae (lP 1 Qg M (dY (qv 3)) (hV) (λ_ _ _ _ _=>(br 0 (show List.Nodup Qg from by decide +kernel) M Q4 (Or.inr M))) (λ_ _ _ _ _=>(eJ B.GO (ae (qv 0) aj))) M M (by decide)) aj)) ah)))) (af (rA (AH (qv 3) (DX (bh (j _) a (bL 4 false M (Or.inl M) M M (bw (aG (qv 2)) (bw (aG ah) aZ)))) M)) gu.nd M Q4 M Q4)
  (fQ 9 (au (bT (nZ (dE (b _) a (ae (qv 9) (ae (qv 6) aj)) (by decide) M M) (dE (b _) a (ae (qv 3) (ae (qv 6) aj)) (by decide) M M)) (au (bu ly)) aX)))) aX))))))))
  (fQ 4 (au (bu ly))))))))))
end
noncomputable abbrev gN(K:Wy)(x:Str)(f:KF):Prop:=PySem.W.nsIn K mainGlobals x=Y (Y (.ref f))
noncomputable abbrev gZ(K:Wy)(x:Str):Prop:=PySem.W.nsIn K mainGlobals x=Y O
def all_mk{l:PySem.W.OpenLaw}{w:XAA}{K:Wy}{h:UV}{a:Wi}{fa C f0 f1 f2 f3 f4 f5 f6 f7 f8 f9 TU TR TQ TN TM TL TK TJ TH TF R:KF}(X:K.In h)(G:h.Ns mainGlobals a)(b:a "law" = Y (.ref fa)){Qv OU:Option KF}{P4:Array (Vx)}{Qw N1 OJ NQ S OK:KM}(Rh:∀ns:Vr,ns.length<=63->wR [.scr ns]=Y (.fr,.bl L))(a0:Meth K C "new_node" f0){t:Pv}(F0:GN K "new_node" "Nodes.new_node" dS f0 t)(a1:Mk K C f1){r:Pv}(F1:GN K "__init__" "Nodes.__init__" dU f1 r)(a2:Meth K C "node_just_behind" f2){q:Pv}(F2:GN K "node_just_behind" "Nodes.node_just_behind" bV f2 q)(a3:Meth K C "head_behind" f3){p:Pv}(F3:GN K "head_behind" "Nodes.head_behind" c7 f3 p)(a4:Meth K C "head_grown" f4){o:Pv}(F4:GN K "head_grown" "Nodes.head_grown" dr f4 o)(a5:Meth K C "numbers_by_node" f5){n:Pv}(F5:GN K "numbers_by_node" "Nodes.numbers_by_node" b9 f5 n)(a6:Meth K C "row_of" f6){j:Pv}(F6:GN K "row_of" "Nodes.row_of" fA f6 j)(a7:Meth K C "table" f7){i:Pv}(F7:GN K "table" "Nodes.table" gy f7 i)(a8:gN K "table_of" f8){g:Pv}(F8:GN K "table_of" "table_of" jt f8 g)(a9:gN K "lacking" f9){f:Pv}(F9:GN K "lacking" "lacking" kG f9 f)(Q:gN K "full" TU){RR:Pv}(F10:GN K "full" "full" tF TU RR)(P:gN K "parts_of" TR){RQ:Pv}(F11:GN K "parts_of" "parts_of" jH TR RQ)(N:gN K "_law_spring" TQ){RP:Pv}(F12:GN K "_law_spring" "_law_spring" hZ TQ RP)(J:gN K "_law_next" TN){RO:Pv}(F13:GN K "_law_next" "_law_next" ju TN RO)(H:gN K "_law_text" TM){RN:Pv}(F14:GN K "_law_text" "_law_text" jB TM RN)(E:gN K "_law_signs" TL){RM:Pv}(F15:GN K "_law_signs" "_law_signs" iP TL RM)(D:gN K "_law_book" TK){RL:Pv}(F16:GN K "_law_book" "_law_book" jK TK RL)(A:gN K "_law_letters" TJ){RK:Pv}(F17:GN K "_law_letters" "_law_letters" gr TJ RK)(z:gN K "_law_count" TH){RJ:Pv}(Z:GN K "_law_count" "_law_count" iE TH RJ)(y:gN K "_law_right" TF){RH:Pv}(U:GN K "_law_right" "_law_right" iL TF RH)(x:gN K "law" R)(VD:K.lookup R=Y ⟨Qw,Qv,.func (PySem.W.fnOf "law" "law" (dH jW) (bg jW) (ai jW) .none N1 OJ NQ OU S OK),P4⟩)(u:PySem.W.codeIn K S "law" = L)(VG:PySem.W.keepIn K (.ref R)=L)(Mh:gZ K "bool")(Mg:gZ K "dict")(NB:gZ K "int")(Iy:gZ K "isinstance")(NA:gZ K "len")(Mf:gZ K "list")(Ll:gZ K "range")(Nz:gZ K "set")(Ke:gZ K "sorted")(Ny:gZ K "sum")(Lj:gZ K "tuple")(w_Nodes:gN K "Nodes" C)(Gr:HX K C)(GJ:cI K C "longs")(GK:cI K C "links")(GS:cI K C "ways")
  : ∃fd:Pv,(∀(s:GM)(v:KM),BindsTo s fd ⟨[v],[]⟩ [("_law_script",v)])/\∀base:UV,K.In base->base.Ns mainGlobals a->FnOk l.prog w K a base G8 9 fa fd ["_law_script"] (Jc (Ow K) xk):=by
 have e:=b.symm.trans (YZ X G x);cases e;have B:Ie a:=⟨Yi X G Mh,Yi X G Mg,Yi X G NB,Yi X G Iy,Yi X G NA,Yi X G Mf,Yi X G Ll,Yi X G Nz,Yi X G Ke,Yi X G Ny,Yi X G Lj⟩
 have O:HE K a C C:=⟨rfl,Gr,YZ X G w_Nodes,GJ,GK,GS⟩
 refine⟨PySem.W.fnOf "law" "law" (dH jW) (bg jW) (ai jW) .none N1 OJ NQ OU S OK,λs v=>.of_eq M,λbase _ _=>?_⟩;have aM:=aM l.prog w base F0 a0 B O;have cj:=cj l.prog w base F1 a1 B O aM;have aR:=aR l.prog w base F2 a2 B O aM;have bD:=bD l.prog w base F3 a3 B O aM aR;have bO:=bO l.prog w base F4 a4 B O bD;have aW:=λm=>aW (m:=m) l.prog w base F5 a5 B O;have cM:=λm=>cM (m:=m) l.prog w base F6 a6 B O;have da:=λm=>da (m:=m) l.prog w base F7 a7 B O aW cM;have fG:=λm=>fG (m:=m) l.prog w base F8 (YZ X G a8) B O cj bO da;have dw:=λm=>dw (m:=m) l.prog w base F9 (YZ X G a9) B O fG;have fE:=λm=>fE (m:=m) l.prog w base F10 (YZ X G Q) B O dw;have fM:=λm=>fM (m:=m) l.prog w base F11 (YZ X G P) B O;have cS:=λm=>cS (m:=m) l.prog w base F12 (YZ X G N) B O;have aA:=λm=>aA (m:=m) l.prog w base F13 (YZ X G J) B O;have cq:=λm=>cq (m:=m) l.prog w base F14 (YZ X G H) B O aA;have eA:=λm=>eA (m:=m) l.prog w base F15 (YZ X G E) B O aA;have fL:=λm=>fL (m:=m) l.prog w base F16 (YZ X G D) B O aA cq;have de:=λm=>de (m:=m) l.prog w base F17 (YZ X G A) B O aA;have dy:=λm=>dy (m:=m) l.prog w base Z (YZ X G z) B O fM;have eK:=λm=>eK (m:=m) l.prog w base U (YZ X G y) B O dy fE dw;exact Ay M (Dl l.prog w base (m:=λ_=>none) (zj (st:=jW) VD u VG) B O fL de aA eK eA cS cq fE) Rh
end T38
open PySem PySem.W PyProof.Rows PySem.W.X PySem.W.ZRun
set_option maxRecDepth 100000 in
set_option maxHeartbeats 0 in
theorem PySem.Challenge.cw_allparts_k38_full_up_to_holds : PySem.Challenge.rw_allparts_k38_full_up_to.Holds := by
 w_on;o_law;z_head;(case hw=>w_witness2)
 k_fill
 intro w s₀ s₁ mg mb G y fa o pm cd doc dV kV ho hd hcd hD hmg hg args vals as L hpre hlay hrd hwl hlo
 z_open y L KX ZH ZN ZT
 clear ZH ZN ZT;refine VS.yT (l:=PySem.Challenge.rw_allparts_k38_full_up_to) (k:=9) (x := "_law_script") rfl rfl ⟨rfl,by decide,by decide⟩ ?F w s₀ s₁ mg mb G KX fa o pm cd doc dV kV ho hd hcd hD hmg hg args vals as hpre hlay hrd hwl hlo
 case F =>
  intro w mg fa h KX G hmg;apply T38.all_mk KX G hmg T38.yc
  (case w_Nodes=>unfold T38.gN;k_is)
  all_goals first | (refine' L2.zj ?l ?c ?k;(case l=>k_is);(case c=>k_is);(case k=>k_is)) | (refine' ⟨?l,?c,?k⟩;(case l=>k_is);(case c=>k_is);(case k=>k_is)) | (refine' ⟨?l,?c,?k,?d⟩;(case l=>k_is);(case c=>k_is);(case k=>k_is);(case d=>k_is)) | (unfold T38.gN;k_is) | (unfold T38.gZ;k_is) | (unfold L2.cI;k_is) | k_is | exact rfl
end
